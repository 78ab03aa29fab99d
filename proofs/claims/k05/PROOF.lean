import PyProof.Rows.All
import Wide.All
import OpenK.AllK
import Wide.FinOn
import HandS.ForMost
import HandS.ForExc
import HandS.Style
import HandS.IsInst
import HandS.TupLe
import HandS.Zip
import PyProof.ReprRoads
import PyProof.EqAt
import PyProof.EqKinds
import HandS.Walk
import HandS.TupAny
import PyProof.NeKinds
import HandS.DictComp
import HandS.ExcInit
import HandS.ExcIs
import KE.KExcInit
import PyProof.ExcBaseAll.Exception
import PyProof.InstStoreFacts
import HandS.MakeKwOnly
import HandS.ExcValue
import HandS.ExcField
import KE.KExcIs
import HandS.Ends
import HandS.ExcOwn
import PyProof.StrLawsRepr
import PyProof.FitsInt
import HandS.TupMul
import PyProof.ListMulRoad
import PyProof.FactsAll.tuple_2
import HandS.Conv
import HandS.SortInts
import KE.SortData
import HandS.OwnEq
import PyProof.InstNe
import HandS.Codes
import HandS.Text
import PyProof.Rows.IntBool
import KE.KIntText
import HandS.WordsExc
import HandS.ClsMeth
import HandS.CallLocal
import KE.KCallOwn
import HandS.Iter
import HandS.Small
import HandS.ListItems
import KE.KDictPairs
import HandS.SetKeys
import HandS.SetFor
import HandS.DeepEq
import PyProof.SetRoads
import KE.GoesEnumKw
import HandS.FStr
import PySem.Challenge.RW_loghouse_k05_houses_barred_and_renamed
set_option Elab.async false
set_option linter.all false
set_option maxRecDepth 100000
set_option maxHeartbeats 2000000
namespace KL
open PySem L2 PySem.Spec PyProof.Rows
/-! ### data, dicts among them -/
mutual
inductive Dq (H : Hp) : V → PyData → Prop
  | non : Dq H .non .none
  | bl (b : Bool) : Dq H (.bl b) (.bool b)
  | int (i : Int) : Dq H (.int i) (.int i)
  | str (x : Str) : Dq H (.str x) (.str x)
  | lst {a : Addr} {xs : List V} {ds : List PyData} : H a = some (.lst xs) → DqAll H xs ds → Dq H (.ref a) (.list ds)
  | tup {a : Addr} {xs : List V} {ds : List PyData} : H a = some (.tup xs) → DqAll H xs ds → Dq H (.ref a) (.tuple ds)
  | dct0 {a : Addr} : H a = some (.dK []) → Dq H (.ref a) (.dict [])
  | dct1 {a : Addr} {x : Str} {i : Int} : H a = some (.dK [(Sum.inr x, V.int i)]) → Dq H (.ref a) (.dict [(.str x, .int i)])
inductive DqAll (H : Hp) : List V → List PyData → Prop
  | nil : DqAll H [] []
  | cons {v : V} {vs : List V} {d : PyData} {ds : List PyData} : Dq H v d → DqAll H vs ds → DqAll H (v :: vs) (d :: ds)
end
mutual
theorem Dq.same {H H' : Hp} (e : Same H H') : ∀ (d : PyData) (v : V), Dq H v d → Dq H' v d
  | .none, _, h => by
    cases h
    exact .non
  | .bool _, _, h => by
    cases h
    exact .bl _
  | .int _, _, h => by
    cases h
    exact .int _
  | .str _, _, h => by
    cases h
    exact .str _
  | .list ds, _, h => by
    cases h with
    | lst q r => exact .lst (e _ _ q) (DqAll.same e ds _ r)
  | .tuple ds, _, h => by
    cases h with
    | tup q r => exact .tup (e _ _ q) (DqAll.same e ds _ r)
  | .dict kvs, _, h => by
    cases h with
    | dct0 q => exact .dct0 (e _ _ q)
    | dct1 q => exact .dct1 (e _ _ q)
theorem DqAll.same {H H' : Hp} (e : Same H H') : ∀ (ds : List PyData) (vs : List V), DqAll H vs ds → DqAll H' vs ds
  | [], _, h => by
    cases h
    exact .nil
  | d :: ds, _, h => by
    cases h with
    | cons q r => exact .cons (Dq.same e d _ q) (DqAll.same e ds _ r)
end
theorem same_new {H : Hp} {p : Addr} {o : HO} (h : H p = none) : Same H (upd H p o) := fun b u e => by
  rw [upd_ne (ne_of_none e h)]
  exact e
theorem DqAll.get {H : Hp} : ∀ (ds : List PyData) (vs : List V) (i : Nat) (v : V), DqAll H vs ds → vs[i]? = some v → ∃ d, d ∈ ds ∧ Dq H v d
  | _, _, i, v, .nil, e => by simp at e
  | _, _, 0, v, .cons (d := d) h _, e => by
    simp at e
    subst e
    exact ⟨d, by simp, h⟩
  | _, _, i + 1, v, .cons _ r, e => by
    obtain ⟨d, hd, h⟩ := DqAll.get _ _ i v r (by simpa using e)
    exact ⟨d, by simp [hd], h⟩

theorem iteNo {b : Bool} {A B : Prop} (hb : b = false) (h : B) : if b = true then A else B := by
  subst hb
  exact iteF h
theorem iteYes {b : Bool} {A B : Prop} (hb : b = true) (h : A) : if b = true then A else B := by
  subst hb
  exact iteT h
/-! ### kinds -/
def tyName : PyData → String
  | .none => "NoneType"
  | .bool _ => "bool"
  | .int _ => "int"
  | .str _ => "str"
  | .list _ => "list"
  | .tuple _ => "tuple"
  | .dict _ => "dict"
theorem Dq.ty {K : PySem.W.Frag} {H : Hp} {v : V} {d : PyData} (h : Dq H v d) : TyX K H v (.type (tyName d)) := by
  cases h with
  | non => exact .base .non
  | bl b => exact .base (.bl b)
  | int i => exact .base (.int i)
  | str x => exact .base (.str x)
  | lst e _ => exact .base (.lst e)
  | tup e _ => exact .base (.tup e)
  | dct0 e => exact .base (.dK e)
  | dct1 e => exact .base (.dK e)
/-- isinstance of data, by the name of a built-in class -/
def isA (T : String) (d : PyData) : Bool := (kitB (tyName d) T).getD false
def kinds4 : List String := ["int", "bool", "str", "tuple", "list", "dict"]
theorem kit_data {K : PySem.W.Frag} {T : String} (hT : T ∈ kinds4) (d : PyData) : PySem.W.kitOne K (.type (tyName d)) (.type T) = some (isA T d) := by
  have z : (kinds4.all fun T => ["NoneType", "bool", "int", "str", "list", "tuple", "dict"].all fun n => (kitB n T).isSome) = true := by decide +kernel
  have y := List.all_eq_true.mp z T hT
  have n : tyName d ∈ ["NoneType", "bool", "int", "str", "list", "tuple", "dict"] := by cases d <;> simp [tyName]
  have x := List.all_eq_true.mp y _ n
  obtain ⟨b, hb⟩ := Option.isSome_iff_exists.mp x
  rw [kit_ty hb]
  unfold isA
  rw [hb]
  rfl
def rIsD : List V → Hp → VK → Prop := fun xs H Q => ∃ (v : V) (d : PyData) (T : String), xs = [v, .ty T] ∧ T ∈ kinds4 ∧ Dq H v d ∧ Q (.bl (isA T d)) H
theorem call_isD {X : Cx} : CallR X (.builtin "isinstance") rIsD := fun pins s σ H xs us Q I r h => by
  obtain ⟨v, d, T, rfl, hT, hd, q⟩ := h
  exact call_isi pins s σ H _ us Q I r ⟨v, .ty T, _, _, _, rfl, .ty T, hd.ty, kit_data hT d, q⟩
end KL
set_option Elab.async false
set_option linter.all false
set_option maxRecDepth 100000
set_option maxHeartbeats 2000000
namespace KL
open PySem L2 PySem.Spec PyProof.Rows
def top (i : Nat) : Stmt := PySem.Challenge.pw_loghouse_k05_houses_barred_and_renamed.main.body.getD i (.Pass ⟨0, 0, 0, 0⟩)
abbrev sIsInt : Stmt := top 5
abbrev sIsBet : Stmt := top 6
abbrev sIsLet : Stmt := top 7
abbrev sIsTup : Stmt := top 8
abbrev sIsAsc : Stmt := top 9
abbrev sIsForm : Stmt := top 11
/-! ### the mirror -/
def intD : PyData → Bool
  | .int _ => true
  | _ => false
def betD (lo hi : Int) : PyData → Bool
  | .int i => decide (lo ≤ i) && decide (i ≤ hi)
  | _ => false
def letS (x : Str) : Bool := decide (x.length = 1) && (!decide (x.cps.toList < ("a" : Str).cps.toList) && !decide (("z" : Str).cps.toList < x.cps.toList))
def letD : PyData → Bool
  | .str x => letS x
  | _ => false
def tupD (lo hi : Int) : PyData → Bool
  | .tuple ds => decide (lo ≤ (ds.length : Int)) && decide ((ds.length : Int) ≤ hi)
  | _ => false
mutual
/-- sizes that nothing here comes near to -/
def smB : PyData → Bool
  | .none => true
  | .bool _ => true
  | .int i => decide (i.natAbs.log2 < 1900)
  | .str x => decide (x.length ≤ 1000)
  | .list ds => decide (ds.length ≤ 1000) && smAll ds
  | .tuple ds => decide (ds.length ≤ 1000) && smAll ds
  | .dict kvs => decide (kvs.length ≤ 1)
def smAll : List PyData → Bool
  | [] => true
  | d :: r => smB d && smAll r
end
/-- a test of one thing -/
def spTest (f : PyData → Bool) : Sp := fun vs H Q _ => ∃ (v : V) (d : PyData), vs = [v] ∧ Dq H v d ∧ smB d = true ∧ ∀ H', Same H H' → Q (.bl (f d)) H'
/-- a test of one thing with two numbers -/
def spTest2 (f : Int → Int → PyData → Bool) : Sp := fun vs H Q _ => ∃ (v : V) (d : PyData) (lo hi : Int), vs = [v, .int lo, .int hi] ∧ Dq H v d ∧ smB d = true ∧ ∀ H', Same H H' → Q (.bl (f lo hi d)) H'
structure TxtB (mg : Str → Option Value) : Prop where
  isi : mg "isinstance" = none
  int : mg "int" = none
  bool : mg "bool" = none
  str : mg "str" = none
  tuple : mg "tuple" = none
  len : mg "len" = none
  all : mg "all" = none
  zip : mg "zip" = none
/-- a def of the module, called by its name -/
structure Cal (K : PySem.W.Frag) (mg : Str → Option Value) (x : Str) (f : Addr) (fd : FuncData) (ps : List Str) : Prop where
  m : mg x = some (.ref f)
  k : PySem.W.keepIn K (.ref f) = true
  b : L2.Binds K fd ps []
section
variable {P : Program} {w : World} {K : PySem.W.Frag} {mg : Str → Option Value} {base : Heap}
theorem scIsInt : FnScope ["thing"] ["thing"] (defScope sIsInt) := ⟨rfl, rfl, rfl, by decide +kernel, rfl, by decide +kernel, by decide +kernel⟩
theorem ok_int {f : Addr} {fd : FuncData} (F : Fun K "is_int" "is_int" sIsInt f fd) (T : TxtB mg) : FnOk P w K mg base CX0 1 f fd ["thing"] (spTest intD) := by
  refine F.ok scIsInt (fun vs H Q E h => ?_) (fun cdv A outer s H vs Q E hr h => ?_)
  · obtain ⟨v, d, rfl, _⟩ := h
    rfl
  · obtain ⟨v, d, rfl, hd, _, k⟩ := h
    refine ⟨_, pss_one (ps_ret (pe_and (pe_callB call_isD (by rfl) T.isi (by decide +kernel) (pa_cons (pv 0) (pa_cons (pe_bltn (v := .ty "int") (by rfl) T.int (by decide +kernel) rfl) pa_nil)))
      (pe_one (pe_not (pe_callB call_isD (by rfl) T.isi (by decide +kernel) (pa_cons (pv 0) (pa_cons (pe_bltn (v := .ty "bool") (by rfl) T.bool (by decide +kernel) rfl) pa_nil))))))), ?_⟩
    have q := k H (Same.refl H)
    refine ⟨_, rfl, v, d, "int", rfl, by decide, hd, _, rfl, ?_⟩
    cases d <;> first | exact q | exact ⟨_, rfl, v, _, "bool", rfl, by decide, hd, _, rfl, q⟩
theorem scIsBet : FnScope ["thing", "low", "high"] ["thing", "low", "high"] (defScope sIsBet) := ⟨rfl, rfl, rfl, by decide +kernel, rfl, by decide +kernel, by decide +kernel⟩
theorem ok_bet {f g : Addr} {fd gd : FuncData} (F : Fun K "is_between" "is_between" sIsBet f fd) (T : TxtB mg) (G : FnOk P w K mg base CX0 1 g gd ["thing"] (spTest intD)) (c : Cal K mg "is_int" g gd ["thing"]) : FnOk P w K mg base CX0 2 f fd ["thing", "low", "high"] (spTest2 betD) := by
  refine F.ok scIsBet (fun vs H Q E h => ?_) (fun cdv A outer s H vs Q E hr h => ?_)
  · obtain ⟨v, d, lo, hi, rfl, _⟩ := h
    rfl
  · obtain ⟨v, d, lo, hi, rfl, hd, sm, k⟩ := h
    refine ⟨_, pss_one (ps_ret (pe_and (pe_call G hr (by rfl) c.m c.k c.b .nil pass0 (pa_cons (pv 0) pa_nil)) (pe_one (pe_chain op_le op_le (pv 1) (pv 0) (pv 2))))), ?_⟩
    refine ⟨_, rfl, v, d, rfl, hd, sm, fun H1 S1 => ⟨_, rfl, ?_⟩⟩
    have q := k H1 S1
    cases hd with
    | int i =>
      refine ⟨_, rfl, _, rfl, _, _, rfl, rfl, _, rfl, ?_⟩
      by_cases h1 : lo ≤ i
      · refine iteYes (decide_eq_true h1) ⟨_, rfl, _, _, rfl, rfl, ?_⟩
        have e : betD lo hi (.int i) = decide (i ≤ hi) := by simp [betD, h1]
        rw [e] at q
        exact q
      · refine iteNo (decide_eq_false h1) ?_
        have e : betD lo hi (.int i) = false := by simp [betD, h1]
        rw [e] at q
        exact q
    | non => exact q
    | bl _ => exact q
    | str _ => exact q
    | lst _ _ => exact q
    | tup _ _ => exact q
    | dct0 _ => exact q
    | dct1 _ => exact q
theorem scIsLet : FnScope ["thing"] ["thing"] (defScope sIsLet) := ⟨rfl, rfl, rfl, by decide +kernel, rfl, by decide +kernel, by decide +kernel⟩
theorem ok_let {f : Addr} {fd : FuncData} (F : Fun K "is_letter" "is_letter" sIsLet f fd) (T : TxtB mg) : FnOk P w K mg base CX0 1 f fd ["thing"] (spTest letD) := by
  refine F.ok scIsLet (fun vs H Q E h => ?_) (fun cdv A outer s H vs Q E hr h => ?_)
  · obtain ⟨v, d, rfl, _⟩ := h
    rfl
  · obtain ⟨v, d, rfl, hd, sm, k⟩ := h
    refine ⟨_, pss_one (ps_ret (pe_and (pe_callB call_isD (by rfl) T.isi (by decide +kernel) (pa_cons (pv 0) (pa_cons (pe_bltn (v := .ty "str") (by rfl) T.str (by decide +kernel) rfl) pa_nil)))
      (pe_and (pe_cmpR op_eq (pe_callB call_len_str (by rfl) T.len PySem.boot_len (pa_cons (pv 0) pa_nil)) pe_int (nomark _)) (pe_one (pe_chain op_le_str op_le_str pe_str (pv 0) pe_str))))), ?_⟩
    have q := k H (Same.refl H)
    refine ⟨_, rfl, v, d, "str", rfl, by decide, hd, _, rfl, ?_⟩
    cases hd with
    | str x =>
      have hx : x.length ≤ 1000 := of_decide_eq_true sm
      refine ⟨_, rfl, x, rfl, Nat.le_trans hx (by rw [sizeLine_eq]; omega), rfl, _, rfl, ?_⟩
      by_cases h1 : x.length = 1
      · refine iteYes (decide_eq_true (by rw [h1]; rfl)) ⟨_, rfl, _, _, rfl, rfl, _, rfl, ?_⟩
        by_cases h2 : x.cps.toList < ("a" : Str).cps.toList
        · refine iteNo (by rw [decide_eq_true h2]; rfl) ?_
          have e : letD (.str x) = false := by simp [letD, letS, h2]
          rw [e] at q
          exact q
        · refine iteYes (by rw [decide_eq_false h2]; rfl) ⟨_, _, rfl, rfl, ?_⟩
          have e : letD (.str x) = !decide (("z" : Str).cps.toList < x.cps.toList) := by
            show (decide (x.length = 1) && (!decide (x.cps.toList < ("a" : Str).cps.toList) && !decide (("z" : Str).cps.toList < x.cps.toList))) = _
            rw [decide_eq_true h1, decide_eq_false h2]
            rfl
          rw [e] at q
          exact q
      · refine iteNo (decide_eq_false fun z => ?_) ?_
        · injection z with z
          omega
        · have e : letD (.str x) = false := by simp [letD, letS, h1]
          rw [e] at q
          exact q
    | non => exact q
    | bl _ => exact q
    | int _ => exact q
    | lst _ _ => exact q
    | tup _ _ => exact q
    | dct0 _ => exact q
    | dct1 _ => exact q
theorem scIsTup : FnScope ["thing", "low", "high"] ["thing", "low", "high"] (defScope sIsTup) := ⟨rfl, rfl, rfl, by decide +kernel, rfl, by decide +kernel, by decide +kernel⟩
theorem ok_tup {f : Addr} {fd : FuncData} (F : Fun K "is_tuple_of" "is_tuple_of" sIsTup f fd) (T : TxtB mg) : FnOk P w K mg base CX0 1 f fd ["thing", "low", "high"] (spTest2 tupD) := by
  refine F.ok scIsTup (fun vs H Q E h => ?_) (fun cdv A outer s H vs Q E hr h => ?_)
  · obtain ⟨v, d, lo, hi, rfl, _⟩ := h
    rfl
  · obtain ⟨v, d, lo, hi, rfl, hd, sm, k⟩ := h
    refine ⟨_, pss_one (ps_ret (pe_and (pe_callB call_isD (by rfl) T.isi (by decide +kernel) (pa_cons (pv 0) (pa_cons (pe_bltn (v := .ty "tuple") (by rfl) T.tuple (by decide +kernel) rfl) pa_nil)))
      (pe_one (pe_chain op_le op_le (pv 1) (pe_callB call_len_seq (by rfl) T.len PySem.boot_len (pa_cons (pv 0) pa_nil)) (pv 2))))), ?_⟩
    have q := k H (Same.refl H)
    refine ⟨_, rfl, v, d, "tuple", rfl, by decide, hd, _, rfl, ?_⟩
    cases hd with
    | tup e ha =>
      rename_i a xs ds
      have el : xs.length = ds.length := by
        clear q k sm e
        induction ds generalizing xs with
        | nil => cases ha; rfl
        | cons _ _ ih =>
          cases ha with
          | cons _ r => exact congrArg (· + 1) (ih r)
      refine ⟨_, rfl, _, rfl, a, xs, rfl, .inr (SqT.of e), _, _, rfl, rfl, _, rfl, ?_⟩
      rw [el]
      by_cases h1 : lo ≤ (ds.length : Int)
      · refine iteYes (decide_eq_true h1) ⟨_, rfl, _, _, rfl, rfl, ?_⟩
        have e : tupD lo hi (.tuple ds) = decide ((ds.length : Int) ≤ hi) := by simp [tupD, h1]
        rw [e] at q
        exact q
      · refine iteNo (decide_eq_false h1) ?_
        have e : tupD lo hi (.tuple ds) = false := by simp [tupD, h1]
        rw [e] at q
        exact q
    | non => exact q
    | bl _ => exact q
    | int _ => exact q
    | str _ => exact q
    | lst _ _ => exact q
    | dct0 _ => exact q
    | dct1 _ => exact q
end
end KL
set_option Elab.async false
set_option linter.all false
set_option maxRecDepth 100000
set_option maxHeartbeats 2000000
namespace KL
open PySem L2 PySem.Spec PyProof.Rows
theorem DqAll.len {H : Hp} : ∀ {ds : List PyData} {xs : List V}, DqAll H xs ds → xs.length = ds.length
  | [], _, h => by
    cases h
    rfl
  | _ :: _, _, h => by
    cases h with
    | cons _ r => exact congrArg (· + 1) (DqAll.len r)
theorem DqAll.at {H : Hp} : ∀ {ds : List PyData} {xs : List V} {i : Nat} {x : V}, DqAll H xs ds → xs[i]? = some x → ∃ d, ds[i]? = some d ∧ Dq H x d
  | [], _, i, x, h, e => by
    cases h
    simp at e
  | d :: ds, _, 0, x, h, e => by
    cases h with
    | cons q _ =>
      simp at e
      subst e
      exact ⟨d, rfl, q⟩
  | d :: ds, _, i + 1, x, h, e => by
    cases h with
    | cons _ r =>
      obtain ⟨d', h1, h2⟩ := DqAll.at r (by simpa using e)
      exact ⟨d', by simpa using h1, h2⟩
theorem sm_at : ∀ {ds : List PyData} {i : Nat} {d : PyData}, smAll ds = true → ds[i]? = some d → smB d = true
  | [], i, d, _, e => by simp at e
  | d :: ds, 0, d', h, e => by
    simp at e
    subst e
    exact (Bool.and_eq_true_iff.mp h).1
  | d :: ds, i + 1, d', h, e => sm_at (Bool.and_eq_true_iff.mp h).2 (by simpa using e)
/-- what a comprehension over data has made so far -/
def MadeTo (H0 : Hp) (D : Addr) (bs : List V) (H : Hp) : Prop := Same H0 H ∧ H D = some (.lst bs)
theorem MadeTo.more {H0 H H' : Hp} {D : Addr} {bs : List V} (b : V) (hD : H0 D = none) (M : MadeTo H0 D bs H) (S : Same H H') : H' D = some (.lst bs) ∧ MadeTo H0 D (bs ++ [b]) (upd H' D (.lst (bs ++ [b]))) := by
  refine ⟨S _ _ M.2, fun x o e => ?_, upd_same⟩
  have nx : x ≠ D := fun z => by
    rw [z, hD] at e
    cases e
  rw [upd_ne nx]
  exact S _ _ (M.1 _ _ e)
theorem take_map {β : Type} {g : PyData → β} {ds : List PyData} {i : Nat} {d : PyData} (h : ds[i]? = some d) : (ds.take (i + 1)).map g = (ds.take i).map g ++ [g d] := by
  rw [List.take_add_one, h, List.map_append]
  rfl
theorem sm_len {ds : List PyData} (h : smB (.tuple ds) = true) : ds.length ≤ 1000 := of_decide_eq_true (Bool.and_eq_true_iff.mp h).1
theorem sm_all {ds : List PyData} (h : smB (.tuple ds) = true) : smAll ds = true := (Bool.and_eq_true_iff.mp h).2
theorem take_size {β : Type} {g : PyData → β} {j : β → V} {ds : List PyData} (i : Nat) (h : ds.length ≤ 1000) : (((ds.take i).map g).map j).length < sizeLine := by
  rw [List.length_map, List.length_map, List.length_take]
  exact Nat.lt_of_le_of_lt (Nat.le_trans (Nat.min_le_right _ _) h) (by rw [sizeLine_eq]; omega)
/-- one more turn of a comprehension over data that makes truth values -/
theorem MadeTo.turn {H0 H H' : Hp} {D : Addr} {g : PyData → Bool} {ds : List PyData} {i : Nat} {d : PyData} (hD : H0 D = none) (M : MadeTo H0 D (((ds.take i).map g).map V.bl) H) (S : Same H H') (hl : ds.length ≤ 1000) (h : ds[i]? = some d) :
    ∃ acc, H' D = some (.lst acc) ∧ acc.length < sizeLine ∧ MadeTo H0 D (((ds.take (i + 1)).map g).map V.bl) (upd H' D (.lst (acc ++ [.bl (g d)]))) := by
  have m := M.more (.bl (g d)) hD S
  refine ⟨_, m.1, take_size i hl, ?_⟩
  rw [take_map h, List.map_append]
  exact m.2
def formD (n : Int) : PyData → Bool
  | .tuple ds => decide ((ds.length : Int) = n + 1) && ds.all intD
  | _ => false
def spForm : Sp := fun vs H Q _ => ∃ (v : V) (d : PyData) (n : Int), vs = [.int n, v] ∧ Dq H v d ∧ smB d = true ∧ ∀ H', Same H H' → Q (.bl (formD n d)) H'
section
variable {P : Program} {w : World} {K : PySem.W.Frag} {mg : Str → Option Value} {base : Heap}
theorem scIsForm : FnScope ["count", "thing", "item"] ["count", "thing"] (defScope sIsForm) := ⟨rfl, rfl, rfl, by decide +kernel, rfl, by decide +kernel, by decide +kernel⟩
theorem ok_form {f g1 g2 : Addr} {fd gd1 gd2 : FuncData} (F : Fun K "is_form" "is_form" sIsForm f fd) (T : TxtB mg) (G1 : FnOk P w K mg base CX0 1 g1 gd1 ["thing"] (spTest intD)) (c1 : Cal K mg "is_int" g1 gd1 ["thing"])
    (G2 : FnOk P w K mg base CX0 1 g2 gd2 ["thing", "low", "high"] (spTest2 tupD)) (c2 : Cal K mg "is_tuple_of" g2 gd2 ["thing", "low", "high"]) : FnOk P w K mg base CX0 2 f fd ["count", "thing"] spForm := by
  refine F.ok scIsForm (fun vs H Q E h => ?_) (fun cdv A outer s H vs Q E hr h => ?_)
  · obtain ⟨v, d, n, rfl, _⟩ := h
    rfl
  · obtain ⟨v, d, n, rfl, hd, sm, k⟩ := h
    refine ⟨_, pss_one (ps_ret (pe_and (pe_call G2 hr (by rfl) c2.m c2.k c2.b .nil pass0 (pa_cons (pv 1) (pa_cons (pe_op op_add (pv 0) pe_int) (pa_cons (pe_op op_add (pv 0) pe_int) pa_nil))))
      (pe_one (pe_callB (cr_all rfl) (by rfl) T.all (by decide +kernel) (pa_cons (pe_lc (own := [("item", 2)]) (g := gName 2) (tt := tYes) rfl scIsForm.nd (pi_tup (pv 1)) (blkOk_by (N := ["count", "thing", "item"]) (sc := defScope sIsForm) (by decide +kernel)) (fun _ _ _ _ _ => pg_name (i := 2) scIsForm.nd rfl (.inl rfl)) (fun _ _ _ _ _ => pts_nil)
        (fun _ _ _ _ _ => pe_call G1 hr (by rfl) c1.m c1.k c1.b .nil pass0 (pa_cons (pv 2) pa_nil))) pa_nil))))), ?_⟩
    refine ⟨_, rfl, _, rfl, _, _, rfl, rfl, _, rfl, _, _, rfl, rfl, v, d, _, _, rfl, hd, sm, fun H1 S1 => ⟨_, rfl, ?_⟩⟩
    have hd1 := Dq.same S1 d v hd
    have q := k H1 S1
    cases hd with
    | tup e ha =>
      rename_i a xs ds
      have smA : smAll ds = true := (Bool.and_eq_true_iff.mp sm).2
      have len := ha.len
      by_cases hn : (ds.length : Int) = n + 1
      · refine iteYes (by simp [tupD, hn]) ?_
        refine ⟨_, rfl, a, rfl, ⟨_, SqT.of (S1 _ _ e)⟩, fun D nD => ?_⟩
        refine lc_tup (K := K) (a := a) (xs := xs) (fun i H2 => MadeTo H1 D (((ds.take i).map intD).map V.bl) H2) ⟨same_new nD, upd_same⟩ (fun i H2 _ M => SqT.of (M.1 _ _ (S1 _ _ e))) ?_ ?_
        · rintro i x H2 hx M
          obtain ⟨d', hd', hq⟩ := DqAll.at ha hx
          refine ⟨rfl, ?_⟩
          refine ⟨_, rfl, x, d', rfl, Dq.same (S1.trans M.1) d' x hq, sm_at smA hd', fun H3 S3 => ?_⟩
          exact M.turn nD S3 (sm_len sm) hd'
        · rintro H2 M
          rw [len, List.take_length] at M
          refine ⟨D, _, rfl, SqL.of M.2, ?_⟩
          have e : formD n (.tuple ds) = (ds.map intD).all id := by simp [formD, hn, List.all_map]
          have q := k H2 (S1.trans M.1)
          rw [e] at q
          exact q
      · refine iteNo (by simp [tupD]; omega) ?_
        have e : formD n (.tuple ds) = false := by simp [formD, hn]
        rw [e] at q
        exact q
    | non => exact q
    | bl _ => exact q
    | int _ => exact q
    | str _ => exact q
    | lst _ _ => exact q
    | dct0 _ => exact q
    | dct1 _ => exact q
end
end KL
set_option Elab.async false
set_option linter.all false
set_option maxRecDepth 100000
set_option maxHeartbeats 2000000
namespace KL
open PySem L2 PySem.Spec PyProof.Rows
mutual
/-- x < y of two things of one shape -/
def ltD : PyData → PyData → Bool
  | .int i, .int j => decide (i < j)
  | .str x, .str y => decide (x.cps.toList < y.cps.toList)
  | .tuple xs, .tuple ys => ltAll xs ys
  | _, _ => false
def ltAll : List PyData → List PyData → Bool
  | [], [] => false
  | [], _ :: _ => true
  | _ :: _, [] => false
  | x :: xs, y :: ys => if PyData.eqv x y = true then ltAll xs ys else ltD x y
end
mutual
/-- whether they can be compared -/
def cmpD : PyData → PyData → Bool
  | .int _, .int _ => true
  | .str _, .str _ => true
  | .tuple xs, .tuple ys => cmpAll xs ys
  | _, _ => false
def cmpAll : List PyData → List PyData → Bool
  | x :: xs, y :: ys => cmpD x y && cmpAll xs ys
  | _, _ => true
end
theorem lexAt_shift (e r : Nat → Bool) (z : Bool) : ∀ (k i : Nat), Ob.lexAt e r z (i + 1) k = Ob.lexAt (fun j => e (j + 1)) (fun j => r (j + 1)) z i k
  | 0, _ => rfl
  | k + 1, i => by
    rw [Ob.lexAt_succ, Ob.lexAt_succ, lexAt_shift e r z k (i + 1)]
def peq (xs ys : List PyData) (j : Nat) : Bool := PyData.eqv (xs.getD j .none) (ys.getD j .none)
theorem lex_all : ∀ (xs ys : List PyData), Ob.lexAt (peq xs ys) (fun j => ltD (xs.getD j .none) (ys.getD j .none)) (decide (xs.length < ys.length)) 0 (min xs.length ys.length) = ltAll xs ys
  | [], [] => rfl
  | [], _ :: _ => by simp [Ob.lexAt_zero, ltAll]
  | _ :: _, [] => by simp [Ob.lexAt_zero, ltAll]
  | x :: xs, y :: ys => by
    have m : min (x :: xs).length (y :: ys).length = min xs.length ys.length + 1 := by
      rw [List.length_cons, List.length_cons]
      omega
    rw [m, Ob.lexAt_succ, lexAt_shift]
    have z : decide ((x :: xs).length < (y :: ys).length) = decide (xs.length < ys.length) := by
      rw [List.length_cons, List.length_cons]
      by_cases q : xs.length < ys.length
      · rw [decide_eq_true q, decide_eq_true (by omega)]
      · rw [decide_eq_false q, decide_eq_false (by omega)]
    rw [z]
    show (if PyData.eqv x y = true then Ob.lexAt (peq xs ys) (fun j => ltD (xs.getD j .none) (ys.getD j .none)) (decide (xs.length < ys.length)) 0 (min xs.length ys.length) else ltD x y) = ltAll (x :: xs) (y :: ys)
    rw [lex_all xs ys, ltAll]
theorem reads_at {h : Heap} : ∀ {us : List Value} {ds : List PyData} {as : List Addr}, ReadsAll h us ds as → ∀ (j : Nat) (hj : j < us.length), ∃ bs, Reads h us[j] (ds.getD j .none) bs
  | _, _, _, .nil, j, hj => absurd hj (Nat.not_lt_zero _)
  | _, _, _, .cons r _, 0, _ => ⟨_, r⟩
  | _, _, _, .cons _ rs, j + 1, hj => reads_at rs j (Nat.lt_of_succ_lt_succ hj)
theorem reads_len {h : Heap} : ∀ {us : List Value} {ds : List PyData} {as : List Addr}, ReadsAll h us ds as → us.length = ds.length
  | _, _, _, .nil => rfl
  | _, _, _, .cons _ rs => congrArg (· + 1) (reads_len rs)
theorem lay_at : ∀ {ds : List PyData} (j : Nat), PyData.canLayAll0 ds = true → (ds.getD j .none).canLay0 = true
  | [], j, _ => by simp [PyData.canLay0]
  | d :: ds, 0, h => (Bool.and_eq_true_iff.mp h).1
  | d :: ds, j + 1, h => lay_at (ds := ds) j (Bool.and_eq_true_iff.mp h).2
theorem cmp_at : ∀ {xs ys : List PyData} (j : Nat), cmpAll xs ys = true → j < xs.length → j < ys.length → cmpD (xs.getD j .none) (ys.getD j .none) = true
  | [], _, _, _, h, _ => absurd h (Nat.not_lt_zero _)
  | _ :: _, [], _, _, _, h => absurd h (Nat.not_lt_zero _)
  | x :: xs, y :: ys, 0, h, _, _ => (Bool.and_eq_true_iff.mp (show (cmpD x y && cmpAll xs ys) = true from h)).1
  | x :: xs, y :: ys, j + 1, h, h1, h2 => cmp_at (xs := xs) (ys := ys) j (Bool.and_eq_true_iff.mp (show (cmpD x y && cmpAll xs ys) = true from h)).2 (Nat.lt_of_succ_lt_succ h1) (Nat.lt_of_succ_lt_succ h2)
theorem depth_at : ∀ {ds : List PyData} (j : Nat), (ds.getD j .none).depth ≤ PyData.depthAll ds
  | [], j => by simp [PyData.depth]
  | d :: ds, 0 => by
    show d.depth ≤ max d.depth (PyData.depthAll ds)
    omega
  | d :: ds, j + 1 => by
    have := depth_at (ds := ds) j
    show (ds.getD j .none).depth ≤ max d.depth (PyData.depthAll ds)
    omega
/-- x < y of two things that can be compared -/
theorem lt_data : ∀ (n : Nat) (d e : PyData) (A : Around) (s : Shared) (a b : Value) (as bs : List Addr), d.depth ≤ n → Reads s.heap a d as → Reads s.heap b e bs → d.canLay0 = true → e.canLay0 = true → cmpD d e = true → A.units + n < cLine → Ob.RcOp .Lt A s a b (ltD d e)
  | n, .int i, e, A, s, a, b, as, bs, hn, ra, rb, la, lb, c, hu => by
    cases ra
    cases rb <;> first | exact Ob.RcOp.lt_int _ _ _ _ | (exfalso; simp [cmpD] at c)
  | n, .str x, e, A, s, a, b, as, bs, hn, ra, rb, la, lb, c, hu => by
    cases ra
    cases rb with
    | str y t => exact fun _ _ _ _ h => lt_str h
    | _ => exfalso; simp [cmpD] at c
  | n + 1, .tuple xs, .tuple ys, A, s, _, _, _, _, hn, .tuple (a := l) (vs := us) h1 h2 h3 h4, .tuple (a := l') (vs := ws) k1 k2 k3 k4, la, lb, c, hu => by
    have hd : PyData.depthAll xs ≤ n := by
      have : PyData.depthAll xs + 1 ≤ n + 1 := hn
      omega
    have R := Ob.RcOp.tuples_lt (A := A) (s := s) (e := peq xs ys) (r := fun j => ltD (xs.getD j .none) (ys.getD j .none)) (l := l) (b := l') (items := us) (items2 := ws) ⟨_, h1, h2, _, h3⟩ ⟨_, k1, k2, _, k3⟩ (by omega)
      (fun j j1 j2 => by
        obtain ⟨_, q1⟩ := reads_at h4 j (by simpa using j1)
        obtain ⟨_, q2⟩ := reads_at k4 j (by simpa using j2)
        have q := SeqAt.eqAt_reads _ _ A.in1 s _ _ _ _ q1 q2 (lay_at j la) (lay_at j lb) (by
          have := depth_at (ds := xs) j
          show A.units + 1 + _ < _
          omega)
        simpa [peq] using q)
      (fun j j1 j2 _ => by
        obtain ⟨_, q1⟩ := reads_at h4 j (by simpa using j1)
        obtain ⟨_, q2⟩ := reads_at k4 j (by simpa using j2)
        have l1 : us.size = xs.length := by rw [← reads_len h4]; simp
        have l2 : ws.size = ys.length := by rw [← reads_len k4]; simp
        have q := lt_data n _ _ A.in1 s _ _ _ _ (Nat.le_trans (depth_at j) hd) q1 q2 (lay_at j la) (lay_at j lb) (cmp_at j c (by omega) (by omega)) (by show A.units + 1 + n < cLine; omega)
        simpa using q)
    have l1 : us.size = xs.length := by rw [← reads_len h4]; simp
    have l2 : ws.size = ys.length := by rw [← reads_len k4]; simp
    rw [l1, l2, lex_all] at R
    exact R
  | _, .none, _, _, _, _, _, _, _, _, _, _, _, _, c, _ => by simp [cmpD] at c
  | _, .bool _, _, _, _, _, _, _, _, _, _, _, _, _, c, _ => by simp [cmpD] at c
  | _, .list _, _, _, _, _, _, _, _, _, _, _, _, _, c, _ => by simp [cmpD] at c
  | _, .dict _, _, _, _, _, _, _, _, _, _, _, _, _, c, _ => by simp [cmpD] at c
  | 0, .tuple xs, _, _, _, _, _, _, _, hn, _, _, _, _, _, _ => by
    have : PyData.depthAll xs + 1 ≤ 0 := hn
    omega
  | _ + 1, .tuple _, .none, _, _, _, _, _, _, _, _, _, _, _, c, _ => by simp [cmpD] at c
  | _ + 1, .tuple _, .bool _, _, _, _, _, _, _, _, _, _, _, _, c, _ => by simp [cmpD] at c
  | _ + 1, .tuple _, .int _, _, _, _, _, _, _, _, _, _, _, _, c, _ => by simp [cmpD] at c
  | _ + 1, .tuple _, .str _, _, _, _, _, _, _, _, _, _, _, _, c, _ => by simp [cmpD] at c
  | _ + 1, .tuple _, .list _, _, _, _, _, _, _, _, _, _, _, _, c, _ => by simp [cmpD] at c
  | _ + 1, .tuple _, .dict _, _, _, _, _, _, _, _, _, _, _, _, c, _ => by simp [cmpD] at c
end KL
set_option Elab.async false
set_option linter.all false
set_option maxRecDepth 100000
set_option maxHeartbeats 2000000
namespace KL
open PySem L2 PySem.Spec PyProof.Rows
section
variable {X : Cx} {pins : List (Addr × Obj)} {σ : L2.St} {H : Hp} {s : Shared}
mutual
theorem Dq.reads0 (I : Inv X pins σ H s) : ∀ (d : PyData) (v : V) (u : Value), Dq H v d → d.canLay0 = true → RelV v u → ∃ as, Reads s.heap u d as
  | .none, _, _, h, _, r => by
    cases h
    cases r
    exact ⟨_, .none⟩
  | .bool b, _, _, h, _, r => by
    cases h
    cases r
    exact ⟨_, .bool b⟩
  | .int i, _, _, h, _, r => by
    cases h
    obtain ⟨t, rfl⟩ := r
    exact ⟨_, .int i t⟩
  | .str x, _, _, h, _, r => by
    cases h
    obtain ⟨t, rfl⟩ := r
    exact ⟨_, .str x t⟩
  | .list ds, _, _, h, l, r => by
    cases h with
    | lst q ha =>
      cases r
      obtain ⟨_, its, n, rv, ho⟩ := I.hok _ _ q
      obtain ⟨as, hr⟩ := DqAll.reads0 I ds _ its ha l rv
      exact ⟨_, .list ho rfl rfl hr⟩
  | .tuple ds, _, _, h, l, r => by
    cases h with
    | tup q ha =>
      cases r
      obtain ⟨_, its, rv, o, h1, h2, n, h3⟩ := I.hok _ _ q
      obtain ⟨as, hr⟩ := DqAll.reads0 I ds _ its ha l rv
      exact ⟨_, .tuple h1 h2 h3 hr⟩
  | .dict _, _, _, _, l, _ => by simp [PyData.canLay0] at l
theorem DqAll.reads0 (I : Inv X pins σ H s) : ∀ (ds : List PyData) (vs : List V) (us : List Value), DqAll H vs ds → PyData.canLayAll0 ds = true → Vals vs us → ∃ as, ReadsAll s.heap us ds as
  | [], _, _, h, _, r => by
    cases h
    cases r
    exact ⟨_, .nil⟩
  | d :: ds, _, _, h, l, r => by
    cases h with
    | cons h1 h2 =>
      cases r with
      | cons r1 r2 =>
        have l' := Bool.and_eq_true_iff.mp (show (d.canLay0 && PyData.canLayAll0 ds) = true from l)
        obtain ⟨as, q1⟩ := Dq.reads0 I d _ _ h1 l'.1 r1
        obtain ⟨bs, q2⟩ := DqAll.reads0 I ds _ _ h2 l'.2 r2
        exact ⟨_, .cons q1 q2⟩
end
end
/-- x < y of data -/
def rLtD : R2 := fun x y H Q => ∃ d e, Dq H x d ∧ Dq H y e ∧ d.canLay0 = true ∧ e.canLay0 = true ∧ cmpD d e = true ∧ d.depth ≤ 20 ∧ Q (.bl (ltD d e)) H
theorem op_ltD {X : Cx} (hu : X.A.units + 64 < cLine) : OpR X (compareOp .Lt) rLtD := by
  intro pins s σ H x y v u Q I rx ry h
  obtain ⟨d, e, hd, he, ld, le, c, hn, q⟩ := h
  obtain ⟨as, r1⟩ := Dq.reads0 I d x v hd ld rx
  obtain ⟨bs, r2⟩ := Dq.reads0 I e y u he le ry
  exact lt_data 20 d e X.A s v u as bs hn r1 r2 ld le c (by omega) _ _ _ _ ⟨.bl (ltD d e), H, I, rfl, q⟩
theorem walk_zipT {K : PySem.W.Frag} {a b : Addr} {xs ys : List V} {n : Nat} (hn : n = min xs.length ys.length) : Walk (RZ.ItzT K a b) n (fun H => SqT K H a xs ∧ SqT K H b ys) (YPair (fun i => xs[i]?) (fun i => ys[i]?)) := by
  subst hn
  refine ⟨fun i _ hi q => ?_, fun _ q => ⟨xs, ys, q.1, q.2, by omega⟩, fun i H v H' _ q y => ?_⟩
  · have h1 : i < xs.length := by omega
    have h2 : i < ys.length := by omega
    exact ⟨xs, ys, xs[i], ys[i], q.1, q.2, by simp [h1], by simp [h2]⟩
  · obtain ⟨T, x, z, h1, h2, h3, h4, h5⟩ := y
    exact ⟨T, x, z, h1, h2, h3, h4 xs q.1, h5 ys q.2⟩
def ascTo (ds : List PyData) (j : Nat) : List Bool := (List.range j).map fun i => ltD (ds.getD i .none) (ds.getD (i + 1) .none)
def ascD (ds : List PyData) : Bool := (ascTo ds (ds.length - 1)).all id
/-- a slice of a list or of a tuple -/
def rSlX (K : PySem.W.Frag) : V → Option Int → Option Int → Hp → VK → Prop := fun x lo hi H Q => rSlL K x lo hi H Q ∨ rSlA K x lo hi H Q
theorem sl_any {X : Cx} : SlR X (rSlX X.K) := by
  intro pins s σ H x v vl vu lo hi sl Q I rx hs pl pu h
  rcases h with h | h
  · exact sl_list pins s σ H x v vl vu lo hi sl Q I rx hs pl pu h
  · exact sl_tupA pins s σ H x v vl vu lo hi sl Q I rx hs pl pu h
def spAsc : Sp := fun vs H Q _ => ∃ (a : Addr) (xs : List V) (ds : List PyData), vs = [.ref a] ∧ (H a = some (.lst xs) ∨ H a = some (.tup xs)) ∧ DqAll H xs ds ∧ ds.length ≤ 1000 ∧ PyData.canLayAll0 ds = true ∧ PyData.depthAll ds ≤ 20 ∧
  (∀ i, i + 1 < ds.length → cmpD (ds.getD i .none) (ds.getD (i + 1) .none) = true) ∧ ∀ H', Same H H' → Q (.bl (ascD ds)) H'
theorem getD_of {ds : List PyData} {i : Nat} {d : PyData} (h : ds[i]? = some d) : ds.getD i .none = d := by
  rw [List.getD_eq_getElem?_getD, h, Option.getD_some]
theorem six_one (n : Nat) : HT.sIx n 0 (some 1) = min 1 n := HT.sIx_nat n 0 1
theorem cut_tail (xs : List V) : cutV xs (some 1) none = xs.drop 1 := by
  unfold cutV
  rw [six_one, HT.sIx_none]
  cases xs with
  | nil => rfl
  | cons x r =>
    have e : min 1 (x :: r).length = 1 := by
      rw [List.length_cons]
      omega
    rw [e]
    exact List.take_of_length_le (by rw [List.length_drop]; omega)
section
variable {P : Program} {w : World} {K : PySem.W.Frag} {mg : Str → Option Value} {base : Heap}
theorem scIsAsc : FnScope ["items", "ahead", "behind"] ["items"] (defScope sIsAsc) := ⟨rfl, rfl, rfl, by decide +kernel, rfl, by decide +kernel, by decide +kernel⟩
theorem ok_asc {f : Addr} {fd : FuncData} (F : Fun K "is_ascending" "is_ascending" sIsAsc f fd) (T : TxtB mg) : FnOk P w K mg base CX0 1 f fd ["items"] spAsc := by
  refine F.ok scIsAsc (fun vs H Q E h => ?_) (fun cdv A outer s H vs Q E hr h => ?_)
  · obtain ⟨a, xs, ds, rfl, _⟩ := h
    rfl
  · obtain ⟨a, xs, ds, rfl, hx, ha, hl, lay, dp, hc, k⟩ := h
    refine ⟨_, pss_one (ps_ret (pe_callB (cr_all rfl) (by rfl) T.all (by decide +kernel) (pa_cons (pe_lc (own := [("ahead", 1), ("behind", 2)]) (g := gTup K 2 (gCons (gName 1) (gCons (gName 2) gNil))) (tt := tYes) rfl scIsAsc.nd (RZ.pi_zipA (by rfl) T.zip (pa_cons (pv 0) (pa_cons (pe_slice sl_any (pv 0) (po_some pe_int) po_none) pa_nil)))
      (blkOk_by (N := ["items", "ahead", "behind"]) (sc := defScope sIsAsc) (by decide +kernel)) (fun _ _ _ _ _ => pg_tup rfl (pgs_cons (pg_name (i := 1) scIsAsc.nd rfl (.inl rfl)) (pgs_cons (pg_name (i := 2) scIsAsc.nd rfl (.inl rfl)) pgs_nil))) (fun _ _ _ _ _ => pts_nil)
      (fun _ _ _ _ _ => pe_cmpR (op_ltD hr.units) (pv 1) (pv 2) (nomark _))) pa_nil))), ?_⟩
    have len := ha.len
    have fin : ∀ (D : Addr) (H1 : Hp), Same H H1 → H1 D = none → ∀ (n : Nat), n = ds.length - 1 → ∀ H2, MadeTo H1 D ((ascTo ds n).map V.bl) H2 → ∃ (a : Addr) (bs : List Bool), [V.ref D] = [V.ref a] ∧ SqL K H2 a (bs.map V.bl) ∧ Q (.bl (bs.all id)) H2 := fun D H1 S1 nD n hn H2 M => by
      refine ⟨D, ascTo ds n, rfl, SqL.of M.2, ?_⟩
      have q := k H2 (S1.trans M.1)
      subst hn
      exact q
    rcases hx with hx | hx
    · refine ⟨_, rfl, _, rfl, _, rfl, .inl ⟨a, xs, rfl, SqL.of hx, fun b nb => ?_⟩⟩
      have S1 := same_new (o := .lst (cutV xs (some 1) none)) nb
      revert S1
      have hb : (upd H b (.lst (cutV xs (some 1) none))) b = some (.lst (xs.drop 1)) := by rw [upd_same, cut_tail]
      revert hb
      generalize upd H b (.lst (cutV xs (some 1) none)) = H1
      intro hb S1
      refine ⟨a, b, xs, xs.drop 1, rfl, .inl ⟨SqL.of (S1 _ _ hx), SqL.of hb, fun D nD => ?_⟩⟩
      have en : ds.length - 1 = min xs.length (xs.drop 1).length := by
        rw [List.length_drop]
        omega
      refine lc_it (walk_zip (K := K) (a := a) (b := b) en) (fun i H2 => MadeTo H1 D ((ascTo ds i).map V.bl) H2) ⟨same_new nD, upd_same⟩ (fun i H2 _ M => ⟨SqL.of (M.1 _ _ (S1 _ _ hx)), SqL.of (M.1 _ _ hb)⟩) ?_ (fun H2 M => fin D H1 S1 nD _ rfl H2 M)
      rintro i _ H2 _ hi M ⟨T, y, z, rfl, nT, rfl, ey, ez⟩
      obtain ⟨d1, e1, q1⟩ := DqAll.at ha ey
      have ez : xs[i + 1]? = some z := by
        have ez : (xs.drop 1)[i]? = some z := ez
        rw [List.getElem?_drop, Nat.add_comm] at ez
        exact ez
      obtain ⟨d2, e2, q2⟩ := DqAll.at ha ez
      have S2 := same_new (o := .tup [y, z]) nT
      have S := S1.trans (M.1.trans S2)
      have c := hc i (by omega)
      rw [getD_of e1, getD_of e2] at c
      have l1 := lay_at i lay
      have l2 := lay_at (i + 1) lay
      have p1 := Nat.le_trans (depth_at (ds := ds) i) dp
      rw [getD_of e1] at l1 p1
      rw [getD_of e2] at l2
      refine ⟨T, [y, z], rfl, SqT.of upd_same, rfl, y, [z], rfl, z, [], rfl, rfl, rfl, ?_⟩
      refine ⟨_, rfl, _, rfl, d1, d2, Dq.same S d1 y q1, Dq.same S d2 z q2, l1, l2, c, p1, ?_⟩
      have m := M.more (.bl (ltD d1 d2)) nD S2
      refine ⟨_, m.1, ?_, ?_⟩
      · rw [List.length_map, ascTo, List.length_map, List.length_range]
        exact Nat.lt_of_lt_of_le hi (Nat.le_trans (Nat.sub_le _ _) (Nat.le_trans hl (by rw [sizeLine_eq]; omega)))
      · have ea : ascTo ds (i + 1) = ascTo ds i ++ [ltD d1 d2] := by
          rw [ascTo, ascTo, List.range_succ, List.map_append, List.map_singleton, getD_of e1, getD_of e2]
        rw [ea, List.map_append]
        exact m.2
    · refine ⟨_, rfl, _, rfl, _, rfl, .inr ⟨a, xs, rfl, SqT.of hx, ?_, ?_⟩⟩
      · rintro ⟨w1, w2⟩
        have x0 : xs = [] := by
          rw [six_one] at w1
          cases xs with
          | nil => rfl
          | cons x r =>
            rw [List.length_cons] at w1
            omega
        subst x0
        have d0 : ds.length = 0 := len.symm
        refine ⟨a, a, [], [], rfl, .inr ⟨SqT.of hx, SqT.of hx, fun D nD => ?_⟩⟩
        refine lc_it (walk_zipT (K := K) (a := a) (b := a) (xs := []) (ys := []) (n := ds.length - 1) (by rw [d0]; rfl)) (fun i H2 => MadeTo H D ((ascTo ds i).map V.bl) H2) ⟨same_new nD, upd_same⟩ (fun i H2 _ M => ⟨SqT.of (M.1 _ _ hx), SqT.of (M.1 _ _ hx)⟩) ?_ (fun H2 M => fin D H (Same.refl H) nD _ rfl H2 M)
        intro i x H2 H3 hi
        omega
      · intro _ b nb
        have S1 := same_new (o := .tup (cutV xs (some 1) none)) nb
        revert S1
        have hb : (upd H b (.tup (cutV xs (some 1) none))) b = some (.tup (xs.drop 1)) := by rw [upd_same, cut_tail]
        revert hb
        generalize upd H b (.tup (cutV xs (some 1) none)) = H1
        intro hb S1
        refine ⟨a, b, xs, xs.drop 1, rfl, .inr ⟨SqT.of (S1 _ _ hx), SqT.of hb, fun D nD => ?_⟩⟩
        have en : ds.length - 1 = min xs.length (xs.drop 1).length := by
          rw [List.length_drop]
          omega
        refine lc_it (walk_zipT (K := K) (a := a) (b := b) en) (fun i H2 => MadeTo H1 D ((ascTo ds i).map V.bl) H2) ⟨same_new nD, upd_same⟩ (fun i H2 _ M => ⟨SqT.of (M.1 _ _ (S1 _ _ hx)), SqT.of (M.1 _ _ hb)⟩) ?_ (fun H2 M => fin D H1 S1 nD _ rfl H2 M)
        rintro i _ H2 _ hi M ⟨T, y, z, rfl, nT, rfl, ey, ez⟩
        obtain ⟨d1, e1, q1⟩ := DqAll.at ha ey
        have ez : xs[i + 1]? = some z := by
          have ez : (xs.drop 1)[i]? = some z := ez
          rw [List.getElem?_drop, Nat.add_comm] at ez
          exact ez
        obtain ⟨d2, e2, q2⟩ := DqAll.at ha ez
        have S2 := same_new (o := .tup [y, z]) nT
        have S := S1.trans (M.1.trans S2)
        have c := hc i (by omega)
        rw [getD_of e1, getD_of e2] at c
        have l1 := lay_at i lay
        have l2 := lay_at (i + 1) lay
        have p1 := Nat.le_trans (depth_at (ds := ds) i) dp
        rw [getD_of e1] at l1 p1
        rw [getD_of e2] at l2
        refine ⟨T, [y, z], rfl, SqT.of upd_same, rfl, y, [z], rfl, z, [], rfl, rfl, rfl, ?_⟩
        refine ⟨_, rfl, _, rfl, d1, d2, Dq.same S d1 y q1, Dq.same S d2 z q2, l1, l2, c, p1, ?_⟩
        have m := M.more (.bl (ltD d1 d2)) nD S2
        refine ⟨_, m.1, ?_, ?_⟩
        · rw [List.length_map, ascTo, List.length_map, List.length_range]
          exact Nat.lt_of_lt_of_le hi (Nat.le_trans (Nat.sub_le _ _) (Nat.le_trans hl (by rw [sizeLine_eq]; omega)))
        · have ea : ascTo ds (i + 1) = ascTo ds i ++ [ltD d1 d2] := by
            rw [ascTo, ascTo, List.range_succ, List.map_append, List.map_singleton, getD_of e1, getD_of e2]
          rw [ea, List.map_append]
          exact m.2
end
end KL
set_option Elab.async false
set_option linter.all false
set_option maxRecDepth 100000
set_option maxHeartbeats 2000000
namespace KL
open PySem L2 PySem.Spec PyProof.Rows
abbrev sIsPeople : Stmt := top 18
abbrev sIsPlaces : Stmt := top 19
abbrev sIsLogs : Stmt := top 20
abbrev sIsDeed : Stmt := top 21
abbrev sAreDeeds : Stmt := top 22
abbrev sIsStart : Stmt := top 23
abbrev sAreEnds : Stmt := top 24
/-- the numbers of the file parts -/
structure TxtM (mg : Str → Option Value) : Prop where
  people : ∃ t, mg "MOST_PEOPLE" = some (.int 3 t)
  deeds : ∃ t, mg "MOST_DEEDS" = some (.int 5 t)
  count : ∃ t, mg "MOST_COUNT" = some (.int 3 t)
  places : ∃ t, mg "MOST_PLACES" = some (.int 3 t)
  logs : ∃ t, mg "MOST_LOGS" = some (.int 2 t)
def itemD (i : Nat) : PyData → PyData
  | .tuple ds => ds.getD i .none
  | _ => .none
def deedD (people : Int) (d : PyData) : Bool := tupD 2 2 d && (letD (itemD 0 d) && betD 0 (people - 1) (itemD 1 d))
def allD (f : PyData → Bool) : PyData → Bool
  | .tuple ds => ds.all f
  | _ => true
def itemsD : PyData → List PyData
  | .tuple ds => ds
  | _ => []
def deedsD (people : Int) (d : PyData) : Bool := tupD 1 5 d && (allD (deedD people) d && ascD ((itemsD d).map (itemD 0)))
def startD (d : PyData) : Bool := tupD 1 3 d && allD intD d
def isTupD : PyData → Bool
  | .tuple _ => true
  | _ => false
def endsD (places : Int) (d : PyData) : Bool := isTupD d && (allD (betD 0 (places - 1)) d && ascD (itemsD d))
/-- a test of one thing with a number -/
def spTest1 (f : Int → PyData → Bool) : Sp := fun vs H Q _ => ∃ (v : V) (d : PyData) (n : Int), vs = [v, .int n] ∧ Dq H v d ∧ smB d = true ∧ ∀ H', Same H H' → Q (.bl (f n d)) H'
section
variable {P : Program} {w : World} {K : PySem.W.Frag} {mg : Str → Option Value} {base : Heap}
theorem scPeople : FnScope ["thing"] ["thing"] (defScope sIsPeople) := ⟨rfl, rfl, rfl, by decide +kernel, rfl, by decide +kernel, by decide +kernel⟩
theorem scPlaces : FnScope ["thing"] ["thing"] (defScope sIsPlaces) := ⟨rfl, rfl, rfl, by decide +kernel, rfl, by decide +kernel, by decide +kernel⟩
theorem scLogs : FnScope ["thing"] ["thing"] (defScope sIsLogs) := ⟨rfl, rfl, rfl, by decide +kernel, rfl, by decide +kernel, by decide +kernel⟩
theorem ok_people {f g : Addr} {fd gd : FuncData} (F : Fun K "is_people" "is_people" sIsPeople f fd) (M : TxtM mg) (G : FnOk P w K mg base CX0 2 g gd ["thing", "low", "high"] (spTest2 betD)) (c : Cal K mg "is_between" g gd ["thing", "low", "high"]) : FnOk P w K mg base CX0 3 f fd ["thing"] (spTest (betD 1 3)) := by
  obtain ⟨t, hm⟩ := M.people
  refine F.ok scPeople (fun vs H Q E h => ?_) (fun cdv A outer s H vs Q E hr h => ?_)
  · obtain ⟨v, d, rfl, _⟩ := h
    rfl
  · obtain ⟨v, d, rfl, hd, sm, k⟩ := h
    refine ⟨_, pss_one (ps_ret (pe_call G hr (by rfl) c.m c.k c.b .nil pass0 (pa_cons (pv 0) (pa_cons pe_int (pa_cons (pe_glob (v := .int 3) (by rfl) hm ⟨_, rfl⟩) pa_nil))))), ?_⟩
    exact ⟨_, rfl, v, d, 1, 3, rfl, hd, sm, k⟩
theorem ok_places {f g : Addr} {fd gd : FuncData} (F : Fun K "is_places" "is_places" sIsPlaces f fd) (M : TxtM mg) (G : FnOk P w K mg base CX0 2 g gd ["thing", "low", "high"] (spTest2 betD)) (c : Cal K mg "is_between" g gd ["thing", "low", "high"]) : FnOk P w K mg base CX0 3 f fd ["thing"] (spTest (betD 1 3)) := by
  obtain ⟨t, hm⟩ := M.places
  refine F.ok scPlaces (fun vs H Q E h => ?_) (fun cdv A outer s H vs Q E hr h => ?_)
  · obtain ⟨v, d, rfl, _⟩ := h
    rfl
  · obtain ⟨v, d, rfl, hd, sm, k⟩ := h
    refine ⟨_, pss_one (ps_ret (pe_call G hr (by rfl) c.m c.k c.b .nil pass0 (pa_cons (pv 0) (pa_cons pe_int (pa_cons (pe_glob (v := .int 3) (by rfl) hm ⟨_, rfl⟩) pa_nil))))), ?_⟩
    exact ⟨_, rfl, v, d, 1, 3, rfl, hd, sm, k⟩
theorem ok_logs {f g : Addr} {fd gd : FuncData} (F : Fun K "is_logs" "is_logs" sIsLogs f fd) (M : TxtM mg) (G : FnOk P w K mg base CX0 2 g gd ["thing", "low", "high"] (spTest2 betD)) (c : Cal K mg "is_between" g gd ["thing", "low", "high"]) : FnOk P w K mg base CX0 3 f fd ["thing"] (spTest (betD 0 2)) := by
  obtain ⟨t, hm⟩ := M.logs
  refine F.ok scLogs (fun vs H Q E h => ?_) (fun cdv A outer s H vs Q E hr h => ?_)
  · obtain ⟨v, d, rfl, _⟩ := h
    rfl
  · obtain ⟨v, d, rfl, hd, sm, k⟩ := h
    refine ⟨_, pss_one (ps_ret (pe_call G hr (by rfl) c.m c.k c.b .nil pass0 (pa_cons (pv 0) (pa_cons pe_int (pa_cons (pe_glob (v := .int 2) (by rfl) hm ⟨_, rfl⟩) pa_nil))))), ?_⟩
    exact ⟨_, rfl, v, d, 0, 2, rfl, hd, sm, k⟩
theorem tup_of {lo hi : Int} {d : PyData} (h : tupD lo hi d = true) : ∃ ds, d = .tuple ds ∧ lo ≤ (ds.length : Int) ∧ (ds.length : Int) ≤ hi := by
  cases d with
  | tuple ds =>
    have q := Bool.and_eq_true_iff.mp h
    exact ⟨ds, rfl, of_decide_eq_true q.1, of_decide_eq_true q.2⟩
  | _ => cases h
theorem at_some {ds : List PyData} {xs : List V} {H : Hp} (ha : DqAll H xs ds) {i : Nat} (hi : i < ds.length) : ∃ x, xs[i]? = some x ∧ ds[i]? = some (ds.getD i .none) ∧ Dq H x (ds.getD i .none) := by
  have h1 : i < xs.length := by rw [ha.len]; exact hi
  have e : xs[i]? = some xs[i] := List.getElem?_eq_getElem h1
  obtain ⟨d, hd, q⟩ := DqAll.at ha e
  rw [getD_of hd]
  exact ⟨_, e, hd, q⟩
theorem scDeed : FnScope ["thing", "people"] ["thing", "people"] (defScope sIsDeed) := ⟨rfl, rfl, rfl, by decide +kernel, rfl, by decide +kernel, by decide +kernel⟩
theorem ok_deed {f g1 g2 g3 : Addr} {fd gd1 gd2 gd3 : FuncData} (F : Fun K "is_deed" "is_deed" sIsDeed f fd) (G1 : FnOk P w K mg base CX0 1 g1 gd1 ["thing", "low", "high"] (spTest2 tupD)) (c1 : Cal K mg "is_tuple_of" g1 gd1 ["thing", "low", "high"])
    (G2 : FnOk P w K mg base CX0 1 g2 gd2 ["thing"] (spTest letD)) (c2 : Cal K mg "is_letter" g2 gd2 ["thing"]) (G3 : FnOk P w K mg base CX0 2 g3 gd3 ["thing", "low", "high"] (spTest2 betD)) (c3 : Cal K mg "is_between" g3 gd3 ["thing", "low", "high"]) :
    FnOk P w K mg base CX0 3 f fd ["thing", "people"] (spTest1 deedD) := by
  refine F.ok scDeed (fun vs H Q E h => ?_) (fun cdv A outer s H vs Q E hr h => ?_)
  · obtain ⟨v, d, n, rfl, _⟩ := h
    rfl
  · obtain ⟨v, d, n, rfl, hd, sm, k⟩ := h
    have hr1 : Room 1 _ := hr.mono (by decide)
    refine ⟨_, pss_one (ps_ret (pe_and (pe_call G1 hr1 (by rfl) c1.m c1.k c1.b .nil pass0 (pa_cons (pv 0) (pa_cons pe_int (pa_cons pe_int pa_nil))))
      (pe_and (pe_call G2 hr1 (by rfl) c2.m c2.k c2.b .nil pass0 (pa_cons (pe_ix ix_tup (pv 0) pe_int (fun _ _ => rfl)) pa_nil))
      (pe_one (pe_call G3 hr (by rfl) c3.m c3.k c3.b .nil pass0 (pa_cons (pe_ix ix_tup (pv 0) pe_int (fun _ _ => rfl)) (pa_cons pe_int (pa_cons (pe_op op_sub (pv 1) pe_int) pa_nil)))))))), ?_⟩
    refine ⟨_, rfl, v, d, 2, 2, rfl, hd, sm, fun H1 S1 => ⟨_, rfl, ?_⟩⟩
    by_cases h1 : tupD 2 2 d = true
    · refine iteYes h1 ?_
      obtain ⟨ds, rfl, l1, l2⟩ := tup_of h1
      cases hd with
      | tup e ha =>
        rename_i a xs
        obtain ⟨x0, e0, f0, q0⟩ := at_some ha (i := 0) (by omega)
        obtain ⟨x1, e1, f1, q1⟩ := at_some ha (i := 1) (by omega)
        refine ⟨_, rfl, a, xs, 0, x0, rfl, rfl, SqT.of (S1 _ _ e), atI_nat e0, x0, _, rfl, Dq.same S1 _ x0 q0, sm_at (sm_all sm) f0, fun H2 S2 => ⟨_, rfl, ?_⟩⟩
        by_cases h2 : letD (ds.getD 0 .none) = true
        · refine iteYes h2 ?_
          refine ⟨_, rfl, a, xs, 1, x1, rfl, rfl, SqT.of (S2 _ _ (S1 _ _ e)), atI_nat e1, _, rfl, _, _, rfl, rfl, x1, _, 0, n - 1, rfl, Dq.same (S1.trans S2) _ x1 q1, sm_at (sm_all sm) f1, fun H3 S3 => ?_⟩
          have q := k H3 (S1.trans (S2.trans S3))
          have e : deedD n (.tuple ds) = betD 0 (n - 1) (ds.getD 1 .none) := by simp only [deedD, h1, itemD, h2, Bool.true_and]
          rw [e] at q
          exact q
        · refine iteNo (by simpa using h2) ?_
          have q := k H2 (S1.trans S2)
          have e : deedD n (.tuple ds) = false := by simp only [deedD, h1, itemD, h2, Bool.true_and, Bool.false_and]
          rw [e] at q
          exact q
    · refine iteNo (by simpa using h1) ?_
      have q := k H1 S1
      have e : deedD n d = false := by simp only [deedD, h1, Bool.false_and]
      rw [e] at q
      exact q
end
end KL
set_option Elab.async false
set_option linter.all false
set_option maxRecDepth 100000
set_option maxHeartbeats 2000000
namespace KL
open PySem L2 PySem.Spec PyProof.Rows
theorem allD_map (f : PyData → Bool) (ds : List PyData) : (ds.map f).all id = allD f (.tuple ds) := by
  show (ds.map f).all id = ds.all f
  rw [List.all_map]
  rfl
theorem getD_map {f : PyData → PyData} {ds : List PyData} {i : Nat} (hi : i < ds.length) : (ds.map f).getD i .none = f (ds.getD i .none) := by
  rw [List.getD_eq_getElem?_getD, List.getElem?_map, List.getElem?_eq_getElem hi, List.getD_eq_getElem?_getD, List.getElem?_eq_getElem hi]
  rfl
theorem all_at {f : PyData → Bool} {ds : List PyData} (h : ds.all f = true) {i : Nat} (hi : i < ds.length) : f (ds.getD i .none) = true := by
  rw [List.getD_eq_getElem?_getD, List.getElem?_eq_getElem hi]
  exact List.all_eq_true.mp h _ (List.getElem_mem hi)
theorem let_of {d : PyData} (h : letD d = true) : ∃ x, d = .str x := by
  cases d with
  | str x => exact ⟨x, rfl⟩
  | _ => cases h
theorem bet_of {lo hi : Int} {d : PyData} (h : betD lo hi d = true) : ∃ i, d = .int i ∧ lo ≤ i ∧ i ≤ hi := by
  cases d with
  | int i =>
    have q := Bool.and_eq_true_iff.mp h
    exact ⟨i, rfl, of_decide_eq_true q.1, of_decide_eq_true q.2⟩
  | _ => cases h
theorem lay_of : ∀ {ds : List PyData}, (∀ i, i < ds.length → ∃ j, ds.getD i .none = PyData.int j) → PyData.canLayAll0 ds = true
  | [], _ => rfl
  | d :: ds, h => by
    obtain ⟨j, e⟩ := h 0 (Nat.succ_pos _)
    have e : d = .int j := e
    subst e
    show (true && PyData.canLayAll0 ds) = true
    rw [lay_of (ds := ds) fun i hi => h (i + 1) (Nat.succ_lt_succ hi)]
    rfl
theorem depth_of : ∀ {ds : List PyData}, (∀ i, i < ds.length → ∃ j, ds.getD i .none = PyData.int j) → PyData.depthAll ds ≤ 20
  | [], _ => Nat.zero_le _
  | d :: ds, h => by
    obtain ⟨j, e⟩ := h 0 (Nat.succ_pos _)
    have e : d = .int j := e
    subst e
    have q := depth_of (ds := ds) fun i hi => h (i + 1) (Nat.succ_lt_succ hi)
    show max 0 (PyData.depthAll ds) ≤ 20
    omega
section
variable {P : Program} {w : World} {K : PySem.W.Frag} {mg : Str → Option Value} {base : Heap}
theorem scStart : FnScope ["thing", "item"] ["thing"] (defScope sIsStart) := ⟨rfl, rfl, rfl, by decide +kernel, rfl, by decide +kernel, by decide +kernel⟩
theorem ok_start {f g1 g2 : Addr} {fd gd1 gd2 : FuncData} (F : Fun K "is_start" "is_start" sIsStart f fd) (T : TxtB mg) (M : TxtM mg) (G1 : FnOk P w K mg base CX0 1 g1 gd1 ["thing"] (spTest intD)) (c1 : Cal K mg "is_int" g1 gd1 ["thing"])
    (G2 : FnOk P w K mg base CX0 1 g2 gd2 ["thing", "low", "high"] (spTest2 tupD)) (c2 : Cal K mg "is_tuple_of" g2 gd2 ["thing", "low", "high"]) : FnOk P w K mg base CX0 2 f fd ["thing"] (spTest startD) := by
  obtain ⟨t, hm⟩ := M.count
  refine F.ok scStart (fun vs H Q E h => ?_) (fun cdv A outer s H vs Q E hr h => ?_)
  · obtain ⟨v, d, rfl, _⟩ := h
    rfl
  · obtain ⟨v, d, rfl, hd, sm, k⟩ := h
    refine ⟨_, pss_one (ps_ret (pe_and (pe_call G2 hr (by rfl) c2.m c2.k c2.b .nil pass0 (pa_cons (pv 0) (pa_cons pe_int (pa_cons (pe_glob (v := .int 3) (by rfl) hm ⟨_, rfl⟩) pa_nil))))
      (pe_one (pe_callB (cr_all rfl) (by rfl) T.all (by decide +kernel) (pa_cons (pe_lc (own := [("item", 1)]) (g := gName 1) (tt := tYes) rfl scStart.nd (pi_tup (pv 0)) (blkOk_by (N := ["thing", "item"]) (sc := defScope sIsStart) (by decide +kernel)) (fun _ _ _ _ _ => pg_name (i := 1) scStart.nd rfl (.inl rfl)) (fun _ _ _ _ _ => pts_nil)
        (fun _ _ _ _ _ => pe_call G1 hr (by rfl) c1.m c1.k c1.b .nil pass0 (pa_cons (pv 1) pa_nil))) pa_nil))))), ?_⟩
    refine ⟨_, rfl, v, d, 1, 3, rfl, hd, sm, fun H1 S1 => ⟨_, rfl, ?_⟩⟩
    by_cases h1 : tupD 1 3 d = true
    · refine iteYes h1 ?_
      obtain ⟨ds, rfl, l1, l2⟩ := tup_of h1
      cases hd with
      | tup e ha =>
        rename_i a xs
        refine ⟨_, rfl, a, rfl, ⟨_, SqT.of (S1 _ _ e)⟩, fun D nD => ?_⟩
        refine lc_tup (K := K) (a := a) (xs := xs) (fun i H2 => MadeTo H1 D (((ds.take i).map intD).map V.bl) H2) ⟨same_new nD, upd_same⟩ (fun i H2 _ M => SqT.of (M.1 _ _ (S1 _ _ e))) ?_ ?_
        · rintro i x H2 hx M
          obtain ⟨d', hd', hq⟩ := DqAll.at ha hx
          exact ⟨rfl, _, rfl, x, d', rfl, Dq.same (S1.trans M.1) d' x hq, sm_at (sm_all sm) hd', fun H3 S3 => M.turn nD S3 (sm_len sm) hd'⟩
        · rintro H2 M
          rw [ha.len, List.take_length] at M
          refine ⟨D, _, rfl, SqL.of M.2, ?_⟩
          have e : startD (.tuple ds) = (ds.map intD).all id := by rw [startD, h1, Bool.true_and, allD_map]
          have q := k H2 (S1.trans M.1)
          rw [e] at q
          exact q
    · refine iteNo (by simpa using h1) ?_
      have q := k H1 S1
      have e : startD d = false := by simp only [startD, h1, Bool.false_and]
      rw [e] at q
      exact q
theorem scEnds : FnScope ["thing", "places", "item"] ["thing", "places"] (defScope sAreEnds) := ⟨rfl, rfl, rfl, by decide +kernel, rfl, by decide +kernel, by decide +kernel⟩
theorem ok_ends {f g1 g2 : Addr} {fd gd1 gd2 : FuncData} (F : Fun K "are_ends" "are_ends" sAreEnds f fd) (T : TxtB mg) (G1 : FnOk P w K mg base CX0 2 g1 gd1 ["thing", "low", "high"] (spTest2 betD)) (c1 : Cal K mg "is_between" g1 gd1 ["thing", "low", "high"])
    (G2 : FnOk P w K mg base CX0 1 g2 gd2 ["items"] spAsc) (c2 : Cal K mg "is_ascending" g2 gd2 ["items"]) : FnOk P w K mg base CX0 3 f fd ["thing", "places"] (spTest1 endsD) := by
  refine F.ok scEnds (fun vs H Q E h => ?_) (fun cdv A outer s H vs Q E hr h => ?_)
  · obtain ⟨v, d, n, rfl, _⟩ := h
    rfl
  · obtain ⟨v, d, n, rfl, hd, sm, k⟩ := h
    have hr1 : Room 1 _ := hr.mono (by decide)
    refine ⟨_, pss_cons (ps_if (PW.pt (pw_or (pt_not (pt_val (pe_callB call_isD (by rfl) T.isi (by decide +kernel) (pa_cons (pv 0) (pa_cons (pe_bltn (v := .ty "tuple") (by rfl) T.tuple (by decide +kernel) rfl) pa_nil))))) (pw_or1 (pt_not (pt_val (pe_callB (cr_all rfl) (by rfl) T.all (by decide +kernel) (pa_cons (pe_lc (own := [("item", 2)]) (g := gName 2) (tt := tYes) rfl scEnds.nd (pi_tup (pv 0)) (blkOk_by (N := ["thing", "places", "item"]) (sc := defScope sAreEnds) (by decide +kernel)) (fun _ _ _ _ _ => pg_name (i := 2) scEnds.nd rfl (.inl rfl)) (fun _ _ _ _ _ => pts_nil)
        (fun _ _ _ _ _ => pe_call G1 hr (by rfl) c1.m c1.k c1.b .nil pass0 (pa_cons (pv 2) (pa_cons pe_int (pa_cons (pe_op op_sub (pv 1) pe_int) pa_nil))))) pa_nil))))))) (pss_one (ps_ret pe_bl)) pss_nil)
      (pss_one (ps_ret (pe_call G2 hr1 (by rfl) c2.m c2.k c2.b .nil pass0 (pa_cons (pv 0) pa_nil)))), ?_⟩
    refine ⟨_, rfl, v, d, "tuple", rfl, by decide, hd, _, rfl, ?_⟩
    cases hd with
    | tup e ha =>
      rename_i a xs ds
      refine iteNo rfl ?_
      refine ⟨_, rfl, a, rfl, ⟨_, SqT.of e⟩, fun D nD => ?_⟩
      refine lc_tup (K := K) (a := a) (xs := xs) (fun i H2 => MadeTo H D (((ds.take i).map (betD 0 (n - 1))).map V.bl) H2) ⟨same_new nD, upd_same⟩ (fun i H2 _ M => SqT.of (M.1 _ _ e)) ?_ ?_
      · rintro i x H2 hx M
        obtain ⟨d', hd', hq⟩ := DqAll.at ha hx
        exact ⟨rfl, _, rfl, _, rfl, _, _, rfl, rfl, x, d', 0, n - 1, rfl, Dq.same M.1 d' x hq, sm_at (sm_all sm) hd', fun H3 S3 => M.turn nD S3 (sm_len sm) hd'⟩
      · rintro H2 M
        rw [ha.len, List.take_length] at M
        refine ⟨D, _, rfl, SqL.of M.2, _, rfl, ?_⟩
        rw [allD_map]
        by_cases h1 : allD (betD 0 (n - 1)) (.tuple ds) = true
        · refine iteNo (by rw [h1]; rfl) ?_
          have hi : ∀ i, i < ds.length → ∃ j, ds.getD i .none = .int j := fun i hi => by
            obtain ⟨j, e, _⟩ := bet_of (all_at (f := betD 0 (n - 1)) h1 hi)
            exact ⟨j, e⟩
          refine ⟨_, rfl, a, xs, ds, rfl, .inr (M.1 _ _ e), DqAll.same M.1 ds xs ha, sm_len sm, lay_of hi, depth_of hi, fun i hi' => ?_, fun H3 S3 => ?_⟩
          · obtain ⟨x, ex⟩ := hi i (by omega)
            obtain ⟨y, ey⟩ := hi (i + 1) hi'
            rw [ex, ey]
            rfl
          · have q := k H3 (M.1.trans S3)
            have e : endsD n (.tuple ds) = ascD ds := by simp only [endsD, isTupD, h1, itemsD, Bool.true_and]
            rw [e] at q
            exact q
        · refine iteYes (by simpa using h1) ?_
          have q := k H2 M.1
          have e : endsD n (.tuple ds) = false := by simp only [endsD, isTupD, h1, Bool.true_and, Bool.false_and]
          rw [e] at q
          exact q
    | non => exact iteYes rfl (k H (Same.refl H))
    | bl _ => exact iteYes rfl (k H (Same.refl H))
    | int _ => exact iteYes rfl (k H (Same.refl H))
    | str _ => exact iteYes rfl (k H (Same.refl H))
    | lst _ _ => exact iteYes rfl (k H (Same.refl H))
    | dct0 _ => exact iteYes rfl (k H (Same.refl H))
    | dct1 _ => exact iteYes rfl (k H (Same.refl H))
end
end KL
set_option Elab.async false
set_option linter.all false
set_option maxRecDepth 100000
set_option maxHeartbeats 2000000
namespace KL
open PySem L2 PySem.Spec PyProof.Rows
theorem letS_ok {x : Str} (h : letS x = true) : PyData.strOk x = true ∧ x.length = 1 := by
  simp only [letS, Bool.and_eq_true, decide_eq_true_eq, Bool.not_eq_true', decide_eq_false_iff_not] at h
  obtain ⟨h1, h2, h3⟩ := h
  refine ⟨?_, h1⟩
  obtain ⟨⟨l⟩⟩ := x
  have hl : l.length = 1 := h1
  match l, hl with
  | [c], _ =>
    have z : ¬ ([122] < [c]) := h3
    have hc : c ≤ 122 := by
      rcases Nat.lt_or_ge 122 c with q | q
      · exact absurd (List.cons_lt_cons_iff.mpr (.inl q)) z
      · exact q
    show (#[c]).all (· < 0x110000) = true
    simp
    omega
theorem DqAll.snoc {H : Hp} : ∀ {es : List PyData} {ys : List V} {y : V} {e : PyData}, DqAll H ys es → Dq H y e → DqAll H (ys ++ [y]) (es ++ [e])
  | [], _, _, _, h, q => by
    cases h
    exact .cons q .nil
  | _ :: _, _, _, _, h, q => by
    cases h with
    | cons h1 h2 => exact .cons h1 (DqAll.snoc h2 q)
/-- a comprehension that has made these data so far -/
def MadeQ (H0 : Hp) (D : Addr) (es : List PyData) (H : Hp) : Prop := Same H0 H ∧ ∃ ys, H D = some (.lst ys) ∧ DqAll H0 ys es
theorem MadeQ.start {H0 : Hp} {D : Addr} (nD : H0 D = none) : MadeQ H0 D [] (upd H0 D (.lst [])) := ⟨same_new nD, [], upd_same, .nil⟩
theorem MadeQ.turn {H0 H H' : Hp} {D : Addr} {g : PyData → PyData} {ds : List PyData} {i : Nat} {d : PyData} {y : V} (hD : H0 D = none) (M : MadeQ H0 D ((ds.take i).map g) H) (S : Same H H') (hl : ds.length ≤ 1000) (h : ds[i]? = some d) (q : Dq H0 y (g d)) :
    ∃ acc, H' D = some (.lst acc) ∧ acc.length < sizeLine ∧ MadeQ H0 D ((ds.take (i + 1)).map g) (upd H' D (.lst (acc ++ [y]))) := by
  obtain ⟨S0, ys, hy, hq⟩ := M
  refine ⟨ys, S _ _ hy, ?_, fun x o e => ?_, ys ++ [y], upd_same, ?_⟩
  · rw [hq.len, List.length_map, List.length_take]
    exact Nat.lt_of_le_of_lt (Nat.le_trans (Nat.min_le_right _ _) hl) (by rw [sizeLine_eq]; omega)
  · have nx : x ≠ D := fun z => by
      rw [z, hD] at e
      cases e
    rw [upd_ne nx]
    exact S _ _ (S0 _ _ e)
  · rw [take_map h]
    exact hq.snoc q
theorem deed_of {n : Int} {d : PyData} (h : deedD n d = true) : ∃ x i, d = .tuple [.str x, .int i] ∧ letS x = true ∧ 0 ≤ i ∧ i ≤ n - 1 := by
  simp only [deedD, Bool.and_eq_true] at h
  obtain ⟨h1, h2, h3⟩ := h
  obtain ⟨ds, rfl, l1, l2⟩ := tup_of h1
  match ds, l1, l2 with
  | [a, b], _, _ =>
    obtain ⟨x, rfl⟩ : ∃ x, a = .str x := let_of h2
    obtain ⟨i, rfl, i1, i2⟩ : ∃ i, b = .int i ∧ 0 ≤ i ∧ i ≤ n - 1 := bet_of h3
    exact ⟨x, i, rfl, h2, i1, i2⟩
  | [], l1, _ => exact absurd l1 (by decide)
  | [_], l1, _ => simp at l1
  | _ :: _ :: _ :: _, _, l2 => simp at l2; omega
theorem lay_str : ∀ {ds : List PyData}, (∀ i, i < ds.length → ∃ x, ds.getD i .none = PyData.str x ∧ letS x = true) → PyData.canLayAll0 ds = true
  | [], _ => rfl
  | d :: ds, h => by
    obtain ⟨x, e, hx⟩ := h 0 (Nat.succ_pos _)
    have e : d = .str x := e
    subst e
    show (PyData.strOk x && PyData.canLayAll0 ds) = true
    rw [lay_str (ds := ds) fun i hi => h (i + 1) (Nat.succ_lt_succ hi), (letS_ok hx).1]
    rfl
theorem depth_str : ∀ {ds : List PyData}, (∀ i, i < ds.length → ∃ x, ds.getD i .none = PyData.str x ∧ letS x = true) → PyData.depthAll ds ≤ 20
  | [], _ => Nat.zero_le _
  | d :: ds, h => by
    obtain ⟨x, e, hx⟩ := h 0 (Nat.succ_pos _)
    have e : d = .str x := e
    subst e
    have q := depth_str (ds := ds) fun i hi => h (i + 1) (Nat.succ_lt_succ hi)
    show max 0 (PyData.depthAll ds) ≤ 20
    omega
section
variable {P : Program} {w : World} {K : PySem.W.Frag} {mg : Str → Option Value} {base : Heap}
theorem scDeeds : FnScope ["thing", "people", "item", "letter", "owner"] ["thing", "people"] (defScope sAreDeeds) := ⟨rfl, rfl, rfl, by decide +kernel, rfl, by decide +kernel, by decide +kernel⟩
theorem ok_deeds {f g1 g2 g3 : Addr} {fd gd1 gd2 gd3 : FuncData} (F : Fun K "are_deeds" "are_deeds" sAreDeeds f fd) (T : TxtB mg) (M : TxtM mg) (G1 : FnOk P w K mg base CX0 1 g1 gd1 ["thing", "low", "high"] (spTest2 tupD)) (c1 : Cal K mg "is_tuple_of" g1 gd1 ["thing", "low", "high"])
    (G2 : FnOk P w K mg base CX0 3 g2 gd2 ["thing", "people"] (spTest1 deedD)) (c2 : Cal K mg "is_deed" g2 gd2 ["thing", "people"]) (G3 : FnOk P w K mg base CX0 1 g3 gd3 ["items"] spAsc) (c3 : Cal K mg "is_ascending" g3 gd3 ["items"]) :
    FnOk P w K mg base CX0 4 f fd ["thing", "people"] (spTest1 deedsD) := by
  obtain ⟨t, hm⟩ := M.deeds
  refine F.ok scDeeds (fun vs H Q E h => ?_) (fun cdv A outer s H vs Q E hr h => ?_)
  · obtain ⟨v, d, n, rfl, _⟩ := h
    rfl
  · obtain ⟨v, d, n, rfl, hd, sm, k⟩ := h
    have hr1 : Room 1 _ := hr.mono (by decide)
    refine ⟨_, pss_cons (ps_if (PW.pt (pw_or (pt_not (pt_val (pe_call G1 hr1 (by rfl) c1.m c1.k c1.b .nil pass0 (pa_cons (pv 0) (pa_cons pe_int (pa_cons (pe_glob (v := .int 5) (by rfl) hm ⟨_, rfl⟩) pa_nil)))))) (pw_or1 (pt_not (pt_val (pe_callB (cr_all rfl) (by rfl) T.all (by decide +kernel) (pa_cons (pe_lc (own := [("item", 2)]) (g := gName 2) (tt := tYes) rfl scDeeds.nd (pi_tup (pv 0)) (blkOk_by (N := ["thing", "people", "item", "letter", "owner"]) (sc := defScope sAreDeeds) (by decide +kernel)) (fun _ _ _ _ _ => pg_name (i := 2) scDeeds.nd rfl (.inl rfl)) (fun _ _ _ _ _ => pts_nil)
        (fun _ _ _ _ _ => pe_call G2 hr (by rfl) c2.m c2.k c2.b .nil pass0 (pa_cons (pv 2) (pa_cons (pv 1) pa_nil)))) pa_nil))))))) (pss_one (ps_ret pe_bl)) pss_nil)
      (pss_one (ps_ret (pe_call G3 hr1 (by rfl) c3.m c3.k c3.b .nil pass0 (pa_cons (pe_lc (own := [("letter", 3), ("owner", 4)]) (g := gTup K 2 (gCons (gName 3) (gCons (gName 4) gNil))) (tt := tYes) rfl scDeeds.nd (pi_tup (pv 0)) (blkOk_by (N := ["thing", "people", "item", "letter", "owner"]) (sc := defScope sAreDeeds) (by decide +kernel)) (fun _ _ _ _ _ => pg_tup rfl (pgs_cons (pg_name (i := 3) scDeeds.nd rfl (.inl rfl)) (pgs_cons (pg_name (i := 4) scDeeds.nd rfl (.inl rfl)) pgs_nil))) (fun _ _ _ _ _ => pts_nil)
        (fun _ _ _ _ _ => pv 3)) pa_nil)))), ?_⟩
    refine ⟨_, rfl, v, d, 1, 5, rfl, hd, sm, fun H1 S1 => ⟨_, rfl, ?_⟩⟩
    by_cases h1 : tupD 1 5 d = true
    · refine iteNo (by rw [h1]; rfl) ?_
      obtain ⟨ds, rfl, l1, l2⟩ := tup_of h1
      cases hd with
      | tup e ha =>
        rename_i a xs
        refine ⟨_, rfl, a, rfl, ⟨_, SqT.of (S1 _ _ e)⟩, fun D nD => ?_⟩
        refine lc_tup (K := K) (a := a) (xs := xs) (fun i H2 => MadeTo H1 D (((ds.take i).map (deedD n)).map V.bl) H2) ⟨same_new nD, upd_same⟩ (fun i H2 _ M => SqT.of (M.1 _ _ (S1 _ _ e))) ?_ ?_
        · rintro i x H2 hx M
          obtain ⟨d', hd', hq⟩ := DqAll.at ha hx
          exact ⟨rfl, _, rfl, _, rfl, x, d', n, rfl, Dq.same (S1.trans M.1) d' x hq, sm_at (sm_all sm) hd', fun H3 S3 => M.turn nD S3 (sm_len sm) hd'⟩
        · rintro H2 M
          rw [ha.len, List.take_length] at M
          refine ⟨D, _, rfl, SqL.of M.2, _, rfl, ?_⟩
          rw [allD_map]
          by_cases h2 : allD (deedD n) (.tuple ds) = true
          · refine iteNo (by rw [h2]; rfl) ?_
            have S2 : Same H H2 := S1.trans M.1
            refine ⟨_, rfl, a, rfl, ⟨_, SqT.of (S2 _ _ e)⟩, fun B nB => ?_⟩
            refine lc_tup (K := K) (a := a) (xs := xs) (fun i H3 => MadeQ H2 B ((ds.take i).map (itemD 0)) H3) (MadeQ.start nB) (fun i H3 _ M => SqT.of (M.1 _ _ (S2 _ _ e))) ?_ ?_
            · rintro i x H3 hx M3
              obtain ⟨d', hd', hq⟩ := DqAll.at ha hx
              have hi : i < ds.length := (List.getElem?_eq_some_iff.mp hd').1
              have hdd := all_at (f := deedD n) h2 hi
              rw [getD_of hd'] at hdd
              obtain ⟨lt, ow, rfl, _, _, _⟩ := deed_of hdd
              cases hq with
              | tup e' ha' =>
                cases ha' with
                | cons q1 r1 =>
                  cases r1 with
                  | cons q2 r2 =>
                    cases r2
                    rename_i b y0 y1
                    refine ⟨b, _, rfl, SqT.of (M3.1 _ _ (S2 _ _ e')), rfl, y0, _, rfl, y1, _, rfl, rfl, rfl, ?_⟩
                    refine ⟨_, rfl, ?_⟩
                    exact M3.turn nB (Same.refl _) (sm_len sm) hd' (Dq.same S2 _ y0 q1)
            · rintro H3 M3
              rw [ha.len, List.take_length] at M3
              obtain ⟨S3, ys, hy, hq⟩ := M3
              have str_at : ∀ i, i < ds.length → ∃ x, (ds.map (itemD 0)).getD i .none = .str x ∧ letS x = true := fun i hi => by
                obtain ⟨lt, ow, e, h, _⟩ := deed_of (all_at (f := deedD n) h2 hi)
                rw [getD_map hi, e]
                exact ⟨lt, rfl, h⟩
              have hstr : ∀ i, i < (ds.map (itemD 0)).length → ∃ x, (ds.map (itemD 0)).getD i .none = .str x ∧ letS x = true := fun i hi => str_at i (by rwa [List.length_map] at hi)
              refine ⟨B, ys, ds.map (itemD 0), rfl, .inl hy, DqAll.same S3 _ ys hq, by rw [List.length_map]; exact sm_len sm, lay_str hstr, depth_str hstr, fun i hi => ?_, fun H4 S4 => ?_⟩
              · obtain ⟨x, ex, _⟩ := hstr i (by omega)
                obtain ⟨y, ey, _⟩ := hstr (i + 1) hi
                rw [ex, ey]
                rfl
              · have q := k H4 (S2.trans (S3.trans S4))
                have e : deedsD n (.tuple ds) = ascD (ds.map (itemD 0)) := by simp only [deedsD, h1, h2, itemsD, Bool.true_and]
                rw [e] at q
                exact q
          · refine iteYes (by simpa using h2) ?_
            have q := k H2 (S1.trans M.1)
            have e : deedsD n (.tuple ds) = false := by simp only [deedsD, h1, h2, Bool.true_and, Bool.false_and]
            rw [e] at q
            exact q
    · refine iteYes (by simpa using h1) ?_
      have q := k H1 S1
      have e : deedsD n d = false := by simp only [deedsD, h1, Bool.false_and]
      rw [e] at q
      exact q
end
end KL
set_option Elab.async false
set_option linter.all false
set_option maxRecDepth 100000
set_option maxHeartbeats 2000000
namespace PySem
namespace SeqAt
open AutoSeq1 (wpAny_loadPart')
open MeetsSeq
theorem str_eq_dict (b : Str) (u : Tok) (l : Addr) (c : Value) (es : Array DictEntry) (n : Nat) (dd : Option Addr) (sl : Array (Option Value)) :
    Meets (Builtin.«str.__eq__» ⟨[.str b u, .ref l], []⟩) (fun _ R s => s.heap.get? l = some { cls := c, dict := dd, data := .dict es n, slots := sl } ∧ R (.ok (.ret .notImplemented)) s) :=
  .of_wp fun prog w A R s h => by obtain ⟨hp, g, d, tk, os⟩ := s; obtain ⟨hl, h⟩ := h; wp_walk using wpAny_loadPart' hl, wpAny_load hl; exact ⟨_, rfl, h⟩
theorem str_ne_dict (b : Str) (u : Tok) (l : Addr) (c : Value) (es : Array DictEntry) (n : Nat) (dd : Option Addr) (sl : Array (Option Value)) :
    Meets (Builtin.«str.__ne__» ⟨[.str b u, .ref l], []⟩) (fun _ R s => s.heap.get? l = some { cls := c, dict := dd, data := .dict es n, slots := sl } ∧ R (.ok (.ret .notImplemented)) s) :=
  .of_wp fun prog w A R s h => by obtain ⟨hp, g, d, tk, os⟩ := s; obtain ⟨hl, h⟩ := h; wp_walk using wpAny_loadPart' hl, wpAny_load hl; exact ⟨_, rfl, h⟩
section
variable {A : Around} {s : Shared}
theorem dict_eq_str {prog : Program} {w : World} {E : Value → Shared → Prop} {l : Addr} {o : Obj} {es : Array DictEntry} {n : Nat} (b : Str) (u : Tok) (ho : s.heap.get? l = some o) (hc : o.cls = .type "dict") (Q' : Value → Shared → Prop) (h : Q' .notImplemented s) :
    wpAny (model prog w) A (call (.builtin "dict.__eq__") [.ref l, .str b u]) Q' E s := by
  have ht : s.TypeIs (.ref l) "dict" := ⟨o, ho, hc⟩
  refine wpAny_call_entry PySem.F.slot_dict_eq ht PySem.F.entry_dict_eq ?_ (PySem.F.args_dict_eq_2 _ _)
  show wpAny _ _ (Builtin.Dict.dictSlotArgs "__eq__" ⟨[.ref l, .str b u], []⟩ >>= _) _ _ s
  refine wpAny_bind ?_
  unfold Builtin.Dict.dictSlotArgs
  refine wpAny_bind (wpAny_notOrdered_dict ht ?_)
  show wpAny _ _ (pure (Value.ref l, Value.str b u)) _ _ s
  refine wpAny_pure ?_
  refine wpAny_bind (wpAny_isInstance (T := "str") (typeIs_str s b u) PySem.F.sub_str_dict ?_)
  simp only [Bool.not_false, if_true]
  exact wpAny_bind (wpAny_rule (wpAny_bind (wpAny_pure (wpAny_pure ⟨_, rfl, h⟩))))
theorem dict_ne_str {prog : Program} {w : World} {E : Value → Shared → Prop} {l : Addr} {o : Obj} {es : Array DictEntry} {n : Nat} (b : Str) (u : Tok) (ho : s.heap.get? l = some o) (hc : o.cls = .type "dict") (Q' : Value → Shared → Prop) (h : Q' .notImplemented s) :
    wpAny (model prog w) A (call (.builtin "dict.__ne__") [.ref l, .str b u]) Q' E s := by
  have ht : s.TypeIs (.ref l) "dict" := ⟨o, ho, hc⟩
  refine wpAny_call_entry PySem.F.slot_dict_ne ht PySem.F.entry_dict_ne ?_ (PySem.F.args_dict_ne_2 _ _)
  show wpAny _ _ (Builtin.Dict.dictSlotArgs "__ne__" ⟨[.ref l, .str b u], []⟩ >>= _) _ _ s
  refine wpAny_bind ?_
  unfold Builtin.Dict.dictSlotArgs
  refine wpAny_bind (wpAny_notOrdered_dict ht ?_)
  show wpAny _ _ (pure (Value.ref l, Value.str b u)) _ _ s
  refine wpAny_pure ?_
  refine wpAny_bind (wpAny_isInstance (T := "str") (typeIs_str s b u) PySem.F.sub_str_dict ?_)
  simp only [Bool.not_false, if_true]
  exact wpAny_bind (wpAny_rule (wpAny_bind (wpAny_pure (wpAny_pure ⟨_, rfl, h⟩))))
theorem RcAt.str_dict {l : Addr} {cl : Value} {dd : Option Addr} {es : Array DictEntry} {n : Nat} {sl : Array (Option Value)} (b : Str) (u : Tok) (ho : s.heap.get? l = some ⟨.type "dict", dd, .dict es n, sl⟩) (hu : A.units < cLine) : RcAt A s (.str b u) (.ref l) false := fun prog w E Q h =>
  rc_eq_decline_or (k := false) (typeIs_str s b u) ⟨_, ho, rfl⟩ (by decide) F.sub_dict_str F.slot_str_eq F.slot_dict_eq_refl
    (fun _ hq => call_meets F.slot_str_eq (typeIs_str s b u) F.entry_str_eq (F.args_str_eq_2 _ _) (str_eq_dict b u l (.type "dict") es n dd sl) ⟨ho, hq⟩)
    (fun _ hq => dict_eq_str (es := es) (n := n) b u ho rfl _ hq)
    (fun _ hq => wpAny_of_eq (rfl : isSame (.str b u) (.ref l) = pure false) hq) (.inr hu) h
theorem EqAt.str_dict {l : Addr} {dd : Option Addr} {es : Array DictEntry} {n : Nat} {sl : Array (Option Value)} (b : Str) (u : Tok) (ho : s.heap.get? l = some ⟨.type "dict", dd, .dict es n, sl⟩) (hu : A.units < cLine) : EqAt A s (.str b u) (.ref l) false := fun prog w E Q h => by
  unfold eqBool
  refine wpAny_holding ?_
  refine wpAny_ite_split (fun hab => absurd (eq_of_beq hab) nofun) (fun _ => ?_)
  exact wpAny_bind (RcAt.str_dict (cl := .none) b u ho hu prog w E _ (wpAny_truthy_bool h))
theorem RcAt.dict_str {l : Addr} {dd : Option Addr} {es : Array DictEntry} {n : Nat} {sl : Array (Option Value)} (b : Str) (u : Tok) (ho : s.heap.get? l = some ⟨.type "dict", dd, .dict es n, sl⟩) (hu : A.units < cLine) : RcAt A s (.ref l) (.str b u) false := fun prog w E Q h =>
  rc_eq_decline_or (k := false) ⟨_, ho, rfl⟩ (typeIs_str s b u) (by decide) F.sub_str_dict F.slot_dict_eq F.slot_str_eq_refl
    (fun _ hq => dict_eq_str (es := es) (n := n) b u ho rfl _ hq)
    (fun _ hq => call_meets F.slot_str_eq_refl (typeIs_str s b u) F.entry_str_eq (F.args_str_eq_2 _ _) (str_eq_dict b u l (.type "dict") es n dd sl) ⟨ho, hq⟩)
    (fun _ hq => wpAny_of_eq (rfl : isSame (.ref l) (.str b u) = pure false) hq) (.inr hu) h
theorem RcNeAt.dict_str {l : Addr} {dd : Option Addr} {es : Array DictEntry} {n : Nat} {sl : Array (Option Value)} (b : Str) (u : Tok) (ho : s.heap.get? l = some ⟨.type "dict", dd, .dict es n, sl⟩) (hu : A.units < cLine) : RcNeAt A s (.ref l) (.str b u) true := fun prog w E Q h =>
  rc_ne_decline_or (k := false) ⟨_, ho, rfl⟩ (typeIs_str s b u) (by decide) F.sub_str_dict F.slot_dict_ne F.slot_str_ne_refl
    (fun _ hq => dict_ne_str (es := es) (n := n) b u ho rfl _ hq)
    (fun _ hq => call_meets F.slot_str_ne_refl (typeIs_str s b u) F.entry_str_ne (F.args_str_ne_2 _ _) (str_ne_dict b u l (.type "dict") es n dd sl) ⟨ho, hq⟩)
    (fun _ hq => wpAny_of_eq (rfl : isSame (.ref l) (.str b u) = pure false) hq) (.inr hu) h
end
end SeqAt
end PySem
namespace KL
open PySem L2 PySem.Spec PyProof.Rows
/-- whether a thing is this text -/
def isStrD (x : Str) : PyData → Bool
  | .str y => x == y
  | _ => false
section
variable {A : Around} {s : Shared}
theorem eqAt_str {v : Value} {d : PyData} {as : List Addr} (b : Str) (u : Tok) (r : Reads s.heap v d as) (hu : A.units < cLine) : SeqAt.EqAt A s (.str b u) v (isStrD b d) := by
  cases r with
  | none => exact .str_none b u
  | bool k => exact .str_bool b u k
  | int i t => exact .str_int b u i t
  | str x t => exact .str_str b u x t
  | list k1 k2 k3 k4 => exact .str_list b u ⟨_, k1, k2, _, k3⟩ hu
  | tuple k1 k2 k3 k4 => exact .str_tuple b u ⟨_, k1, k2, _, k3⟩ hu
  | dict k1 k2 k3 k4 k5 =>
    rename_i o _ _ _ _ _
    obtain ⟨cl, dd, dt, sl⟩ := o

    subst k2 k3
    exact .str_dict b u k1 hu
theorem rcAt_str {v : Value} {d : PyData} {as : List Addr} (b : Str) (u : Tok) (r : Reads s.heap v d as) (hu : A.units < cLine) : SeqAt.RcAt A s v (.str b u) (isStrD b d) := by
  cases r with
  | none => exact .none_str b u
  | bool k => exact .bool_str k b u
  | int i t => exact .int_str i t b u
  | str x t =>
    have q := SeqAt.RcAt.str_str (A := A) (s := s) x t b u
    have e : (x == b) = isStrD b (.str x) := by
      show (x == b) = (b == x)
      exact Bool.beq_comm
    rwa [e] at q
  | list k1 k2 k3 k4 => exact .list_str b u ⟨_, k1, k2, _, k3⟩ hu
  | tuple k1 k2 k3 k4 => exact .tuple_str b u ⟨_, k1, k2, _, k3⟩ hu
  | dict k1 k2 k3 k4 k5 =>
    rename_i o _ _ _ _ _
    obtain ⟨cl, dd, dt, sl⟩ := o

    subst k2 k3
    exact .dict_str b u k1 hu
theorem rcNeAt_str {v : Value} {d : PyData} {as : List Addr} (b : Str) (u : Tok) (r : Reads s.heap v d as) (hu : A.units < cLine) : SeqAt.RcNeAt A s v (.str b u) (!isStrD b d) := by
  cases r with
  | none => exact .none_str b u
  | bool k => exact .bool_str k b u
  | int i t => exact .int_str i t b u
  | str x t =>
    have q := SeqAt.RcNeAt.str_str (A := A) (s := s) x t b u
    have e : (x == b) = isStrD b (.str x) := by
      show (x == b) = (b == x)
      exact Bool.beq_comm
    rwa [e] at q
  | list k1 k2 k3 k4 => exact .list_str b u ⟨_, k1, k2, _, k3⟩ hu
  | tuple k1 k2 k3 k4 => exact .tuple_str b u ⟨_, k1, k2, _, k3⟩ hu
  | dict k1 k2 k3 k4 k5 =>
    rename_i o _ _ _ _ _
    obtain ⟨cl, dd, dt, sl⟩ := o

    subst k2 k3
    exact .dict_str b u k1 hu
end
end KL
set_option Elab.async false
set_option linter.all false
set_option maxRecDepth 100000
set_option maxHeartbeats 2000000
namespace KL
open PySem L2 PySem.Spec PyProof.Rows
def isTop : PyData → Bool
  | .dict _ => true
  | _ => false
section
variable {X : Cx} {pins : List (Addr × Obj)} {σ : L2.St} {H : Hp} {s : Shared}
mutual
theorem Dq.reads (I : Inv X pins σ H s) : ∀ (d : PyData) (v : V) (u : Value), Dq H v d → RelV v u → ∃ as, Reads s.heap u d as ∧ (isTop d = true → sysModules ∉ as)
  | .none, _, _, h, r => by
    cases h
    cases r
    exact ⟨_, .none, fun z => by cases z⟩
  | .bool b, _, _, h, r => by
    cases h
    cases r
    exact ⟨_, .bool b, fun z => by cases z⟩
  | .int i, _, _, h, r => by
    cases h
    obtain ⟨t, rfl⟩ := r
    exact ⟨_, .int i t, fun z => by cases z⟩
  | .str x, _, _, h, r => by
    cases h
    obtain ⟨t, rfl⟩ := r
    exact ⟨_, .str x t, fun z => by cases z⟩
  | .list ds, _, _, h, r => by
    cases h with
    | lst q ha =>
      cases r
      obtain ⟨_, its, n, rv, ho⟩ := I.hok _ _ q
      obtain ⟨as, hr⟩ := DqAll.reads I ds _ its ha rv
      exact ⟨_, .list ho rfl rfl hr, fun z => by cases z⟩
  | .tuple ds, _, _, h, r => by
    cases h with
    | tup q ha =>
      cases r
      obtain ⟨_, its, rv, o, h1, h2, n, h3⟩ := I.hok _ _ q
      obtain ⟨as, hr⟩ := DqAll.reads I ds _ its ha rv
      exact ⟨_, .tuple h1 h2 h3 hr, fun z => by cases z⟩
  | .dict kvs, _, _, h, r => by
    cases h with
    | dct0 q =>
      cases r
      obtain ⟨_, ns, vs, rv, o, es, ep, h1, h2, h3, _, h5, _⟩ := I.hok _ _ q
      cases rv
      have e0 : es.toList = [] := by
        cases e : es.toList with
        | nil => rfl
        | cons x y =>
          rw [e] at h5
          cases h5
      refine ⟨_, .dict h1 h2.1 h3 (as := []) (bs := []) (by rw [e0]; exact .nil) (by rw [e0]; exact .nil), fun _ z => ?_⟩
      simp at z
      rw [← z] at ns
      simp at ns
    | @dct1 a0 x0 i0 q =>
      cases r
      obtain ⟨_, ns, vs, rv, o, es, ep, h1, h2, h3, _, h5, _⟩ := I.hok _ _ q
      cases rv with
      | cons r1 r2 =>
        cases r2
        obtain ⟨r1, t, r3⟩ := r1
        have e1 : ∃ (e : DictEntry) (tk : Tok), es.toList = [e] ∧ e.key = .str x0 tk ∧ e.val = .int i0 t := by
          generalize es.toList = L at h5
          cases h5 with
          | cons k1 k2 k3 =>
            rename_i e es'
            cases k3
            have k1 : keyIs _ _ = true := k1
            rw [← r1] at k1
            rcases keyIs_shape k1 with ⟨_, _, z, _⟩ | ⟨y, tk, z, z2⟩
            · cases z
            · cases z
              exact ⟨e, tk, rfl, z2, k2.trans r3⟩
        obtain ⟨e, tk, e1, e2, e3⟩ := e1
        refine ⟨_, .dict h1 h2.1 h3 (as := [] ++ []) (bs := [] ++ []) ?_ ?_, fun _ z => ?_⟩
        · rw [e1, List.map_cons, e2]
          exact .cons (.str _ tk) .nil
        · rw [e1, List.map_cons, e3]
          exact .cons (.int _ t) .nil
        · simp at z
          rw [← z] at ns
          simp at ns
theorem DqAll.reads (I : Inv X pins σ H s) : ∀ (ds : List PyData) (vs : List V) (us : List Value), DqAll H vs ds → Vals vs us → ∃ as, ReadsAll s.heap us ds as
  | [], _, _, h, r => by
    cases h
    cases r
    exact ⟨_, .nil⟩
  | d :: ds, _, _, h, r => by
    cases h with
    | cons h1 h2 =>
      cases r with
      | cons r1 r2 =>
        obtain ⟨as, q1, _⟩ := Dq.reads I d _ _ h1 r1
        obtain ⟨bs, q2⟩ := DqAll.reads I ds _ _ h2 r2
        exact ⟨_, .cons q1 q2⟩
end
end
/-- x == y, y a text -/
def rEqStr (y0 : Bool) : R2 := fun x y H Q => ∃ d t, Dq H x d ∧ y = .str t ∧ Q (.bl (if y0 = true then isStrD t d else !isStrD t d)) H
section
variable {X : Cx}
theorem op_eqStr (hu : X.A.units + 64 < cLine) : OpR X (compareOp .Eq) (rEqStr true) := by
  intro pins s σ H x y v u Q I rx ry h
  obtain ⟨d, t, hd, rfl, q⟩ := h
  obtain ⟨as, r, _⟩ := Dq.reads I d x v hd rx
  obtain ⟨tk, rfl⟩ := ry
  exact rcAt_str t tk r (by omega) _ _ _ _ ⟨.bl _, H, I, rfl, q⟩
theorem op_neStr (hu : X.A.units + 64 < cLine) : OpR X (compareOp .NotEq) (rEqStr false) := by
  intro pins s σ H x y v u Q I rx ry h
  obtain ⟨d, t, hd, rfl, q⟩ := h
  obtain ⟨as, r, _⟩ := Dq.reads I d x v hd rx
  obtain ⟨tk, rfl⟩ := ry
  exact rcNeAt_str t tk r (by omega) _ _ _ _ ⟨.bl _, H, I, rfl, q⟩
end
/-- a text among texts -/
def strIs : PyData → PyData → Bool
  | .str x, d => isStrD x d
  | _, _ => false
def inD (es : List PyData) (d : PyData) : Bool := es.any fun e => strIs e d
def strB : PyData → Bool
  | .str _ => true
  | _ => false
def allStr (es : List PyData) : Bool := es.all strB
def vStr (d : PyData) : Value → Bool
  | .str x _ => isStrD x d
  | _ => false
theorem any_str {H : Hp} {d : PyData} : ∀ {es : List PyData} {ys : List V} {us : List Value}, DqAll H ys es → Vals ys us → allStr es = true → us.any (vStr d) = inD es d ∧ ∀ u ∈ us, ∃ x t, u = .str x t
  | [], _, _, h, r, _ => by
    cases h
    cases r
    exact ⟨rfl, fun u hu => by simp at hu⟩
  | e :: es, _, _, h, r, a => by
    cases h with
    | cons h1 h2 =>
      cases r with
      | cons r1 r2 =>
        rename_i u us
        have a' := Bool.and_eq_true_iff.mp (show (strB e && allStr es) = true from a)
        obtain ⟨q1, q2⟩ := any_str (d := d) h2 r2 a'.2
        cases h1 with
        | str x =>
          obtain ⟨t, rfl⟩ := r1
          refine ⟨?_, fun u' hu => ?_⟩
          · show (vStr d (.str x t) || us.any (vStr d)) = _
            rw [q1]
            rfl
          · rcases List.mem_cons.mp hu with rfl | hu
            · exact ⟨x, t, rfl⟩
            · exact q2 u' hu
        | _ => exact absurd a'.1 (by simp [strB])
def rInStr (neg : Bool) : R2 := fun x y H Q => ∃ d p ys es, Dq H x d ∧ y = .ref p ∧ H p = some (.lst ys) ∧ DqAll H ys es ∧ allStr es = true ∧ Q (.bl (if neg = true then !inD es d else inD es d)) H
section
variable {X : Cx}
theorem op_inStr (hu : X.A.units + 64 < cLine) : OpR X (compareOp .In) (rInStr false) := by
  intro pins s σ H x y v u Q I rx ry h
  obtain ⟨d, p, ys, es, hd, rfl, hp, he, ha, q⟩ := h
  obtain ⟨as, r, _⟩ := Dq.reads I d x v hd rx
  cases (show u = Value.ref p from ry)
  obtain ⟨_, its, n, rv, ho⟩ := I.hok _ _ hp
  obtain ⟨q1, q2⟩ := any_str (d := d) he rv ha
  refine SeqAt.in_listAt (vStr d) ⟨_, ho, rfl, n, rfl⟩ (fun y hy => ?_) ⟨.bl _, H, I, rfl, ?_⟩
  · obtain ⟨z, t, rfl⟩ := q2 y (by simpa using hy)
    exact eqAt_str z t r (by show X.A.units + 1 < cLine; omega)
  · rw [List.any_toArray, q1]
    exact q
theorem op_notInStr (hu : X.A.units + 64 < cLine) : OpR X (compareOp .NotIn) (rInStr true) := by
  intro pins s σ H x y v u Q I rx ry h
  obtain ⟨d, p, ys, es, hd, rfl, hp, he, ha, q⟩ := h
  obtain ⟨as, r, _⟩ := Dq.reads I d x v hd rx
  cases (show u = Value.ref p from ry)
  obtain ⟨_, its, n, rv, ho⟩ := I.hok _ _ hp
  obtain ⟨q1, q2⟩ := any_str (d := d) he rv ha
  refine SeqAt.notIn_listAt (vStr d) ⟨_, ho, rfl, n, rfl⟩ (fun y hy => ?_) ⟨.bl _, H, I, rfl, ?_⟩
  · obtain ⟨z, t, rfl⟩ := q2 y (by simpa using hy)
    exact eqAt_str z t r (by show X.A.units + 1 < cLine; omega)
  · rw [List.any_toArray, q1]
    exact q
end
end KL
set_option Elab.async false
set_option linter.all false
set_option maxRecDepth 100000
set_option maxHeartbeats 2000000
namespace KL
open PySem L2 PySem.Spec PyProof.Rows
abbrev sIsSource : Stmt := top 25
abbrev sAreForms : Stmt := top 26
abbrev sAreMarks : Stmt := top 27
abbrev sIsArrow : Stmt := top 28
abbrev sIsTest : Stmt := top 29
abbrev sChkArrows : Stmt := top 30
abbrev sChkTests : Stmt := top 31
abbrev sAreLooks : Stmt := top 32
/-- what stands of a house so far -/
structure Kit where
  pe : Int
  pl : Int
  lo : Int
  dd : List PyData
  n : Nat
structure Hs (H : Hp) (v : V) (C : Addr) (k : Kit) : Prop where
  ex : ∃ a dx fs, v = .ref a ∧ H a = some (.ins C dx fs) ∧ fs.lookup ("people" : Str) = some (.int k.pe) ∧ fs.lookup ("places" : Str) = some (.int k.pl) ∧ fs.lookup ("logs" : Str) = some (.int k.lo) ∧
    (∃ q xs, fs.lookup ("deeds" : Str) = some (.ref q) ∧ H q = some (.tup xs) ∧ DqAll H xs k.dd) ∧ ∃ q xs, fs.lookup ("start" : Str) = some (.ref q) ∧ H q = some (.tup xs) ∧ xs.length = k.n
  dd : deedsD k.pe (.tuple k.dd) = true
  n1 : 1 ≤ k.n
  n3 : k.n ≤ 3
theorem Hs.same {H H' : Hp} {v : V} {C : Addr} {k : Kit} (h : Hs H v C k) (S : Same H H') : Hs H' v C k := by
  obtain ⟨⟨a, dx, fs, e, ha, h1, h2, h3, ⟨q, xs, h4, h5, h6⟩, q', xs', h7, h8, h9⟩, h10, h11, h12⟩ := h
  exact ⟨⟨a, dx, fs, e, S _ _ ha, h1, h2, h3, ⟨q, xs, h4, S _ _ h5, DqAll.same S _ _ h6⟩, q', xs', h7, S _ _ h8, h9⟩, h10, h11, h12⟩
structure TxtH (K : PySem.W.Frag) (C : Addr) : Prop where
  c : Cls K C
  people : NoAttr K C "people"
  deeds : NoAttr K C "deeds"
  start : NoAttr K C "start"
  places : NoAttr K C "places"
  ends : NoAttr K C "ends"
  logs : NoAttr K C "logs"
  arrows : NoAttr K C "arrows"
  tests : NoAttr K C "tests"
  looks : NoAttr K C "looks"
def spHs (C : Addr) (f : Kit → PyData → Bool) : Sp := fun vs H Q _ => ∃ (hv v : V) (d : PyData) (kt : Kit), vs = [hv, v] ∧ Hs H hv C kt ∧ Dq H v d ∧ smB d = true ∧ ∀ H', Same H H' → Q (.bl (f kt d)) H'
def spHs2 (C : Addr) (f : Kit → PyData → PyData → Bool) : Sp := fun vs H Q _ => ∃ (hv v v2 : V) (d d2 : PyData) (kt : Kit), vs = [hv, v, v2] ∧ Hs H hv C kt ∧ Dq H v d ∧ Dq H v2 d2 ∧ smB d = true ∧ smB d2 = true ∧ ∀ H', Same H H' → Q (.bl (f kt d d2)) H'
def srcD (k : Kit) (s d : PyData) : Bool := betD 0 (k.pl - 1) s && inD (k.dd.map (itemD 0)) d
def formsD (k : Kit) (d : PyData) : Bool := isTupD d && allD (formD k.n) d
def markD (d : PyData) : Bool := letD d || isStrD "" d
def marksD (k : Kit) (d : PyData) : Bool := tupD k.lo k.lo d && allD markD d
section
variable {P : Program} {w : World} {K : PySem.W.Frag} {mg : Str → Option Value} {base : Heap} {C : Addr}
theorem deeds_str {n : Int} {ds : List PyData} (h : deedsD n (.tuple ds) = true) : allStr (ds.map (itemD 0)) = true := by
  simp only [deedsD, Bool.and_eq_true] at h
  obtain ⟨h1, h2, h3⟩ := h
  have h2 : ds.all (deedD n) = true := h2
  show (ds.map (itemD 0)).all strB = true
  rw [List.all_map, List.all_eq_true]
  intro d hd
  obtain ⟨x, i, rfl, _⟩ := deed_of (List.all_eq_true.mp h2 d hd)
  rfl
theorem deeds_len {n : Int} {ds : List PyData} (h : deedsD n (.tuple ds) = true) : ds.length ≤ 5 := by
  simp only [deedsD, Bool.and_eq_true] at h
  obtain ⟨_, e, _, l2⟩ := tup_of h.1
  cases e
  omega
theorem scSource : FnScope ["house", "source", "deed", "letter", "owner"] ["house", "source", "deed"] (defScope sIsSource) := ⟨rfl, rfl, rfl, by decide +kernel, rfl, by decide +kernel, by decide +kernel⟩
theorem ok_source {f g : Addr} {fd gd : FuncData} (F : Fun K "is_source_and_deed" "is_source_and_deed" sIsSource f fd) (TH : TxtH K C) (G : FnOk P w K mg base CX0 2 g gd ["thing", "low", "high"] (spTest2 betD)) (c : Cal K mg "is_between" g gd ["thing", "low", "high"]) :
    FnOk P w K mg base CX0 3 f fd ["house", "source", "deed"] (spHs2 C srcD) := by
  refine F.ok scSource (fun vs H Q E h => ?_) (fun cdv A outer s H vs Q E hr h => ?_)
  · obtain ⟨hv, v, v2, d, d2, kt, rfl, _⟩ := h
    rfl
  · obtain ⟨hv, v, v2, d, d2, kt, rfl, hh, hd, hd2, sm, sm2, k⟩ := h
    refine ⟨_, pss_one (ps_ret (pe_and (pe_call G hr (by rfl) c.m c.k c.b .nil pass0 (pa_cons (pv 1) (pa_cons pe_int (pa_cons (pe_op op_sub (pe_fld (pv 0) (by rfl)) pe_int) pa_nil))))
      (pe_one (pe_cmpR (op_inStr hr.units) (pv 2) (pe_lc (own := [("letter", 3), ("owner", 4)]) (g := gTup K 2 (gCons (gName 3) (gCons (gName 4) gNil))) (tt := tYes) rfl scSource.nd (pi_tup (pe_fld (pv 0) (by rfl))) (blkOk_by (N := ["house", "source", "deed", "letter", "owner"]) (sc := defScope sIsSource) (by decide +kernel)) (fun _ _ _ _ _ => pg_tup rfl (pgs_cons (pg_name (i := 3) scSource.nd rfl (.inl rfl)) (pgs_cons (pg_name (i := 4) scSource.nd rfl (.inl rfl)) pgs_nil))) (fun _ _ _ _ _ => pts_nil)
        (fun _ _ _ _ _ => pv 3)) (by rfl))))), ?_⟩
    obtain ⟨a, dx, fs, rfl, ha, h1, h2, h3, ⟨q, xs, h4, h5, h6⟩, _⟩ := hh.ex
    refine ⟨_, rfl, _, rfl, a, C, dx, fs, _, rfl, ha, TH.c, TH.places, h2, _, _, rfl, rfl, v, d, 0, kt.pl - 1, rfl, hd, sm, fun H1 S1 => ⟨_, rfl, ?_⟩⟩
    by_cases hb : betD 0 (kt.pl - 1) d = true
    · refine iteYes hb ?_
      refine ⟨_, rfl, _, rfl, a, C, dx, fs, _, rfl, S1 _ _ ha, TH.c, TH.deeds, h4, q, rfl, ⟨_, SqT.of (S1 _ _ h5)⟩, fun B nB => ?_⟩
      refine lc_tup (K := K) (a := q) (xs := xs) (fun i H3 => MadeQ H1 B ((kt.dd.take i).map (itemD 0)) H3) (MadeQ.start nB) (fun i H3 _ M => SqT.of (M.1 _ _ (S1 _ _ h5))) ?_ ?_
      · rintro i x H3 hx M3
        obtain ⟨d', hd', hq⟩ := DqAll.at h6 hx
        have hi : i < kt.dd.length := (List.getElem?_eq_some_iff.mp hd').1
        have hdd := hh.dd
        simp only [deedsD, Bool.and_eq_true] at hdd
        have hdd := all_at (f := deedD kt.pe) hdd.2.1 hi
        rw [getD_of hd'] at hdd
        obtain ⟨lt, ow, rfl, _, _, _⟩ := deed_of hdd
        cases hq with
        | tup e' ha' =>
          cases ha' with
          | cons q1 r1 =>
            cases r1 with
            | cons q2 r2 =>
              cases r2
              rename_i b y0 y1
              refine ⟨b, _, rfl, SqT.of (M3.1 _ _ (S1 _ _ e')), rfl, y0, _, rfl, y1, _, rfl, rfl, rfl, ?_⟩
              refine ⟨_, rfl, ?_⟩
              exact M3.turn nB (Same.refl _) (Nat.le_trans (deeds_len hh.dd) (by decide)) hd' (Dq.same S1 _ y0 q1)
      · rintro H3 M3
        rw [h6.len, List.take_length] at M3
        obtain ⟨S3, ys, hy, hq⟩ := M3
        refine ⟨d2, B, ys, kt.dd.map (itemD 0), Dq.same (S1.trans S3) d2 v2 hd2, rfl, hy, DqAll.same S3 _ ys hq, deeds_str hh.dd, ?_⟩
        have q := k H3 (S1.trans S3)
        have e : srcD kt d d2 = inD (kt.dd.map (itemD 0)) d2 := by simp only [srcD, hb, Bool.true_and]
        rw [e] at q
        exact q
    · refine iteNo (by simpa using hb) ?_
      have q := k H1 S1
      have e : srcD kt d d2 = false := by simp only [srcD, hb, Bool.false_and]
      rw [e] at q
      exact q
theorem scForms : FnScope ["house", "thing", "count", "item"] ["house", "thing"] (defScope sAreForms) := ⟨rfl, rfl, rfl, by decide +kernel, rfl, by decide +kernel, by decide +kernel⟩
theorem ok_forms {f g : Addr} {fd gd : FuncData} (F : Fun K "are_forms" "are_forms" sAreForms f fd) (T : TxtB mg) (TH : TxtH K C) (G : FnOk P w K mg base CX0 2 g gd ["count", "thing"] spForm) (c : Cal K mg "is_form" g gd ["count", "thing"]) :
    FnOk P w K mg base CX0 3 f fd ["house", "thing"] (spHs C formsD) := by
  refine F.ok scForms (fun vs H Q E h => ?_) (fun cdv A outer s H vs Q E hr h => ?_)
  · obtain ⟨hv, v, d, kt, rfl, _⟩ := h
    rfl
  · obtain ⟨hv, v, d, kt, rfl, hh, hd, sm, k⟩ := h
    refine ⟨_, pss_cons (ps_set (i := 2) scForms.nd rfl (.inr rfl) (pe_callB call_len_seq (by rfl) T.len PySem.boot_len (pa_cons (pe_fld (pv 0) (by rfl)) pa_nil)))
      (pss_one (ps_ret (pe_and (pe_callB call_isD (by rfl) T.isi (by decide +kernel) (pa_cons (pv 1) (pa_cons (pe_bltn (v := .ty "tuple") (by rfl) T.tuple (by decide +kernel) rfl) pa_nil)))
        (pe_one (pe_callB (cr_all rfl) (by rfl) T.all (by decide +kernel) (pa_cons (pe_lc (own := [("item", 3)]) (g := gName 3) (tt := tYes) rfl scForms.nd (pi_tup (pv 1)) (blkOk_by (N := ["house", "thing", "count", "item"]) (sc := defScope sAreForms) (by decide +kernel)) (fun _ _ _ _ _ => pg_name (i := 3) scForms.nd rfl (.inl rfl)) (fun _ _ _ _ _ => pts_nil)
          (fun _ _ _ _ _ => pe_call G hr (by rfl) c.m c.k c.b .nil pass0 (pa_cons (pv 2) (pa_cons (pv 3) pa_nil)))) pa_nil)))))), ?_⟩
    obtain ⟨a, dx, fs, rfl, ha, h1, h2, h3, _, q, xs, h4, h5, h6⟩ := hh.ex
    refine ⟨_, rfl, a, C, dx, fs, _, rfl, ha, TH.c, TH.start, h4, q, xs, rfl, .inr (SqT.of h5), ?_⟩
    refine ⟨_, rfl, v, d, "tuple", rfl, by decide, hd, _, rfl, ?_⟩
    rw [h6]
    cases hd with
    | tup e hda =>
      rename_i b ys ds
      refine iteYes rfl ?_
      refine ⟨_, rfl, b, rfl, ⟨_, SqT.of e⟩, fun D nD => ?_⟩
      refine lc_tup (K := K) (a := b) (xs := ys) (fun i H2 => MadeTo H D (((ds.take i).map (formD kt.n)).map V.bl) H2) ⟨same_new nD, upd_same⟩ (fun i H2 _ M => SqT.of (M.1 _ _ e)) ?_ ?_
      · rintro i x H2 hx M
        obtain ⟨d', hd', hq⟩ := DqAll.at hda hx
        exact ⟨rfl, _, rfl, _, rfl, x, d', kt.n, rfl, Dq.same M.1 d' x hq, sm_at (sm_all sm) hd', fun H3 S3 => M.turn nD S3 (sm_len sm) hd'⟩
      · rintro H2 M
        rw [hda.len, List.take_length] at M
        refine ⟨D, _, rfl, SqL.of M.2, ?_⟩
        have q := k H2 M.1
        have e : formsD kt (.tuple ds) = (ds.map (formD kt.n)).all id := by simp only [formsD, isTupD, Bool.true_and, allD_map]
        rw [e] at q
        exact q
    | non => exact iteNo rfl (k H (Same.refl H))
    | bl _ => exact iteNo rfl (k H (Same.refl H))
    | int _ => exact iteNo rfl (k H (Same.refl H))
    | str _ => exact iteNo rfl (k H (Same.refl H))
    | lst _ _ => exact iteNo rfl (k H (Same.refl H))
    | dct0 _ => exact iteNo rfl (k H (Same.refl H))
    | dct1 _ => exact iteNo rfl (k H (Same.refl H))
theorem scMarks : FnScope ["house", "thing", "item"] ["house", "thing"] (defScope sAreMarks) := ⟨rfl, rfl, rfl, by decide +kernel, rfl, by decide +kernel, by decide +kernel⟩
theorem ok_marks {f g1 g2 : Addr} {fd gd1 gd2 : FuncData} (F : Fun K "are_marks" "are_marks" sAreMarks f fd) (T : TxtB mg) (TH : TxtH K C) (G1 : FnOk P w K mg base CX0 1 g1 gd1 ["thing", "low", "high"] (spTest2 tupD)) (c1 : Cal K mg "is_tuple_of" g1 gd1 ["thing", "low", "high"])
    (G2 : FnOk P w K mg base CX0 1 g2 gd2 ["thing"] (spTest letD)) (c2 : Cal K mg "is_letter" g2 gd2 ["thing"]) : FnOk P w K mg base CX0 2 f fd ["house", "thing"] (spHs C marksD) := by
  refine F.ok scMarks (fun vs H Q E h => ?_) (fun cdv A outer s H vs Q E hr h => ?_)
  · obtain ⟨hv, v, d, kt, rfl, _⟩ := h
    rfl
  · obtain ⟨hv, v, d, kt, rfl, hh, hd, sm, k⟩ := h
    refine ⟨_, pss_cons (ps_if (pt_not (pt_val (pe_call G1 hr (by rfl) c1.m c1.k c1.b .nil pass0 (pa_cons (pv 1) (pa_cons (pe_fld (pv 0) (by rfl)) (pa_cons (pe_fld (pv 0) (by rfl)) pa_nil)))))) (pss_one (ps_ret pe_bl)) pss_nil)
      (pss_one (ps_ret (pe_callB (cr_all rfl) (by rfl) T.all (by decide +kernel) (pa_cons (pe_lc (own := [("item", 2)]) (g := gName 2) (tt := tYes) rfl scMarks.nd (pi_tup (pv 1)) (blkOk_by (N := ["house", "thing", "item"]) (sc := defScope sAreMarks) (by decide +kernel)) (fun _ _ _ _ _ => pg_name (i := 2) scMarks.nd rfl (.inl rfl)) (fun _ _ _ _ _ => pts_nil)
          (fun _ _ _ _ _ => pe_or (pe_call G2 hr (by rfl) c2.m c2.k c2.b .nil pass0 (pa_cons (pv 2) pa_nil)) (pe_one (pe_cmpR (op_eqStr hr.units) (pv 2) pe_str (nomark _))))) pa_nil)))), ?_⟩
    obtain ⟨a, dx, fs, rfl, ha, h1, h2, h3, _⟩ := hh.ex
    refine ⟨_, rfl, _, rfl, a, C, dx, fs, _, rfl, ha, TH.c, TH.logs, h3, _, rfl, a, C, dx, fs, _, rfl, ha, TH.c, TH.logs, h3, v, d, kt.lo, kt.lo, rfl, hd, sm, fun H1 S1 => ⟨_, rfl, ?_⟩⟩
    by_cases hb : tupD kt.lo kt.lo d = true
    · refine iteNo (by rw [hb]; rfl) ?_
      obtain ⟨ds, rfl, l1, l2⟩ := tup_of hb
      cases hd with
      | tup e hda =>
        rename_i b ys
        refine ⟨_, rfl, b, rfl, ⟨_, SqT.of (S1 _ _ e)⟩, fun D nD => ?_⟩
        refine lc_tup (K := K) (a := b) (xs := ys) (fun i H2 => MadeTo H1 D (((ds.take i).map markD).map V.bl) H2) ⟨same_new nD, upd_same⟩ (fun i H2 _ M => SqT.of (M.1 _ _ (S1 _ _ e))) ?_ ?_
        · rintro i x H2 hx M
          obtain ⟨d', hd', hq⟩ := DqAll.at hda hx
          refine ⟨rfl, _, rfl, x, d', rfl, Dq.same (S1.trans M.1) d' x hq, sm_at (sm_all sm) hd', fun H3 S3 => ⟨_, rfl, ?_⟩⟩
          by_cases hl : letD d' = true
          · refine iteYes hl ?_
            have e : markD d' = true := by simp only [markD, hl, Bool.true_or]
            have q := M.turn (g := markD) nD S3 (sm_len sm) hd'
            rw [e] at q
            exact q
          · refine iteNo (by simpa using hl) ?_
            refine ⟨_, rfl, d', "", Dq.same (S1.trans (M.1.trans S3)) d' x hq, rfl, ?_⟩
            have e : markD d' = isStrD "" d' := by simp only [markD, hl, Bool.false_or]
            have q := M.turn (g := markD) nD S3 (sm_len sm) hd'
            rw [e] at q
            exact q
        · rintro H2 M
          rw [hda.len, List.take_length] at M
          refine ⟨D, _, rfl, SqL.of M.2, ?_⟩
          have q := k H2 (S1.trans M.1)
          have e : marksD kt (.tuple ds) = (ds.map markD).all id := by simp only [marksD, hb, Bool.true_and, allD_map]
          rw [e] at q
          exact q
    · refine iteYes (by simpa using hb) ?_
      have q := k H1 S1
      have e : marksD kt d = false := by simp only [marksD, hb, Bool.false_and]
      rw [e] at q
      exact q
end
end KL
set_option Elab.async false
set_option linter.all false
set_option maxRecDepth 100000
set_option maxHeartbeats 2000000
namespace KL
open PySem L2 PySem.Spec PyProof.Rows
def lenIs (n : Nat) (d : PyData) : Bool := decide ((itemsD d).length = n)
def arrowD (k : Kit) (d : PyData) : Bool := tupD 5 5 d && (srcD k (itemD 0 d) (itemD 1 d) && (betD 0 (k.pl - 1) (itemD 2 d) && (formsD k (itemD 3 d) && (lenIs k.n (itemD 3 d) && marksD k (itemD 4 d)))))
def leD : PyData → PyData → Bool
  | .int i, .int j => decide (i ≤ j)
  | _, _ => false
def testD (k : Kit) (d : PyData) : Bool := tupD 5 5 d && (srcD k (itemD 0 d) (itemD 1 d) && (formD k.n (itemD 2 d) && (intD (itemD 3 d) && (intD (itemD 4 d) && leD (itemD 3 d) (itemD 4 d)))))
def looksD (k : Kit) (d : PyData) : Bool := tupD k.pe k.pe d && (allD (tupD k.pl k.pl) d && allD (allD (formsD k)) d)
theorem five {ds : List PyData} (h1 : (5 : Int) ≤ (ds.length : Int)) (h2 : (ds.length : Int) ≤ 5) : ∃ a b c d e, ds = [a, b, c, d, e] := by
  match ds, h1, h2 with
  | [a, b, c, d, e], _, _ => exact ⟨a, b, c, d, e, rfl⟩
  | [], h, _ => simp at h
  | [_], h, _ => simp at h
  | [_, _], h, _ => simp at h
  | [_, _, _], h, _ => simp at h
  | [_, _, _, _], h, _ => simp at h
  | _ :: _ :: _ :: _ :: _ :: _ :: _, _, h =>
    simp at h
    omega
theorem isT_of {d : PyData} (h : isTupD d = true) : ∃ ds, d = .tuple ds := by
  cases d with
  | tuple ds => exact ⟨ds, rfl⟩
  | _ => cases h
theorem int_of {d : PyData} (h : intD d = true) : ∃ i, d = .int i := by
  cases d with
  | int i => exact ⟨i, rfl⟩
  | _ => cases h
section
variable {P : Program} {w : World} {K : PySem.W.Frag} {mg : Str → Option Value} {base : Heap} {C : Addr}
theorem scArrow : FnScope ["house", "thing", "source", "deed", "target", "forms", "marks"] ["house", "thing"] (defScope sIsArrow) := ⟨rfl, rfl, rfl, by decide +kernel, rfl, by decide +kernel, by decide +kernel⟩
theorem ok_arrow {f g1 g2 g3 g4 g5 : Addr} {fd gd1 gd2 gd3 gd4 gd5 : FuncData} (F : Fun K "is_arrow" "is_arrow" sIsArrow f fd) (T : TxtB mg) (TH : TxtH K C) (G1 : FnOk P w K mg base CX0 1 g1 gd1 ["thing", "low", "high"] (spTest2 tupD)) (c1 : Cal K mg "is_tuple_of" g1 gd1 ["thing", "low", "high"])
    (G2 : FnOk P w K mg base CX0 3 g2 gd2 ["house", "source", "deed"] (spHs2 C srcD)) (c2 : Cal K mg "is_source_and_deed" g2 gd2 ["house", "source", "deed"]) (G3 : FnOk P w K mg base CX0 2 g3 gd3 ["thing", "low", "high"] (spTest2 betD)) (c3 : Cal K mg "is_between" g3 gd3 ["thing", "low", "high"])
    (G4 : FnOk P w K mg base CX0 3 g4 gd4 ["house", "thing"] (spHs C formsD)) (c4 : Cal K mg "are_forms" g4 gd4 ["house", "thing"]) (G5 : FnOk P w K mg base CX0 2 g5 gd5 ["house", "thing"] (spHs C marksD)) (c5 : Cal K mg "are_marks" g5 gd5 ["house", "thing"]) :
    FnOk P w K mg base CX0 4 f fd ["house", "thing"] (spHs C arrowD) := by
  refine F.ok scArrow (fun vs H Q E h => ?_) (fun cdv A outer s H vs Q E hr h => ?_)
  · obtain ⟨hv, v, d, kt, rfl, _⟩ := h
    rfl
  · obtain ⟨hv, v, d, kt, rfl, hh, hd, sm, k⟩ := h
    have hr1 : Room 1 _ := hr.mono (by decide)
    have hr2 : Room 2 _ := hr.mono (by decide)
    have hr3 : Room 3 _ := hr.mono (by decide)
    refine ⟨_, pss_cons (ps_if (pt_not (pt_val (pe_call G1 hr1 (by rfl) c1.m c1.k c1.b .nil pass0 (pa_cons (pv 1) (pa_cons pe_int (pa_cons pe_int pa_nil)))))) (pss_one (ps_ret pe_bl)) pss_nil)
      (pss_cons (ps_asg (pv 1) (g := gTup K 5 (gCons (gName 2) (gCons (gName 3) (gCons (gName 4) (gCons (gName 5) (gCons (gName 6) gNil)))))) (pg_tup rfl (pgs_cons (pg_name (i := 2) scArrow.nd rfl (.inl rfl)) (pgs_cons (pg_name (i := 3) scArrow.nd rfl (.inl rfl)) (pgs_cons (pg_name (i := 4) scArrow.nd rfl (.inl rfl)) (pgs_cons (pg_name (i := 5) scArrow.nd rfl (.inl rfl)) (pgs_cons (pg_name (i := 6) scArrow.nd rfl (.inl rfl)) pgs_nil)))))))
      (pss_cons (ps_if (PW.pt (pw_or (pt_not (pt_val (pe_call G2 hr3 (by rfl) c2.m c2.k c2.b .nil pass0 (pa_cons (pv 0) (pa_cons (pv 2) (pa_cons (pv 3) pa_nil)))))) (pw_or1 (pt_not (pt_val (pe_call G3 hr2 (by rfl) c3.m c3.k c3.b .nil pass0 (pa_cons (pv 4) (pa_cons pe_int (pa_cons (pe_op op_sub (pe_fld (pv 0) (by rfl)) pe_int) pa_nil))))))))) (pss_one (ps_ret pe_bl)) pss_nil)
      (pss_one (ps_ret (pe_and (pe_call G4 hr3 (by rfl) c4.m c4.k c4.b .nil pass0 (pa_cons (pv 0) (pa_cons (pv 5) pa_nil)))
        (pe_and (pe_cmpR op_eq (pe_callB call_len_seq (by rfl) T.len PySem.boot_len (pa_cons (pv 5) pa_nil)) (pe_callB call_len_seq (by rfl) T.len PySem.boot_len (pa_cons (pe_fld (pv 0) (by rfl)) pa_nil)) (by rfl))
        (pe_one (pe_call G5 hr2 (by rfl) c5.m c5.k c5.b .nil pass0 (pa_cons (pv 0) (pa_cons (pv 6) pa_nil)))))))))), ?_⟩
    refine ⟨_, rfl, v, d, 5, 5, rfl, hd, sm, fun H1 S1 => ⟨_, rfl, ?_⟩⟩
    by_cases hb : tupD 5 5 d = true
    · refine iteNo (by rw [hb]; rfl) ?_
      obtain ⟨ds, rfl, l1, l2⟩ := tup_of hb
      obtain ⟨d0, d1, d2, d3, d4, rfl⟩ := five l1 l2
      cases hd with
      | @tup b xs _ e hda =>
        cases hda with
        | @cons y0 _ _ _ q0 hda =>
        cases hda with
        | @cons y1 _ _ _ q1 hda =>
        cases hda with
        | @cons y2 _ _ _ q2 hda =>
        cases hda with
        | @cons y3 _ _ _ q3 hda =>
        cases hda with
        | @cons y4 _ _ _ q4 hda =>
        cases hda
        have sA := sm_all sm
        have s0 : smB d0 = true := sm_at (i := 0) sA rfl
        have s1 : smB d1 = true := sm_at (i := 1) sA rfl
        have s2 : smB d2 = true := sm_at (i := 2) sA rfl
        have s3 : smB d3 = true := sm_at (i := 3) sA rfl
        have s4 : smB d4 = true := sm_at (i := 4) sA rfl
        refine ⟨_, rfl, b, _, rfl, SqT.of (S1 _ _ e), rfl, y0, _, rfl, y1, _, rfl, y2, _, rfl, y3, _, rfl, y4, _, rfl, rfl, ?_⟩
        refine ⟨_, rfl, y0, rfl, y1, rfl, hv, y0, y1, d0, d1, kt, rfl, hh.same S1, Dq.same S1 _ _ q0, Dq.same S1 _ _ q1, s0, s1, fun H2 S2 => ⟨_, rfl, ?_⟩⟩
        have S12 := S1.trans S2
        by_cases h1 : srcD kt d0 d1 = true
        · refine iteNo (by rw [h1]; rfl) ?_
          obtain ⟨a, dx, fs, rfl, ha, _, hpl, _, _, sq, sx, hst, hsq, hsn⟩ := (hh.same S12).ex
          refine ⟨_, rfl, _, rfl, a, C, dx, fs, _, rfl, ha, TH.c, TH.places, hpl, _, _, rfl, rfl, y2, d2, 0, kt.pl - 1, rfl, Dq.same S12 _ _ q2, s2, fun H3 S3 => ⟨_, rfl, ?_⟩⟩
          have S13 := S12.trans S3
          by_cases h2 : betD 0 (kt.pl - 1) d2 = true
          · refine iteNo (by rw [h2]; rfl) ?_
            refine ⟨_, rfl, y3, rfl, V.ref a, y3, d3, kt, rfl, hh.same S13, Dq.same S13 _ _ q3, s3, fun H4 S4 => ⟨_, rfl, ?_⟩⟩
            have S14 := S13.trans S4
            by_cases h3 : formsD kt d3 = true
            · refine iteYes h3 ?_
              obtain ⟨fds, rfl⟩ := isT_of (Bool.and_eq_true_iff.mp h3).1
              cases q3 with
              | @tup fb fxs _ fe fda =>
                refine ⟨_, rfl, fb, fxs, rfl, .inr (SqT.of (S14 _ _ fe)), _, rfl, a, C, dx, fs, _, rfl, (S3.trans S4) _ _ ha, TH.c, TH.start, hst, sq, sx, rfl, .inr (SqT.of ((S3.trans S4) _ _ hsq)), rfl, _, rfl, ?_⟩
                rw [hsn, fda.len]
                by_cases h4 : fds.length = kt.n
                · refine iteYes (decide_eq_true (by rw [h4])) ?_
                  refine ⟨_, rfl, y4, rfl, V.ref a, y4, d4, kt, rfl, hh.same S14, Dq.same S14 _ _ q4, s4, fun H5 S5 => ?_⟩
                  have q := k H5 (S14.trans S5)
                  have e : arrowD kt (.tuple [d0, d1, d2, .tuple fds, d4]) = marksD kt d4 := by
                    show (tupD 5 5 _ && (srcD kt d0 d1 && (betD 0 (kt.pl - 1) d2 && (formsD kt (.tuple fds) && (decide (fds.length = kt.n) && marksD kt d4))))) = _
                    rw [hb, h1, h2, h3, decide_eq_true h4]
                    rfl
                  rw [e] at q
                  exact q
                · refine iteNo (decide_eq_false fun z => h4 ?_) ?_
                  · injection z with z
                    omega
                  · have q := k H4 S14
                    have e : arrowD kt (.tuple [d0, d1, d2, .tuple fds, d4]) = false := by
                      show (tupD 5 5 _ && (srcD kt d0 d1 && (betD 0 (kt.pl - 1) d2 && (formsD kt (.tuple fds) && (decide (fds.length = kt.n) && marksD kt d4))))) = _
                      rw [hb, h1, h2, h3, decide_eq_false h4]
                      rfl
                    rw [e] at q
                    exact q
            · have h3 : formsD kt d3 = false := by simpa using h3
              refine iteNo h3 ?_
              have q := k H4 S14
              have e : arrowD kt (.tuple [d0, d1, d2, d3, d4]) = false := by
                show (tupD 5 5 _ && (srcD kt d0 d1 && (betD 0 (kt.pl - 1) d2 && (formsD kt d3 && (lenIs kt.n d3 && marksD kt d4))))) = _
                rw [hb, h1, h2, h3]
                rfl
              rw [e] at q
              exact q
          · have h2 : betD 0 (kt.pl - 1) d2 = false := by simpa using h2
            refine iteYes (by rw [h2]; rfl) ?_
            have q := k H3 S13
            have e : arrowD kt (.tuple [d0, d1, d2, d3, d4]) = false := by
              show (tupD 5 5 _ && (srcD kt d0 d1 && (betD 0 (kt.pl - 1) d2 && (formsD kt d3 && (lenIs kt.n d3 && marksD kt d4))))) = _
              rw [hb, h1, h2]
              rfl
            rw [e] at q
            exact q
        · have h1 : srcD kt d0 d1 = false := by simpa using h1
          refine iteYes (by rw [h1]; rfl) (iteYes rfl ?_)
          have q := k H2 S12
          have e : arrowD kt (.tuple [d0, d1, d2, d3, d4]) = false := by
            show (tupD 5 5 _ && (srcD kt d0 d1 && (betD 0 (kt.pl - 1) d2 && (formsD kt d3 && (lenIs kt.n d3 && marksD kt d4))))) = _
            rw [hb, h1]
            rfl
          rw [e] at q
          exact q
    · have hb : tupD 5 5 d = false := by simpa using hb
      refine iteYes (by rw [hb]; rfl) ?_
      have q := k H1 S1
      have e : arrowD kt d = false := by simp only [arrowD, hb, Bool.false_and]
      rw [e] at q
      exact q
end
end KL
set_option Elab.async false
set_option linter.all false
set_option maxRecDepth 100000
set_option maxHeartbeats 2000000
namespace KL
open PySem L2 PySem.Spec PyProof.Rows
section
variable {P : Program} {w : World} {K : PySem.W.Frag} {mg : Str → Option Value} {base : Heap} {C : Addr}
theorem scTest : FnScope ["house", "thing", "source", "deed", "form", "low", "high"] ["house", "thing"] (defScope sIsTest) := ⟨rfl, rfl, rfl, by decide +kernel, rfl, by decide +kernel, by decide +kernel⟩
theorem ok_test {f g1 g2 g3 g4 : Addr} {fd gd1 gd2 gd3 gd4 : FuncData} (F : Fun K "is_test" "is_test" sIsTest f fd) (T : TxtB mg) (TH : TxtH K C) (G1 : FnOk P w K mg base CX0 1 g1 gd1 ["thing", "low", "high"] (spTest2 tupD)) (c1 : Cal K mg "is_tuple_of" g1 gd1 ["thing", "low", "high"])
    (G2 : FnOk P w K mg base CX0 3 g2 gd2 ["house", "source", "deed"] (spHs2 C srcD)) (c2 : Cal K mg "is_source_and_deed" g2 gd2 ["house", "source", "deed"]) (G3 : FnOk P w K mg base CX0 2 g3 gd3 ["count", "thing"] spForm) (c3 : Cal K mg "is_form" g3 gd3 ["count", "thing"])
    (G4 : FnOk P w K mg base CX0 1 g4 gd4 ["thing"] (spTest intD)) (c4 : Cal K mg "is_int" g4 gd4 ["thing"]) :
    FnOk P w K mg base CX0 4 f fd ["house", "thing"] (spHs C testD) := by
  refine F.ok scTest (fun vs H Q E h => ?_) (fun cdv A outer s H vs Q E hr h => ?_)
  · obtain ⟨hv, v, d, kt, rfl, _⟩ := h
    rfl
  · obtain ⟨hv, v, d, kt, rfl, hh, hd, sm, k⟩ := h
    have hr1 : Room 1 _ := hr.mono (by decide)
    have hr2 : Room 2 _ := hr.mono (by decide)
    have hr3 : Room 3 _ := hr.mono (by decide)
    refine ⟨_, pss_cons (ps_if (pt_not (pt_val (pe_call G1 hr1 (by rfl) c1.m c1.k c1.b .nil pass0 (pa_cons (pv 1) (pa_cons pe_int (pa_cons pe_int pa_nil)))))) (pss_one (ps_ret pe_bl)) pss_nil)
      (pss_cons (ps_asg (pv 1) (g := gTup K 5 (gCons (gName 2) (gCons (gName 3) (gCons (gName 4) (gCons (gName 5) (gCons (gName 6) gNil)))))) (pg_tup rfl (pgs_cons (pg_name (i := 2) scTest.nd rfl (.inl rfl)) (pgs_cons (pg_name (i := 3) scTest.nd rfl (.inl rfl)) (pgs_cons (pg_name (i := 4) scTest.nd rfl (.inl rfl)) (pgs_cons (pg_name (i := 5) scTest.nd rfl (.inl rfl)) (pgs_cons (pg_name (i := 6) scTest.nd rfl (.inl rfl)) pgs_nil)))))))
      (pss_cons (ps_if (PW.pt (pw_or (pt_not (pt_val (pe_call G2 hr3 (by rfl) c2.m c2.k c2.b .nil pass0 (pa_cons (pv 0) (pa_cons (pv 2) (pa_cons (pv 3) pa_nil)))))) (pw_or1 (pt_not (pt_val (pe_call G3 hr2 (by rfl) c3.m c3.k c3.b .nil pass0 (pa_cons (pe_callB call_len_seq (by rfl) T.len PySem.boot_len (pa_cons (pe_fld (pv 0) (by rfl)) pa_nil)) (pa_cons (pv 4) pa_nil)))))))) (pss_one (ps_ret pe_bl)) pss_nil)
      (pss_one (ps_ret (pe_and (pe_call G4 hr1 (by rfl) c4.m c4.k c4.b .nil pass0 (pa_cons (pv 5) pa_nil))
        (pe_and (pe_call G4 hr1 (by rfl) c4.m c4.k c4.b .nil pass0 (pa_cons (pv 6) pa_nil))
        (pe_one (pe_cmpR op_le (pv 5) (pv 6) (nomark _))))))))), ?_⟩
    refine ⟨_, rfl, v, d, 5, 5, rfl, hd, sm, fun H1 S1 => ⟨_, rfl, ?_⟩⟩
    by_cases hb : tupD 5 5 d = true
    · refine iteNo (by rw [hb]; rfl) ?_
      obtain ⟨ds, rfl, l1, l2⟩ := tup_of hb
      obtain ⟨d0, d1, d2, d3, d4, rfl⟩ := five l1 l2
      have key : testD kt (.tuple [d0, d1, d2, d3, d4]) = (srcD kt d0 d1 && (formD kt.n d2 && (intD d3 && (intD d4 && leD d3 d4)))) := by
        show (tupD 5 5 _ && (srcD kt d0 d1 && (formD kt.n d2 && (intD d3 && (intD d4 && leD d3 d4))))) = _
        rw [hb]
        rfl
      cases hd with
      | @tup b xs _ e hda =>
        cases hda with
        | @cons y0 _ _ _ q0 hda =>
        cases hda with
        | @cons y1 _ _ _ q1 hda =>
        cases hda with
        | @cons y2 _ _ _ q2 hda =>
        cases hda with
        | @cons y3 _ _ _ q3 hda =>
        cases hda with
        | @cons y4 _ _ _ q4 hda =>
        cases hda
        have sA := sm_all sm
        have s0 : smB d0 = true := sm_at (i := 0) sA rfl
        have s1 : smB d1 = true := sm_at (i := 1) sA rfl
        have s2 : smB d2 = true := sm_at (i := 2) sA rfl
        have s3 : smB d3 = true := sm_at (i := 3) sA rfl
        have s4 : smB d4 = true := sm_at (i := 4) sA rfl
        refine ⟨_, rfl, b, _, rfl, SqT.of (S1 _ _ e), rfl, y0, _, rfl, y1, _, rfl, y2, _, rfl, y3, _, rfl, y4, _, rfl, rfl, ?_⟩
        refine ⟨_, rfl, y0, rfl, y1, rfl, hv, y0, y1, d0, d1, kt, rfl, hh.same S1, Dq.same S1 _ _ q0, Dq.same S1 _ _ q1, s0, s1, fun H2 S2 => ⟨_, rfl, ?_⟩⟩
        have S12 := S1.trans S2
        by_cases h1 : srcD kt d0 d1 = true
        · rw [h1] at key
          refine iteNo (by rw [h1]; rfl) ?_
          obtain ⟨a, dx, fs, rfl, ha, _, hpl, _, _, sq, sx, hst, hsq, hsn⟩ := (hh.same S12).ex
          refine ⟨_, rfl, a, C, dx, fs, _, rfl, ha, TH.c, TH.start, hst, sq, sx, rfl, .inr (SqT.of hsq), y2, rfl, y2, d2, kt.n, (by rw [hsn]; rfl), Dq.same S12 _ _ q2, s2, fun H3 S3 => ⟨_, rfl, ?_⟩⟩
          have S13 := S12.trans S3
          by_cases h2 : formD kt.n d2 = true
          · rw [h2] at key
            refine iteNo (by rw [h2]; rfl) ?_
            refine ⟨_, rfl, y3, d3, rfl, Dq.same S13 _ _ q3, s3, fun H4 S4 => ⟨_, rfl, ?_⟩⟩
            have S14 := S13.trans S4
            by_cases h3 : intD d3 = true
            · rw [h3] at key
              refine iteYes h3 ?_
              refine ⟨_, rfl, y4, d4, rfl, Dq.same S14 _ _ q4, s4, fun H5 S5 => ⟨_, rfl, ?_⟩⟩
              have S15 := S14.trans S5
              have q := k H5 S15
              rw [key] at q
              by_cases h4 : intD d4 = true
              · rw [h4] at q
                refine iteYes h4 ?_
                obtain ⟨i, rfl⟩ := int_of h3
                obtain ⟨j, rfl⟩ := int_of h4
                cases q3
                cases q4
                exact ⟨_, rfl, _, rfl, i, j, rfl, rfl, q⟩
              · have h4 : intD d4 = false := by simpa using h4
                rw [h4] at q
                exact iteNo h4 q
            · have h3 : intD d3 = false := by simpa using h3
              have q := k H4 S14
              rw [key, h3] at q
              exact iteNo h3 q
          · have h2 : formD kt.n d2 = false := by simpa using h2
            have q := k H3 S13
            rw [key, h2] at q
            exact iteYes (by rw [h2]; rfl) q
        · have h1 : srcD kt d0 d1 = false := by simpa using h1
          have q := k H2 S12
          rw [key, h1] at q
          exact iteYes (by rw [h1]; rfl) (iteYes rfl q)
    · have hb : tupD 5 5 d = false := by simpa using hb
      refine iteYes (by rw [hb]; rfl) ?_
      have q := k H1 S1
      have e : testD kt d = false := by simp only [testD, hb, Bool.false_and]
      rw [e] at q
      exact q
/-! ### looks -/
theorem pe_fldB {X : Cx} {e : Expr} {f : Str} {pos : Pos} {ta : TE} (K : PySem.W.Frag) (hK : X.K = K) (he : PE X e ta) (hb : attributeBase e f X.env (eval e X.env) = eval e X.env) : PE X (.Attribute e f pos) (tFld K ta f) := by
  rw [← hK]
  exact pe_fld he hb
theorem pi_tupB {X : Cx} {tg l : Expr} {tl : TE} (K : PySem.W.Frag) (hK : X.K = K) (he : PE X l tl) : PI X tg l (iTup K tl) := by
  rw [← hK]
  exact pi_tup he
theorem tup_turns {K : PySem.W.Frag} {a : Addr} {xs : List V} {body : (Hp → Prop) → V → Hp → Prop} {Hs : Hp} {Qd : Hp → Prop} (Pv : Nat → Hp → Prop) (h0 : Pv 0 Hs) (hl : ∀ i H, i ≤ xs.length → Pv i H → SqT K H a xs)
    (hs : ∀ i x H, xs[i]? = some x → Pv i H → body (Pv (i + 1)) x H) (hd : ∀ H, Pv xs.length H → Qd H) :
    ∃ W : Nat → Nat → Hp → Prop, (∃ m, W 0 m Hs) ∧ ∀ i m H, W i m H →
      ((Itt K a).stop i H ∧ Qd H) ∨ ((Itt K a).go i H ∧ ∃ Nx : Hp → Prop, (∀ H', Nx H' → ∃ m', m' < m ∧ W (i + 1) m' H') ∧ ∀ x H', (Itt K a).yld i H x H' → body Nx x H') := by
  refine ⟨fun i m H => m = xs.length - i ∧ i ≤ xs.length ∧ Pv i H, ⟨xs.length, by simp, Nat.zero_le _, h0⟩, ?_⟩
  rintro i m H ⟨rfl, hi, p⟩
  have q := hl i H hi p
  by_cases hlt : i < xs.length
  · refine .inr ⟨⟨xs, xs[i], q, by simp [hlt]⟩, Pv (i + 1), fun H' p' => ⟨xs.length - (i + 1), by omega, rfl, hlt, p'⟩, fun x H' y => ?_⟩
    obtain ⟨e, y⟩ := y
    subst e
    exact hs i x _ (y xs q) p
  · have e : i = xs.length := by omega
    subst e
    exact .inl ⟨⟨xs, q, Nat.le_refl _⟩, hd H p⟩
def rowB (k : Kit) (d : PyData) : List Bool := (itemsD d).map (formsD k)
theorem rows_len {k : Kit} : ∀ {ds : List PyData}, smAll ds = true → (ds.flatMap (rowB k)).length ≤ 1000 * ds.length
  | [], _ => Nat.le_refl _
  | d :: ds, h => by
    have h' := Bool.and_eq_true_iff.mp (show (smB d && smAll ds) = true from h)
    rw [List.flatMap_cons, List.length_append, List.length_cons]
    have q := rows_len (k := k) h'.2
    have r : (rowB k d).length ≤ 1000 := by
      unfold rowB
      rw [List.length_map]
      cases d with
      | tuple es => exact sm_len h'.1
      | _ => exact Nat.zero_le _
    omega
theorem sm_take : ∀ {ds : List PyData} (i : Nat), smAll ds = true → smAll (ds.take i) = true
  | [], _, _ => by
    rw [List.take_nil]
    rfl
  | _ :: _, 0, _ => rfl
  | d :: ds, i + 1, h => by
    have h' := Bool.and_eq_true_iff.mp (show (smB d && smAll ds) = true from h)
    show (smB d && smAll (ds.take i)) = true
    rw [h'.1, sm_take i h'.2]
    rfl
theorem rows_all {k : Kit} : ∀ {ds : List PyData}, ds.all isTupD = true → (ds.flatMap (rowB k)).all id = ds.all (allD (formsD k))
  | [], _ => rfl
  | d :: ds, h => by
    have h' := Bool.and_eq_true_iff.mp (show (isTupD d && ds.all isTupD) = true from h)
    obtain ⟨es, rfl⟩ := isT_of h'.1
    rw [List.flatMap_cons, List.all_append, rows_all h'.2, List.all_cons]
    show ((es.map (formsD k)).all id && _) = (es.all (formsD k) && _)
    rw [List.all_map]
    rfl
theorem scLooks : FnScope ["house", "thing", "row", "forms"] ["house", "thing"] (defScope sAreLooks) := ⟨rfl, rfl, rfl, by decide +kernel, rfl, by decide +kernel, by decide +kernel⟩
theorem ok_looks {f g1 g2 : Addr} {fd gd1 gd2 : FuncData} (F : Fun K "are_looks" "are_looks" sAreLooks f fd) (T : TxtB mg) (TH : TxtH K C) (G1 : FnOk P w K mg base CX0 1 g1 gd1 ["thing", "low", "high"] (spTest2 tupD)) (c1 : Cal K mg "is_tuple_of" g1 gd1 ["thing", "low", "high"])
    (G2 : FnOk P w K mg base CX0 3 g2 gd2 ["house", "thing"] (spHs C formsD)) (c2 : Cal K mg "are_forms" g2 gd2 ["house", "thing"]) : FnOk P w K mg base CX0 4 f fd ["house", "thing"] (spHs C looksD) := by
  refine F.ok scLooks (fun vs H Q E h => ?_) (fun cdv A outer s H vs Q E hr h => ?_)
  · obtain ⟨hv, v, d, kt, rfl, _⟩ := h
    rfl
  · obtain ⟨hv, v, d, kt, rfl, hh, hd, sm, k⟩ := h
    have hr1 : Room 1 _ := hr.mono (by decide)
    refine ⟨_, pss_cons (ps_if (pt_not (pt_val (pe_call G1 hr1 (by rfl) c1.m c1.k c1.b .nil pass0 (pa_cons (pv 1) (pa_cons (pe_fld (pv 0) (by rfl)) (pa_cons (pe_fld (pv 0) (by rfl)) pa_nil)))))) (pss_one (ps_ret pe_bl)) pss_nil)
      (pss_cons (ps_if (pt_not (pt_val (pe_callB (cr_all rfl) (by rfl) T.all (by decide +kernel) (pa_cons (pe_lc (own := [("row", 2)]) (g := gName 2) (tt := tYes) rfl scLooks.nd (pi_tup (pv 1)) (blkOk_by (N := ["house", "thing", "row", "forms"]) (sc := defScope sAreLooks) (by decide +kernel)) (fun _ _ _ _ _ => pg_name (i := 2) scLooks.nd rfl (.inl rfl)) (fun _ _ _ _ _ => pts_nil)
          (fun _ _ _ _ _ => pe_call G1 hr1 (by rfl) c1.m c1.k c1.b .nil pass0 (pa_cons (pv 2) (pa_cons (pe_fldB K rfl (pv 0) (by rfl)) (pa_cons (pe_fldB K rfl (pv 0) (by rfl)) pa_nil))))) pa_nil)))) (pss_one (ps_ret pe_bl)) pss_nil)
      (pss_one (ps_ret (pe_callB (cr_all rfl) (by rfl) T.all (by decide +kernel) (pa_cons (pe_lc2 (own := [("row", 2), ("forms", 3)]) (vs1 := [3]) (g := gName 2) (tt := tYes) (g1 := gName 3) (tt1 := tYes) rfl scLooks.nd (pi_tup (pv 1)) (blkOk_by (N := ["house", "thing", "row", "forms"]) (sc := defScope sAreLooks) (by decide +kernel)) (by decide) (fun _ _ _ _ _ => pg_name (i := 2) scLooks.nd rfl (.inl rfl)) (fun _ _ _ _ _ => pts_nil)
          (fun _ _ _ _ _ => pi_tupB K rfl (pv 2)) (fun _ _ _ _ _ => pg_name (i := 3) scLooks.nd rfl (.inl rfl)) (fun _ _ _ _ _ => pts_nil)
          (fun _ _ _ _ _ => pe_call G2 hr (by rfl) c2.m c2.k c2.b .nil pass0 (pa_cons (pv 0) (pa_cons (pv 3) pa_nil)))) pa_nil))))), ?_⟩
    obtain ⟨a, dx, fs, rfl, ha, hpe, hpl, _⟩ := hh.ex
    refine ⟨_, rfl, _, rfl, a, C, dx, fs, _, rfl, ha, TH.c, TH.people, hpe, _, rfl, a, C, dx, fs, _, rfl, ha, TH.c, TH.people, hpe, v, d, kt.pe, kt.pe, rfl, hd, sm, fun H1 S1 => ⟨_, rfl, ?_⟩⟩
    by_cases hb : tupD kt.pe kt.pe d = true
    · refine iteNo (by rw [hb]; rfl) ?_
      obtain ⟨ds, rfl, l1, l2⟩ := tup_of hb
      cases hd with
      | @tup b ys _ e hda =>
        refine ⟨_, rfl, b, rfl, ⟨_, SqT.of (S1 _ _ e)⟩, fun D nD => ?_⟩
        refine lc_tup (K := K) (a := b) (xs := ys) (fun i H2 => MadeTo H1 D (((ds.take i).map (tupD kt.pl kt.pl)).map V.bl) H2) ⟨same_new nD, upd_same⟩ (fun i H2 _ M => SqT.of (M.1 _ _ (S1 _ _ e))) ?_ ?_
        · rintro i x H2 hx M
          obtain ⟨d', hd', hq⟩ := DqAll.at hda hx
          have S2 := S1.trans M.1
          exact ⟨rfl, _, rfl, _, rfl, a, C, dx, fs, _, rfl, S2 _ _ ha, TH.c, TH.places, hpl, _, rfl, a, C, dx, fs, _, rfl, S2 _ _ ha, TH.c, TH.places, hpl, x, d', kt.pl, kt.pl, rfl, Dq.same S2 d' x hq, sm_at (sm_all sm) hd', fun H3 S3 => M.turn nD S3 (sm_len sm) hd'⟩
        · rintro H2 M
          rw [hda.len, List.take_length] at M
          refine ⟨D, _, rfl, SqL.of M.2, _, rfl, ?_⟩
          rw [allD_map]
          have S2 := S1.trans M.1
          by_cases h1 : allD (tupD kt.pl kt.pl) (.tuple ds) = true
          · refine iteNo (by rw [h1]; rfl) ?_
            have hT : ds.all isTupD = true := by
              rw [List.all_eq_true]
              intro d' hd'
              obtain ⟨es, rfl, _⟩ := tup_of (List.all_eq_true.mp (show ds.all (tupD kt.pl kt.pl) = true from h1) d' hd')
              rfl
            refine ⟨_, rfl, b, rfl, ⟨_, SqT.of (S2 _ _ e)⟩, fun B nB => ?_⟩
            refine tup_turns (K := K) (a := b) (xs := ys) (fun i H3 => MadeTo H2 B (((ds.take i).flatMap (rowB kt)).map V.bl) H3) ⟨same_new nB, upd_same⟩ (fun i H3 _ M3 => SqT.of (M3.1 _ _ (S2 _ _ e))) ?_ ?_
            · rintro i x H3 hx M3
              obtain ⟨d', hd', hq⟩ := DqAll.at hda hx
              have hi : i < ds.length := (List.getElem?_eq_some_iff.mp hd').1
              obtain ⟨es, rfl⟩ := isT_of (List.all_eq_true.mp hT d' (List.mem_of_getElem? hd'))
              cases hq with
              | @tup rb rxs _ re rda =>
                refine ⟨rfl, _, rfl, rb, rfl, ⟨_, SqT.of (M3.1 _ _ (S2 _ _ re))⟩, ?_⟩
                have hsm : smB (.tuple es) = true := sm_at (sm_all sm) hd'
                have base0 : (ds.take (i + 1)).flatMap (rowB kt) = (ds.take i).flatMap (rowB kt) ++ es.map (formsD kt) := by
                  rw [List.take_add_one, hd', List.flatMap_append]
                  show _ ++ (rowB kt (.tuple es) ++ []) = _
                  rw [List.append_nil]
                  rfl
                refine tup_turns (K := K) (a := rb) (xs := rxs) (fun j H4 => MadeTo H2 B (((ds.take i).flatMap (rowB kt) ++ (es.take j).map (formsD kt)).map V.bl) H4) (by rw [List.take_zero, List.map_nil, List.append_nil]; exact M3) (fun j H4 _ M4 => SqT.of (M4.1 _ _ (S2 _ _ re))) ?_ ?_
                · rintro j y H4 hy M4
                  obtain ⟨d2, hd2, hq2⟩ := DqAll.at rda hy
                  refine ⟨rfl, _, rfl, y, rfl, V.ref a, y, d2, kt, rfl, hh.same (S2.trans M4.1), Dq.same (S2.trans M4.1) d2 y hq2, sm_at (sm_all hsm) hd2, fun H5 S5 => ?_⟩
                  have m := M4.more (.bl (formsD kt d2)) nB S5
                  refine ⟨_, m.1, ?_, ?_⟩
                  · rw [List.length_map, List.length_append, List.length_map, List.length_take]
                    have z1 := rows_len (k := kt) (sm_take i (sm_all sm))
                    rw [List.length_take] at z1
                    have z2 := sm_len sm
                    have z3 := sm_len hsm
                    rw [sizeLine_eq]
                    have z4 : 1000 * min i ds.length ≤ 1000 * 1000 := Nat.mul_le_mul_left _ (by omega)
                    omega
                  · rw [take_map hd2, ← List.append_assoc, List.map_append]
                    exact m.2
                · rintro H4 M4
                  rw [rda.len, List.take_length] at M4
                  rw [base0]
                  exact M4
            · rintro H3 M3
              rw [hda.len, List.take_length] at M3
              refine ⟨B, _, rfl, SqL.of M3.2, ?_⟩
              have q := k H3 (S2.trans M3.1)
              have e : looksD kt (.tuple ds) = (ds.flatMap (rowB kt)).all id := by
                rw [rows_all hT]
                simp only [looksD, hb, h1, Bool.true_and]
                rfl
              rw [e] at q
              exact q
          · refine iteYes (by simpa using h1) ?_
            have h1 : allD (tupD kt.pl kt.pl) (.tuple ds) = false := by simpa using h1
            have q := k H2 S2
            have e : looksD kt (.tuple ds) = false := by simp only [looksD, hb, h1, Bool.true_and, Bool.false_and]
            rw [e] at q
            exact q
    · have hb : tupD kt.pe kt.pe d = false := by simpa using hb
      refine iteYes (by rw [hb]; rfl) ?_
      have q := k H1 S1
      have e : looksD kt d = false := by simp only [looksD, hb, Bool.false_and]
      rw [e] at q
      exact q
end
end KL
set_option Elab.async false
set_option linter.all false
set_option maxRecDepth 100000
set_option maxHeartbeats 4000000
namespace PySem
namespace KX
open PySem.W PySem.Calls PyProof.Rows
abbrev excB : List Value := [.type "Exception", .type "BaseException", .type "object"]
/-! ### a call of an error's class with keywords alone -/
section
variable {M : Model} {A : Around} {E : Value → Shared → Prop} {h : Heap} {g : Array GenState} {d : Drawn} {t : Nat} {os : OsState}
variable {nm q : Str} {C N : Addr} {bs bm bmB : List Value} {hdct : Bool} {sn : List Str} {sub : List Value} {ab : Bool} {col : Option Bool} {dd : Option Addr} {k0 k1 k2 k3 k5 : Option Value} {B newId initId : String}
theorem newCheckK (F : ExcBaseFacts B newId initId bmB) (hT : ∀ X : String, bm.contains (.type X) = bmB.contains (.type X)) {kw : List (Str × Value)} {Q : Unit → Shared → Prop}
    (hC : h.get? C = some (excClassObj nm q C N bs bm hdct sn sub ab col dd k0 k1 k2 k3 k5 newId)) (hq : Q () ⟨h, g, d, t, os⟩) : wpAny M A (checkBuiltinCall newId ⟨[.ref C], kw⟩) Q E ⟨h, g, d, t, os⟩ := by
  have z1 : (Value.ref C :: bm).contains (.type B) = true := by
    rw [List.contains_cons, hT, F.hasB, Bool.or_true]
  have z2 := F.noStar
  simp only [checkBuiltinCall, F.newKind, F.newSplit, F.newRow]
  repeat (first
    | refine wpAny_loadPart_at hC ?_
    | (refine wpAny_isSubtype_exc hC ?_
       rw [z1])
    | refine wpAny_staticBase_exc hC ?_
    | refine wpAny_madeBy_exc hC ?_
    | simp only [bne_self_eq_false, Bool.false_eq_true, if_false]
    | wp_step)
  exact hq
end
section
variable {prog : Program} {w : World} {A : Around} {E : Value → Shared → Prop} {R : Result → Shared → Prop} {h : Heap} {g : Array GenState} {d : Drawn} {t : Nat} {os : OsState}
variable {nm q : Str} {C N : Addr} {bs bm bmB : List Value} {hdct : Bool} {sn : List Str} {sub : List Value} {ab : Bool} {col : Option Bool} {dd : Option Addr} {k0 k1 k2 k3 k5 : Option Value} {B newId initId : String}
/-- the heap behind: empty args, the object -/
abbrev madeH (h : Heap) (C : Addr) : Heap := (h.push (kdv_tup [])).push (PX.excO C h.objs.size)
theorem newK (F : ExcBaseFacts B newId initId bmB) (hT : ∀ X : String, bm.contains (.type X) = bmB.contains (.type X)) {kw : List (Str × Value)}
    (hC : h.get? C = some (excClassObj nm q C N bs bm hdct sn sub ab col dd k0 k1 k2 k3 k5 newId)) (hq : R (.ok (.ret (.ref (h.objs.size + 1)))) ⟨madeH h C, g, d, t, os⟩) :
    codeAny (model prog w) A (.builtin newId ⟨[.ref C], kw⟩) R ⟨h, g, d, t, os⟩ := by
  have z0 := F.ends
  have z1 : (Value.ref C :: bm).contains (.type B) = true := by
    rw [List.contains_cons, hT, F.hasB, Bool.or_true]
  have z2 : (Value.ref C :: bm).contains (.type "AttributeError") = false := by
    rw [List.contains_cons, hT, F.noAttr]
    rfl
  have z3 : (Value.ref C :: bm).contains (.type "NameError") = false := by
    rw [List.contains_cons, hT, F.noName]
    rfl
  refine codeAny_builtinAt F.entry ?_
  unfold Builtin.«BaseException.__new__»
  refine wpAt_bind ?_
  show wpAt _ _ _ (stack >>= _) _ _ _
  refine wpAt_bind (wpAt_stack fun p below => wpAt_of_wpAny ?_)
  wp_walk
  refine wpAt_of_wpAny ?_
  rw [F.owner]
  repeat (first
    | with_reducible refine wpAny_madeHere_exc F.canon hC ?_
    | with_reducible refine wpAny_loadPart_at hC ?_
    | (with_reducible refine wpAny_isSubtype_exc hC ?_
       first
         | rw [z1]
         | rw [z2]
         | rw [z3])
    | wp_step)
  show R _ _
  rw [Heap.size_push]
  exact hq
theorem typeCallK (F : ExcBaseFacts B newId initId bmB) (hT : ∀ X : String, bm.contains (.type X) = bmB.contains (.type X)) {kw : List (Str × Value)} {fI : Addr} {Q : Fin → Shared → Prop}
    (hC : h.get? C = some (excClassObj nm q C N bs bm hdct sn sub ab col dd k0 k1 k2 k3 k5 newId)) (hi : Looks (model prog w) h (typeLookup (.ref C) "__init__") (some (.ref fI))) (hb : ∀ self, Looks (model prog w) h (bindSpecial (.ref fI) self) (.ref fI, [self]))
    (hq : codeAny (model prog w) A (.call (.ref fI) ⟨[.ref (h.objs.size + 1)], kw⟩) (fun r s' => match r with
      | .ok (.ret v) => v = .none ∧ Q (.done (.ret (.ref (h.objs.size + 1)))) s'
      | .ok _ => False
      | .error e => E e s') ⟨madeH h C, g, d, t, os⟩) : wpAny (model prog w) A (Builtin.«type.__call__» ⟨[.ref C], kw⟩) Q E ⟨h, g, d, t, os⟩ := by
  repeat (first
    | with_reducible refine wpAny_loadPart_at hC ?_
    | with_reducible refine wpAny_madeBy_exc hC ?_
    | wp_step)
  refine codeAny_call_builtin_code (Code.quiet_builtin _ F.quiet) (newCheckK F hT hC ?_)
  refine newK F hT hC ?_
  show wpAny _ _ _ _ _ _
  have k : ∀ b o, h.get? b = some o → (madeH h C).get? b = some o := fun b o e => Heap.get?_push_of_some _ (Heap.get?_push_of_some _ e)
  have hC1 := k _ _ hC
  have hg1 : (madeH h C).get? (h.objs.size + 1) = some (PX.excO C h.objs.size) := by heap_get
  have z : (Value.ref C :: bm).contains (.ref C) = true := by simp
  have i1 := hi.keeps k
  have b1 := (hb (.ref (h.objs.size + 1))).keeps k
  unfold isInstance
  repeat (first
    | with_reducible refine wpAny_loadPart_at hg1 ?_
    | (with_reducible refine wpAny_isSubtype_exc hC1 ?_
       rw [z])
    | wp_step)
  show wpAny _ _ (typeLookup (.ref C) _) _ _ _
  refine i1.at ?_
  refine wpAny_holding (wpAny_bind (b1.at ?_))
  refine wpAny_bind (wpAny_call (codeAny_mono hq fun r s' y => ?_))
  rcases r with e | (v | _ | _ | _) <;> first | exact y | exact y.elim | skip
  obtain ⟨rfl, y⟩ := y
  first
    | exact wpAny_pure (wpAny_pure y)
    | (wp_walk
       exact y)
theorem typeCheckK {M : Model} {E : Value → Shared → Prop} {kw : List (Str × Value)} {Q : Unit → Shared → Prop} (hC : h.get? C = some (excClassObj nm q C N bs bm hdct sn sub ab col dd k0 k1 k2 k3 k5 newId)) (hq : Q () ⟨h, g, d, t, os⟩) :
    wpAny M A (checkBuiltinCall "type.__call__" ⟨[.ref C], kw⟩) Q E ⟨h, g, d, t, os⟩ := by
  have y1 := tc_sub
  have y2 : (⟨h, g, d, t, os⟩ : Shared).TypeIs (.ref C) "type" := ⟨_, hC, rfl⟩
  simp only [checkBuiltinCall, tc_kind, tc_split]
  repeat (any_goals (first
    | assumption
    | with_reducible refine wpAny_loadPart_at hC ?_
    | with_reducible refine wpAny_onRaise ?_
    | with_reducible refine wpAny_map ?_
    | wp_step))
theorem callK (F : ExcBaseFacts B newId initId bmB) (hT : ∀ X : String, bm.contains (.type X) = bmB.contains (.type X)) {kw : List (Str × Value)} {fI : Addr}
    (hC : h.get? C = some (excClassObj nm q C N bs bm hdct sn sub ab col dd k0 k1 k2 k3 k5 newId)) (hi : Looks (model prog w) h (typeLookup (.ref C) "__init__") (some (.ref fI))) (hb : ∀ self, Looks (model prog w) h (bindSpecial (.ref fI) self) (.ref fI, [self]))
    (hq : codeAny (model prog w) (A.under (.builtin "type.__call__" ⟨[.ref C], kw⟩)) (.call (.ref fI) ⟨[.ref (h.objs.size + 1)], kw⟩) (InitBack (h.objs.size + 1) R) ⟨madeH h C, g, d, t, os⟩) :
    codeAny (model prog w) A (.call (.ref C) ⟨[], kw⟩) R ⟨h, g, d, t, os⟩ := by
  have y1 := tc_lookup
  have y2 := tc_bind (.ref C)
  have y3 : (⟨h, g, d, t, os⟩ : Shared).TypeIs (.ref C) "type" := ⟨_, hC, rfl⟩
  refine codeAny_of_tree ?_
  show wpAny _ _ (callAny (.ref C) _) _ _ _
  repeat (any_goals (first
    | assumption
    | with_reducible refine wpAny_loadPart_at hC ?_
    | wp_step))
  refine ⟨rfl, ?_⟩
  refine codeAny_call_builtin_at (Code.quiet_builtin _ (by decide +kernel)) entry_typeCall (typeCheckK hC (typeCallK F hT hC hi hb ?_))
  refine codeAny_mono hq fun r s' y => ?_
  rcases r with e | (v | _ | _ | _) <;> exact y
end
end KX
end PySem
set_option Elab.async false
set_option linter.all false
set_option maxRecDepth 100000
set_option maxHeartbeats 4000000
namespace PySem
namespace KX
open PySem.W PySem.Calls PyProof.Rows PySem.HandSPX
def iA (fl : Str) (p1 p2 : Pos) : Arguments := { posonlyargs := [], args := [{ arg := "self", annotation := none, pos := p1 }, { arg := fl, annotation := none, pos := p2 }], vararg := none, kwonlyargs := [], kw_defaults := [], kwarg := none, defaults := [] }
def iB (fl : Str) (q1 q2 q3 q4 : Pos) : List Stmt := [.Assign [.Attribute (.Name "self" q1) fl q2] (.Name fl q3) q4]
def iS (fl : Str) : Scope := { kind := .function, names := [(PySem.Str.ofString "self", .local), (fl, .local)], isGenerator := false, isCoroutine := false, more := [] }
/-- the fields of the errors -/
def IsFl (fl : Str) : Prop := fl = "part" ∨ fl = "line" ∨ fl = "index" ∨ fl = "paper" ∨ fl = "deed" ∨ fl = "thing" ∨ fl = "tries"
/-- what the written part says of an error's class at C -/
structure EC (K : Frag) (C : Addr) : Prop where
  ini : excInitIn K C excB "Exception.__new__" = true
  sa : findIn K (.ref C) "__setattr__" = some (some (.builtin "object.__setattr__"))
  ov : excOver K C excB = true
  hd : hasDictIn K C = true
  kp : keepIn K (.ref C) = true
  is : L2.ExcC K C
/-- .. and of its field and its __init__ -/
structure EI (K : Frag) (C fI : Addr) (fl qual : Str) : Prop where
  c : EC K C
  fls : IsFl fl
  nf : findIn K (.ref C) fl = some none
  iC : findIn K (.ref C) "__init__" = some (some (.ref fI))
  fn : ∃ (od : Option Addr) (doc pm : Value) (an : Option Addr) (cdv ct : Value) (osl : Array (Option Value)) (p1 p2 q1 q2 q3 q4 : Pos),
    K.lookup fI = some ⟨.type "function", od, .func (fnOf "__init__" qual (iA fl p1 p2) (iB fl q1 q2 q3 q4) (iS fl) .none .none doc pm an cdv ct), osl⟩ ∧ codeIn K cdv qual = true
/-- a made error: at e, its dict at d -/
structure Made (h h' : Heap) (e C d : Addr) (fl : Str) (v : Value) : Prop where
  keep : ∀ b o, h.get? b = some o → h'.get? b = some o
  new : h.objs.size ≤ e
  obj : ∃ t1 : Addr, h'.get? e = some { cls := .ref C, dict := some d, data := .fields #[.ref t1, .none, .none, .none, .bool false, .none] }
  dbig : h.objs.size ≤ d
  dne : d ≠ e
  ns : h'.Ns1 d (fun y => if y = fl then some v else none)
section
variable {prog : Program} {w : World} {A : Around} {E : Value → Shared → Prop} {R : Result → Shared → Prop} {s : Shared} {K : Frag} {C fI : Addr} {fl qual : Str}
theorem nameAt {M : Model} {s : Shared} {name : Str} {scope : Scope} {L a : Addr} {cd : Value} {m : Str → Option Value} {x : Str} {pos : Pos} {v : Value} {Q : Value → Shared → Prop} (hn : s.heap.Ns L m) (hv : m x = some v) (h : Q v s)
    (hk : scope.kind = .function) (hl : (envOfC name scope L a cd).kindOf x = some .local) (hd : (x == ("__debug__" : Str)) = false) : wpAny M A (eval (.Name x pos) (envOfC name scope L a cd)) Q E s :=
  wpAny_Name (wpAny_loadName_local hk hl hn hv h) hd
/-- self.fl = v on a fresh error -/
theorem storeE {x t0 : Addr} {tk : Tok} {v : Value} (T : EC K C) (nf : findIn K (.ref C) fl = some none) (X : K.In s.heap) (hx : s.heap.get? x = some (PX.excO C t0))
    (hq : ∀ h' tk' dx, (∀ b o, b ≠ x → s.heap.get? b = some o → h'.get? b = some o) → s.heap.objs.size ≤ dx → dx ≠ x → h'.get? x = some { cls := .ref C, dict := some dx, data := .fields #[.ref t0, .none, .none, .none, .bool false, .none] } →
      h'.Ns1 dx (fun y => if y = fl then some v else none) → R (.ok (.ret .none)) { s with heap := h', toks := tk' }) : codeAny (model prog w) A (.call (.builtin "object.__setattr__") ⟨[.ref x, .str fl tk, v], []⟩) R s := by
  refine osa_openX (od := none) F.store_Exception X ⟨hx, rfl, rfl, trivial⟩ T.ov (show takerIn K C fl = some none by unfold takerIn; rw [nf]; rfl) fun b => ?_
  obtain ⟨cd, hc, hd'⟩ := any_some T.hd
  have hxs : x ≠ s.heap.objs.size := Nat.ne_of_lt (Heap.lt_size hx)
  refine wpAny_bind (wpAny_pure (wpAny_bind (instanceDict_exc hx (looks_clsIn X hc) hd' ?_)))
  show wpAny _ _ (Builtin.ObjectAttr.storeInDict s.heap.objs.size (.str fl tk) fl v) _ _ _
  refine PX.store_in_new ?_ fun h' tk' hn' hs => ?_
  · exact ⟨_, #[], _, (Heap.get?_update_ne _ _ _ _ hxs.symm).trans (Heap.get?_push_at rfl rfl), rfl, fun e he => absurd he (by simp), fun _ => rfl⟩
  · have hx1 := Heap.get?_push_of_some (dictOf [] 0) hx
    refine hq h' tk' s.heap.objs.size (fun b o hb ho => ?_) (Nat.le_refl _) hxs.symm ?_ hn'
    · exact (hs.2 b (Nat.ne_of_lt (Heap.lt_size ho))).trans ((Heap.get?_update_ne _ _ _ _ hb).trans (Heap.get?_push_of_some _ ho))
    · exact (hs.2 x hxs).trans (Heap.get?_update_self _ hx1 rfl)
/-- the run of __init__ -/
theorem initRun (T : EI K C fI fl qual) {x t0 : Addr} {v : Value} {as : Args} (X : K.In s.heap) (hlim : s.heap.NoLimit) (hx : s.heap.get? x = some (PX.excO C t0)) (hroom : A.depth < recursionLimit)
    (has : as = ⟨[.ref x, v], []⟩ ∨ as = ⟨[.ref x], [(fl, v)]⟩)
    (hq : ∀ h' tk dx, (∀ b o, b ≠ x → s.heap.get? b = some o → h'.get? b = some o) → s.heap.objs.size ≤ dx → dx ≠ x → h'.get? x = some { cls := .ref C, dict := some dx, data := .fields #[.ref t0, .none, .none, .none, .bool false, .none] } →
      h'.Ns1 dx (fun y => if y = fl then some v else none) → R (.ok (.ret .none)) { s with heap := h', toks := tk }) : codeAny (model prog w) A (.call (.ref fI) as) R s := by
  obtain ⟨od, doc, pm, an, cdv, ct, osl, p1, p2, q1, q2, q3, q4, ho, hcd⟩ := T.fn
  have bd : BindsTo s (fnOf "__init__" qual (iA fl p1 p2) (iB fl q1 q2 q3 q4) (iS fl) .none .none doc pm an cdv ct) as [("self", .ref x), (fl, v)] := by
    rcases T.fls with e | e | e | e | e | e | e <;> subst e <;> rcases has with e | e <;> subst e <;> exact .of_eq (by first | rfl | with_unfolding_all rfl)
  have kd : ([(("self" : Str), Value.ref x), (fl, v)].all fun y => (iS fl).names.lookup y.1 == some .local || (iS fl).names.lookup y.1 == some .cell) = true := by
    rcases T.fls with e | e | e | e | e | e | e <;> subst e <;> first | rfl | with_unfolding_all rfl
  refine Att.call_fn X hlim ho hcd hroom bd kd (fun s₁ IC => ?_) rfl rfl rfl
  obtain ⟨h₁, tk₁, rfl⟩ := IC.toInCall.same
  have k : ∀ b o, s.heap.get? b = some o → h₁.get? b = some o := IC.toInCall.keep
  have hn := IC.toInCall.ns
  have X₁ : K.In h₁ := X.keeps k
  have hx₁ := k _ _ hx
  have z : s.heap.objs.size < h₁.objs.size := hn.lt
  show wpAny _ _ (execs _ _) _ _ _
  refine wpAny_execs_cons (plainObj_wpAny_Assign_Attribute ?_)
  have n1 : ∀ {a : Addr} {cd : Value}, (envOfC qual (iS fl) s.heap.objs.size a cd).kindOf fl = some .local := fun {a cd} => by
    rcases T.fls with e | e | e | e | e | e | e <;> subst e <;> first | rfl | with_unfolding_all rfl
  have n2 : ∀ {a : Addr} {cd : Value}, (envOfC qual (iS fl) s.heap.objs.size a cd).kindOf "self" = some .local := fun {a cd} => by
    rcases T.fls with e | e | e | e | e | e | e <;> subst e <;> first | rfl | with_unfolding_all rfl
  have n3 : (fl == ("__debug__" : Str)) = false := by
    rcases T.fls with e | e | e | e | e | e | e <;> subst e <;> decide +kernel
  refine nameAt (v := v) hn ?_ (nameAt (v := .ref x) hn ?_ ?_ rfl n2 (by decide +kernel)) rfl n1 n3
  · rcases T.fls with e | e | e | e | e | e | e <;> subst e <;> first | rfl | with_unfolding_all rfl | kernel_rfl
  · rcases T.fls with e | e | e | e | e | e | e <;> subst e <;> first | rfl | with_unfolding_all rfl | kernel_rfl
  refine set_plain X₁ (ox := PX.excO C t0) (od := none) ⟨hx₁, rfl, rfl, trivial⟩ T.c.sa ?_
  refine storeE T.c T.nf X₁ hx₁ fun h₃ tk₃ dx k₃ dn dne hx₃ hn₃ => ?_
  show wpAny _ _ (execs _ _) _ _ _
  exact wpAny_execs_nil (hq h₃ tk₃ dx (fun b o hb e => k₃ b o hb (k b o e)) (Nat.le_of_lt (Nat.lt_of_lt_of_le z dn)) dne hx₃ hn₃)
end
end KX
end PySem
set_option Elab.async false
set_option linter.all false
set_option maxRecDepth 100000
set_option maxHeartbeats 4000000
namespace PySem
namespace KX
open PySem.W PySem.Calls PyProof.Rows PySem.HandSPX
section
variable {prog : Program} {w : World} {A : Around} {E : Value → Shared → Prop} {R : Result → Shared → Prop} {s : Shared} {K : Frag} {C fI : Addr} {fl qual : Str}
theorem exMade (T : EI K C fI fl qual) {v : Value} {as : Args} (has : as = ⟨[v], []⟩ ∨ as = ⟨[], [(fl, v)]⟩) (X : K.In s.heap) (hlim : s.heap.NoLimit) (hroom : A.depth + 1 < recursionLimit)
    (hq : ∀ h' tk e d, Made s.heap h' e C d fl v → R (.ok (.ret (.ref e))) { s with heap := h', toks := tk }) : codeAny (model prog w) A (.call (.ref C) as) R s := by
  obtain ⟨nm, N, q, bs, bm, hdct, sn, sub, ab, col, dd, k0, k1, k2, k3, k5, hC, hT⟩ := excInit_of X T.c.ini
  obtain ⟨od, doc, pm, an, cdv, ct, osl, p1, p2, q1, q2, q3, q4, ho, hcd⟩ := T.fn
  obtain ⟨hp, g, dr, tk, os⟩ := s
  have hfI := X _ _ ho
  have fin : ∀ (pos : List Value) (c : Code) (as' : Args), (as' = ⟨[.ref (hp.objs.size + 1), v], []⟩ ∨ as' = ⟨[.ref (hp.objs.size + 1)], [(fl, v)]⟩) → (A.under c).depth = A.depth + 1 →
      codeAny (model prog w) (A.under c) (.call (.ref fI) as') (InitBack (hp.objs.size + 1) R) ⟨(hp.push (kdv_tup pos)).push (PX.excO C hp.objs.size), g, dr, tk, os⟩ := fun pos c as' ha hdp => by
    have k : ∀ b o, hp.get? b = some o → ((hp.push (kdv_tup pos)).push (PX.excO C hp.objs.size)).get? b = some o := fun b o e => Heap.get?_push_of_some _ (Heap.get?_push_of_some _ e)
    have hget : ((hp.push (kdv_tup pos)).push (PX.excO C hp.objs.size)).get? (hp.objs.size + 1) = some (PX.excO C hp.objs.size) := by heap_get
    refine initRun (s := ⟨(hp.push (kdv_tup pos)).push (PX.excO C hp.objs.size), g, dr, tk, os⟩) T (X.keeps k) (hlim.keeps k) hget ?_ ha fun h' tk' dx k' dn dne hx hns => ?_
    · rw [hdp]
      exact hroom
    · have z : hp.objs.size + 1 + 1 ≤ dx := by
        have q := dn
        rw [Heap.size_push, Heap.size_push] at q
        exact q
      exact ⟨rfl, hq h' tk' (hp.objs.size + 1) dx ⟨fun b o e => k' b o (Nat.ne_of_lt (Nat.lt_succ_of_lt (Heap.lt_size e))) (k b o e), Nat.le_succ _, ⟨_, hx⟩, Nat.le_trans (Nat.le_trans (Nat.le_succ _) (Nat.le_succ _)) z, dne, hns⟩⟩
  rcases has with rfl | rfl
  · refine PX.call_own F.excBase_Exception hT hC (looks_findIn X T.iC) (fun self => exc_bind hfI rfl self) (by show 1 ≤ sizeLine; rw [sizeLine_eq]; omega) (fin [v] _ _ (.inl rfl) ?_)
    first | rfl | simp [Around.under, Code.weight, Code.isCreation, Code.isGuard, Code.isCaller, Code.frames, Code.isFrame, guardIds]
  · refine callK F.excBase_Exception hT hC (looks_findIn X T.iC) (fun self => exc_bind hfI rfl self) (fin [] _ _ (.inr rfl) ?_)
    first | rfl | simp [Around.under, Code.weight, Code.isCreation, Code.isGuard, Code.isCaller, Code.frames, Code.isFrame, guardIds]
end
end KX
end PySem
namespace KL
open PySem L2 PySem.KX PySem.Spec PyProof.Rows
section
variable {X : Cx} {pins : List (Addr × Obj)} {σ : L2.St} {H : Hp} {s : Shared}
theorem invTwo {h' : Heap} {tk : Nat} {a C d : Addr} {fl : Str} {v : V} {u : Value} (I : Inv X pins σ H s) (M : Made s.heap h' a C d fl u) (rv : RelV v u) :
    H a = none ∧ H d = none ∧ Inv X pins σ (upd (upd H d (exd d [(fl, v)])) a (exo a C (some d))) { s with heap := h', toks := tk } := by
  have na : H a = none := I.hok.fresh M.new
  have nd : H d = none := I.hok.fresh M.dbig
  have fa : ∀ {b : Addr} {o : Obj}, s.heap.get? b = some o → b ≠ a := fun q => Nat.ne_of_lt (Nat.lt_of_lt_of_le (Heap.lt_size q) M.new)
  have fd : ∀ {b : Addr} {o : Obj}, s.heap.get? b = some o → b ≠ d := fun q => Nat.ne_of_lt (Nat.lt_of_lt_of_le (Heap.lt_size q) M.dbig)
  have S : Same H (upd (upd H d (exd d [(fl, v)])) a (exo a C (some d))) := fun b o e => by
    rw [upd_ne (ne_of_none e na), upd_ne (ne_of_none e nd)]
    exact e
  refine ⟨na, nd, I.un { keep := fun b o q _ _ _ => M.keep b o q, slot := fun b o q _ _ _ => ⟨o.slots, M.keep b o q⟩, free := fun b o q n _ => ?_, there := fun b o q _ => ⟨o, M.keep b o q⟩, tups := fun b xs q => S _ _ q, frzs := fun b o u q => S _ _ q, tbls := fun b ps q => ⟨#[], by rw [S _ _ q]; simp⟩ } fun b o e => ?_⟩
  · rw [upd_ne (fa q), upd_ne (fd q)]
    exact n
  · by_cases hb : b = a
    · subst hb
      rw [upd_same] at e
      cases e
      obtain ⟨t1, ho⟩ := M.obj
      exact exo_ok ho
    · rw [upd_ne hb] at e
      by_cases hd : b = d
      · subst hd
        rw [upd_same] at e
        cases e
        refine exd_ok M.ns fun f => ?_
        rw [lookup_put]
        by_cases hf : f = fl
        · rw [if_pos hf, if_pos hf]
          exact rv
        · rw [if_neg hf, if_neg hf]
          exact True.intro
      · rw [upd_ne hd] at e
        exact (I.hok b o e).stay (fun c w _ q => M.keep c w q) (fun c q => S _ _ q) fun c xs q => S _ _ q
end
/-- C(e) or C(fl = e) -/
def tEx (C : Addr) (fl : Str) (ta : TA) : TE := fun σ H Q => ta σ H fun vs H1 => ∃ v, vs = [v] ∧ ∀ a d, H1 a = none → H1 d = none → d ≠ a → Q (.ref a) (upd (upd H1 d (exd d [(fl, v)])) a (exo a C (some d)))
section
variable {X : Cx} {C fI : Addr} {fl qual x : Str} {p pos kpos : Pos} {e : Expr} {te : TE} {ta : TA}
theorem pe_ex (T : EI X.K C fI fl qual) (gC : X.mg x = some (.ref C)) (hr : Room 1 X.A) (hg : Gl X x) (ha : PA X [e] ta) (hdb : (x == ("__debug__" : Str)) = false := by decide) (he : starEach (e :: []) X.env = (false, eval e X.env) :: starEach [] X.env := by rfl)
    (hpl : (backTo pos (starEach [] X.env)).any (·.1) = false := by rfl) : PE X (.Call (.Name x p) [e] [] pos) (tEx C fl ta) := by
  refine ⟨fun pins s σ H Q I h => ?_⟩
  refine wpAny_Call_Name_kw (ld_glob I hg gC ?_ hdb)
  refine PySem.W.callWith_K (h₀ := X.base) I.ok.mod.kin T.c.kp (thn (ha.run pos pins s σ H _ I h) fun us s1 ⟨vs, H1, I1, r, v, ev, q⟩ => ⟨I1.kIn, ?_⟩) he hpl
  subst ev
  cases r with
  | cons rv rn =>
    cases rn
    rename_i u
    refine wpAny_call (exMade T (.inl rfl) I1.kIn I1.nolimit (by have := hr.dp; omega) fun h' tk a d M => ?_)
    obtain ⟨n1, n2, J⟩ := invTwo (tk := tk) I1 M rv
    exact ⟨.ref a, _, J, rfl, q a d n1 n2 M.dne⟩
theorem pe_exK (T : EI X.K C fI fl qual) (gC : X.mg x = some (.ref C)) (hr : Room 1 X.A) (hg : Gl X x) (ha : PE X e te) (hdb : (x == ("__debug__" : Str)) = false := by decide)
    (hall : (backToKw pos (keywordEach [⟨some fl, e, kpos⟩] X.env)).all (·.1.isSome) = true := by rfl) (hks : (backToKw pos (keywordEach [⟨some fl, e, kpos⟩] X.env)).filterMap (·.1) = [fl] := by rfl)
    (hpl : ((backTo pos (starEach [] X.env)).any (·.1) || (backToKw pos (keywordEach [⟨some fl, e, kpos⟩] X.env)).any (·.1.isNone)) = false := by rfl) :
    PE X (.Call (.Name x p) [] [⟨some fl, e, kpos⟩] pos) (tEx C fl (tCons te tNil)) := by
  refine ⟨fun pins s σ H Q I h => ?_⟩
  refine wpAny_Call_Name_kw (ld_glob I hg gC ?_ hdb)
  refine PySem.W.callWith_KW0 (h₀ := X.base) I.ok.mod.kin T.c.kp hall ?_ hpl
  refine thn ((pk_cons ha pk_nil).run pos pins s σ H _ I h) fun us s1 ⟨vs, H1, I1, r, v, ev, q⟩ => ⟨I1.kIn, ?_⟩
  rw [hks]
  subst ev
  cases r with
  | cons rv rn =>
    cases rn
    rename_i u
    refine wpAny_call (exMade T (.inr rfl) I1.kIn I1.nolimit (by have := hr.dp; omega) fun h' tk a d M => ?_)
    obtain ⟨n1, n2, J⟩ := invTwo (tk := tk) I1 M rv
    exact ⟨.ref a, _, J, rfl, q a d n1 n2 M.dne⟩
end
end KL
set_option Elab.async false
set_option linter.all false
set_option maxRecDepth 100000
set_option maxHeartbeats 4000000
namespace KL
open PySem L2 PySem.KX PySem.Spec PyProof.Rows
/-- an error's class without an __init__ -/
structure EB (K : PySem.W.Frag) (C : Addr) : Prop where
  c : EC K C
  ex : PySem.W.excIn K C excB "Exception.__new__" = true
/-- C() -/
def tEx0 (C : Addr) : TE := fun _ H Q => ∀ a, H a = none → Q (.ref a) (upd H a (exo a C none))
/-- e.f of an error -/
def tExAt (K : PySem.W.Frag) (f : Str) (te : TE) : TE := fun σ H Q => te σ H fun x H1 => ∃ (a C d : Addr) (fs : List (Str × V)) (v : V), x = .ref a ∧ EC K C ∧ PySem.W.findIn K (.ref C) f = some none ∧ H1 a = some (exo a C (some d)) ∧ H1 d = some (exd d fs) ∧ fs.lookup f = some v ∧ Q v H1
/-- an error stands at a -/
def ErrAt (H : Hp) (a C : Addr) : Prop := H a = some (exo a C none) ∨ ∃ d fs, H a = some (exo a C (some d)) ∧ H d = some (exd d fs)
/-- isinstance(e, c) -/
def rExIs (K : PySem.W.Frag) : List V → Hp → VK → Prop := fun xs H Q => ∃ (a C : Addr) (c : V) (cv : Value) (b : Bool), xs = [.ref a, c] ∧ EC K C ∧ ErrAt H a C ∧ ClsV c cv ∧ PySem.W.kitOne K (.ref C) cv = some b ∧ Q (.bl b) H
section
variable {X : Cx}
theorem pe_ex0 {C : Addr} {x : Str} {p pos : Pos} (T : EB X.K C) (gC : X.mg x = some (.ref C)) (hg : Gl X x) (hdb : (x == ("__debug__" : Str)) = false := by decide) : PE X (.Call (.Name x p) [] [] pos) (tEx0 C) := by
  refine ⟨fun pins s σ H Q I h => ?_⟩
  refine wpAny_Call_Name_kw (ld_glob I hg gC ?_ hdb)
  refine PySem.W.callWith_K0 I.kIn T.c.kp ?_
  obtain ⟨bm, N, nm, qn, bs, hdct, sn, sub, ab, col, dd, k0, k1, k2, k3, k5, mN, hC, hN, hni, O⟩ := exc_obj I.kIn T.ex
  obtain ⟨hp, g, dr, tk, os⟩ := s
  refine wpAny_call_exc_subT F.excBase_Exception O hC hN hni (fun h' a hm => ?_) (Nat.zero_le _)
  have hn : H a = none := I.hok.gone hm.new
  obtain ⟨t, ht, _, _⟩ := hm.there
  exact ⟨.ref a, upd H a (exo a C none), I.laidN (t' := tk) hm.keeps hm.new hn (exo_ok ht), rfl, h a hn⟩
theorem pe_exAt {e : Expr} {f : Str} {te : TE} {pos : Pos} (he : PE X e te) (hb : attributeBase e f X.env (eval e X.env) = eval e X.env := by rfl) : PE X (.Attribute e f pos) (tExAt X.K f te) := by
  refine ⟨fun pins s σ H Q I h => ?_⟩
  refine attr_of hb (thn (he.run pins s σ H _ I h) fun u s1 ⟨x, H1, I1, rx, a, C, d, fs, v, ex, T, nf, ha, hd, l, q⟩ => ?_)
  subst ex
  obtain rfl : u = Value.ref a := rx
  obtain ⟨t1, ho⟩ := exo_at I1.hok ha
  obtain ⟨mA, hns, hr⟩ := exd_at I1.hok hd
  obtain ⟨od, hod, hl⟩ := lookIn_ns hns
  obtain ⟨u, hu, ru⟩ := RelO.some_of (v := v) (o := mA f) (by rw [← l]; exact hr f)
  exact PySem.PX.exc_get I1.kIn ⟨ho, rfl, rfl, hod⟩ T.is.hg T.is.hk T.is.hs (PySem.W.findObj_own T.hd nf rfl (by rw [hl, hu])) (handed_of ru) ⟨v, H1, I1.tok _, ru, q⟩
theorem call_exIs : CallR X (.builtin "isinstance") (rExIs X.K) := by
  intro pins s σ H xs us Q I r h
  obtain ⟨a, C, c, cv, b, rfl, T, ea, kc, e, q⟩ := h
  obtain ⟨u1, u2, rfl, r1, r2⟩ := vals2 r
  have e2 := kc.eq r2
  subst e2
  cases (show u1 = Value.ref a from r1)
  have hcl : (PySem.W.clsIn X.K C).isSome = true := by
    obtain ⟨cd, hc, _⟩ := PySem.W.any_some T.hd
    rw [hc]
    rfl
  have go : ∀ {ox : Obj} {od : Option Obj}, PySem.W.InstAt s.heap a ox C od → wpAny (model X.prog X.w) X.A (call (.builtin "isinstance") [.ref a, u2]) (EP X pins σ Q) X.xe s := fun {ox od} J =>
    PySem.W.kia_one (PySem.W.kitx_exc hcl T.is.hg T.is.hk T.is.hs T.is.ha T.is.hn T.is.ht T.is.hm) I.kIn J e (fun z => nomatch z) fun tk => ⟨.bl b, H, I.tok tk, rfl, q⟩
  rcases ea with ea | ⟨d, fs, ea, ed⟩
  · obtain ⟨t1, ho⟩ := exo_at I.hok ea
    exact go (od := none) ⟨ho, rfl, rfl, trivial⟩
  · obtain ⟨t1, ho⟩ := exo_at I.hok ea
    obtain ⟨mA, hns, hr⟩ := exd_at I.hok ed
    obtain ⟨od, hod, hl⟩ := lookIn_ns hns
    exact go (od := some od) ⟨ho, rfl, rfl, hod⟩
end
end KL
set_option Elab.async false
set_option linter.all false
set_option maxRecDepth 100000
set_option maxHeartbeats 4000000
namespace KL
open PySem L2 PySem.KX PySem.Spec PyProof.Rows
/-- a def's promise where no guard stands around its call -/
structure FnG (P : Program) (w : World) (K : PySem.W.Frag) (mg : Str → Option Value) (base : Heap) (CX : CXT) (k : Nat) (f : Addr) (fd : FuncData) (ps : List Str) (sp : Sp) : Prop where
  len : ∀ vs H Q E, sp vs H Q E → vs.length = ps.length
  run : ∀ (A : Around) (outer : List Env) (s : Shared) (H : Hp) (args : Args) (us : List Value) (vs : List V) (Q : VK) (E : XK), A.guards = some [] → Room k A → Env0 P w K mg base A outer s H → BindsTo s fd args (ps.zip us) → Vals vs us → sp vs H Q E →
    codeAny (model P w) A (.call (.ref f) args) (CR CX outer P w H s Q E) s
section
variable {P : Program} {w : World} {K : PySem.W.Frag} {mg : Str → Option Value} {base : Heap}
theorem fnG {CX : CXT} {k : Nat} {f : Addr} {qual x : Str} {st : Stmt} {N ps : List Str} {sp : Sp} {fd : FuncData} (F : Fun K x qual st f fd) (S : FnScope N ps (defScope st)) (len : ∀ vs H Q E, sp vs H Q E → vs.length = ps.length)
    (hbody : ∀ (cdv : Value) (A : Around) (outer : List Env) (s : Shared) (H : Hp) (vs : List V) (Q : VK) (E : XK), A.guards = some [] → Room k (A.deeper (envOfC qual (defScope st) s.heap.objs.size f cdv)) → sp vs H Q E →
      ∃ t, PSs (cxOf CX P w K mg base N qual (defScope st) f cdv A outer s H E) (defBody st) t ∧ t { nx := fun _ H' => Q .non H', rt := Q } (start N vs) H) : FnG P w K mg base CX (k + 1) f fd ps sp := by
  obtain ⟨oc, od, kV, doc, pm, an, cdv, ct, osl, rfl, lk, hcd⟩ := F.ex
  refine ⟨len, fun A outer s H args us vs Q E hg hr e0 hb r hs => ?_⟩
  have hl := len _ _ _ _ hs
  have KX := e0.mod.kin.keeps fun b o e => (e0.bs b o e).1
  have lim := e0.mod.nolimit.keeps fun b o e => (e0.bs b o e).1
  have hk : ∀ y ∈ ps.zip us, (defScope st).names.lookup y.1 = some .local ∨ ((defScope st).names.lookup y.1 = some .cell ∧ ((cellsFrom (s.heap.objs.size + 1) (defScope st).names []).lookup y.1).isSome = true) := by
    rintro ⟨n, v⟩ hy
    rcases S.par n (List.of_mem_zip hy).1 with q | q
    · exact Or.inl q
    · exact Or.inr ⟨q, PySem.W.cellsFrom_some _ _ _ (Or.inl q)⟩
  refine codeAny_call_function hr.depth (KX _ _ lk) rfl S.co S.gen rfl (PySem.W.codeRec_of KX hcd) (hb _ _ _ _ ?_)
  refine wpAny_newFunctionEnv_cells S.kind hk fun env he s1 z => ?_
  subst he
  refine ⟨lim.keeps z.toInCall.keep, codeAny_func ?_⟩
  obtain ⟨t, ht, hq⟩ := hbody cdv A outer s H vs Q E hg (hr.deeper _) hs
  have J0 := inv_start (CX := CX) (E := E) S hr.hd e0 hl r z
  refine wpAny_mono (ht.run [] s1 (start N vs) H _ J0 hq) (fun fl s' y => ?_) fun e s' y => y
  match fl, y with
  | .ret u, ⟨v, σ', H', J, rv, q⟩ => exact ⟨v, H', J.os, J.bare, J.base, J.hok, rv, q⟩
  | .next, ⟨σ', H', J, q⟩ => exact ⟨V.non, H', J.os, J.bare, J.base, J.hok, rfl, q⟩
  | .brk, ⟨_, _, _, q⟩ => exact q.elim
  | .cont, ⟨_, _, _, q⟩ => exact q.elim
end
section
variable {X : Cx} {CX : CXT} {k : Nat} {f : Addr} {fd : FuncData} {ps : List Str} {sp : Sp} {E : XK} {x : Str} {p pos : Pos} {e : Expr} {es : List Expr} {t : TA}
theorem pe_callG (F : FnG X.prog X.w X.K X.mg X.base CX k f fd ps sp) (hG : X.A.guards = some []) (hr : Room k X.A) (hg : Gl X x) (hm : X.mg x = some (.ref f)) (hk : PySem.W.keepIn X.K (.ref f) = true) (hb : L2.Binds X.K fd ps []) (hx : Passes CX X E)
    (ha : PA X (e :: es) t) (hdb : (x == ("__debug__" : Str)) = false := by decide) (he : starEach (e :: es) X.env = (false, eval e X.env) :: starEach es X.env := by rfl) (hpl : (backTo pos (starEach es X.env)).any (·.1) = false := by rfl) :
    PE X (.Call (.Name x p) (e :: es) [] pos) (tCall sp [] E t) := by
  refine ⟨fun pins s σ H Q I h => ?_⟩
  refine wpAny_Call_Name_kw (ld_glob I hg hm ?_ hdb)
  refine PySem.W.callWith_K (h₀ := X.base) I.ok.mod.kin hk (thn (ha.run pos pins s σ H _ I h) fun us s1 ⟨vs, H1, I1, r, q⟩ => ⟨I1.kIn, ?_⟩) he hpl
  have q' : sp vs H1 Q E := by
    have z : sp (vs ++ []) H1 Q E := q
    rwa [List.append_nil] at z
  have hl : (us ++ []).length = ps.length := by
    rw [List.append_nil, ← r.length]
    exact F.len _ _ _ _ q'
  have bd := hb s1 us I1.kIn hl
  rw [List.append_nil] at bd
  refine wpAny_call (codeAny_mono (F.run X.A X.stack s1 H1 ⟨us, []⟩ us vs Q E hG hr I1.env0 bd r q') fun res s' y => ?_)
  match res, y with
  | .error er, y => exact hx pins σ H1 s1 er s' I1 y
  | .ok (.ret u), y => exact I1.after y
  | .ok .next, y => exact False.elim y
  | .ok .brk, y => exact False.elim y
  | .ok .cont, y => exact False.elim y
end
section
variable {P : Program} {w : World} {K : PySem.W.Frag} {mg mb : Str → Option Value} {CX : CXT} {k : Nat} {fa a : Addr} {fd : FuncData} {x : Str} {sp : Sp} {s1 : Shared} {vs : List Value} {ns : List Int}
/-- the law's call, from a heap in which the script alone may be tracked -/
theorem law_core (KX : K.In s1.heap) (hns : s1.heap.Ns mainGlobals mg) (hb : s1.heap.Ns builtinsNs mb) (hbb : ∀ x : Str, x ≠ "__name__" → mb x = bootBuiltins x) (hlim : s1.heap.NoLimit) (hg : s1.gens = #[])
    (ha : s1.heap.get? a = some { cls := .type "list", data := .seq vs.toArray }) (hr : Room k PySem.callerA)
    (F : ∀ base : Heap, K.In base → base.Ns mainGlobals mg → FnG P w K mg base CX k fa fd [x] sp) (hbind : ∀ (s : Shared) (u : Value), BindsTo s fd ⟨[u], []⟩ [(x, u)])
    (hCX : ∀ H e s', CX [] H s1 (fun _ _ _ => False) e s' → False) (H : Hp) (hO : Only H) (q0 : sp [.ref a] H (fun v _ => v = .bl true) fun _ _ _ => False) (hok : HOk P w H s1.heap) (hA : ∀ b, H b ≠ none → b = a) (hK : H a ≠ none → K.lookup a = none) :
    codeAny (model P w) PySem.callerA (.call (.ref fa) ⟨[.ref a], []⟩) (fun r s' => r = .ok (.ret (.bool true)) ∧ OldK s1.heap s'.heap ∧ s'.os = s1.os ∧ AllBare s'.gens) s1 := by
  have only_a : ∀ {b : Addr} {u : HO}, H b = some u → b = a := fun {b u} q => hA b (by rw [q]; simp)
  have dict_free : ∀ {b : Addr} {o : Obj} {es : Array DictEntry} {ep : Nat}, s1.heap.get? b = some o → o.data = .dict es ep → H b = none := fun {b o es ep} e d => by
    cases q : H b with
    | none => rfl
    | some u =>
      have z := only_a q
      subst z
      rw [ha] at e
      cases e
      have d' : Data.seq vs.toArray _ = Data.dict es ep := d
      cases d'
  have up : ∀ {b : Addr} {m : Str → Option Value}, s1.heap.Ns b m → (hidT s1.heap H).Ns b m := fun {b m} ⟨o, es, ep, e, d, r⟩ => ⟨o, es, ep, hidT_get e (dict_free e d), d, r⟩
  have kIn : K.In (hidT s1.heap H) := fun b o e => by
    refine hidT_get (KX b o e) ?_
    cases q : H b with
    | none => rfl
    | some u =>
      have z := only_a q
      subst z
      rw [hK (by rw [q]; simp)] at e
      cases e
  have M : Mod K mg (hidT s1.heap H) := ⟨kIn, up hns, ⟨mb, up hb, hbb⟩, let ⟨mc, y1, y2⟩ := hlim; ⟨mc, up y1, y2⟩⟩
  have nil : ∀ b : Addr, b ∉ ([] : List Addr) := fun b z => by simp at z
  have e0 : Env0 P w K mg (hidT s1.heap H) PySem.callerA [] s1 H := ⟨rfl, M, fun b o e => of_hidT e, Nat.le_of_eq (hidT_size _ _), trivial, fun b z => absurd z (nil b), hok, .of_eq hg⟩
  refine codeAny_mono ((F _ kIn (up hns)).run PySem.callerA [] s1 H ⟨[.ref a], []⟩ [.ref a] [.ref a] _ _ rfl hr e0 (hbind s1 (.ref a)) (.cons rfl .nil) q0) fun r s' y => ?_
  match r, y with
  | .error e, y => exact (hCX H e s' y).elim
  | .ok .next, y => exact y.elim
  | .ok .brk, y => exact y.elim
  | .ok .cont, y => exact y.elim
  | .ok (.ret u), ⟨v, H', os, bare, un, hok', rv, q⟩ =>
    have q' : v = .bl true := q
    subst q'
    have eu : u = Value.bool true := rv
    subst eu
    refine ⟨rfl, OldK.of_keep fun b o e => ?_, os, bare⟩
    cases q : H b with
    | none => exact un.keep b o e q (nil b) (nil b)
    | some u =>
      rcases hO b with z | ⟨ob, xs, z⟩
      · rw [q] at z
        cases z
      · have e1 := (hok b _ z).1
        have e2 := (hok' b _ (un.frzs b ob _ z)).1
        rw [e] at e1
        cases e1
        exact e2
theorem law_callG (KX : K.In s1.heap) (hns : s1.heap.Ns mainGlobals mg) (hb : s1.heap.Ns builtinsNs mb) (hbb : ∀ x : Str, x ≠ "__name__" → mb x = bootBuiltins x) (hlim : s1.heap.NoLimit) (hg : s1.gens = #[])
    (ha : s1.heap.get? a = some { cls := .type "list", data := .seq vs.toArray }) (hi : IntsAre vs ns) (hl : ns.length ≤ sizeLine) (hr : Room k PySem.callerA)
    (F : ∀ base : Heap, K.In base → base.Ns mainGlobals mg → FnG P w K mg base CX k fa fd [x] sp) (hbind : ∀ (s : Shared) (u : Value), BindsTo s fd ⟨[u], []⟩ [(x, u)])
    (hsp : ∀ H : Hp, Only H → SqL K H a (ns.map V.int) → sp [.ref a] H (fun v _ => v = .bl true) fun _ _ _ => False) (hCX : ∀ H e s', CX [] H s1 (fun _ _ _ => False) e s' → False) :
    codeAny (model P w) PySem.callerA (.call (.ref fa) ⟨[.ref a], []⟩) (fun r s' => r = .ok (.ret (.bool true)) ∧ OldK s1.heap s'.heap ∧ s'.os = s1.os ∧ AllBare s'.gens) s1 := by
  have rv := vals_ints hi
  have lenV := hi.length
  cases hk : K.lookup a with
  | some o =>
    have e := KX a o hk
    rw [ha] at e
    cases e
    have hO : Only (fun _ => none) := fun _ => .inl rfl
    refine law_core KX hns hb hbb hlim hg ha hr F hbind hCX (fun _ => none) hO (hsp _ hO (.inr ⟨_, vs.toArray, _, hk, rfl, rfl, rfl, by rw [List.size_toArray, lenV]; exact hl, by simpa using rv⟩)) (fun b u z => ?_) (fun b z => absurd rfl z) fun z => absurd rfl z
    have z' : (none : Option HO) = some u := z
    cases z'
  | none =>
    let T : Hp := fun b => if b = a then some (.frz { cls := .type "list", data := .seq vs.toArray } (.lst (ns.map V.int))) else none
    have Ta : T a = some (.frz { cls := .type "list", data := .seq vs.toArray } (.lst (ns.map V.int))) := if_pos rfl
    have Tb : ∀ b, b ≠ a → T b = none := fun b hb => if_neg hb
    have hO : Only T := fun b => by
      by_cases z : b = a
      · exact .inr ⟨_, _, by rw [z]; exact Ta⟩
      · exact .inl (Tb b z)
    refine law_core KX hns hb hbb hlim hg ha hr F hbind hCX T hO (hsp T hO (.inl (.inr ⟨_, Ta⟩))) (fun b u z => ?_) (fun b z => ?_) fun _ => hk
    · by_cases y : b = a
      · subst y
        have z' := Ta.symm.trans z
        cases z'
        exact ⟨ha, by rw [List.length_map]; exact hl, vs, _, rv, ha⟩
      · have z' := (Tb b y).symm.trans z
        cases z'
    · by_cases y : b = a
      · exact y
      · exact absurd (Tb b y) z
end
/-- the goal that the head leaves, from the law's promise -/
theorem walkG {l : PySem.W.OpenLaw} {n k : Nat} {q : Program} {loose : List Str} {XP : (Str → Option Value) → Heap → Prop} {YP : World → Heap → Prop} {d : DefRec} {K : Params → PySem.W.Frag} {CX : World → CXT} {sp : World → Sp} {x : Str}
    (hn : l.most = some n) (hn2 : n ≤ sizeLine) (hdf : d.params.defaults = []) (hr : Room k PySem.callerA) (hY : ∀ (w : World) (h : Heap), YP w h → (K w.params).In h)
    (F : ∀ (w : World) (mg : Str → Option Value) (fa : Addr) (h : Heap), (K w.params).In h → h.Ns mainGlobals mg → mg d.name = some (.ref fa) →
      ∃ fd : FuncData, (∀ (s : Shared) (u : Value), BindsTo s fd ⟨[u], []⟩ [(x, u)]) ∧ ∀ base : Heap, (K w.params).In base → base.Ns mainGlobals mg → FnG l.prog w (K w.params) mg base (CX w) k fa fd [x] (sp w))
    (hsp : ∀ (w : World) (H : Hp) (a : Addr) (ns : List Int), ns.length ≤ n → Only H → SqL (K w.params) H a (ns.map V.int) → sp w [.ref a] H (fun v _ => v = .bl true) fun _ _ _ => False)
    (hCX : ∀ (w : World) (H : Hp) (s : Shared) (e : Value) (s' : Shared), CX w [] H s (fun _ _ _ => False) e s' → False) : PySem.W.WalkO q loose XP YP l.row.toRowW d [] (fun f vs => PySem.call f vs) := by
  refine Att.attach_call hn hdf fun w s0 s1 mg mb fa o pm cd doc a vs ns G Y ho hd hcd hmg hobj hints hlen hg => ?_
  have KX := hY w _ Y
  obtain ⟨fd, hb, hF⟩ := F w mg fa _ KX G.T.g hmg
  exact law_callG KX G.T.g G.T.b G.T.builtins G.T.nolimit hg hobj hints (Nat.le_trans hlen hn2) hr hF hb (fun H hO hS => hsp w H a ns hlen hO hS) fun H e s' => hCX w H s1 e s'
end KL
set_option Elab.async false
set_option linter.all false
set_option maxRecDepth 100000
set_option maxHeartbeats 4000000
namespace KL
open PySem L2 PySem.KX PySem.Spec PyProof.Rows
theorem fnG0 {P : Program} {w : World} {K : PySem.W.Frag} {mg : Str → Option Value} {base : Heap} {k : Nat} {f : Addr} {qual x : Str} {st : Stmt} {N ps : List Str} {sp : Sp} {fd : FuncData} (F : Fun K x qual st f fd) (S : FnScope N ps (defScope st)) (len : ∀ vs H Q E, sp vs H Q E → vs.length = ps.length)
    (hbody : ∀ (cdv : Value) (A : Around) (outer : List Env) (s : Shared) (H : Hp) (vs : List V) (Q : VK) (E : XK), A.guards = some [] → Room k (A.deeper (envOfC qual (defScope st) s.heap.objs.size f cdv)) → sp vs H Q E →
      ∃ t, PSs (cxOf CX0 P w K mg base N qual (defScope st) f cdv A outer s H E).nox (defBody st) t ∧ t { nx := fun _ H' => Q .non H', rt := Q } (start N vs) H) : FnG P w K mg base CX0 (k + 1) f fd ps sp :=
  fnG F S len fun cdv A outer s H vs Q E hg hr hs => by
    obtain ⟨t, ht, hq⟩ := hbody cdv A outer s H vs Q E hg hr hs
    exact ⟨t, ht.nox, hq⟩
/-- what a raised error leaves to be wished for -/
def tMkX (C : Addr) (fl : Str) (ta : TA) : L2.St → Hp → XK → Prop := fun σ H Q => ta σ H fun vs H1 => ∃ v, vs = [v] ∧ ∀ d, H1 d = none → Q (.ref C) (some d) (upd H1 d (.xd [(fl, v)]))
section
variable {X : Cx} {C fI : Addr} {fl qual x : Str} {p pos kpos : Pos} {e : Expr} {te : TE} {ta : TA}
theorem mkpOf {pins : List (Addr × Obj)} {σ : L2.St} {H : Hp} {s : Shared} {h' : Heap} {tk : Nat} {a d : Addr} {v : V} {u : Value} {Q : XK} (I : Inv X pins σ H s) (M : Made s.heap h' a C d fl u) (rv : RelV v u) (hR : Raises X (.ref C)) (q : ∀ d, H d = none → Q (.ref C) (some d) (upd H d (.xd [(fl, v)]))) :
    MkP X pins σ Q (.ref a) { s with heap := h', toks := tk } := by
  have nd : H d = none := I.hok.fresh M.dbig
  have na : H a = none := I.hok.fresh M.new
  obtain ⟨G, g1, g2⟩ := restrict h' fun b => decide (b ≠ a)
  have gk : ∀ b, b ≠ a → G.get? b = h'.get? b := fun b hb => g1 b (decide_eq_true hb)
  have ga : G.get? a = none := g2 a (by simp)
  have gs : ∀ b o, G.get? b = some o → h'.get? b = some o := fun b o e => by
    by_cases hb : b = a
    · rw [hb, ga] at e
      cases e
    · rw [← gk b hb]
      exact e
  obtain ⟨o, es, ep, y1, y2⟩ := M.ns
  have new : ObjOk X.prog X.w (upd H d (.xd [(fl, v)])) G d (.xd [(fl, v)]) := by
    refine ⟨_, ⟨o, es, ep, (gk d M.dne).trans y1, y2⟩, fun f => ?_⟩
    rw [lookup_put]
    by_cases hf : f = fl
    · rw [if_pos hf, if_pos hf]
      exact rv
    · rw [if_neg hf, if_neg hf]
      exact True.intro
  have J := I.laid (t' := tk) (a := d) (o := .xd [(fl, v)]) (h' := G) (fun b o e => (gk b (Nat.ne_of_lt (Nat.lt_of_lt_of_le (Heap.lt_size e) M.new))).trans (M.keep b o e)) M.dbig new
  obtain ⟨t1, ho⟩ := M.obj
  exact ⟨a, _, _, { s with heap := G, toks := tk }, _, .ref C, some d, rfl, J, gs, ga, ho, ⟨rfl, rfl⟩, rfl, rfl, by rw [upd_ne M.dne.symm]; exact na, rfl, I.bare, hR, q d nd⟩
theorem pmk_ex (T : EI X.K C fI fl qual) (tC : PySem.W.typeIn X.K (.ref C) = some (.type "type")) (gC : X.mg x = some (.ref C)) (hr : Room 1 X.A) (hg : Gl X x) (ha : PA X [e] ta) (hdb : (x == ("__debug__" : Str)) = false := by decide) (he : starEach (e :: []) X.env = (false, eval e X.env) :: starEach [] X.env := by rfl)
    (hpl : (backTo pos (starEach [] X.env)).any (·.1) = false := by rfl) : PMk X (.Call (.Name x p) [e] [] pos) (tMkX C fl ta) := by
  intro pins s σ H Q I h
  refine wpAny_Call_Name_kw (ld_glob I hg gC ?_ hdb)
  refine PySem.W.callWith_K (h₀ := X.base) I.ok.mod.kin T.c.kp (thn (ha.run pos pins s σ H _ I h) fun us s1 ⟨vs, H1, I1, r, v, ev, q⟩ => ⟨I1.kIn, ?_⟩) he hpl
  subst ev
  cases r with
  | cons rv rn =>
    cases rn
    exact wpAny_call (exMade T (.inl rfl) I1.kIn I1.nolimit (by have := hr.dp; omega) fun h' tk a d M => mkpOf I1 M rv (raises_own T.c.is.hs tC) q)
theorem pmk_exK (T : EI X.K C fI fl qual) (tC : PySem.W.typeIn X.K (.ref C) = some (.type "type")) (gC : X.mg x = some (.ref C)) (hr : Room 1 X.A) (hg : Gl X x) (ha : PE X e te) (hdb : (x == ("__debug__" : Str)) = false := by decide)
    (hall : (backToKw pos (keywordEach [⟨some fl, e, kpos⟩] X.env)).all (·.1.isSome) = true := by rfl) (hks : (backToKw pos (keywordEach [⟨some fl, e, kpos⟩] X.env)).filterMap (·.1) = [fl] := by rfl)
    (hpl : ((backTo pos (starEach [] X.env)).any (·.1) || (backToKw pos (keywordEach [⟨some fl, e, kpos⟩] X.env)).any (·.1.isNone)) = false := by rfl) : PMk X (.Call (.Name x p) [] [⟨some fl, e, kpos⟩] pos) (tMkX C fl (tCons te tNil)) := by
  intro pins s σ H Q I h
  refine wpAny_Call_Name_kw (ld_glob I hg gC ?_ hdb)
  refine PySem.W.callWith_KW0 (h₀ := X.base) I.ok.mod.kin T.c.kp hall ?_ hpl
  refine thn ((pk_cons ha pk_nil).run pos pins s σ H _ I h) fun us s1 ⟨vs, H1, I1, r, v, ev, q⟩ => ⟨I1.kIn, ?_⟩
  rw [hks]
  subst ev
  cases r with
  | cons rv rn =>
    cases rn
    exact wpAny_call (exMade T (.inr rfl) I1.kIn I1.nolimit (by have := hr.dp; omega) fun h' tk a d M => mkpOf I1 M rv (raises_own T.c.is.hs tC) q)
/-- isinstance of the error that the suite holds -/
def rIsX (K : PySem.W.Frag) (a : Addr) (cls : Value) (d : Option Addr) : List V → Hp → VK → Prop := fun xs H Q => ∃ (D dd : Addr) (fs : List (Str × V)) (c : V) (cv : Value) (b : Bool), xs = [.ref a, c] ∧ cls = .ref D ∧ d = some dd ∧ H dd = some (.xd fs) ∧ EC K D ∧ ClsV c cv ∧ PySem.W.kitOne K (.ref D) cv = some b ∧ Q (.bl b) H
theorem call_isX {a : Addr} {oe : Obj} {cls : Value} {d : Option Addr} {pn : List (Addr × Obj)} (hz : Zc cls d oe) (hf : ∃ vs, oe.data = .fields vs) : CallR (X.suite a ((a, oe) :: pn)) (.builtin "isinstance") (rIsX X.K a cls d) := by
  intro pins s σ H xs us Q I r h
  obtain ⟨D, dd, fs, c, cv, b, rfl, rfl, rfl, hd, T, kc, e, q⟩ := h
  obtain ⟨u1, u2, rfl, r1, r2⟩ := vals2 r
  have e2 := kc.eq r2
  subst e2
  cases (show u1 = Value.ref a from r1)
  obtain ⟨ha, _⟩ := I.pin (a, oe) (List.mem_append_left _ List.mem_cons_self)
  obtain ⟨vs, hv⟩ := hf
  have hx : ObjOk X.prog X.w H s.heap dd (.xd fs) := I.hok dd _ hd
  obtain ⟨mA, hns, _⟩ := hx
  obtain ⟨od, hod, _⟩ := lookIn_ns hns
  have J : PySem.W.InstAt s.heap a oe D (some od) := ⟨ha, hz.1, by unfold PySem.W.notCls; rw [hv] <;> rfl, by rw [hz.2]; exact hod⟩
  have hcl : (PySem.W.clsIn X.K D).isSome = true := by
    obtain ⟨cd, hc, _⟩ := PySem.W.any_some T.hd
    rw [hc]
    rfl
  exact PySem.W.kia_one (PySem.W.kitx_exc hcl T.is.hg T.is.hk T.is.hs T.is.ha T.is.hn T.is.ht T.is.hm) I.kIn J e (fun z => nomatch z) fun tk => ⟨.bl b, H, I.kept (t' := tk) fun _ _ z => z, rfl, q⟩
end
end KL
set_option Elab.async false
set_option linter.all false
set_option maxRecDepth 100000
set_option maxHeartbeats 2000000
namespace KL
open PySem L2 PySem.Spec PyProof.Rows
/-- d[t] = v in a comprehension, t a tuple of ints and texts -/
theorem dt_put {X : Cx} {pins : List (Addr × Obj)} {σ : L2.St} {H : Hp} {s : Shared} {A : Around} {E : Value → Shared → Prop} {D b : Addr} {kvs : List (List Key × V)} {k : List Key} {v : V} {r : Value} {Q : Unit → Shared → Prop} (hu : A.units < cLine) (I : Inv X pins σ H s)
    (hD : H D = some (.dT kvs)) (hz : kvs.length < sizeLine) (hb : H b = some (.tup (k.map kV))) (rv : RelV v r) (q : ∀ t, Inv X pins σ (upd H D (.dT (putK kvs k v))) t → Q () t) : wpAny (model X.prog X.w) A (dictSet D (.ref b) r) Q E s := by
  obtain ⟨z, hd, xs, rel, dd⟩ := dt_of I.hok hD
  have lx : xs.length ≤ sizeLine := (Paired.length rel) ▸ z
  have lp : (putK kvs k v).length ≤ sizeLine := Nat.le_trans (length_putK kvs k v) hz
  refine wpAny_dictSet_heap (hsz := lx) (show (tupleKind (mixKind X.prog X.w)).room A from hu) (key_of I.hok hb) dd fun h2 d2 same2 => q _ ?_
  obtain ⟨o, es, ep, q1, q2, q3, q4, _, q5⟩ := d2
  refine d_write I (by rw [hD]; exact True.intro) same2 ⟨o, q1⟩ ⟨lp, hd, _, (rel.put k hb rv).keeps fun c ys ec => ?_, o, es, ep, q1, q2, q3, q4, q5⟩
  rw [upd_ne (ne_of ec hD (fun z => nomatch z)), ec]
section
variable {B : Cx} {kx vx tg iter : Expr} {scope : Scope} {pos : Pos} {g : TG} {tk tv : TE} {vs : List Nat} {σ0 : L2.St} {J : It} {fp : List Addr} {it D : Addr} {tn : Nat → Heap → Prop} {W : Nat → Nat → Hp → Prop} {Fin : Hp → Prop} {R : Result → Shared → Prop}
/-- the turns of {k: v for target in iter}, keys tuples -/
theorem dt_loop (hc : B.calm = true) (hu : B.A.units < cLine) (T : Turn B.prog B.w B.K tg J fp it tn) (own : ∀ (σ' : L2.St) (H' : Hp) (s' : Shared), Inv B [] σ' H' s' → (∀ b ∈ fp, H' b = none) → ∀ b ∈ fp, FpOk B [] H' b)
    (gq : PG B tg g) (kq : PE B kx tk) (vq : PE B vx tv)
    (turns : ∀ i m H, W i m H → (J.stop i H ∧ Fin H) ∨ (J.go i H ∧ ∃ Nx : Hp → Prop, (∀ H', Nx H' → ∃ m', m' < m ∧ W (i + 1) m' H') ∧ ∀ x H', J.yld i H x H' → g x σ0 H' fun σ2 H2 => wipe σ2 vs = σ0 ∧
      tk σ2 H2 fun y H4 => tv σ2 H4 fun z H5 => ∃ (kvs : List (List Key × V)) (k : List Key) (b : Addr), y = .ref b ∧ H5 b = some (.tup (k.map kV)) ∧ H5 D = some (.dT kvs) ∧ kvs.length < sizeLine ∧ Nx (upd H5 D (.dT (putK kvs k z)))))
    (fin : ∀ s' H', Inv B [] σ0 H' s' → Fin H' → R (.ok .next) s') {m0 : Nat} {H0 : Hp} {s0 : Shared} (I0 : Inv B [] σ0 H0 s0) (t0 : tn 0 s0.heap) (n0 : ∀ b ∈ fp, H0 b = none) (w0 : W 0 m0 H0)
    (hxe : ∀ e s, B.xe e s → False) : codeAny (model B.prog B.w) B.A (.compLoop (.DictComp kx vx [⟨tg, iter, [], 0⟩] scope pos) 0 (.ref it) (.ref D) B.env) R s0 := by
  refine compLoop_anyD (fun n s' => ∃ i H', Inv B [] σ0 H' s' ∧ tn i s'.heap ∧ (∀ b ∈ fp, H' b = none) ∧ W i n H') ?_ m0 ⟨0, H0, I0, t0, n0, w0⟩
  rintro n s1 ⟨i, H1, I1, t1, n1, w1⟩
  have out : ∀ {α : Type} {m : Sem α} {Q Q' : α → Shared → Prop} {E' : Value → Shared → Prop} {s : Shared}, wpAny (model B.prog B.w) B.A m Q B.xe s → (∀ a s', Q a s' → Q' a s') → wpAny (model B.prog B.w) B.A m Q' E' s := fun h f => wpAny_mono h f fun e s' z => (hxe e s' z).elim
  have out0 : ∀ {α : Type} {m : Sem α} {Q Q' : α → Shared → Prop} {E' : Value → Shared → Prop} {s : Shared}, wpAny (model B.prog B.w) B.A m Q (fun _ _ => False) s → (∀ a s', Q a s' → Q' a s') → wpAny (model B.prog B.w) B.A m Q' E' s := fun h f => wpAny_mono h f fun _ _ z => z.elim
  rcases turns i n H1 w1 with ⟨st, fq⟩ | ⟨go, Nx, hN, step⟩
  · refine out0 (T.done B rfl rfl rfl hc i [] s1 _ H1 _ I1 (own _ _ _ I1 n1) t1 st) fun r s2 hr => ?_
    obtain ⟨rfl, I2⟩ := hr
    exact fin s2 H1 I2 fq
  · refine out0 (T.item B rfl rfl rfl hc i [] s1 _ H1 _ I1 (own _ _ _ I1 n1) t1 go) fun r s2 hr => ?_
    obtain ⟨u, rfl, h2⟩ := hr
    refine out0 h2 fun _ s3 h3 => ?_
    obtain ⟨x, H3, I3, r3, y3, t3, n3⟩ := h3
    have P3 := I3.pinned (own _ _ _ I3 n3) (T.obj _ _ t3)
    refine out (gq.run _ s3 _ H3 x u _ P3 r3 (step x H3 y3)) fun _ s4 h4 => ?_
    obtain ⟨σ4, H4, I4, w4, q4⟩ := h4
    show wpAny _ _ (forIn ([] : List Expr) true _) _ _ _
    refine wpAny_pure ?_
    rw [if_pos rfl]
    refine out (kq.run _ s4 σ4 H4 _ I4 q4) fun uk s5 h5 => ?_
    obtain ⟨yk, H5, I5, r5, q5⟩ := h5
    refine out (vq.run _ s5 σ4 H5 _ I5 q5) fun uv s6 h6 => ?_
    obtain ⟨yv, H6, I6, r6, kvs, k, b, ek, hb, hD, hz, nx⟩ := h6
    subst ek
    cases (show uk = Value.ref b from r5)
    refine dt_put hu I6 hD hz hb r6 fun s7 I7 => ?_
    obtain ⟨m', hm, w'⟩ := hN _ nx
    have pin : ∀ c ∈ fp, ∀ o, s3.heap.get? c = some o → s7.heap.get? c = some o ∧ upd H6 D (.dT (putK kvs k yv)) c = none := fun c hcf o e => by
      have z := I7.pin (c, o) (List.mem_append_right _ (List.mem_append_right _ (mem_pinsAt hcf e)))
      exact ⟨z.1, z.2.1⟩
    have l4 : σ0.length = σ4.length := by rw [← w4, wipe_length]
    refine ⟨m', hm, i + 1, _, (I7.unpinned (pins := [])).weak l4 (fun j v e => ?_), T.keep _ _ _ t3 fun c hcf o e => (pin c hcf o e).1, fun c hcf => ?_, w'⟩
    · rw [← w4] at e
      exact (wipe_some e).1
    · obtain ⟨o, e, _⟩ := T.obj _ _ t3 c hcf
      exact (pin c hcf o e).2
end
end KL
set_option Elab.async false
set_option linter.all false
set_option maxRecDepth 100000
set_option maxHeartbeats 2000000
namespace KL
open PySem L2 PySem.Spec PyProof.Rows
/-- {t: v for target in iter}, keys tuples of ints and texts -/
def tDcT (wi : TI) (g : TG) (tk tv : TE) (vs : List Nat) : TE := fun σ H Q => wi σ H fun J H1 => ∀ D, H1 D = none → ∃ W : Nat → Nat → Hp → Prop, (∃ m, W 0 m (upd H1 D (.dT []))) ∧ ∀ i m H, W i m H →
  (J.stop i H ∧ Q (.ref D) H) ∨ (J.go i H ∧ ∃ Nx : Hp → Prop, (∀ H', Nx H' → ∃ m', m' < m ∧ W (i + 1) m' H') ∧ ∀ x H', J.yld i H x H' → g x (wipe σ vs) H' fun σ2 H2 => wipe σ2 vs = wipe σ vs ∧
    tk σ2 H2 fun y H4 => tv σ2 H4 fun z H5 => ∃ (kvs : List (List Key × V)) (k : List Key) (b : Addr), y = .ref b ∧ H5 b = some (.tup (k.map kV)) ∧ H5 D = some (.dT kvs) ∧ kvs.length < sizeLine ∧ Nx (upd H5 D (.dT (putK kvs k z))))
section
variable {X : Cx}
theorem dt_core {pins : List (Addr × Obj)} {σ : L2.St} {H : Hp} {s : Shared} {Q : VK} {us : Option (Value → Sem Unit)} {Qz : Value → Shared → Prop} {pos2 : Pos} {kx vx tg iter : Expr} {scope : Scope} {own : List (Str × Nat)} {pos : Pos} {wi : TI} {g : TG} {tk tv : TE} (hc : X.calm = true) (hu : X.A.units < cLine) (hN : X.N.Nodup) (hi : PI X tg iter wi) (ok : BlkOk X.N X.env.scope scope own)
    (gq : ∀ (s : Shared) (H : Hp) (C : Addr) (cs : List (Str × Addr)) (fp : List Addr), PG (X.blk s H scope (compEnvC scope cs C X.env) fp) tg g)
    (kq : ∀ (s : Shared) (H : Hp) (C : Addr) (cs : List (Str × Addr)) (fp : List Addr), PE (X.blk s H scope (compEnvC scope cs C X.env) fp) kx tk)
    (vq : ∀ (s : Shared) (H : Hp) (C : Addr) (cs : List (Str × Addr)) (fp : List Addr), PE (X.blk s H scope (compEnvC scope cs C X.env) fp) vx tv) (fold : ∀ x, foldedSetIterable iter X.env x = pure x) (I : Inv X pins σ H s) (h : tDcT wi g tk tv (own.map (·.2)) σ H Q)
    (post : ∀ D C s' m H', Inv X pins σ H' s' → Q (.ref D) H' → s'.heap.Ns C m → FpOk X pins H' C → compPost (model X.prog X.w) X.A X.xe us Qz (.ref D) C (.ok .next) s') :
    wpAny (model X.prog X.w) X.A (comprehension (.DictComp kx vx [⟨tg, iter, [], 0⟩] scope pos) scope X.env pos2 newDict false (eval iter X.env) us) Qz X.xe s := by
  have has : ∀ y ∈ scope.names, y.2 = .free → ∃ c, X.env.cells.lookup y.1 = some c := fun y hy e => (ok.free y hy e).elim (fun k => I.ok.has _ (.inl k)) fun k => I.ok.has _ (.inr k)
  refine wpAny_comprehension_free rfl fold (closure_ok has) ok.kind (fun y hy e => (ok.uniq y hy).trans (congrArg some e)) (thn (hi.run pins s σ H _ I h) fun xv s1 hx => thn hx fun itv s2 h2 => ?_)
  obtain ⟨it, fp, tn, J, H2, rfl, I2, T, t2, f2, q⟩ := h2
  refine wpAny_newObj_type (newEnv_comp ?_)
  have nD : H2 s2.heap.objs.size = none := I2.hok.fresh (Nat.le_refl _)
  obtain ⟨W, ⟨m0, w0⟩, turns⟩ := q _ nD
  -- the dict is there
  let s3 : Shared := { s2 with heap := s2.heap.push { cls := .type "dict", data := .dict #[] } }
  have I3 : Inv X pins σ (upd H2 s2.heap.objs.size (.dT [])) s3 := I2.laid (t' := s2.toks) (fun b o e => Heap.get?_push_of_some _ e) (Nat.le_refl _) (dt_empty s2.heap I2.big)
  have f3 : ∀ b ∈ fp, FpOk X pins (upd H2 s2.heap.objs.size (.dT [])) b ∧ b < s3.heap.objs.size := fun b hb => by
    obtain ⟨o, e, _⟩ := T.obj _ _ t2 b hb
    have lt := Heap.lt_size e
    obtain ⟨z, r⟩ := f2 b hb
    refine ⟨⟨(upd_ne (Nat.ne_of_lt lt)).trans z, r⟩, ?_⟩
    show b < (s2.heap.push _).objs.size
    rw [Heap.size_push]
    exact Nat.lt_succ_of_lt lt
  have t3 : tn 0 s3.heap := T.keep _ _ _ t2 fun b _ o e => Heap.get?_push_of_some _ e
  have I4 := block_start I3 ok hN f3
  have gq := gq s3 (upd H2 s2.heap.objs.size (.dT [])) s3.heap.objs.size (cellsFrom (s3.heap.objs.size + 1) scope.names (cloFrom X.env.cells scope.names [])) fp
  have kq := kq s3 (upd H2 s2.heap.objs.size (.dT [])) s3.heap.objs.size (cellsFrom (s3.heap.objs.size + 1) scope.names (cloFrom X.env.cells scope.names [])) fp
  have vq := vq s3 (upd H2 s2.heap.objs.size (.dT [])) s3.heap.objs.size (cellsFrom (s3.heap.objs.size + 1) scope.names (cloFrom X.env.cells scope.names [])) fp
  have t4 : tn 0 (pushCells (s3.heap.push { cls := .type "dict", data := .dict #[] }) scope.names) := T.keep _ _ _ t3 fun b _ o e => pushCells_keeps _ _ _ _ (Heap.get?_push_of_some _ e)
  have loop := dt_loop (B := X.blk s3 (upd H2 s2.heap.objs.size (.dT [])) scope (compEnvC scope (cellsFrom (s3.heap.objs.size + 1) scope.names (cloFrom X.env.cells scope.names [])) s3.heap.objs.size X.env) fp) (iter := iter) (pos := pos) (scope := scope)
    (R := compPost (model X.prog X.w) X.A X.xe us Qz (.ref s2.heap.objs.size) s3.heap.objs.size) (vs := own.map (·.2)) (σ0 := wipe σ (own.map (·.2))) (D := s2.heap.objs.size) (Fin := fun H => Q (.ref s2.heap.objs.size) H) hc hu T
    (fun σ' H' s' I' hn b hb => ⟨hn b hb, (I'.ok.exf b hb).1, I'.ok.exfs b hb, .inl hb, fun x c e => (I'.ok.exf b hb).2 x c e, fun p hp => absurd hp (by simp)⟩)
    gq kq vq turns (fun s5 H5 I5 fq => ?_) I4 t4 (fun b hb => (f3 b hb).1.1) w0 (fun _ _ z => z)
  · exact codeAny_compStart_dict loop (T.self X.A 0 _ _ _ t4 loop)
  · have I6 : Inv X pins σ H5 s5 := I3.call' (ch := fp) I5.os I5.base I5.hok I5.bare fun b hb => by
      obtain ⟨_, z1, _, z3, z4, z5⟩ := (f3 b hb).1
      exact ⟨z3, z1, z4, z5⟩
    have nC : H5 s3.heap.objs.size = none := I5.free
    obtain ⟨m, hn, _⟩ := I5.loc
    exact post _ _ s5 m H5 I6 fq hn (I3.fpOk (Nat.le_refl _) nC)
theorem pe_dcT {kx vx tg iter : Expr} {scope : Scope} {own : List (Str × Nat)} {pos : Pos} {wi : TI} {g : TG} {tk tv : TE} (hc : X.calm = true) (hu : X.A.units < cLine) (hN : X.N.Nodup) (hi : PI X tg iter wi) (ok : BlkOk X.N X.env.scope scope own)
    (gq : ∀ (s : Shared) (H : Hp) (C : Addr) (cs : List (Str × Addr)) (fp : List Addr), PG (X.blk s H scope (compEnvC scope cs C X.env) fp) tg g)
    (kq : ∀ (s : Shared) (H : Hp) (C : Addr) (cs : List (Str × Addr)) (fp : List Addr), PE (X.blk s H scope (compEnvC scope cs C X.env) fp) kx tk)
    (vq : ∀ (s : Shared) (H : Hp) (C : Addr) (cs : List (Str × Addr)) (fp : List Addr), PE (X.blk s H scope (compEnvC scope cs C X.env) fp) vx tv) (fold : ∀ x, foldedSetIterable iter X.env x = pure x := by intro _; rfl) :
    PE X (.DictComp kx vx [⟨tg, iter, [], 0⟩] scope pos) (tDcT wi g tk tv (own.map (·.2))) := by
  refine ⟨fun pins s σ H Q I h => ?_⟩
  rw [arm_eval_DictComp]
  refine dt_core hc hu hN hi ok gq kq vq fold I h fun D C s5 m H5 I6 fq hn f => ⟨m, hn, fun h6 sb => ?_⟩
  obtain ⟨z0, z1, z2, z3, z4, z5⟩ := f
  exact ⟨.ref _, H5, I6.turned (t' := s5.toks) (fun b o hb e => (sb.2 b hb).trans e) z0 z1 z3 z4 z5, rfl, fq⟩
/-- y = {t: v for target in iter} -/
theorem ps_setDcT {i : Nat} {y : Str} {py spos : Pos} {kx vx tg iter : Expr} {scope : Scope} {own : List (Str × Nat)} {pos : Pos} {wi : TI} {g : TG} {tk tv : TE} (hy : X.N[i]? = some y) (hyl : X.env.scope.names.lookup y = some .local) (sw : swapsWith (.DictComp kx vx [⟨tg, iter, [], 0⟩] scope pos) (some (.Name y py)) spos.line X.env = pure true) (hc : X.calm = true) (hu : X.A.units < cLine) (hN : X.N.Nodup) (hi : PI X tg iter wi) (ok : BlkOk X.N X.env.scope scope own)
    (gq : ∀ (s : Shared) (H : Hp) (C : Addr) (cs : List (Str × Addr)) (fp : List Addr), PG (X.blk s H scope (compEnvC scope cs C X.env) fp) tg g)
    (kq : ∀ (s : Shared) (H : Hp) (C : Addr) (cs : List (Str × Addr)) (fp : List Addr), PE (X.blk s H scope (compEnvC scope cs C X.env) fp) kx tk)
    (vq : ∀ (s : Shared) (H : Hp) (C : Addr) (cs : List (Str × Addr)) (fp : List Addr), PE (X.blk s H scope (compEnvC scope cs C X.env) fp) vx tv) (fold : ∀ x, foldedSetIterable iter X.env x = pure x := by intro _; rfl) :
    PS X (.Assign [.Name y py] (.DictComp kx vx [⟨tg, iter, [], 0⟩] scope pos) spos) (tAsg (tDcT wi g tk tv (own.map (·.2))) (gName i)) := by
  refine ⟨fun pins s σ H D I h => ?_⟩
  rw [exec_Assign_Name_used _ _ _ _ sw, arm_evalThenUse_DictComp]
  have h : tDcT wi g tk tv (own.map (·.2)) σ H (fun x H1 => gName i x σ H1 D.nx) := h
  refine wpAny_bind (wpAny_standAt (wpAny_bind (wpAny_bind (thn (dt_core (Qz := fun _ t => SP X pins D .next t) hc hu hN hi ok gq kq vq fold I h fun L C s5 m H5 I6 fq hn f => ?_) fun _ t hq => wpAny_pure (wpAny_pure hq)))))
  show wpAny _ _ (assign (.Name y py) X.env (.ref L)) _ _ _
  refine wpAny_assign_Name (store_ok2 (v := V.ref L) I6 hN hy (.inl hyl) rfl (fun s2 I2 ⟨a, sb, ha⟩ => ?_) (.inr hyl))
  obtain ⟨z0, z1, z2, z3, z4, z5⟩ := f
  have nC : C ≠ a := ha.elim (fun z => z ▸ z1) fun z e => z4 y a z e.symm
  exact ⟨m, hn.sameBut sb nC, fun h6 sb6 => ⟨_, H5, I2.turned (t' := s2.toks) (fun b o hb e => (sb6.2 b hb).trans e) z0 z1 z3 z4 z5, fq⟩⟩
end
end KL
set_option Elab.async false
set_option linter.all false
set_option maxRecDepth 100000
set_option maxHeartbeats 2000000
namespace KL
open PySem L2 PySem.KX PySem.Spec PyProof.Rows
/-- a def that may raise -/
theorem fnX {P : Program} {w : World} {K : PySem.W.Frag} {mg : Str → Option Value} {base : Heap} {x qual : Str} {st : Stmt} {f : Addr} {fd : FuncData} {N ps : List Str} {k : Nat} {sp : Sp} (F : Fun K x qual st f fd) (S : FnScope N ps (defScope st)) (len : ∀ vs H Q E, sp vs H Q E → vs.length = ps.length)
    (hbody : ∀ (cdv : Value) (A : Around) (outer : List Env) (s : Shared) (H : Hp) (vs : List V) (Q : VK) (E : XK), Room k (A.deeper (envOfC qual (defScope st) s.heap.objs.size f cdv)) → sp vs H Q E →
      Takes (cxOf (L2.CX P w) P w K mg base N qual (defScope st) f cdv A outer s H E) (fun cls d _ H' => E cls d H') →
      PassesOwn (model P w) (A.deeper (envOfC qual (defScope st) s.heap.objs.size f cdv)) (envOfC qual (defScope st) s.heap.objs.size f cdv) (cxOf (L2.CX P w) P w K mg base N qual (defScope st) f cdv A outer s H E).xe →
      ∃ t, PSs (cxOf (L2.CX P w) P w K mg base N qual (defScope st) f cdv A outer s H E) (defBody st) t ∧ t { nx := fun _ H' => Q .non H', rt := Q } (start N vs) H) : FnOk P w K mg base (L2.CX P w) (k + 1) f fd ps sp := by
  obtain ⟨oc, od, kV, doc, pm, an, cdv, ct, osl, rfl, lk, hcd⟩ := F.ex
  exact fn_of lk hcd S len fun A outer s H vs Q E hr hs => hbody cdv A outer s H vs Q E hr hs (takes_of rfl rfl rfl rfl) (passes_of rfl)
structure TxtE (K : PySem.W.Frag) (mg : Str → Option Value) (CB IB : Addr) : Prop where
  ei : EI K CB IB "part" "BadHouse.__init__"
  ty : PySem.W.typeIn K (.ref CB) = some (.type "type")
  m : mg "BadHouse" = some (.ref CB)
def cut2 : PyData → PyData
  | .tuple ds => .tuple (ds.take 2)
  | d => d
def badOf (ok : Bool) (word : Str) : Option PyData := if ok = true then none else some (.str word)
def chkA (k : Kit) (d : PyData) : Option PyData :=
  if isTupD d = true then ((itemsD d).find? fun x => !arrowD k x).or (badOf (ascD ((itemsD d).map cut2)) "arrows") else some (.str "arrows")
def spChk (C CB : Addr) (f : Kit → PyData → Option PyData) : Sp := fun vs H Q E => ∃ (hv v : V) (d : PyData) (kt : Kit), vs = [hv, v] ∧ Hs H hv C kt ∧ Dq H v d ∧ smB d = true ∧ (f kt d = none → ∀ H', Same H H' → Q .non H') ∧
  ∀ it, f kt d = some it → ∀ H' dd v', Same H H' → Dq H' v' it → H' dd = some (.xd [("part", v')]) → E (.ref CB) (some dd) H'
theorem find_at {p : PyData → Bool} : ∀ {ds : List PyData} {i : Nat} {d : PyData}, (ds.take i).all p = true → ds[i]? = some d → p d = false → (ds.find? fun x => !p x) = some d
  | [], _, _, _, e, _ => by simp at e
  | x :: ds, 0, d, _, e, h => by
    simp at e
    subst e
    rw [List.find?_cons_of_pos]
    simp [h]
  | x :: ds, i + 1, d, a, e, h => by
    have a' := Bool.and_eq_true_iff.mp (show (p x && (ds.take i).all p) = true from a)
    rw [List.find?_cons_of_neg (by simp [a'.1])]
    exact find_at a'.2 (by simpa using e) h
theorem find_none {p : PyData → Bool} {ds : List PyData} (a : ds.all p = true) : (ds.find? fun x => !p x) = none := by
  rw [List.find?_eq_none]
  intro x hx
  simp [List.all_eq_true.mp a x hx]
theorem take_all {p : PyData → Bool} {ds : List PyData} {i : Nat} {d : PyData} (a : (ds.take i).all p = true) (e : ds[i]? = some d) (h : p d = true) : (ds.take (i + 1)).all p = true := by
  rw [List.take_add_one, e, List.all_append, a]
  simp [h]
/-- a comprehension that has made these data so far, some of them new -/
def MadeN (H0 : Hp) (D : Addr) (es : List PyData) (H : Hp) : Prop := ∃ (J : Hp) (ys : List V), Same H0 J ∧ J D = none ∧ Same J H ∧ H D = some (.lst ys) ∧ DqAll J ys es
theorem MadeN.start {H0 : Hp} {D : Addr} (nD : H0 D = none) : MadeN H0 D [] (upd H0 D (.lst [])) := ⟨H0, [], Same.refl _, nD, same_new nD, upd_same, .nil⟩
theorem MadeN.same {H0 H : Hp} {D : Addr} {es : List PyData} (M : MadeN H0 D es H) : Same H0 H := by
  obtain ⟨J, ys, S0, _, S1, _⟩ := M
  exact S0.trans S1
theorem MadeN.turn {H0 H : Hp} {D p : Addr} {es ds : List PyData} {us : List V} (M : MadeN H0 D es H) (np : H p = none) (q : DqAll H0 us ds) :
    ∃ acc, upd H p (.tup us) D = some (.lst acc) ∧ acc.length = es.length ∧ MadeN H0 D (es ++ [.tuple ds]) (upd (upd H p (.tup us)) D (.lst (acc ++ [.ref p]))) := by
  obtain ⟨J, ys, S0, nD, S1, hD, hq⟩ := M
  have pD : p ≠ D := fun z => by
    rw [z, hD] at np
    cases np
  have nJ : J p = none := by
    cases e : J p with
    | none => rfl
    | some o =>
      rw [S1 _ _ e] at np
      cases np
  have SJ := same_new (o := .tup us) nJ
  refine ⟨ys, by rw [upd_ne pD.symm]; exact hD, hq.len, upd J p (.tup us), ys ++ [.ref p], S0.trans SJ, by rw [upd_ne pD.symm]; exact nD, fun b o e => ?_, upd_same, ?_⟩
  · have bD : b ≠ D := fun z => by
      rw [z, upd_ne pD.symm, nD] at e
      cases e
    rw [upd_ne bD]
    by_cases bp : b = p
    · subst bp
      rw [upd_same] at e ⊢
      exact e
    · rw [upd_ne bp] at e ⊢
      exact S1 _ _ e
  · exact (DqAll.same SJ _ _ hq).snoc (.tup upd_same (DqAll.same (S0.trans SJ) _ _ q))
theorem DqAll.take {H : Hp} : ∀ {ds : List PyData} {xs : List V} (n : Nat), DqAll H xs ds → DqAll H (xs.take n) (ds.take n)
  | [], _, n, h => by
    cases h
    simp
    exact .nil
  | _ :: _, _, 0, h => .nil
  | _ :: _, _, n + 1, h => by
    cases h with
    | cons q r => exact .cons q (DqAll.take n r)
theorem cut_two (xs : List V) (h : 2 ≤ xs.length) : cutV xs none (some 2) = xs.take 2 := by
  unfold cutV
  rw [HT.sIx_none, show HT.sIx xs.length xs.length (some 2) = min 2 xs.length from HT.sIx_nat xs.length xs.length 2]
  rw [List.drop_zero, Nat.sub_zero, Nat.min_eq_left h]
theorem not_whole (xs : List V) (h : 2 < xs.length) : ¬ (HT.sIx xs.length 0 none = 0 ∧ HT.sIx xs.length xs.length (some 2) = xs.length) := fun z => by
  have q := z.2
  rw [show HT.sIx xs.length xs.length (some 2) = min 2 xs.length from HT.sIx_nat xs.length xs.length 2] at q
  omega
theorem in_letters {n : Int} {dd : List PyData} {d : PyData} (h : deedsD n (.tuple dd) = true) (q : inD (dd.map (itemD 0)) d = true) : ∃ x, d = .str x ∧ letS x = true := by
  simp only [deedsD, Bool.and_eq_true] at h
  have h2 : dd.all (deedD n) = true := h.2.1
  obtain ⟨e, he, q⟩ := List.any_eq_true.mp (show (dd.map (itemD 0)).any (fun e => strIs e d) = true from q)
  obtain ⟨a, ha, rfl⟩ := List.mem_map.mp he
  obtain ⟨x, i, rfl, hx, _⟩ := deed_of (List.all_eq_true.mp h2 a ha)
  cases d with
  | str y =>
    have q : (x == y) = true := q
    exact ⟨y, rfl, by rw [← eq_of_beq q]; exact hx⟩
  | _ => exact absurd q (by simp [itemD, strIs, isStrD])
theorem arrow_of {k : Kit} {d : PyData} (hk : deedsD k.pe (.tuple k.dd) = true) (h : arrowD k d = true) : ∃ i x t f m, d = .tuple [.int i, .str x, .int t, f, m] ∧ letS x = true := by
  simp only [arrowD, Bool.and_eq_true] at h
  obtain ⟨h1, h2, h3, _⟩ := h
  obtain ⟨ds, rfl, l1, l2⟩ := tup_of h1
  obtain ⟨a, b, c, f, m, rfl⟩ := five l1 l2
  have h2 := Bool.and_eq_true_iff.mp (show (betD 0 (k.pl - 1) a && inD (k.dd.map (itemD 0)) b) = true from h2)
  obtain ⟨i, rfl, _⟩ := bet_of h2.1
  obtain ⟨x, rfl, hx⟩ := in_letters hk h2.2
  obtain ⟨t, rfl, _⟩ := bet_of (show betD 0 (k.pl - 1) c = true from h3)
  exact ⟨i, x, t, f, m, rfl, hx⟩
theorem lay_cuts {k : Kit} (hk : deedsD k.pe (.tuple k.dd) = true) : ∀ {ds : List PyData}, ds.all (arrowD k) = true → PyData.canLayAll0 (ds.map cut2) = true ∧ PyData.depthAll (ds.map cut2) ≤ 1
  | [], _ => ⟨rfl, Nat.zero_le _⟩
  | d :: ds, h => by
    have h' := Bool.and_eq_true_iff.mp (show (arrowD k d && ds.all (arrowD k)) = true from h)
    obtain ⟨q1, q2⟩ := lay_cuts hk h'.2
    obtain ⟨i, x, t, f, m, rfl, hx⟩ := arrow_of hk h'.1
    refine ⟨?_, ?_⟩
    · show ((true && (PyData.strOk x && true)) && PyData.canLayAll0 (ds.map cut2)) = true
      rw [(letS_ok hx).1, q1]
      rfl
    · show max 1 (PyData.depthAll (ds.map cut2)) ≤ 1
      omega
theorem cmp_cuts {k : Kit} {ds : List PyData} (hk : deedsD k.pe (.tuple k.dd) = true) (h : ds.all (arrowD k) = true) (i : Nat) (hi : i + 1 < (ds.map cut2).length) : cmpD ((ds.map cut2).getD i .none) ((ds.map cut2).getD (i + 1) .none) = true := by
  rw [List.length_map] at hi
  rw [getD_map (by omega), getD_map hi]
  obtain ⟨i1, x1, t1, f1, m1, e1, _⟩ := arrow_of hk (all_at (f := arrowD k) h (show i < ds.length by omega))
  obtain ⟨i2, x2, t2, f2, m2, e2, _⟩ := arrow_of hk (all_at (f := arrowD k) h hi)
  rw [e1, e2]
  rfl
section
variable {P : Program} {w : World} {K : PySem.W.Frag} {mg : Str → Option Value} {base : Heap} {C CB IB : Addr}
theorem scChkA : FnScope ["house", "arrows", "item", "arrow"] ["house", "arrows"] (defScope sChkArrows) := ⟨rfl, rfl, rfl, by decide +kernel, rfl, by decide +kernel, by decide +kernel⟩
theorem ok_chkA {f g1 g2 : Addr} {fd gd1 gd2 : FuncData} (F : Fun K "check_arrows" "check_arrows" sChkArrows f fd) (T : TxtB mg) (TE : TxtE K mg CB IB) (G1 : FnOk P w K mg base CX0 4 g1 gd1 ["house", "thing"] (spHs C arrowD)) (c1 : Cal K mg "is_arrow" g1 gd1 ["house", "thing"])
    (G2 : FnOk P w K mg base CX0 1 g2 gd2 ["items"] spAsc) (c2 : Cal K mg "is_ascending" g2 gd2 ["items"]) : FnOk P w K mg base (L2.CX P w) 5 f fd ["house", "arrows"] (spChk C CB chkA) := by
  refine fnX F scChkA (fun vs H Q E h => ?_) (fun cdv A outer s H vs Q E hr h tk po => ?_)
  · obtain ⟨hv, v, d, kt, rfl, _⟩ := h
    rfl
  · obtain ⟨hv, v, d, kt, rfl, hh, hd, sm, k, kE⟩ := h
    have hr1 : Room 1 _ := hr.mono (by decide)
    refine ⟨_, pss_cons (ps_if (pt_not (pt_val (pe_callB call_isD (by rfl) T.isi (by decide +kernel) (pa_cons (pv 1) (pa_cons (pe_bltn (v := .ty "tuple") (by rfl) T.tuple (by decide +kernel) rfl) pa_nil))))) (pss_one (ps_raise rfl tk (pmk_ex TE.ei TE.ty TE.m hr1 (by rfl) (pa_cons pe_str pa_nil)))) pss_nil)
      (pss_cons (ps_for po rfl (pi_tup (pv 1)) (pg_name (i := 2) scChkA.nd rfl (.inl rfl)) (pss_one (ps_if (pt_not (pt_val (pe_call G1 hr (by rfl) c1.m c1.k c1.b .nil pass0 (pa_cons (pv 0) (pa_cons (pv 2) pa_nil))))) (pss_one (ps_raise rfl tk (pmk_ex TE.ei TE.ty TE.m hr1 (by rfl) (pa_cons (pv 2) pa_nil)))) pss_nil)))
      (pss_one (ps_if (pt_not (pt_val (pe_call G2 hr1 (by rfl) c2.m c2.k c2.b .nil pass0 (pa_cons (pe_lc (own := [("arrow", 3)]) (g := gName 3) (tt := tYes) rfl scChkA.nd (pi_tup (pv 1)) (blkOk_by (N := ["house", "arrows", "item", "arrow"]) (sc := defScope sChkArrows) (by decide +kernel)) (fun _ _ _ _ _ => pg_name (i := 3) scChkA.nd rfl (.inl rfl)) (fun _ _ _ _ _ => pts_nil)
        (fun _ _ _ _ _ => pe_slice (r := rSlT K) sl_tup (pv 3) po_none (po_some pe_int))) pa_nil)))) (pss_one (ps_raise rfl tk (pmk_ex TE.ei TE.ty TE.m hr1 (by rfl) (pa_cons pe_str pa_nil)))) pss_nil))), ?_⟩
    have no : isTupD d = false → ∀ dd, H dd = none → E (.ref CB) (some dd) (upd H dd (.xd [("part", .str "arrows")])) := fun z dd nd => by
      refine kE (.str "arrows") ?_ _ dd _ (same_new nd) (.str _) upd_same
      unfold chkA
      rw [z]
      rfl
    refine ⟨_, rfl, v, d, "tuple", rfl, by decide, hd, _, rfl, ?_⟩
    cases hd with
    | @tup b xs ds e hda =>
      have hD : isTupD (.tuple ds) = true := rfl
      have kD : chkA kt (.tuple ds) = (ds.find? fun x => !arrowD kt x).or (badOf (ascD (ds.map cut2)) "arrows") := rfl
      refine iteNo rfl ?_
      refine ⟨_, rfl, b, rfl, ⟨_, SqT.of e⟩, for_tup (K := K) (a := b) (xs := xs) (fun i σ H1 => Same H H1 ∧ (ds.take i).all (arrowD kt) = true ∧ ∃ o, σ = [some hv, some (.ref b), o, none]) ⟨Same.refl _, rfl, none, rfl⟩ (fun i σ H1 _ P => SqT.of (P.1 _ _ e)) ?_ ?_⟩
      · rintro i x σ H1 hx ⟨S1, a1, o, rfl⟩
        obtain ⟨d', hd', hq⟩ := DqAll.at hda hx
        refine ⟨_, rfl, x, rfl, hv, x, d', kt, rfl, hh.same S1, Dq.same S1 _ _ hq, sm_at (sm_all sm) hd', fun H2 S2 => ⟨_, rfl, ?_⟩⟩
        by_cases ha : arrowD kt d' = true
        · refine iteNo (by rw [ha]; rfl) ?_
          exact ⟨S1.trans S2, take_all a1 hd' ha, some x, rfl⟩
        · have ha : arrowD kt d' = false := by simpa using ha
          refine iteYes (by rw [ha]; rfl) ?_
          refine ⟨x, rfl, x, rfl, fun dd nd => ?_⟩
          refine kE d' ?_ _ dd x (S1.trans (S2.trans (same_new nd))) (Dq.same (S1.trans (S2.trans (same_new nd))) _ _ hq) upd_same
          rw [kD, find_at a1 hd' ha]
          rfl
      · rintro σ H1 ⟨S1, a1, o, rfl⟩
        rw [hda.len, List.take_length] at a1
        have kF : (ds.find? fun x => !arrowD kt x) = none := find_none a1
        refine ⟨_, rfl, b, rfl, ⟨_, SqT.of (S1 _ _ e)⟩, fun D nD => ?_⟩
        refine lc_tup (K := K) (a := b) (xs := xs) (fun i H2 => MadeN H1 D ((ds.take i).map cut2) H2) (MadeN.start nD) (fun i H2 _ M => SqT.of (M.same _ _ (S1 _ _ e))) ?_ ?_
        · rintro i x H2 hx M
          obtain ⟨d', hd', hq⟩ := DqAll.at hda hx
          obtain ⟨i1, x1, t1, f1, m1, rfl, _⟩ := arrow_of hh.dd (List.all_eq_true.mp a1 d' (List.mem_of_getElem? hd'))
          cases hq with
          | @tup c zs _ e' hza =>
            have hl : zs.length = 5 := hza.len
            refine ⟨rfl, _, rfl, _, rfl, c, zs, rfl, SqT.of (M.same _ _ (S1 _ _ e')), not_whole zs (by omega), fun p np => ?_⟩
            rw [cut_two zs (by omega)]
            obtain ⟨acc, h1, h2, h3⟩ := M.turn np (DqAll.same S1 _ _ (hza.take 2))
            refine ⟨acc, h1, ?_, ?_⟩
            · rw [h2, List.length_map, List.length_take]
              have := sm_len sm
              rw [sizeLine_eq]
              omega
            · rw [take_map hd']
              exact h3
        · rintro H2 M
          rw [hda.len, List.take_length] at M
          obtain ⟨J, ys, S2, _, S3, hy, hq⟩ := M
          have S12 := S1.trans (S2.trans S3)
          obtain ⟨z1, z2⟩ := lay_cuts hh.dd a1
          refine ⟨D, ys, ds.map cut2, rfl, .inl hy, DqAll.same S3 _ ys hq, by rw [List.length_map]; exact sm_len sm, z1, Nat.le_trans z2 (by decide), cmp_cuts hh.dd a1, fun H3 S4 => ⟨_, rfl, ?_⟩⟩
          by_cases hA : ascD (ds.map cut2) = true
          · refine iteNo (by rw [hA]; rfl) ?_
            refine k ?_ H3 (S12.trans S4)
            rw [kD, kF, hA]
            rfl
          · have hA : ascD (ds.map cut2) = false := by simpa using hA
            refine iteYes (by rw [hA]; rfl) ?_
            refine ⟨_, rfl, fun dd nd => ?_⟩
            refine kE (.str "arrows") ?_ _ dd _ (S12.trans (S4.trans (same_new nd))) (.str _) upd_same
            rw [kD, kF, hA]
            rfl
    | non => exact iteYes rfl ⟨_, rfl, no rfl⟩
    | bl _ => exact iteYes rfl ⟨_, rfl, no rfl⟩
    | int _ => exact iteYes rfl ⟨_, rfl, no rfl⟩
    | str _ => exact iteYes rfl ⟨_, rfl, no rfl⟩
    | lst _ _ => exact iteYes rfl ⟨_, rfl, no rfl⟩
    | dct0 _ => exact iteYes rfl ⟨_, rfl, no rfl⟩
    | dct1 _ => exact iteYes rfl ⟨_, rfl, no rfl⟩
end
end KL
set_option Elab.async false
set_option linter.all false
set_option maxRecDepth 100000
set_option maxHeartbeats 2000000
namespace KL
open PySem L2 PySem.KX PySem.Spec PyProof.Rows
def keyD : PyData → List Key
  | .tuple (.int i :: .str x :: _) => [Sum.inl i, Sum.inr x]
  | _ => []
def hasK (ks : List (List Key)) (k : List Key) : Bool := ks.any fun j => decide (j = k)
def takenD (as : List PyData) (d : PyData) : Bool := hasK (as.map keyD) (keyD d)
def testT (k : Kit) (as : List PyData) (d : PyData) : Bool := testD k d && takenD as d
def chkT (k : Kit) (as : List PyData) (d : PyData) : Option PyData :=
  if isTupD d = true then ((itemsD d).find? fun x => !testT k as x).or (badOf (ascD (itemsD d)) "tests") else some (.str "tests")
/-- the arrows of a house -/
structure HsA (H : Hp) (v : V) (C : Addr) (as : List PyData) : Prop where
  ex : ∃ a dx fs q xs, v = .ref a ∧ H a = some (.ins C dx fs) ∧ fs.lookup ("arrows" : Str) = some (.ref q) ∧ H q = some (.tup xs) ∧ DqAll H xs as
theorem HsA.same {H H' : Hp} {v : V} {C : Addr} {as : List PyData} (h : HsA H v C as) (S : Same H H') : HsA H' v C as := by
  obtain ⟨a, dx, fs, q, xs, e, ha, h1, h2, h3⟩ := h
  exact ⟨a, dx, fs, q, xs, e, S _ _ ha, h1, S _ _ h2, DqAll.same S _ _ h3⟩
def spChkT (C CB : Addr) : Sp := fun vs H Q E => ∃ (hv v : V) (d : PyData) (kt : Kit) (as : List PyData), vs = [hv, v] ∧ Hs H hv C kt ∧ HsA H hv C as ∧ as.all (arrowD kt) = true ∧ as.length ≤ 1000 ∧ Dq H v d ∧ smB d = true ∧ (chkT kt as d = none → ∀ H', Same H H' → Q .non H') ∧
  ∀ it, chkT kt as d = some it → ∀ H' dd v', Same H H' → Dq H' v' it → H' dd = some (.xd [("part", v')]) → E (.ref CB) (some dd) H'
theorem test_of {k : Kit} {d : PyData} (hk : deedsD k.pe (.tuple k.dd) = true) (h : testD k d = true) : ∃ i x fs lo hi, d = .tuple [.int i, .str x, .tuple fs, .int lo, .int hi] ∧ letS x = true ∧ fs.all intD = true := by
  simp only [testD, Bool.and_eq_true] at h
  obtain ⟨h1, h2, h3, h4, h5, _⟩ := h
  obtain ⟨ds, rfl, l1, l2⟩ := tup_of h1
  obtain ⟨a, b, c, f, m, rfl⟩ := five l1 l2
  have h2 := Bool.and_eq_true_iff.mp (show (betD 0 (k.pl - 1) a && inD (k.dd.map (itemD 0)) b) = true from h2)
  obtain ⟨i, rfl, _⟩ := bet_of h2.1
  obtain ⟨x, rfl, hx⟩ := in_letters hk h2.2
  obtain ⟨lo, rfl⟩ := int_of (show intD f = true from h4)
  obtain ⟨hi, rfl⟩ := int_of (show intD m = true from h5)
  have h3 : formD k.n c = true := h3
  cases c with
  | tuple fs => exact ⟨i, x, fs, lo, hi, rfl, hx, (Bool.and_eq_true_iff.mp h3).2⟩
  | _ => cases h3
theorem lay_nums : ∀ {ds : List PyData}, ds.all intD = true → PyData.canLayAll0 ds = true ∧ PyData.depthAll ds = 0
  | [], _ => ⟨rfl, rfl⟩
  | d :: ds, h => by
    have h' := Bool.and_eq_true_iff.mp (show (intD d && ds.all intD) = true from h)
    obtain ⟨i, rfl⟩ := int_of h'.1
    obtain ⟨q1, q2⟩ := lay_nums h'.2
    refine ⟨?_, ?_⟩
    · show (true && PyData.canLayAll0 ds) = true
      rw [q1]
      rfl
    · show max 0 (PyData.depthAll ds) = 0
      rw [q2]
      rfl
theorem lay_tests {k : Kit} (hk : deedsD k.pe (.tuple k.dd) = true) : ∀ {ds : List PyData}, ds.all (testD k) = true → PyData.canLayAll0 ds = true ∧ PyData.depthAll ds ≤ 2
  | [], _ => ⟨rfl, Nat.zero_le _⟩
  | d :: ds, h => by
    have h' := Bool.and_eq_true_iff.mp (show (testD k d && ds.all (testD k)) = true from h)
    obtain ⟨q1, q2⟩ := lay_tests hk h'.2
    obtain ⟨i, x, fs, lo, hi, rfl, hx, hf⟩ := test_of hk h'.1
    obtain ⟨f1, f2⟩ := lay_nums hf
    refine ⟨?_, ?_⟩
    · show ((true && (PyData.strOk x && (PyData.canLayAll0 fs && (true && (true && true))))) && PyData.canLayAll0 ds) = true
      rw [(letS_ok hx).1, q1, f1]
      rfl
    · show max (max 0 (max 0 (max (PyData.depthAll fs + 1) (max 0 (max 0 0)))) + 1) (PyData.depthAll ds) ≤ 2
      rw [f2]
      omega
theorem cmp_nums : ∀ {xs ys : List PyData}, xs.all intD = true → ys.all intD = true → cmpAll xs ys = true
  | [], ys, _, _ => by
    cases ys <;> rfl
  | _ :: _, [], _, _ => rfl
  | x :: xs, y :: ys, h1, h2 => by
    have h1' := Bool.and_eq_true_iff.mp (show (intD x && xs.all intD) = true from h1)
    have h2' := Bool.and_eq_true_iff.mp (show (intD y && ys.all intD) = true from h2)
    obtain ⟨i, rfl⟩ := int_of h1'.1
    obtain ⟨j, rfl⟩ := int_of h2'.1
    show (true && cmpAll xs ys) = true
    rw [cmp_nums h1'.2 h2'.2]
    rfl
theorem cmp_tests {k : Kit} {ds : List PyData} (hk : deedsD k.pe (.tuple k.dd) = true) (h : ds.all (testD k) = true) (i : Nat) (hi : i + 1 < ds.length) : cmpD (ds.getD i .none) (ds.getD (i + 1) .none) = true := by
  obtain ⟨i1, x1, f1, l1, h1, e1, _, a1⟩ := test_of hk (all_at (f := testD k) h (show i < ds.length by omega))
  obtain ⟨i2, x2, f2, l2, h2, e2, _, a2⟩ := test_of hk (all_at (f := testD k) h hi)
  rw [e1, e2]
  show (true && (true && (cmpAll f1 f2 && (true && (true && true))))) = true
  rw [cmp_nums a1 a2]
  rfl
/-- keys so far -/
def MadeT (H0 : Hp) (D : Addr) (ks : List (List Key)) (H : Hp) : Prop := Same H0 H ∧ ∃ kvs : List (List Key × V), H D = some (.dT kvs) ∧ kvs.length ≤ ks.length ∧ ∀ k, (valV kvs k).isSome = hasK ks k
theorem MadeT.turn {H0 H : Hp} {D p : Addr} {ks : List (List Key)} {k : List Key} {v : V} (M : MadeT H0 D ks H) (nD : H0 D = none) (np : H p = none) (hl : ks.length < 1000) :
    ∃ (kvs : List (List Key × V)) (k' : List Key) (b : Addr), V.ref p = .ref b ∧ upd H p (.tup (k.map kV)) b = some (.tup (k'.map kV)) ∧ upd H p (.tup (k.map kV)) D = some (.dT kvs) ∧ kvs.length < sizeLine ∧ MadeT H0 D (ks ++ [k]) (upd (upd H p (.tup (k.map kV))) D (.dT (putK kvs k' v))) := by
  obtain ⟨S0, kvs, hD, hn, hk⟩ := M
  have pD : p ≠ D := fun z => by
    rw [z, hD] at np
    cases np
  refine ⟨kvs, k, p, rfl, upd_same, by rw [upd_ne pD.symm]; exact hD, by rw [sizeLine_eq]; omega, fun b o e => ?_, _, upd_same, ?_, fun j => ?_⟩
  · have bD : b ≠ D := fun z => by
      rw [z, nD] at e
      cases e
    rw [upd_ne bD, upd_ne (ne_of_none (S0 _ _ e) np)]
    exact S0 _ _ e
  · have := length_putK kvs k v
    rw [List.length_append]
    exact Nat.le_trans this (Nat.succ_le_succ hn)
  · rw [valV_put]
    by_cases e : j = k
    · rw [if_pos e]
      simp [hasK, e]
    · rw [if_neg e, hk]
      have e' : ¬ k = j := fun z => e z.symm
      simp [hasK, e']
section
variable {P : Program} {w : World} {K : PySem.W.Frag} {mg : Str → Option Value} {base : Heap} {C CB IB : Addr}
theorem scChkT : FnScope ["house", "tests", "taken", "item", "arrow"] ["house", "tests"] (defScope sChkTests) := ⟨rfl, rfl, rfl, by decide +kernel, rfl, by decide +kernel, by decide +kernel⟩
theorem ok_chkT {f g1 g2 : Addr} {fd gd1 gd2 : FuncData} (F : Fun K "check_tests" "check_tests" sChkTests f fd) (T : TxtB mg) (TH : TxtH K C) (TE : TxtE K mg CB IB) (G1 : FnOk P w K mg base CX0 4 g1 gd1 ["house", "thing"] (spHs C testD)) (c1 : Cal K mg "is_test" g1 gd1 ["house", "thing"])
    (G2 : FnOk P w K mg base CX0 1 g2 gd2 ["items"] spAsc) (c2 : Cal K mg "is_ascending" g2 gd2 ["items"]) : FnOk P w K mg base (L2.CX P w) 5 f fd ["house", "tests"] (spChkT C CB) := by
  refine fnX F scChkT (fun vs H Q E h => ?_) (fun cdv A outer s H vs Q E hr h tk po => ?_)
  · obtain ⟨hv, v, d, kt, as, rfl, _⟩ := h
    rfl
  · obtain ⟨hv, v, d, kt, as, rfl, hh, hA, aA, lA, hd, sm, k, kE⟩ := h
    have hr1 : Room 1 _ := hr.mono (by decide)
    refine ⟨_, pss_cons (ps_if (pt_not (pt_val (pe_callB call_isD (by rfl) T.isi (by decide +kernel) (pa_cons (pv 1) (pa_cons (pe_bltn (v := .ty "tuple") (by rfl) T.tuple (by decide +kernel) rfl) pa_nil))))) (pss_one (ps_raise rfl tk (pmk_ex TE.ei TE.ty TE.m hr1 (by rfl) (pa_cons pe_str pa_nil)))) pss_nil)
      (pss_cons (ps_setDcT (i := 2) (own := [("arrow", 4)]) (g := gName 4) rfl rfl (by rfl) rfl (Nat.lt_of_le_of_lt (Nat.le_add_right _ 64) hr.units) scChkT.nd (pi_tup (pe_fld (pv 0) (by rfl))) (blkOk_by (N := ["house", "tests", "taken", "item", "arrow"]) (sc := defScope sChkTests) (by decide +kernel)) (fun _ _ _ _ _ => pg_name (i := 4) scChkT.nd rfl (.inl rfl))
        (fun _ _ _ _ _ => pe_slice (r := rSlT K) sl_tup (pv 4) po_none (po_some pe_int)) (fun _ _ _ _ _ => pe_bl))
      (pss_cons (ps_for po rfl (pi_tup (pv 1)) (pg_name (i := 3) scChkT.nd rfl (.inl rfl)) (pss_one (ps_if (PW.pt (pw_or (pt_not (pt_val (pe_call G1 hr (by rfl) c1.m c1.k c1.b .nil pass0 (pa_cons (pv 0) (pa_cons (pv 3) pa_nil))))) (pw_or1 (pt_cmp (pc_dnotin (hu_of hr) (pe_slice (r := rSlT K) sl_tup (pv 3) po_none (po_some pe_int)) (pv 2)))))) (pss_one (ps_raise rfl tk (pmk_ex TE.ei TE.ty TE.m hr1 (by rfl) (pa_cons (pv 3) pa_nil)))) pss_nil)))
      (pss_one (ps_if (pt_not (pt_val (pe_call G2 hr1 (by rfl) c2.m c2.k c2.b .nil pass0 (pa_cons (pv 1) pa_nil)))) (pss_one (ps_raise rfl tk (pmk_ex TE.ei TE.ty TE.m hr1 (by rfl) (pa_cons pe_str pa_nil)))) pss_nil)))), ?_⟩
    have no : isTupD d = false → ∀ dd, H dd = none → E (.ref CB) (some dd) (upd H dd (.xd [("part", .str "tests")])) := fun z dd nd => by
      refine kE (.str "tests") ?_ _ dd _ (same_new nd) (.str _) upd_same
      unfold chkT
      rw [z]
      rfl
    refine ⟨_, rfl, v, d, "tuple", rfl, by decide, hd, _, rfl, ?_⟩
    cases hd with
    | @tup b xs ds e hda =>
      have kD : chkT kt as (.tuple ds) = (ds.find? fun x => !testT kt as x).or (badOf (ascD ds) "tests") := rfl
      refine iteNo rfl ?_
      obtain ⟨a, dx, fs, q, zs, rfl, ha, h1, h2, h3⟩ := hA.ex
      refine ⟨_, rfl, a, C, dx, fs, _, rfl, ha, TH.c, TH.arrows, h1, q, rfl, ⟨_, SqT.of h2⟩, fun D nD => ?_⟩
      refine tup_turns (K := K) (a := q) (xs := zs) (fun i H1 => MadeT H D ((as.take i).map keyD) H1) ⟨same_new nD, [], upd_same, Nat.zero_le _, fun _ => rfl⟩ (fun i H1 _ M => SqT.of (M.1 _ _ h2)) ?_ ?_
      · rintro i x H1 hx M
        obtain ⟨d', hd', hq⟩ := DqAll.at h3 hx
        obtain ⟨i1, x1, t1, f1, m1, rfl, _⟩ := arrow_of hh.dd (List.all_eq_true.mp aA d' (List.mem_of_getElem? hd'))
        have hi : i < as.length := (List.getElem?_eq_some_iff.mp hd').1
        cases hq with
        | @tup c ys _ e' hza =>
          have hl : ys.length = 5 := hza.len
          refine ⟨rfl, _, rfl, _, rfl, c, ys, rfl, SqT.of (M.1 _ _ e'), not_whole ys (by omega), fun p np => ?_⟩
          rw [cut_two ys (by omega)]
          have e2 : ys.take 2 = ([Sum.inl i1, Sum.inr x1] : List Key).map kV := by
            cases hza with
            | cons q1 r1 =>
              cases q1
              cases r1 with
              | cons q2 r2 =>
                cases q2
                rfl
          rw [e2, take_map hd']
          exact M.turn nD np (by rw [List.length_map, List.length_take]; omega)
      · rintro H1 M
        rw [h3.len, List.take_length] at M
        obtain ⟨S1, kvs, hD, _, hk⟩ := M
        refine ⟨_, rfl, b, rfl, ⟨_, SqT.of (S1 _ _ e)⟩, for_tup (K := K) (a := b) (xs := xs) (fun i σ H2 => Same H1 H2 ∧ (ds.take i).all (testT kt as) = true ∧ ∃ o, σ = [some (.ref a), some (.ref b), some (.ref D), o, none]) ⟨Same.refl _, rfl, none, rfl⟩ (fun i σ H2 _ P => SqT.of (P.1 _ _ (S1 _ _ e))) ?_ ?_⟩
        · rintro i x σ H2 hx ⟨S2, a1, o, rfl⟩
          obtain ⟨d', hd', hq⟩ := DqAll.at hda hx
          have S12 := S1.trans S2
          have bad : ∀ {H3 : Hp}, Same H2 H3 → testT kt as d' = false → ∃ v', [x] = [v'] ∧ ∀ dd, H3 dd = none → E (.ref CB) (some dd) (upd H3 dd (.xd [("part", v')])) := fun {H3} S3 hz => ⟨x, rfl, fun dd nd => by
            refine kE d' ?_ _ dd x (S12.trans (S3.trans (same_new nd))) (Dq.same (S12.trans (S3.trans (same_new nd))) _ _ hq) upd_same
            rw [kD, find_at a1 hd' hz]
            rfl⟩
          refine ⟨_, rfl, x, rfl, .ref a, x, d', kt, rfl, hh.same S12, Dq.same S12 _ _ hq, sm_at (sm_all sm) hd', fun H3 S3 => ⟨_, rfl, ?_⟩⟩
          by_cases ht : testD kt d' = true
          · refine iteNo (by rw [ht]; rfl) ?_
            obtain ⟨i1, x1, f1, l1, m1, rfl, _⟩ := test_of hh.dd ht
            have hq' := hq
            cases hq' with
            | @tup c ys _ e' hza =>
              have hl : ys.length = 5 := hza.len
              refine ⟨_, rfl, _, rfl, c, ys, rfl, SqT.of ((S12.trans S3) _ _ e'), not_whole ys (by omega), fun p np => ?_⟩
              rw [cut_two ys (by omega)]
              have e2 : ys.take 2 = ([Sum.inl i1, Sum.inr x1] : List Key).map kV := by
                cases hza with
                | cons q1 r1 =>
                  cases q1
                  cases r1 with
                  | cons q2 r2 =>
                    cases q2
                    rfl
              rw [e2]
              have S4 := same_new (o := .tup (([Sum.inl i1, Sum.inr x1] : List Key).map kV)) np
              refine ⟨_, rfl, D, _, rfl, DGet.t ((S2.trans (S3.trans S4)) _ _ hD) upd_same, _, rfl, ?_⟩
              rw [hk]
              have hTT : testT kt as (.tuple [.int i1, .str x1, .tuple f1, .int l1, .int m1]) = hasK (as.map keyD) [Sum.inl i1, Sum.inr x1] := by
                unfold testT
                rw [ht]
                rfl
              by_cases hm : hasK (as.map keyD) [Sum.inl i1, Sum.inr x1] = true
              · refine iteNo (by rw [hm]; rfl) ?_
                exact ⟨S2.trans (S3.trans S4), take_all a1 hd' (by rw [hTT, hm]), _, rfl⟩
              · have hm : hasK (as.map keyD) [Sum.inl i1, Sum.inr x1] = false := by simpa using hm
                refine iteYes (by rw [hm]; rfl) ?_
                exact ⟨_, rfl, bad (S3.trans S4) (by rw [hTT, hm])⟩
          · have ht : testD kt d' = false := by simpa using ht
            refine iteYes (by rw [ht]; rfl) (iteYes rfl ?_)
            exact ⟨_, rfl, bad S3 (by unfold testT; rw [ht]; rfl)⟩
        · rintro σ H2 ⟨S2, a1, o, rfl⟩
          rw [hda.len, List.take_length] at a1
          have kF : (ds.find? fun x => !testT kt as x) = none := find_none a1
          have aT : ds.all (testD kt) = true := by
            rw [List.all_eq_true] at a1 ⊢
            exact fun d' hd' => (Bool.and_eq_true_iff.mp (a1 d' hd')).1
          have S12 := S1.trans S2
          obtain ⟨z1, z2⟩ := lay_tests hh.dd aT
          refine ⟨_, rfl, b, xs, ds, rfl, .inr (S12 _ _ e), DqAll.same S12 _ _ hda, sm_len sm, z1, Nat.le_trans z2 (by decide), cmp_tests hh.dd aT, fun H3 S3 => ⟨_, rfl, ?_⟩⟩
          by_cases hA : ascD ds = true
          · refine iteNo (by rw [hA]; rfl) ?_
            refine k ?_ H3 (S12.trans S3)
            rw [kD, kF, hA]
            rfl
          · have hA : ascD ds = false := by simpa using hA
            refine iteYes (by rw [hA]; rfl) ?_
            refine ⟨_, rfl, fun dd nd => ?_⟩
            refine kE (.str "tests") ?_ _ dd _ (S12.trans (S3.trans (same_new nd))) (.str _) upd_same
            rw [kD, kF, hA]
            rfl
    | non => exact iteYes rfl ⟨_, rfl, no rfl⟩
    | bl _ => exact iteYes rfl ⟨_, rfl, no rfl⟩
    | int _ => exact iteYes rfl ⟨_, rfl, no rfl⟩
    | str _ => exact iteYes rfl ⟨_, rfl, no rfl⟩
    | lst _ _ => exact iteYes rfl ⟨_, rfl, no rfl⟩
    | dct0 _ => exact iteYes rfl ⟨_, rfl, no rfl⟩
    | dct1 _ => exact iteYes rfl ⟨_, rfl, no rfl⟩
end
end KL
set_option Elab.async false
set_option linter.all false
set_option maxRecDepth 100000
set_option maxHeartbeats 4000000
namespace KL
open PySem L2 PySem.KX PySem.Spec PyProof.Rows
abbrev sInit : Stmt := inClass (top 69) 0
def numD : PyData → Int
  | .int i => i
  | _ => 0
def kitOf (p d st pl lo : PyData) : Kit := ⟨numD p, numD pl, numD lo, itemsD d, (itemsD st).length⟩
def dueD (p d st pl en lo ar te lk : PyData) : Option PyData :=
  (badOf (betD 1 3 p) "people").or ((badOf (deedsD (numD p) d) "deeds").or ((badOf (startD st) "start").or ((badOf (betD 1 3 pl) "places").or ((badOf (endsD (numD pl) en) "ends").or ((badOf (betD 0 2 lo) "logs").or
    ((chkA (kitOf p d st pl lo) ar).or ((chkT (kitOf p d st pl lo) (itemsD ar) te).or (badOf (looksD (kitOf p d st pl lo) lk) "looks"))))))))
/-- a whole house -/
def fsOf (v0 v1 v2 v3 v4 v5 v6 v7 v8 : V) (fs : List (Str × V)) : Prop :=
  fs.lookup ("people" : Str) = some v0 ∧ fs.lookup ("deeds" : Str) = some v1 ∧ fs.lookup ("start" : Str) = some v2 ∧ fs.lookup ("places" : Str) = some v3 ∧ fs.lookup ("ends" : Str) = some v4 ∧ fs.lookup ("logs" : Str) = some v5 ∧ fs.lookup ("arrows" : Str) = some v6 ∧ fs.lookup ("tests" : Str) = some v7 ∧ fs.lookup ("looks" : Str) = some v8 ∧ (fs.lookup ("barred" : Str) = none ∧ fs.lookup ("renamed" : Str) = none)
def spInit (C CB : Addr) : Sp := fun vs H Q E => ∃ (H0 : Hp) (x dx : Addr) (v0 v1 v2 v3 v4 v5 v6 v7 v8 : V) (d0 d1 d2 d3 d4 d5 d6 d7 d8 : PyData), vs = [.ref x, v0, v1, v2, v3, v4, v5, v6, v7, v8] ∧ Same H0 H ∧ H0 x = none ∧ H x = some (.ins C dx []) ∧
  Dq H0 v0 d0 ∧ Dq H0 v1 d1 ∧ Dq H0 v2 d2 ∧ Dq H0 v3 d3 ∧ Dq H0 v4 d4 ∧ Dq H0 v5 d5 ∧ Dq H0 v6 d6 ∧ Dq H0 v7 d7 ∧ Dq H0 v8 d8 ∧
  (smB d0 && smB d1 && smB d2 && smB d3 && smB d4 && smB d5 && smB d6 && smB d7 && smB d8) = true ∧
  (dueD d0 d1 d2 d3 d4 d5 d6 d7 d8 = none → ∀ H' fs, Same H0 H' → H' x = some (.ins C dx fs) → fsOf v0 v1 v2 v3 v4 v5 v6 v7 v8 fs → Q .non H') ∧
  ∀ it, dueD d0 d1 d2 d3 d4 d5 d6 d7 d8 = some it → ∀ H' dd v', Same H0 H' → Dq H' v' it → H' dd = some (.xd [("part", v')]) → E (.ref CB) (some dd) H'
theorem bool_ft (b : Bool) : b = false ∨ b = true := by cases b <;> simp
theorem same_put {H0 H : Hp} {x : Addr} {o : HO} (S : Same H0 H) (n : H0 x = none) : Same H0 (upd H x o) := fun b u e => by
  rw [upd_ne (ne_of_none e n)]
  exact S _ _ e
section
variable {P : Program} {w : World} {K : PySem.W.Frag} {mg : Str → Option Value} {base : Heap} {C CB IB : Addr}
theorem scInit : FnScope ["self", "people", "deeds", "start", "places", "ends", "logs", "arrows", "tests", "looks"] ["self", "people", "deeds", "start", "places", "ends", "logs", "arrows", "tests", "looks"] (defScope sInit) := ⟨rfl, rfl, rfl, by decide +kernel, rfl, by decide +kernel, by decide +kernel⟩
theorem start_of {d : PyData} (h : startD d = true) : ∃ ds, d = .tuple ds ∧ 1 ≤ ds.length ∧ ds.length ≤ 3 := by
  obtain ⟨ds, rfl, l1, l2⟩ := tup_of (Bool.and_eq_true_iff.mp h).1
  exact ⟨ds, rfl, by omega, by omega⟩
theorem deeds_of {n : Int} {d : PyData} (h : deedsD n d = true) : ∃ ds, d = .tuple ds := by
  obtain ⟨ds, rfl, _⟩ := tup_of (Bool.and_eq_true_iff.mp h).1
  exact ⟨ds, rfl⟩
theorem chkA_none {k : Kit} {d : PyData} (h : chkA k d = none) : ∃ ds, d = .tuple ds ∧ ds.all (arrowD k) = true := by
  unfold chkA at h
  by_cases t : isTupD d = true
  · obtain ⟨ds, rfl⟩ := isT_of t
    rw [if_pos t] at h
    refine ⟨ds, rfl, ?_⟩
    have q : (ds.find? fun x => !arrowD k x) = none := (Option.or_eq_none_iff.mp h).1
    rw [List.find?_eq_none] at q
    rw [List.all_eq_true]
    intro x hx
    have := q x hx
    simpa using this
  · rw [if_neg t] at h
    cases h
/-- one of the parts is a wrong one: what is raised -/
theorem ok_init {f : Addr} {fd : FuncData} (F : Fun K "__init__" "House.__init__" sInit f fd) (TH : TxtH K C) (TE : TxtE K mg CB IB)
    {g1 g2 g3 g4 g5 g6 g7 g8 g9 : Addr} {gd1 gd2 gd3 gd4 gd5 gd6 gd7 gd8 gd9 : FuncData}
    (G1 : FnOk P w K mg base CX0 3 g1 gd1 ["thing"] (spTest (betD 1 3))) (c1 : Cal K mg "is_people" g1 gd1 ["thing"])
    (G2 : FnOk P w K mg base CX0 4 g2 gd2 ["thing", "people"] (spTest1 deedsD)) (c2 : Cal K mg "are_deeds" g2 gd2 ["thing", "people"])
    (G3 : FnOk P w K mg base CX0 2 g3 gd3 ["thing"] (spTest startD)) (c3 : Cal K mg "is_start" g3 gd3 ["thing"])
    (G4 : FnOk P w K mg base CX0 3 g4 gd4 ["thing"] (spTest (betD 1 3))) (c4 : Cal K mg "is_places" g4 gd4 ["thing"])
    (G5 : FnOk P w K mg base CX0 3 g5 gd5 ["thing", "places"] (spTest1 endsD)) (c5 : Cal K mg "are_ends" g5 gd5 ["thing", "places"])
    (G6 : FnOk P w K mg base CX0 3 g6 gd6 ["thing"] (spTest (betD 0 2))) (c6 : Cal K mg "is_logs" g6 gd6 ["thing"])
    (G7 : FnOk P w K mg base (L2.CX P w) 5 g7 gd7 ["house", "arrows"] (spChk C CB chkA)) (c7 : Cal K mg "check_arrows" g7 gd7 ["house", "arrows"])
    (G8 : FnOk P w K mg base (L2.CX P w) 5 g8 gd8 ["house", "tests"] (spChkT C CB)) (c8 : Cal K mg "check_tests" g8 gd8 ["house", "tests"])
    (G9 : FnOk P w K mg base CX0 4 g9 gd9 ["house", "thing"] (spHs C looksD)) (c9 : Cal K mg "are_looks" g9 gd9 ["house", "thing"]) :
    FnOk P w K mg base (L2.CX P w) 6 f fd ["self", "people", "deeds", "start", "places", "ends", "logs", "arrows", "tests", "looks"] (spInit C CB) := by
  refine fnX F scInit (fun vs H Q E h => ?_) (fun cdv A outer s H vs Q E hr h tk po => ?_)
  · obtain ⟨H0, x, dx, v0, v1, v2, v3, v4, v5, v6, v7, v8, d0, d1, d2, d3, d4, d5, d6, d7, d8, rfl, _⟩ := h
    rfl
  · obtain ⟨H0, x, dx, v0, v1, v2, v3, v4, v5, v6, v7, v8, d0, d1, d2, d3, d4, d5, d6, d7, d8, rfl, S0, nx, hx, q0, q1, q2, q3, q4, q5, q6, q7, q8, sm, k, kE⟩ := h
    simp only [Bool.and_eq_true] at sm
    obtain ⟨⟨⟨⟨⟨⟨⟨⟨m0, m1⟩, m2⟩, m3⟩, m4⟩, m5⟩, m6⟩, m7⟩, m8⟩ := sm
    have hr1 : Room 1 _ := hr.mono (by decide)
    have hr2 : Room 2 _ := hr.mono (by decide)
    have hr3 : Room 3 _ := hr.mono (by decide)
    have hr4 : Room 4 _ := hr.mono (by decide)
    have ps := passes_call tk (E := E) fun _ _ _ _ z => z
    refine ⟨_, pss_cons (ps_if (pt_not (pt_val (pe_call G1 hr3 (by rfl) c1.m c1.k c1.b .nil pass0 (pa_cons (pv 1) pa_nil)))) (pss_one (ps_raise rfl tk (pmk_ex TE.ei TE.ty TE.m hr1 (by rfl) (pa_cons pe_str pa_nil)))) pss_nil)
      (pss_cons (ps_if (pt_not (pt_val (pe_call G2 hr4 (by rfl) c2.m c2.k c2.b .nil pass0 (pa_cons (pv 2) (pa_cons (pv 1) pa_nil))))) (pss_one (ps_raise rfl tk (pmk_ex TE.ei TE.ty TE.m hr1 (by rfl) (pa_cons pe_str pa_nil)))) pss_nil)
      (pss_cons (ps_if (pt_not (pt_val (pe_call G3 hr2 (by rfl) c3.m c3.k c3.b .nil pass0 (pa_cons (pv 3) pa_nil)))) (pss_one (ps_raise rfl tk (pmk_ex TE.ei TE.ty TE.m hr1 (by rfl) (pa_cons pe_str pa_nil)))) pss_nil)
      (pss_cons (ps_if (pt_not (pt_val (pe_call G4 hr3 (by rfl) c4.m c4.k c4.b .nil pass0 (pa_cons (pv 4) pa_nil)))) (pss_one (ps_raise rfl tk (pmk_ex TE.ei TE.ty TE.m hr1 (by rfl) (pa_cons pe_str pa_nil)))) pss_nil)
      (pss_cons (ps_if (pt_not (pt_val (pe_call G5 hr3 (by rfl) c5.m c5.k c5.b .nil pass0 (pa_cons (pv 5) (pa_cons (pv 4) pa_nil))))) (pss_one (ps_raise rfl tk (pmk_ex TE.ei TE.ty TE.m hr1 (by rfl) (pa_cons pe_str pa_nil)))) pss_nil)
      (pss_cons (ps_if (pt_not (pt_val (pe_call G6 hr3 (by rfl) c6.m c6.k c6.b .nil pass0 (pa_cons (pv 6) pa_nil)))) (pss_one (ps_raise rfl tk (pmk_ex TE.ei TE.ty TE.m hr1 (by rfl) (pa_cons pe_str pa_nil)))) pss_nil)
      (pss_cons (ps_fld (pv 0) (pv 1) (by rfl)) (pss_cons (ps_fld (pv 0) (pv 2) (by rfl)) (pss_cons (ps_fld (pv 0) (pv 3) (by rfl)) (pss_cons (ps_fld (pv 0) (pv 4) (by rfl)) (pss_cons (ps_fld (pv 0) (pv 5) (by rfl)) (pss_cons (ps_fld (pv 0) (pv 6) (by rfl))
      (pss_cons (ps_expr (pe_call G7 hr (by rfl) c7.m c7.k c7.b .nil ps (pa_cons (pv 0) (pa_cons (pv 7) pa_nil)))) (pss_cons (ps_fld (pv 0) (pv 7) (by rfl))
      (pss_cons (ps_expr (pe_call G8 hr (by rfl) c8.m c8.k c8.b .nil ps (pa_cons (pv 0) (pa_cons (pv 8) pa_nil)))) (pss_cons (ps_fld (pv 0) (pv 8) (by rfl))
      (pss_cons (ps_if (pt_not (pt_val (pe_call G9 hr4 (by rfl) c9.m c9.k c9.b .nil pass0 (pa_cons (pv 0) (pa_cons (pv 9) pa_nil))))) (pss_one (ps_raise rfl tk (pmk_ex TE.ei TE.ty TE.m hr1 (by rfl) (pa_cons pe_str pa_nil)))) pss_nil)
      (pss_one (ps_fld (pv 0) (pv 9) (by rfl))))))))))))))))))), ?_⟩
    have bad : ∀ {H1 : Hp} (wd : Str), Same H0 H1 → dueD d0 d1 d2 d3 d4 d5 d6 d7 d8 = some (.str wd) → ∃ v, [V.str wd] = [v] ∧ ∀ dd, H1 dd = none → E (.ref CB) (some dd) (upd H1 dd (.xd [("part", v)])) := fun {H1} wd S1 hz => ⟨_, rfl, fun dd nd => kE _ hz _ dd _ (S1.trans (same_new nd)) (.str _) upd_same⟩
    refine ⟨_, rfl, v0, d0, rfl, Dq.same S0 _ _ q0, m0, fun H1 S1 => ⟨_, rfl, ?_⟩⟩
    have T1 := S0.trans S1
    rcases bool_ft (betD 1 3 d0) with b0 | b0
    · refine iteYes (by rw [b0]; rfl) (bad "people" T1 ?_)
      simp only [dueD, badOf, b0, if_true, Bool.false_eq_true, if_false, Option.none_or, Option.some_or]
    refine iteNo (by rw [b0]; rfl) ?_
    obtain ⟨n0, e0, l0, u0⟩ := bet_of b0
    have w0 : v0 = .int n0 := by
      rw [e0] at q0
      cases q0
      rfl
    have x0 : numD d0 = n0 := by rw [e0]; rfl
    refine ⟨_, rfl, _, rfl, v1, d1, n0, by rw [w0]; rfl, Dq.same T1 _ _ q1, m1, fun H2 S2 => ⟨_, rfl, ?_⟩⟩
    rw [← x0]
    have T2 := T1.trans S2
    rcases bool_ft (deedsD (numD d0) d1) with b1 | b1
    · refine iteYes (by rw [b1]; rfl) (bad "deeds" T2 ?_)
      simp only [dueD, badOf, b0, b1, if_true, Bool.false_eq_true, if_false, Option.none_or, Option.some_or]
    refine iteNo (by rw [b1]; rfl) ?_
    refine ⟨_, rfl, v2, d2, rfl, Dq.same T2 _ _ q2, m2, fun H3 S3 => ⟨_, rfl, ?_⟩⟩
    have T3 := T2.trans S3
    rcases bool_ft (startD d2) with b2 | b2
    · refine iteYes (by rw [b2]; rfl) (bad "start" T3 ?_)
      simp only [dueD, badOf, b0, b1, b2, if_true, Bool.false_eq_true, if_false, Option.none_or, Option.some_or]
    refine iteNo (by rw [b2]; rfl) ?_
    refine ⟨_, rfl, v3, d3, rfl, Dq.same T3 _ _ q3, m3, fun H4 S4 => ⟨_, rfl, ?_⟩⟩
    have T4 := T3.trans S4
    rcases bool_ft (betD 1 3 d3) with b3 | b3
    · refine iteYes (by rw [b3]; rfl) (bad "places" T4 ?_)
      simp only [dueD, badOf, b0, b1, b2, b3, if_true, Bool.false_eq_true, if_false, Option.none_or, Option.some_or]
    refine iteNo (by rw [b3]; rfl) ?_
    obtain ⟨n3, e3, l3, u3⟩ := bet_of b3
    have w3 : v3 = .int n3 := by
      rw [e3] at q3
      cases q3
      rfl
    have x3 : numD d3 = n3 := by rw [e3]; rfl
    refine ⟨_, rfl, _, rfl, v4, d4, n3, by rw [w3]; rfl, Dq.same T4 _ _ q4, m4, fun H5 S5 => ⟨_, rfl, ?_⟩⟩
    rw [← x3]
    have T5 := T4.trans S5
    rcases bool_ft (endsD (numD d3) d4) with b4 | b4
    · refine iteYes (by rw [b4]; rfl) (bad "ends" T5 ?_)
      simp only [dueD, badOf, b0, b1, b2, b3, b4, if_true, Bool.false_eq_true, if_false, Option.none_or, Option.some_or]
    refine iteNo (by rw [b4]; rfl) ?_
    refine ⟨_, rfl, v5, d5, rfl, Dq.same T5 _ _ q5, m5, fun H6 S6 => ⟨_, rfl, ?_⟩⟩
    have T6 := T5.trans S6
    rcases bool_ft (betD 0 2 d5) with b5 | b5
    · refine iteYes (by rw [b5]; rfl) (bad "logs" T6 ?_)
      simp only [dueD, badOf, b0, b1, b2, b3, b4, b5, if_true, Bool.false_eq_true, if_false, Option.none_or, Option.some_or]
    refine iteNo (by rw [b5]; rfl) ?_
    obtain ⟨n5, e5, l5, u5⟩ := bet_of b5
    have w5 : v5 = .int n5 := by
      rw [e5] at q5
      cases q5
      rfl
    obtain ⟨ds1, e1⟩ := deeds_of b1
    obtain ⟨ds2, e2, la2, lb2⟩ := start_of b2
    have hx6 : H6 x = some (.ins C dx []) := S6 _ _ (S5 _ _ (S4 _ _ (S3 _ _ (S2 _ _ (S1 _ _ hx)))))
    refine ⟨_, rfl, _, rfl, x, C, dx, _, rfl, hx6, TH.c, TH.people, (by show 0 < 1000; decide), ?_⟩
    have f7 : (upd H6 x (.ins C dx (putF "people" v0 []))) x = some (.ins C dx (putF "people" v0 [])) := upd_same
    have T7 : Same H0 (upd H6 x (.ins C dx (putF "people" v0 []))) := same_put T6 nx
    revert f7 T7
    generalize upd H6 x (.ins C dx (putF "people" v0 [])) = H7
    intro f7 T7
    refine ⟨_, rfl, _, rfl, x, C, dx, _, rfl, f7, TH.c, TH.deeds, (by show 1 < 1000; decide), ?_⟩
    have f8 : (upd H7 x (.ins C dx (putF "deeds" v1 (putF "people" v0 [])))) x = some (.ins C dx (putF "deeds" v1 (putF "people" v0 []))) := upd_same
    have T8 : Same H0 (upd H7 x (.ins C dx (putF "deeds" v1 (putF "people" v0 [])))) := same_put T7 nx
    revert f8 T8
    generalize upd H7 x (.ins C dx (putF "deeds" v1 (putF "people" v0 []))) = H8
    intro f8 T8
    refine ⟨_, rfl, _, rfl, x, C, dx, _, rfl, f8, TH.c, TH.start, (by show 2 < 1000; decide), ?_⟩
    have f9 : (upd H8 x (.ins C dx (putF "start" v2 (putF "deeds" v1 (putF "people" v0 []))))) x = some (.ins C dx (putF "start" v2 (putF "deeds" v1 (putF "people" v0 [])))) := upd_same
    have T9 : Same H0 (upd H8 x (.ins C dx (putF "start" v2 (putF "deeds" v1 (putF "people" v0 []))))) := same_put T8 nx
    revert f9 T9
    generalize upd H8 x (.ins C dx (putF "start" v2 (putF "deeds" v1 (putF "people" v0 [])))) = H9
    intro f9 T9
    refine ⟨_, rfl, _, rfl, x, C, dx, _, rfl, f9, TH.c, TH.places, (by show 3 < 1000; decide), ?_⟩
    have f10 : (upd H9 x (.ins C dx (putF "places" v3 (putF "start" v2 (putF "deeds" v1 (putF "people" v0 [])))))) x = some (.ins C dx (putF "places" v3 (putF "start" v2 (putF "deeds" v1 (putF "people" v0 []))))) := upd_same
    have T10 : Same H0 (upd H9 x (.ins C dx (putF "places" v3 (putF "start" v2 (putF "deeds" v1 (putF "people" v0 [])))))) := same_put T9 nx
    revert f10 T10
    generalize upd H9 x (.ins C dx (putF "places" v3 (putF "start" v2 (putF "deeds" v1 (putF "people" v0 []))))) = H10
    intro f10 T10
    refine ⟨_, rfl, _, rfl, x, C, dx, _, rfl, f10, TH.c, TH.ends, (by show 4 < 1000; decide), ?_⟩
    have f11 : (upd H10 x (.ins C dx (putF "ends" v4 (putF "places" v3 (putF "start" v2 (putF "deeds" v1 (putF "people" v0 []))))))) x = some (.ins C dx (putF "ends" v4 (putF "places" v3 (putF "start" v2 (putF "deeds" v1 (putF "people" v0 [])))))) := upd_same
    have T11 : Same H0 (upd H10 x (.ins C dx (putF "ends" v4 (putF "places" v3 (putF "start" v2 (putF "deeds" v1 (putF "people" v0 []))))))) := same_put T10 nx
    revert f11 T11
    generalize upd H10 x (.ins C dx (putF "ends" v4 (putF "places" v3 (putF "start" v2 (putF "deeds" v1 (putF "people" v0 [])))))) = H11
    intro f11 T11
    refine ⟨_, rfl, _, rfl, x, C, dx, _, rfl, f11, TH.c, TH.logs, (by show 5 < 1000; decide), ?_⟩
    have f12 : (upd H11 x (.ins C dx (putF "logs" v5 (putF "ends" v4 (putF "places" v3 (putF "start" v2 (putF "deeds" v1 (putF "people" v0 [])))))))) x = some (.ins C dx (putF "logs" v5 (putF "ends" v4 (putF "places" v3 (putF "start" v2 (putF "deeds" v1 (putF "people" v0 []))))))) := upd_same
    have T12 : Same H0 (upd H11 x (.ins C dx (putF "logs" v5 (putF "ends" v4 (putF "places" v3 (putF "start" v2 (putF "deeds" v1 (putF "people" v0 [])))))))) := same_put T11 nx
    revert f12 T12
    generalize upd H11 x (.ins C dx (putF "logs" v5 (putF "ends" v4 (putF "places" v3 (putF "start" v2 (putF "deeds" v1 (putF "people" v0 []))))))) = H12
    intro f12 T12
    have hK : ∀ (G : Hp) (fs : List (Str × V)), Same H0 G → G x = some (.ins C dx fs) → fs.lookup ("people" : Str) = some v0 → fs.lookup ("deeds" : Str) = some v1 → fs.lookup ("start" : Str) = some v2 → fs.lookup ("places" : Str) = some v3 → fs.lookup ("logs" : Str) = some v5 → Hs G (.ref x) C (kitOf d0 d1 d2 d3 d5) := fun G fs SG fx z0 z1 z2 z3 z5 => by
      have y1 := Dq.same SG _ _ q1
      have y2 := Dq.same SG _ _ q2
      subst e0 e1 e2 e3 e5 w0 w3 w5
      cases y1 with
      | @tup a1 xs1 _ g1 h1 =>
        cases y2 with
        | @tup a2 xs2 _ g2 h2 => exact ⟨⟨x, dx, fs, rfl, fx, z0, z3, z5, ⟨a1, xs1, z1, g1, h1⟩, a2, xs2, z2, g2, h2.len⟩, b1, la2, lb2⟩
    have k12 := hK H12 _ T12 f12 rfl rfl rfl rfl rfl
    have due6 : dueD d0 d1 d2 d3 d4 d5 d6 d7 d8 = (chkA (kitOf d0 d1 d2 d3 d5) d6).or ((chkT (kitOf d0 d1 d2 d3 d5) (itemsD d6) d7).or (badOf (looksD (kitOf d0 d1 d2 d3 d5) d8) "looks")) := by
      simp only [dueD, badOf, b0, b1, b2, b3, b4, b5, if_true, Option.none_or]
    refine ⟨_, rfl, _, rfl, .ref x, v6, d6, kitOf d0 d1 d2 d3 d5, rfl, k12, Dq.same T12 _ _ q6, m6, fun hA H13 S13 => ?_, fun it hA H' dd v' S' hv hd => kE it (by rw [due6, hA]; rfl) H' dd v' (T12.trans S') hv hd⟩
    have T13 := T12.trans S13
    obtain ⟨as, eA, aA⟩ := chkA_none hA
    refine ⟨_, rfl, _, rfl, x, C, dx, _, rfl, S13 _ _ f12, TH.c, TH.arrows, (by show 6 < 1000; decide), ?_⟩
    have f14 : (upd H13 x (.ins C dx (putF "arrows" v6 (putF "logs" v5 (putF "ends" v4 (putF "places" v3 (putF "start" v2 (putF "deeds" v1 (putF "people" v0 []))))))))) x = some (.ins C dx (putF "arrows" v6 (putF "logs" v5 (putF "ends" v4 (putF "places" v3 (putF "start" v2 (putF "deeds" v1 (putF "people" v0 [])))))))) := upd_same
    have T14 : Same H0 (upd H13 x (.ins C dx (putF "arrows" v6 (putF "logs" v5 (putF "ends" v4 (putF "places" v3 (putF "start" v2 (putF "deeds" v1 (putF "people" v0 []))))))))) := same_put T13 nx
    revert f14 T14
    generalize upd H13 x (.ins C dx (putF "arrows" v6 (putF "logs" v5 (putF "ends" v4 (putF "places" v3 (putF "start" v2 (putF "deeds" v1 (putF "people" v0 [])))))))) = H14
    intro f14 T14
    have hAs : HsA H14 (.ref x) C as := by
      have y6 := Dq.same T14 _ _ q6
      rw [eA] at y6
      cases y6 with
      | @tup a6 xs6 _ g6 h6 => exact ⟨x, dx, _, a6, xs6, rfl, f14, rfl, g6, h6⟩
    have lA : as.length ≤ 1000 := by
      rw [eA] at m6
      exact sm_len m6
    have iA : itemsD d6 = as := by rw [eA]; rfl
    have due7 : dueD d0 d1 d2 d3 d4 d5 d6 d7 d8 = (chkT (kitOf d0 d1 d2 d3 d5) as d7).or (badOf (looksD (kitOf d0 d1 d2 d3 d5) d8) "looks") := by rw [due6, hA, iA, Option.none_or]
    refine ⟨_, rfl, _, rfl, .ref x, v7, d7, kitOf d0 d1 d2 d3 d5, as, rfl, hK H14 _ T14 f14 rfl rfl rfl rfl rfl, hAs, aA, lA, Dq.same T14 _ _ q7, m7, fun hT H15 S15 => ?_, fun it hT H' dd v' S' hv hd => kE it (by rw [due7, hT]; rfl) H' dd v' (T14.trans S') hv hd⟩
    have T15 := T14.trans S15
    refine ⟨_, rfl, _, rfl, x, C, dx, _, rfl, S15 _ _ f14, TH.c, TH.tests, (by show 7 < 1000; decide), ?_⟩
    have f16 : (upd H15 x (.ins C dx (putF "tests" v7 (putF "arrows" v6 (putF "logs" v5 (putF "ends" v4 (putF "places" v3 (putF "start" v2 (putF "deeds" v1 (putF "people" v0 [])))))))))) x = some (.ins C dx (putF "tests" v7 (putF "arrows" v6 (putF "logs" v5 (putF "ends" v4 (putF "places" v3 (putF "start" v2 (putF "deeds" v1 (putF "people" v0 []))))))))) := upd_same
    have T16 : Same H0 (upd H15 x (.ins C dx (putF "tests" v7 (putF "arrows" v6 (putF "logs" v5 (putF "ends" v4 (putF "places" v3 (putF "start" v2 (putF "deeds" v1 (putF "people" v0 [])))))))))) := same_put T15 nx
    revert f16 T16
    generalize upd H15 x (.ins C dx (putF "tests" v7 (putF "arrows" v6 (putF "logs" v5 (putF "ends" v4 (putF "places" v3 (putF "start" v2 (putF "deeds" v1 (putF "people" v0 []))))))))) = H16
    intro f16 T16
    have due8 : dueD d0 d1 d2 d3 d4 d5 d6 d7 d8 = badOf (looksD (kitOf d0 d1 d2 d3 d5) d8) "looks" := by rw [due7, hT, Option.none_or]
    refine ⟨_, rfl, _, rfl, .ref x, v8, d8, kitOf d0 d1 d2 d3 d5, rfl, hK H16 _ T16 f16 rfl rfl rfl rfl rfl, Dq.same T16 _ _ q8, m8, fun H17 S17 => ⟨_, rfl, ?_⟩⟩
    have T17 := T16.trans S17
    rcases bool_ft (looksD (kitOf d0 d1 d2 d3 d5) d8) with b8 | b8
    · refine iteYes (by rw [b8]; rfl) (bad "looks" T17 ?_)
      rw [due8, b8]
      rfl
    refine iteNo (by rw [b8]; rfl) ?_
    refine ⟨_, rfl, _, rfl, x, C, dx, _, rfl, S17 _ _ f16, TH.c, TH.looks, (by show 8 < 1000; decide), ?_⟩
    refine k (by rw [due8, b8]; rfl) _ _ (same_put T17 nx) upd_same ⟨rfl, rfl, rfl, rfl, rfl, rfl, rfl, rfl, rfl, rfl, rfl⟩
end
end KL
set_option Elab.async false
set_option linter.all false
set_option maxRecDepth 100000
set_option maxHeartbeats 2000000
namespace KL
open PySem L2 PySem.KX PySem.Spec PyProof.Rows
abbrev lDeck : Stmt := top 71
abbrev lDraw : Stmt := top 72
abbrev lPick : Stmt := top 73
abbrev lForm : Stmt := top 74
abbrev lUnit : Stmt := top 75
abbrev lHouse : Stmt := top 76
abbrev lCode : Stmt := top 77
abbrev lShown : Stmt := top 78
abbrev lBarred : Stmt := top 79
abbrev lOther : Stmt := top 80
abbrev lCalled : Stmt := top 81
abbrev lHeard : Stmt := top 82
abbrev lLetter : Stmt := top 83
abbrev lNames : Stmt := top 84
abbrev lRight : Stmt := top 85
abbrev lLaw : Stmt := top 86
/-- a list beside the empty one -/
def rNil (neg : Bool) : R2 := fun x y H Q => ∃ a b xs, x = .ref a ∧ y = .ref b ∧ H a = some (.lst xs) ∧ H b = some (.lst []) ∧ Q (.bl (if neg = true then !xs.isEmpty else xs.isEmpty)) H
theorem same_size {xs : List V} {its : List Value} (r : Vals xs its) : (its.toArray.size != 0) = !xs.isEmpty := by
  cases r with
  | nil => rfl
  | cons _ _ => simp
section
variable {X : Cx}
theorem op_eqNil (hu : X.A.units + 64 < cLine) : OpR X (compareOp .Eq) (rNil false) := by
  intro pins s σ H x y v u Q I rx ry h
  obtain ⟨a, b, xs, rfl, rfl, ha, hb, q⟩ := h
  cases (show v = Value.ref a from rx)
  cases (show u = Value.ref b from ry)
  obtain ⟨_, its, n, rv, ho⟩ := I.hok _ _ ha
  obtain ⟨_, it2, n2, rv2, ho2⟩ := I.hok _ _ hb
  cases rv2
  have hz := same_size rv
  cases e : xs.isEmpty with
  | true =>
    rw [e] at hz q
    have z : its.toArray.size = 0 := by simpa using hz
    refine SeqAt.RcAt.lists (e := fun _ => true) ⟨_, ho, rfl, n, rfl⟩ ⟨_, ho2, rfl, n2, rfl⟩ z (by omega) (fun j j1 _ => absurd j1 (by rw [z]; exact Nat.not_lt_zero _)) _ _ _ _ ⟨.bl true, H, I, ?_, q⟩
    rw [z]
    rfl
  | false =>
    rw [e] at hz q
    exact SeqAt.RcAt.lists_lengths ⟨_, ho, rfl, n, rfl⟩ ⟨_, ho2, rfl, n2, rfl⟩ hz (by omega) _ _ _ _ ⟨.bl false, H, I, rfl, q⟩
theorem op_neNil (hu : X.A.units + 64 < cLine) : OpR X (compareOp .NotEq) (rNil true) := by
  intro pins s σ H x y v u Q I rx ry h
  obtain ⟨a, b, xs, rfl, rfl, ha, hb, q⟩ := h
  cases (show v = Value.ref a from rx)
  cases (show u = Value.ref b from ry)
  obtain ⟨_, its, n, rv, ho⟩ := I.hok _ _ ha
  obtain ⟨_, it2, n2, rv2, ho2⟩ := I.hok _ _ hb
  cases rv2
  have hz := same_size rv
  cases e : xs.isEmpty with
  | true =>
    rw [e] at hz q
    have z : its.toArray.size = 0 := by simpa using hz
    refine SeqAt.RcNeAt.lists (e := fun _ => true) ⟨_, ho, rfl, n, rfl⟩ ⟨_, ho2, rfl, n2, rfl⟩ z (by omega) (fun j j1 _ => absurd j1 (by rw [z]; exact Nat.not_lt_zero _)) _ _ _ _ ⟨.bl false, H, I, ?_, q⟩
    rw [z]
    rfl
  | false =>
    rw [e] at hz q
    exact SeqAt.RcNeAt.lists_lengths ⟨_, ho, rfl, n, rfl⟩ ⟨_, ho2, rfl, n2, rfl⟩ hz (by omega) _ _ _ _ ⟨.bl true, H, I, rfl, q⟩
end
end KL
set_option Elab.async false
set_option linter.all false
set_option maxRecDepth 100000
set_option maxHeartbeats 2000000
namespace KL
open PySem L2 PySem.KX PySem.Spec PyProof.Rows
section
variable {X : Cx} {pins : List (Addr × Obj)} {σ : L2.St} {H : Hp} {s : Shared}
theorem most_two {h : Heap} {n m : Nat} {as bs : List Addr} (x : ReadAtMost h n as) (y : ReadAtMost h m bs) : ReadAtMost h (max n m) (as ++ bs) :=
  (x.mono (Nat.le_max_left n m)).append (y.mono (Nat.le_max_right n m))
mutual
theorem Dq.repr (I : Inv X pins σ H s) : ∀ (d : PyData) (v : V) (u : Value), Dq H v d → RelV v u → d.showable = true → d.shown.length ≤ sizeLine → ∃ bs, ReadAtMost s.heap d.depth bs ∧ ReprK X.prog X.w bs s.heap d.depth u d.shown
  | .list ds, v, u, h, r, w, z => by
    obtain ⟨as, rd, _⟩ := Dq.reads I (.list ds) v u h r
    cases h with
    | lst q ha =>
      cases r
      obtain ⟨_, its, n, rv, ho⟩ := I.hok _ _ q
      have z : (listText (PyData.shownAll ds)).length ≤ sizeLine := by simpa only [PyData.shown] using z
      obtain ⟨bs, h1, h2⟩ := DqAll.repr I ds _ its ha rv (by simpa [PyData.showable] using w) fun t ht => Nat.le_trans (listText_mem_le ht) z
      have out := not_mem_of_deeper rd (n := PyData.depthAll ds) (Nat.lt_succ_self _) h1
      refine ⟨_ :: bs, ReadAtMost.cons rd (Nat.le_succ (PyData.depthAll ds)) h1, ?_⟩
      rw [PyData.depth, PyData.shown]
      cases its with
      | nil =>
        cases ds with
        | nil =>
          rw [PyData.shownAll, listText_nil]
          exact ReprK.listEmpty ho rfl rfl
        | cons d ds => cases h2
      | cons x l => exact ReprK.list ho rfl rfl out (h2.length_eq.trans (by simp)) fun i y e => h2.item i y (by simpa using e)
  | .tuple ds, v, u, h, r, w, z => by
    obtain ⟨as, rd, _⟩ := Dq.reads I (.tuple ds) v u h r
    cases h with
    | tup q ha =>
      cases r
      obtain ⟨_, its, rv, o, o1, o2, n, o3⟩ := I.hok _ _ q
      have z : (tupleText (PyData.shownAll ds)).length ≤ sizeLine := by simpa only [PyData.shown] using z
      obtain ⟨bs, h1, h2⟩ := DqAll.repr I ds _ its ha rv (by simpa [PyData.showable] using w) fun t ht => Nat.le_trans (tupleText_mem_le ht) z
      refine ⟨_ :: bs, ReadAtMost.cons rd (Nat.le_succ (PyData.depthAll ds)) h1, ?_⟩
      rw [PyData.depth, PyData.shown]
      exact ReprK.tuple o1 o2 o3 (not_mem_of_deeper rd (n := PyData.depthAll ds) (Nat.lt_succ_self _) h1) h2
  | .none, v, u, h, r, w, z => let ⟨_, rd, _⟩ := Dq.reads I _ v u h r; ReprK.of_reads rd w (fun x => by cases x) z
  | .bool _, v, u, h, r, w, z => let ⟨_, rd, _⟩ := Dq.reads I _ v u h r; ReprK.of_reads rd w (fun x => by cases x) z
  | .int _, v, u, h, r, w, z => let ⟨_, rd, _⟩ := Dq.reads I _ v u h r; ReprK.of_reads rd w (fun x => by cases x) z
  | .str _, v, u, h, r, w, z => let ⟨_, rd, _⟩ := Dq.reads I _ v u h r; ReprK.of_reads rd w (fun x => by cases x) z
  | .dict _, v, u, h, r, w, z => let ⟨_, rd, sm⟩ := Dq.reads I _ v u h r; ReprK.of_reads rd w (fun _ => sm rfl) z
theorem DqAll.repr (I : Inv X pins σ H s) : ∀ (ds : List PyData) (vs : List V) (us : List Value), DqAll H vs ds → Vals vs us → PyData.showableAll ds = true → (∀ t ∈ PyData.shownAll ds, t.length ≤ sizeLine) →
    ∃ bs, ReadAtMost s.heap (PyData.depthAll ds) bs ∧ ReprAllK X.prog X.w bs s.heap (PyData.depthAll ds) us (PyData.shownAll ds)
  | [], _, _, h, r, _, _ => by
    cases h
    cases r
    exact ⟨[], (fun _ x => nomatch x), ReprAllK.nil⟩
  | d :: ds, _, _, h, r, w, z => by
    cases h with
    | cons h1 h2 =>
      cases r with
      | cons r1 r2 =>
        have w' := Bool.and_eq_true_iff.mp (show (d.showable && PyData.showableAll ds) = true from w)
        obtain ⟨b1, k1, j1⟩ := Dq.repr I d _ _ h1 r1 w'.1 (z _ (.head _))
        obtain ⟨b2, k2, j2⟩ := DqAll.repr I ds _ _ h2 r2 w'.2 fun t ht => z t (.tail _ ht)
        refine ⟨b1 ++ b2, most_two k1 k2, .cons ((j1.more fun b hb => ?_).level_le (Nat.le_max_left _ _)) (j2.more_le (fun b hb => ?_) (Nat.le_max_right _ _))⟩
        · exact List.mem_append_left b2 hb
        · exact List.mem_append_right b1 hb
end
end
/-- what the text of data needs -/
structure Seen (d : PyData) : Prop where
  w : d.showable = true
  z : d.shown.length ≤ 4000000
  p : d.depth ≤ 20
/-- repr of a list with items -/
def rRepL : List V → Hp → VK → Prop := fun xs H Q => ∃ (q : Addr) (v : V) (vs : List V) (d : PyData) (ds : List PyData), xs = [.ref q] ∧ H q = some (.lst (v :: vs)) ∧ DqAll H (v :: vs) (d :: ds) ∧ Seen (.list (d :: ds)) ∧ Q (.str (PyData.list (d :: ds)).shown) H
theorem call_repL {X : Cx} (hG : X.A.guards = some []) (hu : X.A.units + 64 < cLine) : CallR X (.builtin "repr") rRepL := by
  intro pins s σ H xs us Q I r h
  obtain ⟨q, v, vs, d, ds, rfl, hq, hd, S, k⟩ := h
  obtain ⟨u, rfl, ru⟩ := vals1 r
  cases (show u = Value.ref q from ru)
  obtain ⟨as, rd, _⟩ := Dq.reads I (.list (d :: ds)) (.ref q) (.ref q) (.lst hq hd) rfl
  obtain ⟨_, its, n, rv, ho⟩ := I.hok _ _ hq
  cases rv with
  | cons r1 rv =>
    rename_i u1 us1
    have zz : (PyData.list (d :: ds)).shown.length ≤ sizeLine := Nat.le_trans S.z (by rw [sizeLine_eq]; omega)
    have z : (listText (PyData.shownAll (d :: ds))).length ≤ sizeLine := by simpa only [PyData.shown] using zz
    obtain ⟨bs, h1, h2⟩ := DqAll.repr I (d :: ds) _ (u1 :: us1) hd (.cons r1 rv) (by simpa [PyData.showable] using S.w) fun t ht => Nat.le_trans (listText_mem_le ht) z
    have out := not_mem_of_deeper rd (n := PyData.depthAll (d :: ds)) (Nat.lt_succ_self _) h1
    have dp : PyData.depthAll (d :: ds) + 1 ≤ 20 := S.p
    refine call_repr_slot (T := "list") (idr := "list.__repr__") (by omega) ⟨_, ho, rfl⟩ F.slot_list_repr.toG ?_
    refine call_list_reprK (ts := PyData.shownAll (d :: ds)) (d := PyData.depthAll (d :: ds)) ho rfl rfl out (h2.length_eq.trans (by simp)) (fun i y e => h2.item i y (by simpa using e)) (g := []) hG (fun b _ => Clear.nil b) (by show X.A.units + 1 + (PyData.depthAll (d :: ds) + 1) < cLine; omega) (fun b o e => e) (fun h' u tk hk => ⟨_, _, rfl, .str _, H, I.kept hk, ⟨u, by simp only [PyData.shown]⟩, k⟩) z
end KL
set_option Elab.async false
set_option linter.all false
set_option maxRecDepth 100000
set_option maxHeartbeats 4000000
namespace KL
open PySem L2 PySem.KX PySem.Spec PyProof.Rows
/-- C(..), where __init__ may raise: what is wished of that may hang on the slots -/
def tMkS (C : Addr) (sp : Sp) (E : L2.St → XK) (g : List V → List V) (t : TA) : TE := fun σ H Q => t σ H fun vs H1 => ∀ x dx, H1 x = none → H1 dx = none → dx ≠ x → sp (.ref x :: g vs) (upd (upd H1 dx (.own x)) x (.ins C dx [])) (fun v H2 => v = .non ∧ Q (.ref x) H2) (E σ)
/-- C(k = v, ..), the keywords in the other order -/
def tMkKS (C : Addr) (n : Nat) (sp : Sp) (E : L2.St → XK) (t : TA) : TE := fun σ H Q => t σ H fun zs H1 => zs.length = n ∧ ∀ x dx, H1 x = none → H1 dx = none → dx ≠ x → sp (.ref x :: zs.reverse) (upd (upd H1 dx (.own x)) x (.ins C dx [])) (fun v H2 => v = .non ∧ Q (.ref x) H2) (E σ)
theorem vals_rev : ∀ {vs : List V} {us : List Value}, Vals vs us → Vals vs.reverse us.reverse
  | [], _, h => by
    cases h
    exact .nil
  | v :: vs, _, h => by
    cases h with
    | cons r rs =>
      rw [List.reverse_cons, List.reverse_cons]
      exact (vals_rev rs).append (.cons r .nil)
section
variable {X : Cx} {CX : CXT} {k : Nat} {f C : Addr} {fd : FuncData} {ps ks : List Str} {sp : Sp} {E : XK} {x : Str} {p pos : Pos} {e : Expr} {es : List Expr} {kws : List Keyword} {t : TA}
theorem run_mkS {pins : List (Addr × Obj)} {σ : L2.St} {H : Hp} {s : Shared} {Q : VK} {us bs : List Value} {vs : List V} {kw : List (Str × Value)} (M : Mk X.K C f) (F : FnOk X.prog X.w X.K X.mg X.base CX k f fd ps sp) (hr : Room (k + 1) X.A)
    (hb : ∀ (s2 : Shared) (a : Addr), X.K.In s2.heap → BindsTo s2 fd ⟨.ref a :: us, kw⟩ (ps.zip (.ref a :: bs))) (hx : PassesAt CX X σ E) (I : Inv X pins σ H s) (r : Vals vs bs)
    (h : ∀ x dx, H x = none → H dx = none → dx ≠ x → sp (.ref x :: vs) (upd (upd H dx (.own x)) x (.ins C dx [])) (fun v H2 => v = .non ∧ Q (.ref x) H2) E) : wpAny (model X.prog X.w) X.A (call (.ref C) us kw) (EP X pins σ Q) X.xe s := by
  have I2 := Inv.made (C := C) I
  have q := h (s.heap.objs.size + 1) s.heap.objs.size (I.hok.fresh (Nat.le_succ _)) (I.hok.fresh (Nat.le_refl _)) (Nat.ne_of_lt (Nat.lt_succ_self _))
  refine wpAny_call (make_map (f := f) I.kIn M.makes M.init (beq_iff_eq.mp M.fn) (codeAny_mono (F.run _ X.stack _ _ _ _ _ _ E (hr.make C us kw) (I2.env0.make C us kw) (hb _ _ I2.kIn) (show Vals (V.ref (s.heap.objs.size + 1) :: vs) (Value.ref (s.heap.objs.size + 1) :: bs) from .cons rfl r) q) fun res s2 y => ?_))
  match res, y with
  | .error er, y => exact hx pins _ _ er s2 I2 y
  | .ok (.ret u), y =>
    obtain ⟨v, H3, I3, rv, ev, q3⟩ := I2.after y
    subst ev
    exact ⟨rv, V.ref (s.heap.objs.size + 1), H3, I3, rfl, q3⟩
  | .ok .next, y => exact False.elim y
  | .ok .brk, y => exact False.elim y
  | .ok .cont, y => exact False.elim y
theorem pe_mkS {E : L2.St → XK} (M : Mk X.K C f) (F : FnOk X.prog X.w X.K X.mg X.base CX k f fd ps sp) (hr : Room (k + 1) X.A) (hg : Gl X x) (hm : X.mg x = some (.ref C)) (hb : L2.Binds X.K fd ps []) (hx : ∀ σ, PassesAt CX X σ (E σ)) (ha : PA X (e :: es) t)
    (hdb : (x == ("__debug__" : Str)) = false := by decide) (he : starEach (e :: es) X.env = (false, eval e X.env) :: starEach es X.env := by rfl) (hpl : (backTo pos (starEach es X.env)).any (·.1) = false := by rfl) :
    PE X (.Call (.Name x p) (e :: es) [] pos) (tMkS C sp E id t) := by
  refine ⟨fun pins s σ H Q I h => wpAny_Call_Name_kw (ld_glob I hg hm ?_ hdb)⟩
  refine PySem.W.callWith_K (h₀ := X.base) I.ok.mod.kin M.kp (thn (ha.run pos pins s σ H _ I h) fun us s1 ⟨vs, H1, I1, r, q⟩ => ⟨I1.kIn, ?_⟩) he hpl
  have ln : us.length + 1 = ps.length := by
    have z := F.len _ _ _ _ (q (s1.heap.objs.size + 1) s1.heap.objs.size (I1.hok.fresh (Nat.le_succ _)) (I1.hok.fresh (Nat.le_refl _)) (Nat.ne_of_lt (Nat.lt_succ_self _)))
    rw [← z, ← r.length]
    rfl
  refine run_mkS (bs := us) M F hr (fun s2 a K2 => ?_) (hx σ) I1 r q
  have b := hb s2 (.ref a :: us) K2 (by rw [List.append_nil]; exact ln)
  rwa [List.append_nil] at b
theorem pe_mkKS {E : L2.St → XK} (M : Mk X.K C f) (F : FnOk X.prog X.w X.K X.mg X.base CX k f fd ps sp) (hr : Room (k + 1) X.A) (hg : Gl X x) (hm : X.mg x = some (.ref C))
    (hb : ∀ (s2 : Shared) (a : Addr) (ws : List Value), X.K.In s2.heap → ws.length = ks.length → BindsTo s2 fd ⟨[.ref a], ks.zip ws⟩ (ps.zip (.ref a :: ws.reverse))) (hx : ∀ σ, PassesAt CX X σ (E σ)) (hkw : PK X kws t)
    (hall : (backToKw pos (keywordEach kws X.env)).all (·.1.isSome) = true := by rfl) (hks : (backToKw pos (keywordEach kws X.env)).filterMap (·.1) = ks := by rfl) (hdb : (x == ("__debug__" : Str)) = false := by decide)
    (hpl : ((backTo pos (starEach [] X.env)).any (·.1) || (backToKw pos (keywordEach kws X.env)).any (·.1.isNone)) = false := by rfl) : PE X (.Call (.Name x p) [] kws pos) (tMkKS C ks.length sp E t) := by
  refine ⟨fun pins s σ H Q I hq => wpAny_Call_Name_kw (ld_glob I hg hm ?_ hdb)⟩
  refine PySem.W.callWith_KW0 (h₀ := X.base) I.ok.mod.kin M.kp hall (thn (hkw.run pos pins s σ H _ I hq) fun ws s2 ⟨zs, H2, I2, rz, lz, q⟩ => ⟨I2.kIn, ?_⟩) hpl
  rw [hks]
  exact run_mkS (us := []) M F hr (fun s3 a K3 => hb s3 a ws K3 (rz.length.symm.trans lz)) (hx σ) I2 (vals_rev rz) q
end
end KL
set_option Elab.async false
set_option linter.all false
set_option maxRecDepth 100000
set_option maxHeartbeats 2000000
namespace KL
open PySem L2 PySem.KX PySem.Spec PyProof.Rows
mutual
/-- how long the text of data is at most -/
def wt : PyData → Nat
  | .none => 4
  | .bool _ => 5
  | .int i => i.natAbs.log2 + 2
  | .str x => 10 * x.length + 2
  | .list ds => wtAll ds + 2
  | .tuple ds => wtAll ds + 3
  | .dict kvs => (PyData.dict kvs).shown.length
def wtAll : List PyData → Nat
  | [] => 0
  | d :: r => wt d + 2 + wtAll r
end
mutual
/-- how wide data is at its widest -/
def wd : PyData → Nat
  | .none => 0
  | .bool _ => 0
  | .int i => i.natAbs.log2
  | .str x => x.length
  | .list ds => max ds.length (wdAll ds)
  | .tuple ds => max ds.length (wdAll ds)
  | .dict kvs => if kvs = [] then 0 else 2000
def wdAll : List PyData → Nat
  | [] => 0
  | d :: r => max (wd d) (wdAll r)
end
def txS (x : Str) : Bool := x.cps.toList.all fun c => decide (c < 128)
mutual
/-- plain signs alone -/
def txD : PyData → Bool
  | .str x => txS x
  | .list ds => txAll ds
  | .tuple ds => txAll ds
  | _ => true
def txAll : List PyData → Bool
  | [] => true
  | d :: r => txD d && txAll r
end
theorem list_len (ts : List Str) : (listText ts).length ≤ piled ts + 2 := by
  cases ts with
  | nil => decide +kernel
  | cons t r =>
    have h := textFrom_length_pos r 1 (("[" : Str) ++ (if (0 : Nat) > 0 then ", " else "" : String) ++ t) Nat.one_pos
    have e : (("[" : Str) ++ (if (0 : Nat) > 0 then ", " else "" : String) ++ t).length = 1 + t.length := by
      rw [strLen_append, strLen_append]
      rfl
    have x : (listText (t :: r)).length = (textFrom 1 (("[" : Str) ++ (if (0 : Nat) > 0 then ", " else "" : String) ++ t) r).length + 1 := by
      show (textFrom 0 "[" (t :: r) ++ "]").length = _
      rw [strLen_append]
      rfl
    rw [x, h, e, piled_cons]
    omega
theorem tup_tlen (ts : List Str) : (tupleText ts).length ≤ piled ts + 3 := by
  unfold tupleText
  rw [strLen_append, strLen_append]
  have a : (("(" : Str)).length = 1 := rfl
  have b : ((if (ts.length == 1) = true then ",)" else ")" : String) : Str).length ≤ 2 := by
    split
    · decide +kernel
    · decide +kernel
  have c : (Str.join ", " ts).length ≤ piled ts := by
    cases ts with
    | nil => decide +kernel
    | cons t r =>
      have := join_length_add (t :: r) (by simp)
      omega
  omega
mutual
theorem shown_wt : ∀ (d : PyData), txD d = true → d.shown.length ≤ wt d
  | .none, _ => by decide +kernel
  | .bool b, _ => by cases b <;> decide +kernel
  | .int i, _ => by
    have e := int_text_length_le (a := i) (k := i.natAbs.log2 + 1) (Nat.succ_pos _) (Nat.lt_succ_self _)
    rw [PyData.shown]
    show (Str.ofString (toString i)).length ≤ i.natAbs.log2 + 2
    rw [PySem.ofString_length]
    exact e
  | .str x, h => by
    rw [PyData.shown]
    refine StrLaws.reprText_len x fun c hc => ?_
    have := of_decide_eq_true (List.all_eq_true.mp (show x.cps.toList.all (fun c => decide (c < 128)) = true from h) c hc)
    exact Nat.lt_trans this (by decide)
  | .list ds, h => by
    rw [PyData.shown]
    exact Nat.le_trans (list_len _) (Nat.add_le_add_right (shown_all ds h) 2)
  | .tuple ds, h => by
    rw [PyData.shown]
    exact Nat.le_trans (tup_tlen _) (Nat.add_le_add_right (shown_all ds h) 3)
  | .dict kvs, _ => Nat.le_refl _
theorem shown_all : ∀ (ds : List PyData), txAll ds = true → piled (PyData.shownAll ds) ≤ wtAll ds
  | [], _ => Nat.le_refl _
  | d :: ds, h => by
    have h' := Bool.and_eq_true_iff.mp (show (txD d && txAll ds) = true from h)
    rw [PyData.shownAll, piled_cons]
    have q1 := shown_wt d h'.1
    have q2 := shown_all ds h'.2
    show _ ≤ wt d + 2 + wtAll ds
    omega
end
mutual
theorem sm_wd : ∀ (d : PyData), wd d ≤ 1000 → smB d = true ∧ d.showable = true
  | .none, _ => ⟨rfl, rfl⟩
  | .bool _, _ => ⟨rfl, rfl⟩
  | .int i, h => by
    have h : i.natAbs.log2 ≤ 1000 := h
    exact ⟨decide_eq_true (by omega), decide_eq_true (by omega)⟩
  | .str x, h => ⟨decide_eq_true h, rfl⟩
  | .list ds, h => by
    have h : max ds.length (wdAll ds) ≤ 1000 := h
    obtain ⟨q1, q2⟩ := sm_wdAll ds (by omega)
    refine ⟨?_, q2⟩
    show (decide (ds.length ≤ 1000) && smAll ds) = true
    rw [q1, decide_eq_true (by omega)]
    rfl
  | .tuple ds, h => by
    have h : max ds.length (wdAll ds) ≤ 1000 := h
    obtain ⟨q1, q2⟩ := sm_wdAll ds (by omega)
    refine ⟨?_, q2⟩
    show (decide (ds.length ≤ 1000) && smAll ds) = true
    rw [q1, decide_eq_true (by omega)]
    rfl
  | .dict kvs, h => by
    have h : (if kvs = [] then 0 else 2000) ≤ 1000 := h
    by_cases e : kvs = []
    · subst e
      exact ⟨rfl, rfl⟩
    · rw [if_neg e] at h
      omega
theorem sm_wdAll : ∀ (ds : List PyData), wdAll ds ≤ 1000 → smAll ds = true ∧ PyData.showableAll ds = true
  | [], _ => ⟨rfl, rfl⟩
  | d :: ds, h => by
    have h : max (wd d) (wdAll ds) ≤ 1000 := h
    obtain ⟨a1, a2⟩ := sm_wd d (by omega)
    obtain ⟨b1, b2⟩ := sm_wdAll ds (by omega)
    refine ⟨?_, ?_⟩
    · show (smB d && smAll ds) = true
      rw [a1, b1]
      rfl
    · show (d.showable && PyData.showableAll ds) = true
      rw [a2, b2]
      rfl
end
/-- data of a size -/
structure Gd (w p W : Nat) (d : PyData) : Prop where
  wd : wd d ≤ w
  dp : d.depth ≤ p
  wt : wt d ≤ W
  tx : txD d = true
theorem Gd.mono {w p W w' p' W' : Nat} {d : PyData} (h : Gd w p W d) (h1 : w ≤ w') (h2 : p ≤ p') (h3 : W ≤ W') : Gd w' p' W' d := ⟨Nat.le_trans h.wd h1, Nat.le_trans h.dp h2, Nat.le_trans h.wt h3, h.tx⟩
end KL
set_option Elab.async false
set_option linter.all false
set_option maxRecDepth 100000
set_option maxHeartbeats 2000000
namespace KL
open PySem L2
/-! ### the deck -/
def dk (l : Addr) (m t : Int) : List (Key × V) := [(Sum.inr "cells", V.ref l), (Sum.inr "mixed", V.int m), (Sum.inr "turn", V.int t)]
theorem dk_cells (l : Addr) (m t : Int) : valV (dk l m t) (Sum.inr "cells") = some (V.ref l) := by rfl
theorem dk_mixed (l : Addr) (m t : Int) : valV (dk l m t) (Sum.inr "mixed") = some (V.int m) := by rfl
theorem dk_turn (l : Addr) (m t : Int) : valV (dk l m t) (Sum.inr "turn") = some (V.int t) := by rfl
theorem dk_put (l : Addr) (m t u : Int) : putK (dk l m t) (Sum.inr "turn") (V.int u) = dk l m u := by rfl
/-- H0 is what stays in H: neither the deck nor its list -/
structure DeckAt (H0 H : Hp) (p l : Addr) (t : Int) : Prop where
  s : Same H0 H
  p0 : H0 p = none
  l0 : H0 l = none
  d : ∃ (ns : List Int) (m : Int), H p = some (.dK (dk l m t)) ∧ H l = some (.lst (ns.map V.int)) ∧ ns.length ≤ 63 ∧ 0 ≤ m ∧ m < 2147483629
theorem DeckAt.notP {H0 H : Hp} {p l a : Addr} {t : Int} (D : DeckAt H0 H p l t) (n : H a = none) : a ≠ p ∧ a ≠ l := by
  obtain ⟨ns, m, hp, hl, _⟩ := D.d
  refine ⟨?_, ?_⟩
  · rintro rfl
    rw [hp] at n
    cases n
  · rintro rfl
    rw [hl] at n
    cases n
theorem DeckAt.ne {H0 H : Hp} {p l : Addr} {t : Int} (D : DeckAt H0 H p l t) : l ≠ p := by
  obtain ⟨ns, m, hp, hl, _⟩ := D.d
  exact ne_of hl hp (by intro q; cases q)
/-- something new, that stays -/
theorem DeckAt.new {H0 H : Hp} {p l a : Addr} {t : Int} {o : HO} (D : DeckAt H0 H p l t) (n : H a = none) : DeckAt (upd H0 a o) (upd H a o) p l t := by
  obtain ⟨ap, al⟩ := D.notP n
  obtain ⟨ns, m, hp, hl, r⟩ := D.d
  refine ⟨fun b u e => ?_, ?_, ?_, ns, m, ?_, ?_, r⟩
  · by_cases z : b = a
    · subst z
      rw [upd_same] at e ⊢
      exact e
    · rw [upd_ne z] at e ⊢
      exact D.s _ _ e
  · rw [upd_ne ap.symm]
    exact D.p0
  · rw [upd_ne al.symm]
    exact D.l0
  · rw [upd_ne ap.symm]
    exact hp
  · rw [upd_ne al.symm]
    exact hl
/-- something that does not stay: new, or changed -/
theorem DeckAt.put {H0 H : Hp} {p l a : Addr} {t : Int} {o : HO} (D : DeckAt H0 H p l t) (ap : a ≠ p) (al : a ≠ l) (n : H0 a = none) : DeckAt H0 (upd H a o) p l t := by
  obtain ⟨ns, m, hp, hl, r⟩ := D.d
  refine ⟨fun b u e => ?_, D.p0, D.l0, ns, m, ?_, ?_, r⟩
  · rw [upd_ne (ne_of_none e n)]
    exact D.s _ _ e
  · rw [upd_ne ap.symm]
    exact hp
  · rw [upd_ne al.symm]
    exact hl
theorem DeckAt.put0 {H0 H : Hp} {p l a : Addr} {t : Int} {o : HO} (D : DeckAt H0 H p l t) (n : H a = none) : DeckAt H0 (upd H a o) p l t :=
  D.put (D.notP n).1 (D.notP n).2 (D.s.free n)
/-- something that stood and stays from now on -/
theorem DeckAt.keep {H0 H : Hp} {p l a : Addr} {t : Int} {o : HO} (D : DeckAt H0 H p l t) (ap : a ≠ p) (al : a ≠ l) (h : H a = some o) : DeckAt (upd H0 a o) H p l t := by
  refine ⟨fun b u e => ?_, ?_, ?_, D.d⟩
  · by_cases z : b = a
    · subst z
      rw [upd_same] at e
      rw [h]
      exact e
    · rw [upd_ne z] at e
      exact D.s _ _ e
  · rw [upd_ne ap.symm]
    exact D.p0
  · rw [upd_ne al.symm]
    exact D.l0
theorem DeckAt.less {H0 H1 H : Hp} {p l : Addr} {t : Int} (D : DeckAt H1 H p l t) (S : Same H0 H1) : DeckAt H0 H p l t :=
  ⟨S.trans D.s, S.free D.p0, S.free D.l0, D.d⟩
/-- from a state (kept H0, heap H, turn t) to another one, by at most n draws -/
structure Go (p l : Addr) (H0 H : Hp) (t : Int) (H1 H' : Hp) (t' : Int) (n : Int) : Prop where
  s : Same H0 H1
  d : DeckAt H1 H' p l t'
  f : ∀ b o, b ≠ p → b ≠ l → H b = some o → H' b = some o
  o : ∀ b, H0 b = none → H b ≠ none → H1 b = none
  t0 : t ≤ t'
  t1 : t' ≤ t + n
theorem Go.refl {p l : Addr} {H0 H : Hp} {t : Int} (D : DeckAt H0 H p l t) : Go p l H0 H t H0 H t 0 := ⟨Same.refl _, D, fun _ _ _ _ e => e, fun _ e _ => e, by omega, by omega⟩
theorem Go.trans {p l : Addr} {H0 H H1 H' H2 H'' : Hp} {t t' t'' n n' : Int} (a : Go p l H0 H t H1 H' t' n) (b : Go p l H1 H' t' H2 H'' t'' n') : Go p l H0 H t H2 H'' t'' (n + n') := by
  refine ⟨a.s.trans b.s, b.d, fun c o cp cl e => b.f _ _ cp cl (a.f _ _ cp cl e), fun c e h => ?_, Int.le_trans a.t0 b.t0, ?_⟩
  · have h1 := a.o c e h
    by_cases cp : c = p
    · subst cp
      exact b.d.p0
    by_cases cl : c = l
    · subst cl
      exact b.d.l0
    cases z : H c with
    | none => exact absurd z h
    | some o => exact b.o c h1 (by rw [a.f c o cp cl z]; simp)
  · have := a.t1
    have := b.t1
    omega
theorem Go.more {p l : Addr} {H0 H H1 H' : Hp} {t t' n n' : Int} (a : Go p l H0 H t H1 H' t' n) (h : n ≤ n') : Go p l H0 H t H1 H' t' n' :=
  ⟨a.s, a.d, a.f, a.o, a.t0, Int.le_trans a.t1 (by omega)⟩
/-- something new that stays -/
theorem Go.new {p l a : Addr} {H0 H H1 H' : Hp} {t t' n : Int} {o : HO} (g : Go p l H0 H t H1 H' t' n) (na : H' a = none) : Go p l H0 H t (upd H1 a o) (upd H' a o) t' n := by
  have n1 : H1 a = none := g.d.s.free na
  refine ⟨fun b u e => ?_, g.d.new na, fun b u bp bl e => ?_, fun b e h => ?_, g.t0, g.t1⟩
  · have e1 := g.s _ _ e
    rw [upd_ne (ne_of_none e1 n1)]
    exact e1
  · have e1 := g.f _ _ bp bl e
    rw [upd_ne (ne_of_none e1 na)]
    exact e1
  · have e1 := g.o b e h
    by_cases z : b = a
    · subst z
      exfalso
      obtain ⟨bp, bl⟩ := g.d.notP na
      cases y : H b with
      | none => exact h y
      | some u =>
        have := g.f _ _ bp bl y
        rw [na] at this
        cases this
    · rw [upd_ne z]
      exact e1
/-- something new that does not stay as it is -/
theorem Go.put0 {p l a : Addr} {H0 H H1 H' : Hp} {t t' n : Int} {o : HO} (g : Go p l H0 H t H1 H' t' n) (na : H' a = none) : Go p l H0 H t H1 (upd H' a o) t' n :=
  ⟨g.s, g.d.put0 na, fun b u bp bl e => by
    have e1 := g.f _ _ bp bl e
    rw [upd_ne (ne_of_none e1 na)]
    exact e1, g.o, g.t0, g.t1⟩
/-- something of one's own that is changed -/
theorem Go.put {p l a : Addr} {H0 H H1 H' : Hp} {t t' n : Int} {o : HO} (g : Go p l H0 H t H1 H' t' n) (na : H a = none) (ap : a ≠ p) (al : a ≠ l) (n1 : H1 a = none) : Go p l H0 H t H1 (upd H' a o) t' n :=
  ⟨g.s, g.d.put ap al n1, fun b u bp bl e => by
    rw [upd_ne (ne_of_none e na)]
    exact g.f _ _ bp bl e, g.o, g.t0, g.t1⟩
/-- something of one's own that stays from now on -/
theorem Go.keep {p l a : Addr} {H0 H H1 H' : Hp} {t t' n : Int} {o : HO} (g : Go p l H0 H t H1 H' t' n) (na : H a = none) (ap : a ≠ p) (al : a ≠ l) (h : H' a = some o) (h1 : H1 a = none) : Go p l H0 H t (upd H1 a o) H' t' n :=
  ⟨fun b u e => by
    have e1 := g.s _ _ e
    rw [upd_ne (ne_of_none e1 h1)]
    exact e1, g.d.keep ap al h, g.f, fun b e hb => by
    rw [upd_ne (show b ≠ a from fun z => hb (by rw [z]; exact na))]
    exact g.o b e hb, g.t0, g.t1⟩
theorem Go.own {p l a : Addr} {H0 H H1 H' : Hp} {t t' n : Int} {o : HO} (g : Go p l H0 H t H1 H' t' n) (D : DeckAt H0 H p l t) (h : H a = some o) (n0 : H0 a = none) (ap : a ≠ p) (al : a ≠ l) : H' a = some o ∧ H1 a = none :=
  ⟨g.f _ _ ap al h, g.o _ n0 (by rw [h]; simp)⟩
def spDeck (K : PySem.W.Frag) : Sp := fun vs H Q _ => ∃ (a : Addr) (ns : List Int), vs = [.ref a] ∧ SqL K H a (ns.map V.int) ∧ ns.length ≤ 63 ∧ ∀ H' p l, DeckAt H H' p l 0 → Q (.ref p) H'
def spDrawS : Sp := fun vs H Q _ => ∃ (H0 : Hp) (p l : Addr) (t b : Int), vs = [.ref p, .int b] ∧ DeckAt H0 H p l t ∧ 0 ≤ t ∧ t < 1048576 ∧ 0 < b ∧ b < 1048576 ∧ ∀ H' r, DeckAt H0 H' p l (t + 1) → 0 ≤ r → r < b → Q (.int r) H'
def spDraw : Sp := fun vs H Q _ => ∃ (H0 : Hp) (p l : Addr) (t b : Int), vs = [.ref p, .int b] ∧ DeckAt H0 H p l t ∧ 0 ≤ t ∧ t < 1048576 ∧ 0 < b ∧ b < 1048576 ∧ ∀ H' r, Go p l H0 H t H0 H' (t + 1) 1 → 0 ≤ r → r < b → Q (.int r) H'
theorem draw_go {vs : List V} {H : Hp} {Q : VK} {E : XK} (h : spDraw vs H Q E) : spDrawS vs H Q E := by
  obtain ⟨H0, p, l, t, b, rfl, D, t0, t1, b0, b1, k⟩ := h
  refine ⟨fun c => if c = p ∨ c = l then none else H c, p, l, t, b, rfl, ⟨fun c o e => ?_, if_pos (.inl rfl), if_pos (.inr rfl), D.d⟩, t0, t1, b0, b1, fun H' r D' r0 rb => k H' r ?_ r0 rb⟩
  · have e : (if c = p ∨ c = l then none else H c) = some o := e
    by_cases z : c = p ∨ c = l
    · rw [if_pos z] at e
      cases e
    · rw [if_neg z] at e
      exact e
  · have f : ∀ c o, c ≠ p → c ≠ l → H c = some o → H' c = some o := fun c o cp cl e => D'.s _ _ (by
      show (if c = p ∨ c = l then none else H c) = some o
      rw [if_neg (by rintro (z | z); exact cp z; exact cl z), e])
    refine ⟨Same.refl _, ⟨fun c o e => ?_, D.p0, D.l0, D'.d⟩, f, fun _ e _ => e, by omega, by omega⟩
    refine f c o ?_ ?_ (D.s _ _ e)
    · rintro rfl
      rw [D.p0] at e
      cases e
    · rintro rfl
      rw [D.l0] at e
      cases e
end KL
set_option Elab.async false
set_option linter.all false
set_option maxRecDepth 100000
set_option maxHeartbeats 2000000
namespace KL
open PySem L2
structure TxtD (mg : Str → Option Value) : Prop where
  list : mg "list" = none
  int : mg "int" = none
  len : mg "len" = none
section
variable {P : Program} {w : World} {K : PySem.W.Frag} {mg : Str → Option Value} {base : Heap}
theorem scDeck : FnScope ["_law_script", "_law_cells", "_law_mixed", "_law_cell"] ["_law_script"] (defScope lDeck) := ⟨rfl, rfl, rfl, by decide +kernel, rfl, by decide +kernel, by decide +kernel⟩
theorem cut_ints (ns : List Int) (lo hi : Option Int) : ∃ ms : List Int, cutV (ns.map V.int) lo hi = ms.map V.int ∧ ms.length ≤ ns.length :=
  ⟨(ns.drop (HT.sIx (ns.map V.int).length 0 lo)).take (HT.sIx (ns.map V.int).length (ns.map V.int).length hi - HT.sIx (ns.map V.int).length 0 lo), by unfold cutV; rw [List.map_take, List.map_drop], by rw [List.length_take, List.length_drop]; omega⟩
theorem ok_deck {f : Addr} {fd : FuncData} (F : Fun K "_law_deck" "_law_deck" lDeck f fd) (T : TxtD mg) : FnOk P w K mg base CX0 1 f fd ["_law_script"] (spDeck K) := by
  refine F.ok scDeck (fun vs H Q E h => ?_) (fun cdv A outer s H vs Q E hr h => ?_)
  · obtain ⟨a, ns, rfl, _⟩ := h
    rfl
  · obtain ⟨a, ns, rfl, hS, hlen, k⟩ := h
    refine ⟨_, pss_cons (ps_par (i := 1) (j := 2) (by rfl) scDeck.nd rfl rfl (by decide) rfl rfl (pa_cons (pe_callTy call_list_of (by rfl) T.list (by decide +kernel) (pa_cons (pe_slice sl_list (pv 0) po_none (po_some pe_int)) pa_nil)) (pa_cons pe_int pa_nil)) (by rfl))
      (pss_cons (ps_for PassesOwn.never rfl (pi_list (pv 1)) (pg_name (i := 3) scDeck.nd rfl (.inl rfl))
        (pss_one (ps_set (i := 2) scDeck.nd rfl (.inl rfl) (pe_op op_mod (pe_callTy call_int1 (by rfl) T.int (by decide +kernel) (pa_cons (pe_op op_add (pe_op op_add (pe_op op_mul (pv 2) pe_int) (pe_op op_mod (pe_callTy call_int1 (by rfl) T.int (by decide +kernel) (pa_cons (pv 3) pa_nil)) pe_int)) pe_int) pa_nil)) pe_int))))
      (pss_one (ps_ret (pe_disp (pps_cons pe_str (pe_revL (pv 1)) (pps_cons pe_str (pv 2) (pps_cons pe_str pe_int pps_nil))) (by rfl) (by rfl) (fun z => by cases z) (by decide))))), ?_⟩
    refine ⟨_, rfl, _, rfl, a, _, rfl, hS, fun p0 hp0 => ?_⟩
    obtain ⟨ms, ems, hms⟩ := cut_ints ns none (some 63)
    refine ⟨p0, ms.map V.int, rfl, .inl (SqL.of (by rw [upd_same]; exact congrArg some (congrArg HO.lst ems))), fun l hl => ?_⟩
    have npl : l ≠ p0 := fun q => by
      rw [q, upd_same] at hl
      cases hl
    have hl0 : H l = none := by
      rw [upd_ne npl] at hl
      exact hl
    refine ⟨_, _, rfl, ?_⟩
    have hSm : SqL K (upd (upd H p0 (HO.lst (cutV (List.map V.int ns) none (some 63)))) l (HO.lst (List.map V.int ms))) l (ms.map V.int) := SqL.of upd_same
    refine ⟨_, rfl, l, rfl, ⟨_, hSm⟩, for_list (K := K) (a := l) (xs := ms.map V.int) (fun i σ H' => H' = upd (upd H p0 (HO.lst (cutV (List.map V.int ns) none (some 63)))) l (HO.lst (List.map V.int ms)) ∧ ∃ (m : Int) (v : Option V), σ = [some (.ref a), some (.ref l), some (.int m), v] ∧ 0 ≤ m ∧ m < 2147483629)
      ⟨rfl, 186305, none, rfl, by decide, by decide⟩ (fun i σ H' _ ⟨e, _⟩ => e ▸ hSm) ?_ ?_⟩
    · rintro i y σ H' hi ⟨rfl, m, v, rfl, m0, m1⟩
      obtain ⟨u, rfl⟩ : ∃ u, y = V.int u := by
        rw [List.getElem?_map] at hi
        cases e : ms[i]? with
        | none =>
          rw [e] at hi
          cases hi
        | some u =>
          rw [e] at hi
          exact ⟨u, (Option.some.inj hi).symm⟩
      refine ⟨_, rfl, _, _, rfl, rfl, .inl ⟨by omega, by omega⟩, ?_⟩
      refine ⟨_, rfl, .inl ⟨_, rfl, ?_⟩⟩
      refine ⟨_, _, rfl, rfl, (by show (0 : Int) < 2147483587; decide), ?_⟩
      refine ⟨_, _, rfl, rfl, _, _, rfl, rfl, .inl ⟨_, rfl, ?_⟩⟩
      refine ⟨_, _, rfl, rfl, (by show (0 : Int) < 2147483629; decide), ?_⟩
      exact ⟨rfl, _, _, rfl, Int.emod_nonneg _ (by decide), Int.emod_lt_of_pos _ (by decide)⟩
    · rintro σ H' ⟨rfl, m, v, rfl, m0, m1⟩
      have same1 : Same H (upd (upd H p0 (HO.lst (cutV (List.map V.int ns) none (some 63)))) l (HO.lst (List.map V.int ms))) := fun b o e => by
        rw [upd_ne (ne_of_none e hl0), upd_ne (ne_of_none e hp0)]
        exact e
      revert hSm same1
      generalize upd (upd H p0 (HO.lst (cutV (List.map V.int ns) none (some 63)))) l (HO.lst (List.map V.int ms)) = H1
      intro hSm same1 p hp
      refine ⟨_, rfl, l, _, rfl, Same.seq (fun b o e => by rw [upd_ne (ne_of_none e hp)]; exact e) hSm, fun q hq => ?_⟩
      have nqp : q ≠ p := fun z => by
        rw [z, upd_same] at hq
        cases hq
      have hq1 : H1 q = none := by
        rw [upd_ne nqp] at hq
        exact hq
      refine ⟨_, rfl, (by rw [upd_ne nqp.symm, upd_same]), [(Sum.inr "cells", V.ref q), (Sum.inr "mixed", V.int m), (Sum.inr "turn", V.int 0)], rfl, (by show 3 ≤ 15; decide), k _ _ _ ⟨fun b o e => ?_, same1.free hp, same1.free hq1, ms.reverse, m, upd_same, ?_, ?_, m0, m1⟩⟩
      · have e1 := same1 b o e
        rw [upd_ne (ne_of_none e1 hp), upd_ne (ne_of_none e1 hq1), upd_ne (ne_of_none e1 hp)]
        exact e1
      · rw [upd_ne nqp, upd_same, List.map_reverse]
      · rw [List.length_reverse]
        exact Nat.le_trans hms hlen
end
theorem dg_cells {H : Hp} {p l : Addr} {m t : Int} (h : H p = some (.dK (dk l m t))) : DGet H p (.str "cells") (some (.ref l)) := DGet.k (k := Sum.inr "cells") h
theorem dg_mixed {H : Hp} {p l : Addr} {m t : Int} (h : H p = some (.dK (dk l m t))) : DGet H p (.str "mixed") (some (.int m)) := DGet.k (k := Sum.inr "mixed") h
theorem dg_turn {H : Hp} {p l : Addr} {m t : Int} (h : H p = some (.dK (dk l m t))) : DGet H p (.str "turn") (some (.int t)) := DGet.k (k := Sum.inr "turn") h
theorem dp_turn {H : Hp} {p l : Addr} {m t u : Int} (h : H p = some (.dK (dk l m t))) : DPut H p (.str "turn") (.int u) (upd H p (.dK (dk l m u))) := DPut.k (k := Sum.inr "turn") h (by show 3 < sizeLine; decide)
theorem dp_ints {K : PySem.W.Frag} {H : Hp} : ∀ ns : List Int, DpAll K H (ns.map V.int) (ns.map PyData.int)
  | [] => .nil
  | n :: r => .cons (.int n) (dp_ints r)
theorem lay_ints : ∀ ns : List Int, PyData.canLayAll0 (ns.map PyData.int) = true
  | [] => rfl
  | n :: r => by
    show (true && PyData.canLayAll0 (r.map PyData.int)) = true
    rw [lay_ints r]
    rfl
theorem depth_ints : ∀ ns : List Int, PyData.depthAll (ns.map PyData.int) = 0
  | [] => rfl
  | n :: r => by
    show max 0 (PyData.depthAll (r.map PyData.int)) = 0
    rw [depth_ints r]
    rfl
theorem shaped_ints (ns : List Int) : SeqAt.shaped (PyData.list (ns.map PyData.int)) = true := by
  show (PyData.canLayAll0 (ns.map PyData.int) && decide (PyData.depthAll (ns.map PyData.int) + 1 ≤ 64)) = true
  rw [lay_ints, depth_ints]
  rfl
section
variable {P : Program} {w : World} {K : PySem.W.Frag} {mg : Str → Option Value} {base : Heap}
theorem scDraw : FnScope ["_law_deck_here", "_law_below", "_law_mixed", "_law_cell"] ["_law_deck_here", "_law_below"] (defScope lDraw) := ⟨rfl, rfl, rfl, by decide +kernel, rfl, by decide +kernel, by decide +kernel⟩
theorem ok_drawS {f : Addr} {fd : FuncData} (F : Fun K "_law_draw" "_law_draw" lDraw f fd) (T : TxtD mg) : FnOk P w K mg base CX0 1 f fd ["_law_deck_here", "_law_below"] spDrawS := by
  refine F.ok scDraw (fun vs H Q E h => ?_) (fun cdv A outer s H vs Q E hr h => ?_)
  · obtain ⟨H0, p, l, t, b, rfl, _⟩ := h
    rfl
  · obtain ⟨H0, p, l, t, b, rfl, ⟨s0, p0, l0, ns, m, hp, hl, hlen, m0, m1⟩, t0, t1, b0, b1, k⟩ := h
    have hu := hu_of hr
    have nlp : l ≠ p := ne_of hl hp (by intro q; cases q)
    refine ⟨_, pss_cons (ps_dput hu (pv 0) pe_str (pe_op op_add (pe_dget hu (pv 0) pe_str (fun _ _ => rfl)) pe_int) rfl)
      (pss_cons (ps_set (i := 2) scDraw.nd rfl (.inl rfl) (pe_op op_add (pe_dget hu (pv 0) pe_str (fun _ _ => rfl)) (pe_op op_mul (pe_op op_mul pe_int (pe_dget hu (pv 0) pe_str (fun _ _ => rfl))) (pe_dget hu (pv 0) pe_str (fun _ _ => rfl)))))
      (pss_cons (ps_if (pt_cmpR (op_neD hr.units) (pe_dget hu (pv 0) pe_str (fun _ _ => rfl)) (pe_lst pa_nil) (nomark _))
        (pss_cons (ps_set (i := 3) scDraw.nd rfl (.inl rfl) (pe_bm0 PySem.F.plainAttrs_list PySem.F.slot_list_pop PySem.F.type_list_pop mt_pop (pe_dget hu (pv 0) pe_str (fun _ _ => rfl))))
        (pss_cons (ps_if (pt_cmpR op_ge (pv 3) (pe_op op_pow pe_int pe_int) (nomark _))
          (pss_cons (ps_expr (pe_bm PySem.F.plainAttrs_list PySem.F.slot_list_append PySem.F.type_list_append mt_append (pe_dget hu (pv 0) pe_str (fun _ _ => rfl)) (pa_cons (pe_op op_fdiv (pv 3) (pv 1)) pa_nil)))
          (pss_one (ps_ret (pe_op op_mod (pe_callTy call_int1 (by rfl) T.int (by decide +kernel) (pa_cons (pv 3) pa_nil)) (pv 1))))) pss_nil)
        (pss_one (ps_set (i := 2) scDraw.nd rfl (.inl rfl) (pe_op op_add (pv 2) (pe_op op_mod (pe_callTy call_int1 (by rfl) T.int (by decide +kernel) (pa_cons (pv 3) pa_nil)) pe_int)))))) pss_nil)
      (pss_cons (ps_set (i := 2) scDraw.nd rfl (.inl rfl) (pe_op op_mod (pe_callTy call_int1 (by rfl) T.int (by decide +kernel) (pa_cons (pe_op op_add (pe_op op_mul (pe_op op_mod (pv 2) pe_int) pe_int) (pe_dget hu (pv 0) pe_str (fun _ _ => rfl))) pa_nil)) pe_int))
      (pss_cons (ps_set (i := 2) scDraw.nd rfl (.inl rfl) (pe_op op_mod (pe_callTy call_int1 (by rfl) T.int (by decide +kernel) (pa_cons (pe_op op_add (pe_op op_add (pe_op op_mul (pv 2) (pv 2)) (pe_op op_mul pe_int (pe_dget hu (pv 0) pe_str (fun _ _ => rfl)))) pe_int) pa_nil)) pe_int))
      (pss_one (ps_ret (pe_op op_mod (pe_op op_fdiv (pe_op op_mod (pe_callTy call_int1 (by rfl) T.int (by decide +kernel) (pa_cons (pe_op op_mul (pv 2) pe_int) pa_nil)) pe_int) pe_int) (pv 1)))))))), ?_⟩
    refine ⟨_, rfl, p, _, rfl, dg_turn hp, _, _, rfl, rfl, _, rfl, p, _, rfl, dp_turn hp, ?_⟩
    have hp1 : (upd H p (.dK (dk l m (t + 1)))) p = some (.dK (dk l m (t + 1))) := upd_same
    have hl1 : (upd H p (.dK (dk l m (t + 1)))) l = some (.lst (ns.map V.int)) := by rw [upd_ne nlp]; exact hl
    have s1 : Same H0 (upd H p (.dK (dk l m (t + 1)))) := fun b o e => by
      rw [upd_ne (ne_of_none e p0)]
      exact s0 b o e
    clear hp hl s0
    revert hp1 hl1 s1
    generalize upd H p (.dK (dk l m (t + 1))) = H1
    intro hp hl s0
    refine ⟨_, rfl, p, _, rfl, dg_mixed hp, _, rfl, p, _, rfl, dg_turn hp, _, _, rfl, rfl, .inl ⟨by decide, by decide⟩, ?_⟩
    refine ⟨_, rfl, p, _, rfl, dg_turn hp, _, _, rfl, rfl, .inr ⟨by omega, by omega⟩, _, _, rfl, rfl, ?_⟩
    refine ⟨_, rfl, p, _, rfl, dg_cells hp, Nat.zero_le _, fun q hq => ?_⟩
    have hp1 : (upd H1 q (.lst [])) p = some (.dK (dk l m (t + 1))) := by rw [upd_ne (ne_of_none hp hq)]; exact hp
    have hl1 : (upd H1 q (.lst [])) l = some (.lst (ns.map V.int)) := by rw [upd_ne (ne_of_none hl hq)]; exact hl
    have hq1 : (upd H1 q (.lst [])) q = some (.lst []) := upd_same
    have s1 : Same H0 (upd H1 q (.lst [])) := fun b o e => by
      have e1 := s0 b o e
      rw [upd_ne (ne_of_none e1 hq)]
      exact e1
    clear hp hl s0 hq
    revert hp1 hl1 s1 hq1
    generalize upd H1 q (.lst []) = H2
    intro hp hl hq s0
    refine ⟨.list (ns.map .int), .list [], .lst (SqL.of hl) (dp_ints ns), .lst (SqL.of hq) .nil, shaped_ints ns, by decide, _, rfl, ?_⟩
    revert hl
    rcases ns with _ | ⟨n0, nr⟩
    · intro hl
      refine iteF ?_
      generalize m + 186307 * (t + 1) * (t + 1) = M
      refine ⟨_, rfl, _, _, rfl, rfl, (by show (0 : Int) < 2147483549; decide), _, _, rfl, rfl, .inr ⟨by decide, by decide⟩, _, rfl, p, _, rfl, dg_turn hp, _, _, rfl, rfl, .inl ⟨_, rfl, _, _, rfl, rfl, (by show (0 : Int) < 2147483647; decide), ?_⟩⟩
      have c0 := Int.emod_nonneg (M % 2147483549 * 40692 + (t + 1)) (b := 2147483647) (by decide)
      have c1 := Int.emod_lt_of_pos (M % 2147483549 * 40692 + (t + 1)) (b := 2147483647) (by decide)
      revert c0 c1
      generalize (M % 2147483549 * 40692 + (t + 1)) % 2147483647 = M2
      intro c0 c1
      refine ⟨_, rfl, _, rfl, _, _, rfl, rfl, .inl ⟨by omega, by omega⟩, _, rfl, p, _, rfl, dg_turn hp, _, _, rfl, rfl, .inl ⟨by decide, by decide⟩, _, _, rfl, rfl, _, _, rfl, rfl, .inl ⟨_, rfl, _, _, rfl, rfl, (by show (0 : Int) < 2147483579; decide), ?_⟩⟩
      refine ⟨_, rfl, _, _, rfl, rfl, .inr ⟨by decide, by decide⟩, .inl ⟨_, rfl, _, _, rfl, rfl, (by show (0 : Int) < 2147483629; decide), _, _, rfl, rfl, ⟨by decide, by decide⟩, _, rfl, _, _, rfl, rfl, b0, ?_⟩⟩
      exact k _ _ ⟨s0, p0, l0, [], m, hp, hl, hlen, m0, m1⟩ (Int.emod_nonneg _ (by omega)) (Int.emod_lt_of_pos _ b0)
    · intro hl
      refine iteT ?_
      have hne : n0 :: nr ≠ [] := fun z => by cases z
      have elast : (List.map V.int (n0 :: nr))[(List.map V.int (n0 :: nr)).length - 1]? = some (V.int ((n0 :: nr).getLast hne)) := by
        rw [List.getElem?_map, List.length_map, ← List.getLast?_eq_getElem?, List.getLast?_eq_some_getLast hne]
        rfl
      refine ⟨_, rfl, p, _, rfl, dg_cells hp, .inl ⟨rfl, _, SqL.of hl⟩, l, _, _, rfl, rfl, hl, elast, ?_⟩
      have edrop : (List.map V.int (n0 :: nr)).dropLast = ((n0 :: nr).dropLast).map V.int := by
        rw [List.map_dropLast]
      have hd63 : (n0 :: nr).dropLast.length + 1 ≤ 63 := by
        rw [List.length_dropLast]
        have : 1 ≤ (n0 :: nr).length := by simp
        omega
      rw [edrop]
      generalize (n0 :: nr).getLast hne = c
      have hp1 : (upd H2 l (.lst (((n0 :: nr).dropLast).map V.int))) p = some (.dK (dk l m (t + 1))) := by rw [upd_ne nlp.symm]; exact hp
      have hl1 : (upd H2 l (.lst (((n0 :: nr).dropLast).map V.int))) l = some (.lst (((n0 :: nr).dropLast).map V.int)) := upd_same
      have s1 : Same H0 (upd H2 l (.lst (((n0 :: nr).dropLast).map V.int))) := fun b o e => by
        rw [upd_ne (ne_of_none e l0)]
        exact s0 b o e
      clear hp hl s0 hq
      revert hp1 hl1 s1 hd63
      generalize upd H2 l (.lst (((n0 :: nr).dropLast).map V.int)) = H3
      generalize (n0 :: nr).dropLast = ns
      intro hlen hp hl s0
      refine ⟨_, rfl, _, _, rfl, rfl, ⟨by decide, by decide, by decide⟩, _, _, rfl, rfl, _, rfl, ?_⟩
      refine ite2 (fun _ => ?_) (fun _ => ?_)
      · refine ⟨_, rfl, p, _, rfl, dg_cells hp, .inl ⟨rfl, _, SqL.of hl⟩, _, rfl, _, rfl, _, _, rfl, rfl, ⟨b0, by omega⟩, l, _, _, rfl, rfl, hl, ?_, ?_⟩
        · rw [List.length_map]
          exact Nat.lt_of_le_of_lt (Nat.le_of_succ_le hlen) (by decide)
        · refine ⟨_, rfl, .inl ⟨_, rfl, _, rfl, _, _, rfl, rfl, b0, ?_⟩⟩
          refine k _ _ ⟨fun b o e => ?_, p0, l0, ns ++ [c / b], m, ?_, ?_, ?_, m0, m1⟩ (Int.emod_nonneg _ (by omega)) (Int.emod_lt_of_pos _ b0)
          · rw [upd_ne (ne_of_none e l0)]
            exact s0 b o e
          · rw [upd_ne nlp.symm]
            exact hp
          · rw [upd_same, List.map_append]
            rfl
          · rw [List.length_append]
            exact hlen
      · refine ⟨_, rfl, _, rfl, .inl ⟨_, rfl, _, _, rfl, rfl, (by show (0 : Int) < 2147483563; decide), _, _, rfl, rfl, ?_⟩⟩
        have hlen : ns.length ≤ 63 := by omega
        generalize m + 186307 * (t + 1) * (t + 1) + c % 2147483563 = M
        refine ⟨_, rfl, _, _, rfl, rfl, (by show (0 : Int) < 2147483549; decide), _, _, rfl, rfl, .inr ⟨by decide, by decide⟩, _, rfl, p, _, rfl, dg_turn hp, _, _, rfl, rfl, .inl ⟨_, rfl, _, _, rfl, rfl, (by show (0 : Int) < 2147483647; decide), ?_⟩⟩
        have c0 := Int.emod_nonneg (M % 2147483549 * 40692 + (t + 1)) (b := 2147483647) (by decide)
        have c1 := Int.emod_lt_of_pos (M % 2147483549 * 40692 + (t + 1)) (b := 2147483647) (by decide)
        revert c0 c1
        generalize (M % 2147483549 * 40692 + (t + 1)) % 2147483647 = M2
        intro c0 c1
        refine ⟨_, rfl, _, rfl, _, _, rfl, rfl, .inl ⟨by omega, by omega⟩, _, rfl, p, _, rfl, dg_turn hp, _, _, rfl, rfl, .inl ⟨by decide, by decide⟩, _, _, rfl, rfl, _, _, rfl, rfl, .inl ⟨_, rfl, _, _, rfl, rfl, (by show (0 : Int) < 2147483579; decide), ?_⟩⟩
        refine ⟨_, rfl, _, _, rfl, rfl, .inr ⟨by decide, by decide⟩, .inl ⟨_, rfl, _, _, rfl, rfl, (by show (0 : Int) < 2147483629; decide), _, _, rfl, rfl, ⟨by decide, by decide⟩, _, rfl, _, _, rfl, rfl, b0, ?_⟩⟩
        exact k _ _ ⟨s0, p0, l0, ns, m, hp, hl, hlen, m0, m1⟩ (Int.emod_nonneg _ (by omega)) (Int.emod_lt_of_pos _ b0)
theorem ok_draw {f : Addr} {fd : FuncData} (F : Fun K "_law_draw" "_law_draw" lDraw f fd) (T : TxtD mg) : FnOk P w K mg base CX0 1 f fd ["_law_deck_here", "_law_below"] spDraw :=
  (ok_drawS F T).imp fun _ _ _ _ => draw_go
end
end KL
set_option Elab.async false
set_option linter.all false
set_option maxRecDepth 100000
set_option maxHeartbeats 4000000
namespace KL
open PySem L2 PySem.Spec PyProof.Rows
/-- once: the tuple itself -/
theorem tuple_once (l : Addr) (its : Array Value) (n : Nat) (dd : Option Addr) (sl : Array (Option Value)) (x : Int) (u : Tok) (c0 : (decide (x < -(2 ^ 63)) || decide (x ≥ 2 ^ 63)) = false) (c1 : (its.isEmpty || x == 1) = true) :
    Meets (Builtin.«tuple.__mul__» ⟨[.ref l, .int x u], []⟩) (fun _ R s => s.heap.get? l = some ⟨.type "tuple", dd, .seq its n, sl⟩ ∧ R (.ok (.ret (.ref l))) s) :=
  .of_wp fun prog w A R s hh => by
    obtain ⟨hp, g, d, tk, os⟩ := s
    obtain ⟨hl, hh⟩ := hh
    have f1 := AutoSeq1.idx_int
    wp_walk using wpAny_loadPart' hl
    repeat (first
      | (refine wpAny_ite_false (decide_eq_false (by rw [c0]; exact Bool.false_ne_true)) ?_; wp_walk using wpAny_loadPart' hl)
      | (refine wpAny_ite_true (decide_eq_true c1) ?_; wp_walk using wpAny_loadPart' hl))
    exact ⟨_, rfl, hh⟩
def rRepU (K : PySem.W.Frag) : R2 := fun x y H Q => ∃ l k xs, x = .ref l ∧ y = .int k ∧ SqT K H l xs ∧ xs ≠ [] ∧ 1 ≤ k ∧ k ≤ 1000 ∧ xs.length ≤ 1000 ∧ (k = 1 → Q (.ref l) H) ∧ (k ≠ 1 → ∀ p, H p = none → Q (.ref p) (upd H p (.tup (List.replicate k.toNat xs).flatten)))
theorem op_repU {X : Cx} : OpR X (binaryOp .Mult) (rRepU X.K) := by
  intro pins s σ H x y v u Q I rx ry h
  obtain ⟨l, k, xs, rfl, rfl, hT, hne, h1, h2, hz, q1, q2⟩ := h
  by_cases e : k = 1
  · subst e
    cases rx
    obtain ⟨t, rfl⟩ := ry
    obtain ⟨its, r, ⟨⟨cls, dd, data, sl⟩, ho, hc, n, hd⟩, hs⟩ := I.tuple hT
    simp only at hc hd
    subst hc hd
    refine wpAny_binaryOp_repeat_ref (T := "tuple") (U := "int") (by decide) ⟨_, ho, rfl⟩ (fun s' => typeIs_int s' 1 t) noFill_tuple_mul F.fills_int_mul F.slot_int_rmul repeat_tuple F.slot_int_index.lookup ?_
    refine call_meets F.slot_int_rmul (typeIs_int s 1 t) F.entry_int_rmul (F.args_int_rmul_2 _ _) (int_rmul_tuple 1 t l its.toArray n dd sl) ⟨ho, rfl, ⟨_, ho, rfl⟩, ?_⟩
    refine call_meets F.slot_tuple_mul ⟨_, ho, rfl⟩ F.entry_tuple_mul (F.args_tuple_mul_2 _ _) (tuple_once l its.toArray n dd sl 1 t (by decide) (by simp)) ⟨ho, ?_⟩
    exact ⟨.ref l, H, I, rfl, q1 rfl⟩
  · exact op_repT pins s σ H _ _ v u Q I rx ry ⟨l, k, xs, rfl, rfl, hT, hne, by omega, h2, hz, q2 e⟩
end KL
set_option Elab.async false
set_option linter.all false
set_option maxRecDepth 100000
set_option maxHeartbeats 4000000
namespace KL
open PySem L2
/-- an object of one's own, that changes -/
structure Own (p l a : Addr) (Hb H0 H : Hp) (o : HO) : Prop where
  b : Hb a = none
  ap : a ≠ p
  al : a ≠ l
  n : H0 a = none
  h : H a = some o
section
variable {p l a b : Addr} {Hs Hb H0 H H1 H' : Hp} {t t' t'' n c : Int} {o o' ob : HO}
theorem Own.start (g : Go p l Hs Hb t H0 H t' n) (na : H a = none) : Own p l a Hb H0 (upd H a o) o := by
  obtain ⟨ap, al⟩ := g.d.notP na
  refine ⟨?_, ap, al, g.d.s.free na, upd_same⟩
  cases z : Hb a with
  | none => rfl
  | some u =>
    have := g.f _ _ ap al z
    rw [na] at this
    cases this
theorem Own.go (w : Own p l a Hb H0 H o) (g : Go p l H0 H t H1 H' t' c) : Own p l a Hb H1 H' o :=
  ⟨w.b, w.ap, w.al, g.o _ w.n (by rw [w.h]; simp), g.f _ _ w.ap w.al w.h⟩
theorem Own.upd (w : Own p l a Hb H0 H o) (ne : a ≠ b) : Own p l a Hb H0 (upd H b o') o :=
  ⟨w.b, w.ap, w.al, w.n, by rw [upd_ne ne]; exact w.h⟩
theorem Own.ne (w : Own p l a Hb H0 H o) (nb : H b = none) : a ≠ b := fun z => by
  subst z
  rw [w.h] at nb
  cases nb
theorem Own.put (w : Own p l a Hb H0 H o) (nb : H b = none) : Own p l a Hb H0 (L2.upd H b o') o := w.upd (w.ne nb)
theorem Own.new (w : Own p l a Hb H0 H o) (nb : H b = none) : Own p l a Hb (L2.upd H0 b ob) (L2.upd H b ob) o :=
  ⟨w.b, w.ap, w.al, by rw [upd_ne (w.ne nb)]; exact w.n, by rw [upd_ne (w.ne nb)]; exact w.h⟩
theorem Own.set (w : Own p l a Hb H0 H o) : Own p l a Hb H0 (L2.upd H a o') o' := ⟨w.b, w.ap, w.al, w.n, upd_same⟩
theorem Own.freeze (w : Own p l a Hb H0 H o) (ne : a ≠ b) : Own p l a Hb (L2.upd H0 b ob) H o := ⟨w.b, w.ap, w.al, by rw [upd_ne ne]; exact w.n, w.h⟩
theorem Go.setO (g : Go p l Hs Hb t H0 H t' n) (w : Own p l a Hb H0 H o) : Go p l Hs Hb t H0 (L2.upd H a o') t' n := g.put w.b w.ap w.al w.n
theorem Go.keepO (g : Go p l Hs Hb t H0 H t' n) (w : Own p l a Hb H0 H o) : Go p l Hs Hb t (L2.upd H0 a o) H t' n := g.keep w.b w.ap w.al w.h w.n
end
/-- a list that is being made, behind i turns of at most c draws -/
def Making (p l D : Addr) (Hs Hb : Hp) (t c : Int) (P : Nat → List PyData → Prop) (i : Nat) (H : Hp) : Prop :=
  ∃ H0 t' ys ds, Go p l Hs Hb t H0 H t' ((i : Int) * c) ∧ Own p l D Hb H0 H (.lst ys) ∧ DqAll H0 ys ds ∧ P i ds
theorem dq_len {H : Hp} {ys : List V} {ds : List PyData} (q : DqAll H ys ds) : ys.length = ds.length := q.len
section
variable {p l D : Addr} {Hs Hb H0 H H1 H' : Hp} {t t' t'' n c : Int} {P : Nat → List PyData → Prop} {i : Nat} {ys : List V} {ds : List PyData}
theorem Making.start (dk : DeckAt Hs Hb p l t) (nD : Hb D = none) (h : P 0 []) : Making p l D Hs Hb t c P 0 (upd Hb D (.lst [])) :=
  ⟨Hs, t, [], [], ((Go.refl dk).put0 nD).more (by omega), Own.start (Go.refl dk) nD, .nil, h⟩
theorem Making.turn (g : Go p l Hs Hb t H0 H t' ((i : Int) * c)) (w : Own p l D Hb H0 H (.lst ys)) (q : DqAll H0 ys ds) (g2 : Go p l H0 H t' H1 H' t'' c) {v : V} {d : PyData} (hd : Dq H1 v d) (hn : ds.length < 1000) (hp : P (i + 1) (ds ++ [d])) :
    ∃ acc, H' D = some (.lst acc) ∧ acc.length < sizeLine ∧ Making p l D Hs Hb t c P (i + 1) (upd H' D (.lst (acc ++ [v]))) := by
  have w2 := w.go g2
  refine ⟨ys, w2.h, by rw [dq_len q, sizeLine_eq]; omega, H1, t'', ys ++ [v], ds ++ [d], ?_, w2.set, (DqAll.same g2.s _ _ q).snoc hd, hp⟩
  refine ((g.trans g2).more ?_).setO w2
  rw [Int.natCast_add, Int.add_mul]
  omega
theorem Making.skip (g : Go p l Hs Hb t H0 H t' ((i : Int) * c)) (w : Own p l D Hb H0 H (.lst ys)) (q : DqAll H0 ys ds) (g2 : Go p l H0 H t' H1 H' t'' c) (hp : P (i + 1) ds) : Making p l D Hs Hb t c P (i + 1) H' := by
  refine ⟨H1, t'', ys, ds, (g.trans g2).more ?_, w.go g2, DqAll.same g2.s _ _ q, hp⟩
  rw [Int.natCast_add, Int.add_mul]
  omega
theorem dq_new {H : Hp} {q : Addr} {ys : List V} {ds : List PyData} (nq : H q = none) (h : DqAll H ys ds) : Dq (upd H q (.tup ys)) (.ref q) (.tuple ds) := .tup upd_same (DqAll.same (same_new nq) _ _ h)
end
/-- what a def hands back that draws at most n times -/
def Gives (p l : Addr) (H0 H : Hp) (t n : Int) (G : PyData → Prop) (Q : VK) : Prop := ∀ H1 H' t' v d, Go p l H0 H t H1 H' t' n → Dq H1 v d → G d → Q v H'
theorem Gives.of {p l : Addr} {Hs Hb H0 H : Hp} {t t' n m k : Int} {G : PyData → Prop} {Q : VK} (h : Gives p l Hs Hb t k G Q) (g : Go p l Hs Hb t H0 H t' n) (e : n + m ≤ k) : Gives p l H0 H t' m G Q :=
  fun _ _ _ _ _ g2 hd hG => h _ _ _ _ _ ((g.trans g2).more e) hd hG
/-- a form of n registers with small numbers -/
def FormS (n : Int) (d : PyData) : Prop := ∃ ns : List Int, d = .tuple (ns.map .int) ∧ (ns.length : Int) = n + 1 ∧ ∀ i ∈ ns, -10 ≤ i ∧ i ≤ 10
def spPick : Sp := fun vs H Q _ => ∃ (H0 : Hp) (p l : Addr) (t : Int) (a : Addr) (xs : List V), vs = [.ref p, .ref a] ∧ DeckAt H0 H p l t ∧ 0 ≤ t ∧ t < 1048576 ∧ H a = some (.lst xs) ∧ a ≠ p ∧ a ≠ l ∧ 0 < xs.length ∧ xs.length < 1000 ∧ ∀ H' (i : Nat) v, Go p l H0 H t H0 H' (t + 1) 1 → xs[i]? = some v → Q v H'
section
variable {P : Program} {w : World} {K : PySem.W.Frag} {mg : Str → Option Value} {base : Heap}
theorem scPick : FnScope ["_law_deck_here", "_law_some"] ["_law_deck_here", "_law_some"] (defScope lPick) := ⟨rfl, rfl, rfl, by decide +kernel, rfl, by decide +kernel, by decide +kernel⟩
theorem ok_pick {f g : Addr} {fd gd : FuncData} (F : Fun K "_law_pick" "_law_pick" lPick f fd) (T : TxtD mg) (G : FnOk P w K mg base CX0 1 g gd ["_law_deck_here", "_law_below"] spDraw) (c : Cal K mg "_law_draw" g gd ["_law_deck_here", "_law_below"]) :
    FnOk P w K mg base CX0 2 f fd ["_law_deck_here", "_law_some"] spPick := by
  refine F.ok scPick (fun vs H Q E h => ?_) (fun cdv A outer s H vs Q E hr h => ?_)
  · obtain ⟨H0, p, l, t, a, xs, rfl, _⟩ := h
    rfl
  · obtain ⟨H0, p, l, t, a, xs, rfl, D, t0, t1, ha, ap, al, hx0, hx1, k⟩ := h
    refine ⟨_, pss_one (ps_ret (pe_ix ix_list (pv 1) (pe_call G hr rfl c.m c.k c.b .nil pass0 (pa_cons (pv 0) (pa_cons (pe_callB call_len_seq (by rfl) T.len PySem.boot_len (pa_cons (pv 1) pa_nil)) pa_nil))) (fun _ _ => rfl))), ?_⟩
    refine ⟨_, rfl, _, rfl, _, rfl, a, xs, rfl, .inl (SqL.of ha), H0, p, l, t, _, rfl, D, t0, t1, by omega, by omega, fun H' r g r0 rb => ?_⟩
    obtain ⟨j, rfl⟩ := Int.eq_ofNat_of_zero_le r0
    have hj : j < xs.length := by omega
    exact ⟨a, xs, _, xs[j], rfl, rfl, SqL.of (g.f _ _ ap al ha), atI_nat (List.getElem?_eq_getElem hj), k H' j _ g (List.getElem?_eq_getElem hj)⟩
def spUnit : Sp := fun vs H Q _ => ∃ (H0 : Hp) (p l : Addr) (t size kk bs fa : Int), vs = [.int size, .int kk, .int bs, .int fa] ∧ DeckAt H0 H p l t ∧ 1 ≤ size ∧ size ≤ 3 ∧ -10 ≤ bs ∧ bs ≤ 10 ∧ -10 ≤ fa ∧ fa ≤ 10 ∧ Gives p l H0 H t 0 (FormS size) Q
abbrev nUnit : List Str := ["_law_size", "_law_k", "_law_base", "_law_factor", "_law_j"]
theorem scUnit : FnScope nUnit ["_law_size", "_law_k", "_law_base", "_law_factor"] (defScope lUnit) := ⟨rfl, rfl, rfl, by decide +kernel, rfl, by decide +kernel, by decide +kernel⟩
def SmallTo (i : Nat) (ds : List PyData) : Prop := ∃ ns : List Int, ds = ns.map .int ∧ ns.length = i ∧ ∀ j ∈ ns, -10 ≤ j ∧ j ≤ 10
theorem SmallTo.zero : SmallTo 0 [] := ⟨[], rfl, rfl, fun _ h => nomatch h⟩
theorem SmallTo.turn {i : Nat} {ds : List PyData} (h : SmallTo i ds) {j : Int} (h1 : -10 ≤ j) (h2 : j ≤ 10) : SmallTo (i + 1) (ds ++ [.int j]) := by
  obtain ⟨ns, rfl, rfl, q⟩ := h
  refine ⟨ns ++ [j], by simp, by simp, fun x hx => ?_⟩
  rcases List.mem_append.mp hx with z | z
  · exact q x z
  · rw [List.mem_singleton.mp z]
    exact ⟨h1, h2⟩
theorem SmallTo.form {i : Nat} {ds : List PyData} (h : SmallTo i ds) {j n : Int} (h1 : -10 ≤ j) (h2 : j ≤ 10) (hn : (i : Int) = n) : FormS n (.tuple (.int j :: ds)) := by
  obtain ⟨ns, rfl, rfl, q⟩ := h
  refine ⟨j :: ns, rfl, by simp; omega, fun x hx => ?_⟩
  rcases List.mem_cons.mp hx with z | z
  · rw [z]
    exact ⟨h1, h2⟩
  · exact q x z
theorem SmallTo.len {i : Nat} {ds : List PyData} (h : SmallTo i ds) : ds.length = i := by
  obtain ⟨ns, rfl, rfl, q⟩ := h
  simp
structure TxtG (mg : Str → Option Value) : Prop where
  d : TxtD mg
  range : mg "range" = none
  tuple : mg "tuple" = none
theorem ok_unit {f : Addr} {fd : FuncData} (F : Fun K "_law_unit" "_law_unit" lUnit f fd) (T : TxtG mg) : FnOk P w K mg base CX0 1 f fd ["_law_size", "_law_k", "_law_base", "_law_factor"] spUnit := by
  refine F.ok scUnit (fun vs H Q E h => ?_) (fun cdv A outer s H vs Q E hr h => ?_)
  · obtain ⟨H0, p, l, t, size, kk, bs, fa, rfl, _⟩ := h
    rfl
  · obtain ⟨H0, p, l, t, size, kk, bs, fa, rfl, D, s0, s1, b0, b1, f0, f1, k⟩ := h
    refine ⟨_, pss_one (ps_ret (pe_op op_catT (pe_tup (pa_cons (pv 2) pa_nil)) (pe_tupleOf (by rfl) T.tuple (pe_lc (own := [("_law_j", 4)]) (g := gName 4) (tt := tYes) rfl scUnit.nd (pi_range1 (by rfl) T.range (pa_cons (pv 0) pa_nil)) (blkOk_by (N := nUnit) (sc := defScope lUnit) (by decide +kernel)) (fun _ _ _ _ _ => pg_name (i := 4) scUnit.nd rfl (.inl rfl)) (fun _ _ _ _ _ => pts_nil)
      (fun _ _ _ _ _ => pe_op op_mul (pv 3) (pe_callTy call_int1 (by rfl) T.d.int (by decide +kernel) (pa_cons (pe_cmpR op_eq (pv 4) (pv 1) (nomark _)) pa_nil))))))), ?_⟩
    refine ⟨_, rfl, (by show 1 ≤ sizeLine; decide), fun a na => ?_⟩
    have g1 := (Go.refl D).new (o := .tup [V.int bs]) na
    have ha : upd H a (.tup [V.int bs]) a = some (.tup [V.int bs]) := upd_same
    have ha0 : upd H0 a (.tup [V.int bs]) a = some (.tup [V.int bs]) := upd_same
    revert g1 ha ha0
    generalize upd H a (.tup [V.int bs]) = H1
    generalize upd H0 a (.tup [V.int bs]) = H01
    intro g1 ha ha0
    refine ⟨_, rfl, size, rfl, by omega, by omega, fun B nB => ?_⟩
    refine lc_range (fun i H2 => Making p l B H01 H1 t 0 SmallTo i H2) (Making.start g1.d nB SmallTo.zero) ?_ ?_
    · intro i H2 hi M
      obtain ⟨H02, t2, ys, ds, g, w, q, hP⟩ := M
      refine ⟨rfl, _, rfl, _, rfl, _, rfl, rfl, .inr ⟨_, rfl, ?_⟩⟩
      refine ⟨_, _, rfl, rfl, .inl ⟨by omega, by omega⟩, ?_⟩
      have hl := hP.len
      have hs : (i : Int) < size := by omega
      refine Making.turn g w q (Go.refl g.d) (.int _) (by omega) (hP.turn ?_ ?_) <;> (split <;> omega)
    · rintro H2 ⟨H02, t2, ys, ds, g, w, q, hP⟩
      refine .inl ⟨B, ys, rfl, SqL.of w.h, fun e ne => ?_⟩
      have g2 := (g1.trans g).new (o := .tup ys) ne
      have q2 := DqAll.same (same_new (o := .tup ys) (g.d.s.free ne)) _ _ q
      have ha2 := g2.d.s _ _ (same_new (o := .tup ys) (g.d.s.free ne) _ _ (g.s _ _ ha0))
      have he : upd H2 e (.tup ys) e = some (.tup ys) := upd_same
      revert g2 q2 ha2 he
      generalize upd H2 e (.tup ys) = H3
      generalize upd H02 e (.tup ys) = H03
      intro g2 q2 ha2 he
      have hl := hP.len
      have hy := dq_len q
      have h1 : ys ≠ [] := fun z => by
        subst z
        simp at hy
        omega
      refine ⟨a, e, _, ys, rfl, rfl, SqT.of ha2, SqT.of he, (fun z => nomatch z), ?_, fun z => absurd z h1, fun _ r nr => ?_⟩
      · show 1 + ys.length ≤ sizeLine
        rw [sizeLine_eq]
        omega
      · exact k _ _ _ _ _ ((g2.new nr).more (by omega)) (dq_new (g2.d.s.free nr) (.cons (.int bs) q2)) (hP.form b0 b1 (by omega))
end
end KL
set_option Elab.async false
set_option linter.all false
set_option maxRecDepth 100000
set_option maxHeartbeats 4000000
namespace KL
open PySem L2
def spFormG : Sp := fun vs H Q _ => ∃ (H0 : Hp) (p l : Addr) (t size top : Int), vs = [.ref p, .int size, .int top] ∧ DeckAt H0 H p l t ∧ 0 ≤ t ∧ t < 1000000 ∧ 1 ≤ size ∧ size ≤ 3 ∧ 0 ≤ top ∧ top ≤ 3 ∧ Gives p l H0 H t 3 (FormS size) Q
abbrev nForm : List Str := ["_law_deck_here", "_law_size", "_law_top", "_law_way", "_law_k", "_law_sign", "_law_j"]
theorem rep_zero (n : Nat) : (List.replicate n [V.int 0]).flatten = (List.replicate n (0 : Int)).map V.int := by
  induction n with
  | zero => rfl
  | succ n ih => rw [List.replicate_succ, List.flatten_cons, ih, List.replicate_succ]; rfl
theorem dq_ints {H : Hp} : ∀ ns : List Int, DqAll H (ns.map V.int) (ns.map PyData.int)
  | [] => .nil
  | n :: r => .cons (.int n) (dq_ints r)
theorem DeckAt.neF {H0 H : Hp} {p l a : Addr} {t : Int} {o : HO} (D : DeckAt H0 H p l t) (h : H0 a = some o) : a ≠ p ∧ a ≠ l := by
  refine ⟨?_, ?_⟩
  · rintro rfl
    rw [D.p0] at h
    cases h
  · rintro rfl
    rw [D.l0] at h
    cases h
section
variable {P : Program} {w : World} {K : PySem.W.Frag} {mg : Str → Option Value} {base : Heap}
theorem scForm : FnScope nForm ["_law_deck_here", "_law_size", "_law_top"] (defScope lForm) := ⟨rfl, rfl, rfl, by decide +kernel, rfl, by decide +kernel, by decide +kernel⟩
theorem ok_formG {f g : Addr} {fd gd : FuncData} (F : Fun K "_law_form" "_law_form" lForm f fd) (T : TxtG mg) (G : FnOk P w K mg base CX0 1 g gd ["_law_deck_here", "_law_below"] spDraw) (c : Cal K mg "_law_draw" g gd ["_law_deck_here", "_law_below"]) :
    FnOk P w K mg base CX0 2 f fd ["_law_deck_here", "_law_size", "_law_top"] spFormG := by
  refine F.ok scForm (fun vs H Q E h => ?_) (fun cdv A outer s H vs Q E hr h => ?_)
  · obtain ⟨H0, p, l, t, size, top, rfl, _⟩ := h
    rfl
  · obtain ⟨H0, p, l, t, size, top, rfl, D, t0, t1, s0, s1, b0, b1, k⟩ := h
    refine ⟨_, pss_cons (ps_asg (pe_tup (pa_cons (pe_call G hr rfl c.m c.k c.b .nil pass0 (pa_cons (pv 0) (pa_cons pe_int pa_nil))) (pa_cons (pe_call G hr rfl c.m c.k c.b .nil pass0 (pa_cons (pv 0) (pa_cons (pv 1) pa_nil))) pa_nil))) (pg_tup rfl (pgs_cons (pg_name (i := 3) scForm.nd rfl (.inl rfl)) (pgs_cons (pg_name (i := 4) scForm.nd rfl (.inr rfl)) pgs_nil))))
      (pss_cons (ps_if (pt_cmpR op_eq (pv 3) pe_int (nomark _)) (pss_one (ps_ret (pe_op op_catT (pe_tup (pa_cons (pe_call G hr rfl c.m c.k c.b .nil pass0 (pa_cons (pv 0) (pa_cons (pe_op op_add (pv 2) pe_int) pa_nil))) pa_nil)) (pe_op op_repU (pe_tup (pa_cons pe_int pa_nil)) (pv 1))))) pss_nil)
      (pss_cons (ps_set (i := 5) scForm.nd rfl (.inr rfl) (pe_ifExp (pt_cmpR op_lt (pv 3) pe_int (nomark _)) pe_int (pe_un un_neg pe_int)))
      (pss_one (ps_ret (pe_op op_catT (pe_tup (pa_cons (pe_ifExp (pt_cmpR op_lt (pv 3) pe_int (nomark _)) pe_int (pv 2)) pa_nil)) (pe_tupleOf (by rfl) T.tuple (pe_lc (own := [("_law_j", 6)]) (g := gName 6) (tt := tYes) rfl scForm.nd (pi_range1 (by rfl) T.range (pa_cons (pv 1) pa_nil)) (blkOk_by (N := nForm) (sc := defScope lForm) (by decide +kernel)) (fun _ _ _ _ _ => pg_name (i := 6) scForm.nd rfl (.inl rfl)) (fun _ _ _ _ _ => pts_nil)
        (fun _ _ _ _ _ => pe_op op_mul (pv 5) (pe_callTy call_int1 (by rfl) T.d.int (by decide +kernel) (pa_cons (pe_cmpR op_eq (pv 6) (pv 4) (nomark _)) pa_nil)))))))))), ?_⟩
    refine ⟨_, rfl, H0, p, l, t, 4, rfl, D, t0, by omega, by omega, by omega, fun H1 way g1 w0 w1 => ?_⟩
    refine ⟨_, rfl, _, rfl, H0, p, l, t + 1, size, rfl, g1.d, by omega, by omega, by omega, by omega, fun H2 kk g2 k0 k1 => ?_⟩
    refine ⟨(by show 2 ≤ sizeLine; decide), fun tp ntp => ⟨tp, _, rfl, SqT.of upd_same, rfl, _, _, rfl, _, _, rfl, rfl, ?_⟩⟩
    have g12 := (g1.trans g2).put0 (o := .tup [V.int way, V.int kk]) ntp
    revert g12
    generalize upd H2 tp (.tup [V.int way, V.int kk]) = H3
    intro g12
    refine ⟨_, rfl, rfl, _, rfl, ?_⟩
    by_cases e0 : way = 0
    · subst e0
      refine iteYes rfl ?_
      refine ⟨_, rfl, _, rfl, _, _, rfl, rfl, H0, p, l, _, _, rfl, g12.d, by omega, by omega, by omega, by omega, fun H4 r g3 r0 r1 => ?_⟩
      have g123 := g12.trans g3
      refine ⟨(by show 1 ≤ sizeLine; decide), fun a na => ?_⟩
      have g4 := g123.new (o := .tup [V.int r]) na
      have ha : upd H0 a (.tup [V.int r]) a = some (.tup [V.int r]) := upd_same
      revert g4 ha
      generalize upd H4 a (.tup [V.int r]) = H5
      generalize upd H0 a (.tup [V.int r]) = H05
      intro g4 ha
      refine ⟨(by show 1 ≤ sizeLine; decide), fun z nz => ?_⟩
      have g5 := g4.new (o := .tup [V.int 0]) nz
      have hz : upd H05 z (.tup [V.int 0]) z = some (.tup [V.int 0]) := upd_same
      have ha5 := same_new (o := .tup [V.int 0]) (g4.d.s.free nz) _ _ ha
      revert g5 hz ha5
      generalize upd H5 z (.tup [V.int 0]) = H6
      generalize upd H05 z (.tup [V.int 0]) = H06
      intro g5 hz ha5
      have fin : ∀ (H7 H07 : Hp) (y : Addr) (ys : List V) (ds : List PyData), Go p l H0 H t H07 H7 (t + 1 + 1 + 1) (1 + 1 + 1) → H07 y = some (.tup ys) → H07 a = some (.tup [V.int r]) → DqAll H07 ys ds → SmallTo size.toNat ds → ys ≠ [] → rCatT K (V.ref a) (V.ref y) H7 Q := by
        intro H7 H07 y ys ds g7 hy ha7 qd hs hn
        have ly := dq_len qd
        have lz := hs.len
        refine ⟨a, y, _, ys, rfl, rfl, SqT.of (g7.d.s _ _ ha7), SqT.of (g7.d.s _ _ hy), (fun q => nomatch q), ?_, fun q => absurd q hn, fun _ e ne => ?_⟩
        · show 1 + ys.length ≤ sizeLine
          rw [sizeLine_eq]
          omega
        · exact k _ _ _ _ _ ((g7.new ne).more (by omega)) (dq_new (g7.d.s.free ne) (.cons (.int r) qd)) (hs.form (by omega) (by omega) (by omega))
      refine ⟨_, rfl, z, size, _, rfl, rfl, SqT.of (g5.d.s _ _ hz), (fun q => nomatch q), s0, by omega, (by show 1 ≤ 1000; decide), fun e1 => ?_, fun e1 y ny => ?_⟩
      · subst e1
        exact fin _ _ z _ [.int 0] g5 hz ha5 (.cons (.int 0) .nil) ⟨[0], rfl, rfl, by simp⟩ (fun q => nomatch q)
      · rw [rep_zero]
        have g6 := g5.new (o := .tup ((List.replicate size.toNat (0 : Int)).map V.int)) ny
        refine fin _ _ y _ ((List.replicate size.toNat (0 : Int)).map .int) g6 upd_same (same_new (g5.d.s.free ny) _ _ ha5) (dq_ints _) ⟨_, rfl, by simp, ?_⟩ ?_
        · intro j hj
          rw [List.mem_replicate] at hj
          omega
        · intro q
          have := congrArg List.length q
          simp at this
          omega
    · refine iteNo (by simpa using e0) ?_
      by_cases e3 : way < 3
      · refine ⟨_, rfl, _, _, rfl, rfl, _, rfl, iteYes (decide_eq_true e3) ?_⟩
        refine ⟨_, rfl, _, _, rfl, rfl, _, rfl, iteYes (decide_eq_true e3) ?_⟩
        refine ⟨(by show 1 ≤ sizeLine; decide), fun a na => ?_⟩
        have g4 := g12.new (o := .tup [V.int 0]) na
        have ha : upd H0 a (.tup [V.int 0]) a = some (.tup [V.int 0]) := upd_same
        revert g4 ha
        generalize upd H3 a (.tup [V.int 0]) = H4
        generalize upd H0 a (.tup [V.int 0]) = H04
        intro g4 ha
        refine ⟨_, rfl, size, rfl, by omega, by omega, fun B nB => ?_⟩
        refine lc_range (fun i H2 => Making p l B H04 H4 (t + 1 + 1) 0 SmallTo i H2) (Making.start g4.d nB SmallTo.zero) ?_ ?_
        · intro i H2 hi M
          obtain ⟨H02, t2, ys, ds, g, w, q, hP⟩ := M
          refine ⟨rfl, _, rfl, _, rfl, _, rfl, rfl, .inr ⟨_, rfl, ?_⟩⟩
          refine ⟨_, _, rfl, rfl, .inl ⟨by omega, by omega⟩, ?_⟩
          have hl := hP.len
          have hs : (i : Int) < size := by omega
          refine Making.turn g w q (Go.refl g.d) (.int _) (by omega) (hP.turn ?_ ?_) <;> (split <;> omega)
        · rintro H2 ⟨H02, t2, ys, ds, g, w, q, hP⟩
          refine .inl ⟨B, ys, rfl, SqL.of w.h, fun e ne => ?_⟩
          have g2 := (g4.trans g).new (o := .tup ys) ne
          have q2 := DqAll.same (same_new (o := .tup ys) (g.d.s.free ne)) _ _ q
          have ha2 := g2.d.s _ _ (same_new (o := .tup ys) (g.d.s.free ne) _ _ (g.s _ _ ha))
          have he : upd H2 e (.tup ys) e = some (.tup ys) := upd_same
          revert g2 q2 ha2 he
          generalize upd H2 e (.tup ys) = H5
          generalize upd H02 e (.tup ys) = H05
          intro g2 q2 ha2 he
          have hl := hP.len
          have hy := dq_len q
          have h1 : ys ≠ [] := fun z => by
            subst z
            simp at hy
            omega
          refine ⟨a, e, _, ys, rfl, rfl, SqT.of ha2, SqT.of he, (fun z => nomatch z), ?_, fun z => absurd z h1, fun _ r nr => ?_⟩
          · show 1 + ys.length ≤ sizeLine
            rw [sizeLine_eq]
            omega
          · exact k _ _ _ _ _ ((g2.new nr).more (by omega)) (dq_new (g2.d.s.free nr) (.cons (.int 0) q2)) (hP.form (by omega) (by omega) (by omega))
      · refine ⟨_, rfl, _, _, rfl, rfl, _, rfl, iteNo (decide_eq_false e3) ?_⟩
        refine ⟨_, rfl, ?_⟩
        refine ⟨_, rfl, _, _, rfl, rfl, _, rfl, iteNo (decide_eq_false e3) ?_⟩
        refine ⟨_, rfl, ?_⟩
        refine ⟨(by show 1 ≤ sizeLine; decide), fun a na => ?_⟩
        have g4 := g12.new (o := .tup [V.int top]) na
        have ha : upd H0 a (.tup [V.int top]) a = some (.tup [V.int top]) := upd_same
        revert g4 ha
        generalize upd H3 a (.tup [V.int top]) = H4
        generalize upd H0 a (.tup [V.int top]) = H04
        intro g4 ha
        refine ⟨_, rfl, size, rfl, by omega, by omega, fun B nB => ?_⟩
        refine lc_range (fun i H2 => Making p l B H04 H4 (t + 1 + 1) 0 SmallTo i H2) (Making.start g4.d nB SmallTo.zero) ?_ ?_
        · intro i H2 hi M
          obtain ⟨H02, t2, ys, ds, g, w, q, hP⟩ := M
          refine ⟨rfl, _, rfl, _, rfl, _, rfl, rfl, .inr ⟨_, rfl, ?_⟩⟩
          refine ⟨_, _, rfl, rfl, .inl ⟨by omega, by omega⟩, ?_⟩
          have hl := hP.len
          have hs : (i : Int) < size := by omega
          refine Making.turn g w q (Go.refl g.d) (.int _) (by omega) (hP.turn ?_ ?_) <;> (split <;> omega)
        · rintro H2 ⟨H02, t2, ys, ds, g, w, q, hP⟩
          refine .inl ⟨B, ys, rfl, SqL.of w.h, fun e ne => ?_⟩
          have g2 := (g4.trans g).new (o := .tup ys) ne
          have q2 := DqAll.same (same_new (o := .tup ys) (g.d.s.free ne)) _ _ q
          have ha2 := g2.d.s _ _ (same_new (o := .tup ys) (g.d.s.free ne) _ _ (g.s _ _ ha))
          have he : upd H2 e (.tup ys) e = some (.tup ys) := upd_same
          revert g2 q2 ha2 he
          generalize upd H2 e (.tup ys) = H5
          generalize upd H02 e (.tup ys) = H05
          intro g2 q2 ha2 he
          have hl := hP.len
          have hy := dq_len q
          have h1 : ys ≠ [] := fun z => by
            subst z
            simp at hy
            omega
          refine ⟨a, e, _, ys, rfl, rfl, SqT.of ha2, SqT.of he, (fun z => nomatch z), ?_, fun z => absurd z h1, fun _ r nr => ?_⟩
          · show 1 + ys.length ≤ sizeLine
            rw [sizeLine_eq]
            omega
          · exact k _ _ _ _ _ ((g2.new nr).more (by omega)) (dq_new (g2.d.s.free nr) (.cons (.int top) q2)) (hP.form (by omega) (by omega) (by omega))
end
end KL
set_option Elab.async false
set_option linter.all false
set_option maxRecDepth 100000
set_option maxHeartbeats 4000000
namespace KL
open PySem L2
/-- some data, each of a size -/
def Many (n w p W : Nat) (ds : List PyData) : Prop := ds.length ≤ n ∧ ∀ d ∈ ds, Gd w p W d
theorem Many.nil {w p W : Nat} : Many 0 w p W [] := ⟨Nat.le_refl _, fun _ h => nomatch h⟩
theorem Many.snoc {n w p W : Nat} {ds : List PyData} {d : PyData} (h : Many n w p W ds) (g : Gd w p W d) : Many (n + 1) w p W (ds ++ [d]) := by
  refine ⟨by have := h.1; simp; omega, fun x hx => ?_⟩
  rcases List.mem_append.mp hx with z | z
  · exact h.2 x z
  · rw [List.mem_singleton.mp z]
    exact g
theorem Many.more {n m w p W : Nat} {ds : List PyData} (h : Many n w p W ds) (e : n ≤ m) : Many m w p W ds := ⟨Nat.le_trans h.1 e, h.2⟩
theorem Many.cons {n w p W : Nat} {ds : List PyData} {d : PyData} (g : Gd w p W d) (h : Many n w p W ds) : Many (n + 1) w p W (d :: ds) := by
  refine ⟨by have := h.1; simp; omega, fun x hx => ?_⟩
  rcases List.mem_cons.mp hx with rfl | z
  · exact g
  · exact h.2 x z
theorem wdAll_le {n w p W : Nat} : ∀ {ds : List PyData}, Many n w p W ds → wdAll ds ≤ w
  | [], _ => Nat.zero_le _
  | d :: r, h => Nat.max_le.mpr ⟨(h.2 d (.head _)).wd, wdAll_le (n := n) ⟨Nat.le_trans (Nat.le_succ _) h.1, fun x hx => h.2 x (.tail _ hx)⟩⟩
theorem dpAll_le {n w p W : Nat} : ∀ {ds : List PyData}, Many n w p W ds → PyData.depthAll ds ≤ p
  | [], _ => Nat.zero_le _
  | d :: r, h => Nat.max_le.mpr ⟨(h.2 d (.head _)).dp, dpAll_le (n := n) ⟨Nat.le_trans (Nat.le_succ _) h.1, fun x hx => h.2 x (.tail _ hx)⟩⟩
theorem txAll_of {n w p W : Nat} : ∀ {ds : List PyData}, Many n w p W ds → txAll ds = true
  | [], _ => rfl
  | d :: r, h => by
    show (txD d && txAll r) = true
    rw [(h.2 d (.head _)).tx, txAll_of (n := n) ⟨Nat.le_trans (Nat.le_succ _) h.1, fun x hx => h.2 x (.tail _ hx)⟩]
    rfl
theorem wtAll_le {w p W : Nat} : ∀ {ds : List PyData} (n : Nat), Many n w p W ds → wtAll ds ≤ n * (W + 2)
  | [], _, _ => Nat.zero_le _
  | d :: r, 0, h => absurd h.1 (by simp)
  | d :: r, n + 1, h => by
    have h1 := (h.2 d (.head _)).wt
    have h2 := wtAll_le n (ds := r) ⟨by have := h.1; simp at this; exact this, fun x hx => h.2 x (.tail _ hx)⟩
    show wt d + 2 + wtAll r ≤ (n + 1) * (W + 2)
    rw [Nat.succ_mul]
    omega
theorem Many.tup {n w p W : Nat} {ds : List PyData} (h : Many n w p W ds) : Gd (max w n) (p + 1) (n * (W + 2) + 3) (.tuple ds) := by
  refine ⟨?_, Nat.succ_le_succ (dpAll_le h), Nat.add_le_add_right (wtAll_le n h) 3, txAll_of h⟩
  exact Nat.max_le.mpr ⟨Nat.le_trans h.1 (Nat.le_max_right _ _), Nat.le_trans (wdAll_le h) (Nat.le_max_left _ _)⟩
theorem gd_int {i : Int} (h1 : -1000 ≤ i) (h2 : i ≤ 1000) : Gd 20 0 30 (.int i) := by
  have e : i.natAbs.log2 ≤ 10 := by
    have : i.natAbs < 2 ^ 10 := by omega
    by_cases z : i.natAbs = 0
    · rw [z]
      decide
    · exact Nat.le_of_lt ((Nat.log2_lt z).mpr this)
  refine ⟨?_, Nat.zero_le _, ?_, rfl⟩
  · show i.natAbs.log2 ≤ 20
    omega
  · show i.natAbs.log2 + 2 ≤ 30
    omega
theorem gd_str {x : Str} (h : txS x = true) (e : x.length ≤ 2) : Gd 20 0 30 (.str x) := by
  refine ⟨?_, Nat.zero_le _, ?_, h⟩
  · show x.length ≤ 20
    omega
  · show 10 * x.length + 2 ≤ 30
    omega
theorem FormS.gd {n : Int} {d : PyData} (h : FormS n d) (h1 : n ≤ 3) : Gd 20 1 140 d := by
  obtain ⟨ns, rfl, e, q⟩ := h
  have : Many 4 20 0 30 (ns.map .int) := by
    refine ⟨by simp; omega, fun x hx => ?_⟩
    obtain ⟨i, hi, rfl⟩ := List.mem_map.mp hx
    have := q i hi
    exact gd_int (by omega) (by omega)
  exact this.tup.mono (by decide) (by decide) (by decide)
/-- the letters of a house -/
def lets5 : List Str := ["ab", "abc", "kz", "a", "xyz"]
theorem lets_ok {x : Str} (h : x ∈ lets5) : x.cps.size ≤ 3 ∧ ∀ (i : Nat) (c : Nat), x.cps[i]? = some c → c < 128 := by
  have z : (lets5.all fun x => decide (x.cps.size ≤ 3) && x.cps.toList.all fun c => decide (c < 128)) = true := by decide +kernel
  have y := List.all_eq_true.mp z x h
  simp only [Bool.and_eq_true, decide_eq_true_eq] at y
  refine ⟨y.1, fun i c hc => ?_⟩
  have hm : c ∈ x.cps.toList := by
    rw [Array.mem_toList_iff]
    exact Array.mem_of_getElem? hc
  exact of_decide_eq_true (List.all_eq_true.mp y.2 c hm)
theorem gd_sign {x : Str} (h : x ∈ lets5) {i c : Nat} (e : x.cps[i]? = some c) : Gd 20 0 30 (.str ⟨#[c]⟩) := by
  refine gd_str ?_ (by show 1 ≤ 2; decide)
  show ([c].all fun c => decide (c < 128)) = true
  simp [(lets_ok h).2 i c e]
/-! ### the dict of a house -/
def names9 : List Key := [Sum.inr "people", Sum.inr "deeds", Sum.inr "start", Sum.inr "places", Sum.inr "ends", Sum.inr "logs", Sum.inr "arrows", Sum.inr "tests", Sum.inr "looks"]
def wk (vs : List V) : List (Key × V) := names9.zip vs
theorem wk_start (a b v : V) : putK (wk [a, b]) (Sum.inr "start") v = wk [a, b, v] := by rfl
theorem wk_places (a b c v : V) : putK (wk [a, b, c]) (Sum.inr "places") v = wk [a, b, c, v] := by rfl
theorem wk_ends (a b c d v : V) : putK (wk [a, b, c, d]) (Sum.inr "ends") v = wk [a, b, c, d, v] := by rfl
theorem wk_logs (a b c d e v : V) : putK (wk [a, b, c, d, e]) (Sum.inr "logs") v = wk [a, b, c, d, e, v] := by rfl
theorem wk_arrows (a b c d e f v : V) : putK (wk [a, b, c, d, e, f]) (Sum.inr "arrows") v = wk [a, b, c, d, e, f, v] := by rfl
theorem wk_tests (a b c d e f g v : V) : putK (wk [a, b, c, d, e, f, g]) (Sum.inr "tests") v = wk [a, b, c, d, e, f, g, v] := by rfl
theorem wk_looks (a b c d e f g h v : V) : putK (wk [a, b, c, d, e, f, g, h]) (Sum.inr "looks") v = wk [a, b, c, d, e, f, g, h, v] := by rfl
theorem wk_two (a b : V) : mergeK [] [(Sum.inr "people", a), (Sum.inr "deeds", b)] = wk [a, b] := by rfl
theorem wk_getlogs (a b c d e f : V) : valV (wk [a, b, c, d, e, f]) (Sum.inr "logs") = some f := by rfl
end KL
set_option Elab.async false
set_option linter.all false
set_option maxRecDepth 100000
set_option maxHeartbeats 2000000
namespace KL
open PySem L2 PySem.Spec PyProof.Rows
/-! ### sorted(xs) of a list of data that can be compared -/
def pairD (p : V × PyData) : PyData := p.2
def ItemQ (H : Hp) (u : Value) (p : V × PyData) : Prop := RelV p.1 u ∧ Dq H p.1 p.2
theorem each_items {H : Hp} : ∀ {ds : List PyData} {xs : List V} {us : List Value}, DqAll H xs ds → Vals xs us → PySem.W.EachIs (ItemQ H) us (xs.zip ds)
  | [], _, _, h, r => by
    cases h
    cases r
    exact .nil
  | d :: ds, _, _, h, r => by
    cases h with
    | cons h1 h2 =>
      cases r with
      | cons r1 r2 => exact .cons ⟨r1, h1⟩ (each_items h2 r2)
theorem each_reads {X : Cx} {pins : List (Addr × Obj)} {σ : L2.St} {H : Hp} {s : Shared} (I : Inv X pins σ H s) : ∀ {ds : List PyData} {xs : List V} {us : List Value}, DqAll H xs ds → Vals xs us → PyData.canLayAll0 ds = true → PySem.W.EachIs (fun u p => ∃ as, Reads s.heap u (pairD p) as) us (xs.zip ds)
  | [], _, _, h, r, _ => by
    cases h
    cases r
    exact .nil
  | d :: ds, _, _, h, r, l => by
    cases h with
    | cons h1 h2 =>
      cases r with
      | cons r1 r2 =>
        have l' := Bool.and_eq_true_iff.mp (show (d.canLay0 && PyData.canLayAll0 ds) = true from l)
        exact .cons (Dq.reads0 I d _ _ h1 l'.1 r1) (each_reads I h2 r2 l'.2)
theorem vals_of_each {H : Hp} : ∀ {us : List Value} {zs : List (V × PyData)}, PySem.W.EachIs (ItemQ H) us zs → Vals (zs.map (·.1)) us ∧ DqAll H (zs.map (·.1)) (zs.map (·.2))
  | _, _, .nil => ⟨.nil, .nil⟩
  | _, _, .cons h t => by
    obtain ⟨q1, q2⟩ := vals_of_each t
    exact ⟨.cons h.1 q1, .cons h.2 q2⟩
theorem zip_snd : ∀ {ds : List PyData} {xs : List V}, xs.length = ds.length → (xs.zip ds).map (·.2) = ds
  | [], [], _ => rfl
  | d :: ds, x :: xs, h => by
    show d :: (xs.zip ds).map (·.2) = d :: ds
    rw [zip_snd (ds := ds) (xs := xs) (Nat.succ.inj h)]
/-- the order of sorted -/
def sleD : PyData → PyData → Bool := PySem.W.dataLe false id
def rSortedQ (K : PySem.W.Frag) : List V → Hp → VK → Prop := fun vs H Q => ∃ (Hd : Hp) (a : Addr) (xs : List V) (ds : List PyData), vs = [V.ref a] ∧ SqL K H a xs ∧ Same Hd H ∧ DqAll Hd xs ds ∧ PyData.canLayAll0 ds = true ∧ PySem.W.AllAlike ds ∧ PySem.W.Sortable ds ∧ PyData.depthAll ds ≤ 20 ∧
  ∀ (ys : List V) (p : Addr), DqAll Hd ys (ds.mergeSort sleD) → H p = none → Q (.ref p) (upd H p (.lst ys))
theorem depth_mem1 : ∀ {ds : List PyData} {d : PyData}, d ∈ ds → d.depth ≤ PyData.depthAll ds
  | e :: ds, d, h => by
    show d.depth ≤ max e.depth (PyData.depthAll ds)
    rcases List.mem_cons.mp h with rfl | h
    · exact Nat.le_max_left _ _
    · exact Nat.le_trans (depth_mem1 h) (Nat.le_max_right _ _)
theorem sort_snd (zs : List (V × PyData)) : (zs.mergeSort (PySem.W.dataLe false pairD)).map (·.2) = (zs.map (·.2)).mergeSort sleD := by
  rw [List.map_mergeSort]
  intro a _ b _
  rfl
theorem cr_sortedQ {X : Cx} (hu : X.A.units + 64 < cLine) : CallR X (.builtin "sorted") (rSortedQ X.K) := by
  intro pins s σ H vs us Q I r h
  obtain ⟨Hd, a, xs, ds, rfl, hs, S, hd, lay, al, so, dp, q⟩ := h
  obtain ⟨its, rv, hl, hz⟩ := I.list hs
  rw [Vals.ref1 r]
  have len := hd.len
  have e2 := zip_snd len
  have zl : (xs.zip ds).length = ds.length := by rw [List.length_zip, len, Nat.min_self]
  have e3 : (xs.zip ds).map pairD = ds := e2
  refine PySem.W.sorted_data (R := ItemQ Hd) (enc := pairD) (bs := xs.zip ds) hl.isList (each_items hd rv) (each_reads I (DqAll.same S _ _ hd) rv lay) (by rw [e3]; exact al) (by rw [e3]; exact so) (by rw [zl, ← len]; exact hz) (fun b hb => ?_) (fun out lo ho => ?_)
  · have hm : pairD b ∈ ds := by
      rw [← e3]
      exact List.mem_map.mpr ⟨b, hb, rfl⟩
    have := depth_mem1 hm
    omega
  · obtain ⟨q1, q2⟩ := vals_of_each ho
    rw [sort_snd, e2] at q2
    obtain ⟨ep, he'⟩ := PyProof.Rows.sortedAll_at s.heap its out.toArray
    have hlen : (((xs.zip ds).mergeSort (PySem.W.dataLe false pairD)).map (·.1)).length ≤ sizeLine := by
      rw [List.length_map, List.length_mergeSort, zl, ← len]
      exact hz
    exact ⟨.ref _, upd H (s.heap.objs.size + 1) (.lst _), I.laid (t' := s.toks) (fun _ _ => PyProof.Rows.sortedAll_old) (Nat.le_succ _) ⟨hlen, out, ep, q1, he'⟩, rfl, q _ _ q2 (I.hok.fresh (Nat.le_succ _))⟩
end KL
set_option Elab.async false
set_option linter.all false
set_option maxRecDepth 100000
set_option maxHeartbeats 4000000
namespace KL
open PySem L2 PySem.KX PySem.Spec PyProof.Rows
/-! ### a house by its parts -/
theorem asc_cons (a b : PyData) (l : List PyData) : ascD (a :: b :: l) = (ltD a b && ascD (b :: l)) := by
  unfold ascD ascTo
  show ((List.range (l.length + 1)).map _).all id = _
  rw [List.range_succ_eq_map, List.map_cons, List.all_cons, List.map_map]
  rfl
theorem asc_of : ∀ {l : List PyData}, l.Pairwise (fun a b => ltD a b = true) → ascD l = true
  | [], _ => rfl
  | [_], _ => rfl
  | a :: b :: l, h => by
    obtain ⟨h1, h2⟩ := List.pairwise_cons.mp h
    rw [asc_cons, h1 b List.mem_cons_self, asc_of h2]
    rfl
theorem asc_map {α : Type} {f : α → PyData} {r : α → α → Prop} {l : List α} (h : l.Pairwise r) (e : ∀ a b, r a b → ltD (f a) (f b) = true) : ascD (l.map f) = true := asc_of (List.pairwise_map.mpr (h.imp fun {a b} => e a b))
theorem eqv_int (a b : Int) : PyData.eqv (.int a) (.int b) = decide (a = b) := by
  by_cases e : a = b
  · rw [decide_eq_true e, e]
    simp [PyData.eqv]
  · rw [decide_eq_false e]
    simp [PyData.eqv, e]
theorem eqv_str (a b : Str) : PyData.eqv (.str a) (.str b) = decide (a = b) := by
  by_cases e : a = b
  · rw [decide_eq_true e, e]
    simp [PyData.eqv]
  · rw [decide_eq_false e]
    simp [PyData.eqv, e]
def sLt (x y : Str) : Prop := x.cps.toList < y.cps.toList
theorem sLt_ne {x y : Str} (h : sLt x y) : x ≠ y := fun e => by
  subst e
  exact List.lt_irrefl _ h
theorem sLt_trans {x y z : Str} (h : sLt x y) (k : sLt y z) : sLt x z := List.lt_trans h k
theorem str_ext {x y : Str} (h : x.cps.toList = y.cps.toList) : x = y := by
  cases x
  cases y
  congr 1
  exact Array.toList_inj.mp h
theorem sLt_or {x y : Str} (h : ¬ sLt y x) (ne : x ≠ y) : sLt x y := by
  rcases Classical.em (x.cps.toList < y.cps.toList) with z | z
  · exact z
  · exact absurd (str_ext (List.le_antisymm (List.not_lt.mp h) (List.not_lt.mp z))) ne
/-- (place, letter, what is behind) -/
abbrev Row := Int × Str × List PyData
def rowE (r : Row) : PyData := .tuple (.int r.1 :: .str r.2.1 :: r.2.2)
def keyLt (r s : Row) : Prop := r.1 < s.1 ∨ (r.1 = s.1 ∧ sLt r.2.1 s.2.1)
def dE (d : Str × Int) : PyData := .tuple [.str d.1, .int d.2]
theorem row_lt {r s : Row} (h : keyLt r s) : ltD (rowE r) (rowE s) = true := by
  show (if PyData.eqv (.int r.1) (.int s.1) = true then (if PyData.eqv (.str r.2.1) (.str s.2.1) = true then ltAll r.2.2 s.2.2 else decide (r.2.1.cps.toList < s.2.1.cps.toList)) else decide (r.1 < s.1)) = true
  rw [eqv_int, eqv_str]
  rcases h with h | ⟨h, k⟩
  · rw [if_neg (by rw [decide_eq_false (by omega)]; decide)]
    exact decide_eq_true h
  · rw [if_pos (decide_eq_true h), if_neg (by rw [decide_eq_false (sLt_ne k)]; decide)]
    exact decide_eq_true k
theorem key_lt {r s : Row} (h : keyLt r s) : ltD (cut2 (rowE r)) (cut2 (rowE s)) = true := by
  show (if PyData.eqv (.int r.1) (.int s.1) = true then (if PyData.eqv (.str r.2.1) (.str s.2.1) = true then ltAll [] [] else decide (r.2.1.cps.toList < s.2.1.cps.toList)) else decide (r.1 < s.1)) = true
  rw [eqv_int, eqv_str]
  rcases h with h | ⟨h, k⟩
  · rw [if_neg (by rw [decide_eq_false (by omega)]; decide)]
    exact decide_eq_true h
  · rw [if_pos (decide_eq_true h), if_neg (by rw [decide_eq_false (sLt_ne k)]; decide)]
    exact decide_eq_true k
structure HM where
  people : Int
  deeds : List (Str × Int)
  start : List Int
  places : Int
  ends : List Int
  logs : Int
  arrows : List Row
  tests : List Row
  looks : PyData
def HM.kit (m : HM) : Kit := ⟨m.people, m.places, m.logs, m.deeds.map dE, m.start.length⟩
def HM.due (m : HM) : Option PyData := dueD (.int m.people) (.tuple (m.deeds.map dE)) (.tuple (m.start.map .int)) (.int m.places) (.tuple (m.ends.map .int)) (.int m.logs) (.tuple (m.arrows.map rowE)) (.tuple (m.tests.map rowE)) m.looks
def HM.parts (m : HM) : List PyData := [.int m.people, .tuple (m.deeds.map dE), .tuple (m.start.map .int), .int m.places, .tuple (m.ends.map .int), .int m.logs, .tuple (m.arrows.map rowE), .tuple (m.tests.map rowE), m.looks]
structure RightA (m : HM) (r : Row) : Prop where
  s0 : 0 ≤ r.1
  s1 : r.1 < m.places
  l : r.2.1 ∈ m.deeds.map (·.1)
  e : ∃ t fs ms, r.2.2 = [.int t, .tuple fs, .tuple ms] ∧ 0 ≤ t ∧ t < m.places ∧ fs.length = m.start.length ∧ (∀ f ∈ fs, formD m.start.length f = true) ∧ (ms.length : Int) = m.logs ∧ ∀ x ∈ ms, markD x = true
structure RightT (m : HM) (r : Row) : Prop where
  e : ∃ f lo hi, r.2.2 = [f, .int lo, .int hi] ∧ formD m.start.length f = true ∧ lo ≤ hi
  a : ∃ x ∈ m.arrows, x.1 = r.1 ∧ x.2.1 = r.2.1
structure RightH (m : HM) : Prop where
  p1 : 1 ≤ m.people
  p3 : m.people ≤ 3
  d1 : 1 ≤ m.deeds.length
  d5 : m.deeds.length ≤ 5
  da : ∀ d ∈ m.deeds, letS d.1 = true ∧ 0 ≤ d.2 ∧ d.2 < m.people
  ds : m.deeds.Pairwise (fun a b => sLt a.1 b.1)
  n1 : 1 ≤ m.start.length
  n3 : m.start.length ≤ 3
  q1 : 1 ≤ m.places
  q3 : m.places ≤ 3
  ea : ∀ e ∈ m.ends, 0 ≤ e ∧ e < m.places
  es : m.ends.Pairwise (fun a b => a < b)
  g0 : 0 ≤ m.logs
  g2 : m.logs ≤ 2
  aa : ∀ r ∈ m.arrows, RightA m r
  as : m.arrows.Pairwise keyLt
  ta : ∀ r ∈ m.tests, RightT m r
  ts : m.tests.Pairwise keyLt
  lk : looksD m.kit m.looks = true
theorem kit_eq (m : HM) : kitOf (.int m.people) (.tuple (m.deeds.map dE)) (.tuple (m.start.map .int)) (.int m.places) (.int m.logs) = m.kit := by
  show Kit.mk m.people m.places m.logs (m.deeds.map dE) (m.start.map PyData.int).length = _
  rw [List.length_map]
  rfl
theorem bet_int {lo hi i : Int} (h : lo ≤ i) (k : i ≤ hi) : betD lo hi (.int i) = true := by
  show (decide (lo ≤ i) && decide (i ≤ hi)) = true
  rw [decide_eq_true h, decide_eq_true k]
  rfl
theorem bad_no {b : Bool} {x : Str} (h : b = true) : badOf b x = none := by
  unfold badOf
  rw [if_pos h]
theorem letters_map (l : List (Str × Int)) : (l.map dE).map (itemD 0) = l.map fun d => PyData.str d.1 := by
  rw [List.map_map]
  rfl
theorem RightH.src {m : HM} (h : RightH m) {r : Row} (s0 : 0 ≤ r.1) (s1 : r.1 < m.places) (l : r.2.1 ∈ m.deeds.map (·.1)) : srcD m.kit (itemD 0 (rowE r)) (itemD 1 (rowE r)) = true := by
  show (betD 0 (m.places - 1) (.int r.1) && inD ((m.deeds.map dE).map (itemD 0)) (.str r.2.1)) = true
  rw [bet_int s0 (by omega), letters_map, Bool.true_and]
  obtain ⟨d, hd, e⟩ := List.mem_map.mp l
  show ((m.deeds.map fun d => PyData.str d.1).any _) = true
  rw [List.any_map, List.any_eq_true]
  refine ⟨d, hd, ?_⟩
  rw [← e]
  show (d.1 == d.1) = true
  exact beq_self_eq_true _
theorem RightH.arrow {m : HM} (h : RightH m) {r : Row} (hr : RightA m r) : arrowD m.kit (rowE r) = true := by
  obtain ⟨t, fs, ms, e, t0, t1, fl, fa, ml, ma⟩ := hr.e
  have src := h.src hr.s0 hr.s1 hr.l
  obtain ⟨i, x, rest⟩ := r
  have e : rest = [.int t, .tuple fs, .tuple ms] := e
  subst e
  show (true && (srcD m.kit (.int i) (.str x) && (betD 0 (m.places - 1) (.int t) && ((true && fs.all (formD m.start.length)) && (decide (fs.length = m.start.length) && ((decide (m.logs ≤ (ms.length : Int)) && decide ((ms.length : Int) ≤ m.logs)) && ms.all markD)))))) = true
  have src : srcD m.kit (.int i) (.str x) = true := src
  rw [src, bet_int t0 (by omega), List.all_eq_true.mpr fa, decide_eq_true fl, decide_eq_true (by omega), decide_eq_true (by omega), List.all_eq_true.mpr ma]
  rfl
theorem RightH.due {m : HM} (h : RightH m) : m.due = none := by
  have p1 := h.p1
  have p3 := h.p3
  have q1 := h.q1
  have q3 := h.q3
  have g0 := h.g0
  have g2 := h.g2
  have d1 := h.d1
  have d5 := h.d5
  have n1 := h.n1
  have n3 := h.n3
  have deeds : deedsD m.people (.tuple (m.deeds.map dE)) = true := by
    show ((decide ((1 : Int) ≤ ((m.deeds.map dE).length : Int)) && decide (((m.deeds.map dE).length : Int) ≤ 5)) && ((m.deeds.map dE).all (deedD m.people) && ascD ((m.deeds.map dE).map (itemD 0)))) = true
    rw [List.length_map, decide_eq_true (by omega), decide_eq_true (by omega), letters_map, asc_map (f := fun d : Str × Int => PyData.str d.1) h.ds (fun a b z => (show decide (a.1.cps.toList < b.1.cps.toList) = true from decide_eq_true z)), List.all_map]
    have : m.deeds.all (deedD m.people ∘ dE) = true := List.all_eq_true.mpr fun d hd => by
      obtain ⟨h1, h2, h3⟩ := h.da d hd
      show (true && (letS d.1 && betD 0 (m.people - 1) (.int d.2))) = true
      rw [h1, bet_int h2 (by omega)]
      rfl
    rw [this]
    rfl
  have start : startD (.tuple (m.start.map .int)) = true := by
    show ((decide ((1 : Int) ≤ ((m.start.map PyData.int).length : Int)) && decide (((m.start.map PyData.int).length : Int) ≤ 3)) && (m.start.map PyData.int).all intD) = true
    rw [List.length_map, decide_eq_true (by omega), decide_eq_true (by omega), List.all_map]
    have : m.start.all (intD ∘ PyData.int) = true := List.all_eq_true.mpr fun d hd => rfl
    rw [this]
    rfl
  have ends : endsD m.places (.tuple (m.ends.map .int)) = true := by
    show (true && ((m.ends.map PyData.int).all (betD 0 (m.places - 1)) && ascD (m.ends.map PyData.int))) = true
    rw [asc_map (f := PyData.int) h.es (fun a b z => (show decide (a < b) = true from decide_eq_true z)), List.all_map]
    have : m.ends.all (betD 0 (m.places - 1) ∘ PyData.int) = true := List.all_eq_true.mpr fun d hd => by
      obtain ⟨h1, h2⟩ := h.ea d hd
      exact bet_int h1 (by omega)
    rw [this]
    rfl
  have arrows : chkA m.kit (.tuple (m.arrows.map rowE)) = none := by
    show ((m.arrows.map rowE).find? fun x => !arrowD m.kit x).or (badOf (ascD ((m.arrows.map rowE).map cut2)) "arrows") = none
    have z : ((m.arrows.map rowE).find? fun x => !arrowD m.kit x) = none := List.find?_eq_none.mpr fun x hx => by
      obtain ⟨r, hr, rfl⟩ := List.mem_map.mp hx
      rw [h.arrow (h.aa r hr)]
      decide
    rw [z, List.map_map]
    exact bad_no (asc_map h.as fun a b z => key_lt z)
  have tests : chkT m.kit (m.arrows.map rowE) (.tuple (m.tests.map rowE)) = none := by
    show ((m.tests.map rowE).find? fun x => !testT m.kit (m.arrows.map rowE) x).or (badOf (ascD (m.tests.map rowE)) "tests") = none
    have z : ((m.tests.map rowE).find? fun x => !testT m.kit (m.arrows.map rowE) x) = none := List.find?_eq_none.mpr fun x hx => by
      obtain ⟨r, hr, rfl⟩ := List.mem_map.mp hx
      have hT := h.ta r hr
      obtain ⟨f, lo, hi, e, hf, le⟩ := hT.e
      obtain ⟨y, hy, e1, e2⟩ := hT.a
      have hA := h.aa y hy
      have src := h.src (r := r) (by rw [← e1]; exact hA.s0) (by rw [← e1]; exact hA.s1) (by rw [← e2]; exact hA.l)
      have tk : takenD (m.arrows.map rowE) (rowE r) = true := by
        unfold takenD hasK
        rw [List.any_eq_true]
        refine ⟨keyD (rowE y), List.mem_map.mpr ⟨rowE y, List.mem_map.mpr ⟨y, hy, rfl⟩, rfl⟩, ?_⟩
        show decide ([Sum.inl y.1, Sum.inr y.2.1] = ([Sum.inl r.1, Sum.inr r.2.1] : List Key)) = true
        rw [e1, e2]
        exact decide_eq_true rfl
      have tt : testD m.kit (rowE r) = true := by
        obtain ⟨i, x, rest⟩ := r
        have e : rest = [f, .int lo, .int hi] := e
        subst e
        have src : srcD m.kit (.int i) (.str x) = true := src
        show (true && (srcD m.kit (.int i) (.str x) && (formD m.start.length f && (true && (true && decide (lo ≤ hi)))))) = true
        rw [src, hf, decide_eq_true le]
        rfl
      unfold testT
      rw [tt, tk]
      decide
    rw [z]
    exact bad_no (asc_map h.ts fun a b z => row_lt z)
  unfold HM.due dueD
  rw [kit_eq]
  show (badOf (betD 1 3 (.int m.people)) "people").or ((badOf (deedsD m.people (.tuple (m.deeds.map dE))) "deeds").or ((badOf (startD (.tuple (m.start.map .int))) "start").or ((badOf (betD 1 3 (.int m.places)) "places").or ((badOf (endsD m.places (.tuple (m.ends.map .int))) "ends").or ((badOf (betD 0 2 (.int m.logs)) "logs").or
    ((chkA m.kit (.tuple (m.arrows.map rowE))).or ((chkT m.kit (m.arrows.map rowE) (.tuple (m.tests.map rowE))).or (badOf (looksD m.kit m.looks) "looks")))))))) = none
  rw [bad_no (bet_int p1 p3), bad_no deeds, bad_no start, bad_no (bet_int q1 q3), bad_no ends, bad_no (bet_int g0 g2), arrows, tests, bad_no h.lk]
  rfl
end KL
set_option Elab.async false
set_option linter.all false
set_option maxRecDepth 100000
set_option maxHeartbeats 4000000
namespace KL
open PySem L2 PySem.KX PySem.Spec PyProof.Rows
/-! ### barred -/
def signS (x : Str) : Nat := x.cps.getD 0 0
def outB (s : Str) (r : Row) : Bool := !decide (signS r.2.1 ∈ s.cps.toList)
def HM.bar (m : HM) (s : Str) : HM := { m with arrows := m.arrows.filter (outB s), tests := m.tests.filter (outB s) }
theorem RightA.of {m m' : HM} {r : Row} (h : RightA m r) (e1 : m'.places = m.places) (e2 : m'.deeds = m.deeds) (e3 : m'.start = m.start) (e4 : m'.logs = m.logs) : RightA m' r := by
  obtain ⟨h1, h2, h3, h4⟩ := h
  exact ⟨h1, by rw [e1]; exact h2, by rw [e2]; exact h3, by rw [e1, e3, e4]; exact h4⟩
theorem RightH.bar {m : HM} (h : RightH m) (s : Str) : RightH (m.bar s) where
  p1 := h.p1
  p3 := h.p3
  d1 := h.d1
  d5 := h.d5
  da := h.da
  ds := h.ds
  n1 := h.n1
  n3 := h.n3
  q1 := h.q1
  q3 := h.q3
  ea := h.ea
  es := h.es
  g0 := h.g0
  g2 := h.g2
  aa := fun r hr => (h.aa r (List.mem_filter.mp hr).1).of rfl rfl rfl rfl
  as := h.as.filter _
  ta := fun r hr => by
    obtain ⟨hm, hs⟩ := List.mem_filter.mp hr
    obtain ⟨e, x, hx, e1, e2⟩ := h.ta r hm
    refine ⟨e, x, List.mem_filter.mpr ⟨hx, ?_⟩, e1, e2⟩
    unfold outB at hs ⊢
    rw [e2]
    exact hs
  ts := h.ts.filter _
  lk := h.lk
/-! ### sorted -/
theorem sle_total : PySem.W.TotalLe sleD := PySem.W.sortLe_total (listOrd itemOrd) false fun b => PySem.W.keyToks (id b)
def sortR (l : List Row) : List Row := l.mergeSort fun a b => sleD (rowE a) (rowE b)
def sortDs (l : List (Str × Int)) : List (Str × Int) := l.mergeSort fun a b => sleD (dE a) (dE b)
theorem sortR_map (l : List Row) : (sortR l).map rowE = (l.map rowE).mergeSort sleD := List.map_mergeSort fun _ _ _ _ => rfl
theorem sortDs_map (l : List (Str × Int)) : (sortDs l).map dE = (l.map dE).mergeSort sleD := List.map_mergeSort fun _ _ _ _ => rfl
theorem sortR_perm (l : List Row) : (sortR l).Perm l := List.mergeSort_perm l _
theorem sortDs_perm (l : List (Str × Int)) : (sortDs l).Perm l := List.mergeSort_perm l _
theorem sortR_le (l : List Row) : (sortR l).Pairwise fun a b => sleD (rowE a) (rowE b) = true :=
  List.pairwise_mergeSort (le := fun a b => sleD (rowE a) (rowE b)) (fun a b c h k => sle_total.trans _ _ _ h k) (fun a b => by
    rcases sle_total.total (rowE a) (rowE b) with z | z
    · rw [z]; rfl
    · rw [z, Bool.or_true]) l
theorem sortDs_le (l : List (Str × Int)) : (sortDs l).Pairwise fun a b => sleD (dE a) (dE b) = true :=
  List.pairwise_mergeSort (le := fun a b => sleD (dE a) (dE b)) (fun a b c h k => sle_total.trans _ _ _ h k) (fun a b => by
    rcases sle_total.total (dE a) (dE b) with z | z
    · rw [z]; rfl
    · rw [z, Bool.or_true]) l
theorem sle_not (d e : PyData) : sleD d e = !PySem.W.dataLt e d := rfl
theorem row_le {r s : Row} (h : sleD (rowE r) (rowE s) = true) (ne : r.1 ≠ s.1 ∨ r.2.1 ≠ s.2.1) : keyLt r s := by
  rw [sle_not] at h
  have e : PySem.W.dataLt (rowE s) (rowE r) = if PyData.eqv (.int s.1) (.int r.1) = true then (if PyData.eqv (.str s.2.1) (.str r.2.1) = true then lexLt itemOrd (PySem.W.keyToksAll s.2.2) (PySem.W.keyToksAll r.2.2) else PySem.W.dataLt (.str s.2.1) (.str r.2.1)) else PySem.W.dataLt (.int s.1) (.int r.1) := by
    unfold rowE
    rw [PySem.W.dataLt_tuple, PySem.W.dataLt_cons (by simp [PySem.W.alike]), PySem.W.dataLt_cons (by simp [PySem.W.alike])]
  rw [e, eqv_int, eqv_str, PySem.W.dataLt_str, PySem.W.dataLt_int] at h
  by_cases e1 : s.1 = r.1
  · rw [if_pos (decide_eq_true e1)] at h
    have n2 : s.2.1 ≠ r.2.1 := fun z => by
      rcases ne with q | q
      · exact q e1.symm
      · exact q z.symm
    rw [if_neg (by rw [decide_eq_false n2]; decide)] at h
    refine .inr ⟨e1.symm, sLt_or (fun z => ?_) fun z => n2 z.symm⟩
    have z : decide (s.2.1.cps.toList < r.2.1.cps.toList) = true := decide_eq_true z
    rw [z] at h
    cases h
  · rw [if_neg (by rw [decide_eq_false e1]; decide)] at h
    refine .inl ?_
    have : ¬ s.1 < r.1 := fun z => by
      rw [decide_eq_true z] at h
      cases h
    omega
theorem deed_le {r s : Str × Int} (h : sleD (dE r) (dE s) = true) (ne : r.1 ≠ s.1) : sLt r.1 s.1 := by
  rw [sle_not] at h
  have e : PySem.W.dataLt (dE s) (dE r) = if PyData.eqv (.str s.1) (.str r.1) = true then lexLt itemOrd (PySem.W.keyToksAll [.int s.2]) (PySem.W.keyToksAll [.int r.2]) else PySem.W.dataLt (.str s.1) (.str r.1) := by
    unfold dE
    rw [PySem.W.dataLt_tuple, PySem.W.dataLt_cons (by simp [PySem.W.alike])]
  rw [e, eqv_str, PySem.W.dataLt_str, if_neg (by rw [decide_eq_false fun z => ne z.symm]; decide)] at h
  refine sLt_or (fun z => ?_) ne
  have z : decide (s.1.cps.toList < r.1.cps.toList) = true := decide_eq_true z
  rw [z] at h
  cases h
theorem sLt_irrefl {x : Str} : ¬ sLt x x := List.lt_irrefl _
theorem keyLt_ne {r s : Row} (h : keyLt r s) : ¬ (r.1 = s.1 ∧ r.2.1 = s.2.1) := fun ⟨a, b⟩ => by
  rcases h with h | ⟨_, h⟩
  · omega
  · rw [b] at h
    exact sLt_irrefl h
theorem all_pairs {α : Type} {R : α → α → Prop} (sy : ∀ a b, R a b → R b a) (rf : ∀ a, R a a) : ∀ {l : List α}, l.Pairwise R → ∀ a ∈ l, ∀ b ∈ l, R a b
  | [], _, _, h, _, _ => (nomatch h)
  | x :: l, h, a, ha, b, hb => by
    obtain ⟨h1, h2⟩ := List.pairwise_cons.mp h
    rcases List.mem_cons.mp ha with e1 | ha'
    · rcases List.mem_cons.mp hb with e2 | hb'
      · rw [e1, e2]
        exact rf x
      · rw [e1]
        exact h1 b hb'
    · rcases List.mem_cons.mp hb with e2 | hb'
      · rw [e2]
        exact sy _ _ (h1 a ha')
      · exact all_pairs sy rf h2 a ha' b hb'
/-! ### renamed -/
def renR (f : Str → Str) (r : Row) : Row := (r.1, f r.2.1, r.2.2)
def renD (f : Str → Str) (d : Str × Int) : Str × Int := (f d.1, d.2)
def HM.ren (m : HM) (f : Str → Str) : HM := { m with deeds := sortDs (m.deeds.map (renD f)), arrows := sortR (m.arrows.map (renR f)), tests := sortR (m.tests.map (renR f)) }
/-- no two deeds are called alike -/
def Apart (m : HM) (f : Str → Str) : Prop := m.deeds.Pairwise fun a b => f a.1 ≠ f b.1
theorem Apart.inj {m : HM} {f : Str → Str} (h : Apart m f) {x y : Str} (hx : x ∈ m.deeds.map (·.1)) (hy : y ∈ m.deeds.map (·.1)) (e : f x = f y) : x = y := by
  obtain ⟨a, ha, rfl⟩ := List.mem_map.mp hx
  obtain ⟨b, hb, rfl⟩ := List.mem_map.mp hy
  exact all_pairs (R := fun a b : Str × Int => f a.1 = f b.1 → a.1 = b.1) (fun a b h e => (h e.symm).symm) (fun _ _ => rfl) (h.imp fun n e => absurd e n) a ha b hb e
theorem sort_rows {m : HM} {f : Str → Str} (inj : Apart m f) {l : List Row} (hl : ∀ r ∈ l, r.2.1 ∈ m.deeds.map (·.1)) (hs : l.Pairwise keyLt) : (sortR (l.map (renR f))).Pairwise keyLt := by
  have nk : (l.map (renR f)).Pairwise fun a b => a.1 ≠ b.1 ∨ a.2.1 ≠ b.2.1 := List.pairwise_map.mpr (hs.imp_of_mem fun {a b} ha hb h => by
    by_cases e : a.1 = b.1
    · refine .inr fun z => keyLt_ne h ⟨e, inj.inj (hl a ha) (hl b hb) z⟩
    · exact .inl e)
  have nk2 : (sortR (l.map (renR f))).Pairwise fun a b => a.1 ≠ b.1 ∨ a.2.1 ≠ b.2.1 := (sortR_perm _).symm.pairwise nk fun h => h.imp Ne.symm Ne.symm
  exact (sortR_le _).imp₂ (fun a b h k => row_le h k) nk2
theorem ren_mem {f : Str → Str} {l : List Row} {r : Row} (h : r ∈ sortR (l.map (renR f))) : ∃ a ∈ l, renR f a = r := List.mem_map.mp ((sortR_perm _).mem_iff.mp h)
theorem ren_deed {f : Str → Str} {l : List (Str × Int)} {r : Str × Int} (h : r ∈ sortDs (l.map (renD f))) : ∃ a ∈ l, renD f a = r := List.mem_map.mp ((sortDs_perm _).mem_iff.mp h)
theorem ren_letter {m : HM} {f : Str → Str} {x : Str} (h : x ∈ m.deeds.map (·.1)) : f x ∈ (m.ren f).deeds.map (·.1) := by
  obtain ⟨d, hd, rfl⟩ := List.mem_map.mp h
  exact List.mem_map.mpr ⟨renD f d, (sortDs_perm _).mem_iff.mpr (List.mem_map.mpr ⟨d, hd, rfl⟩), rfl⟩
theorem ren_len (m : HM) (f : Str → Str) : (m.ren f).deeds.length = m.deeds.length := by
  show (sortDs (m.deeds.map (renD f))).length = _
  rw [(sortDs_perm _).length_eq, List.length_map]
theorem RightH.ren {m : HM} (h : RightH m) {f : Str → Str} (hl : ∀ d ∈ m.deeds, letS (f d.1) = true) (inj : Apart m f) : RightH (m.ren f) where
  p1 := h.p1
  p3 := h.p3
  d1 := by rw [ren_len]; exact h.d1
  d5 := by rw [ren_len]; exact h.d5
  da := fun d hd => by
    obtain ⟨a, ha, rfl⟩ := ren_deed hd
    exact ⟨hl a ha, (h.da a ha).2⟩
  ds := by
    have nk : (m.deeds.map (renD f)).Pairwise fun a b => a.1 ≠ b.1 := List.pairwise_map.mpr inj
    have nk2 : (sortDs (m.deeds.map (renD f))).Pairwise fun a b => a.1 ≠ b.1 := (sortDs_perm _).symm.pairwise nk fun h => h.symm
    exact (sortDs_le _).imp₂ (fun a b h k => deed_le h k) nk2
  n1 := h.n1
  n3 := h.n3
  q1 := h.q1
  q3 := h.q3
  ea := h.ea
  es := h.es
  g0 := h.g0
  g2 := h.g2
  aa := fun r hr => by
    obtain ⟨a, ha, rfl⟩ := ren_mem hr
    have hA := h.aa a ha
    exact ⟨hA.s0, hA.s1, ren_letter hA.l, hA.e⟩
  as := sort_rows inj (fun r hr => (h.aa r hr).l) h.as
  ta := fun r hr => by
    obtain ⟨a, ha, rfl⟩ := ren_mem hr
    obtain ⟨e, x, hx, e1, e2⟩ := h.ta a ha
    exact ⟨e, renR f x, (sortR_perm _).mem_iff.mpr (List.mem_map.mpr ⟨x, hx, rfl⟩), e1, by show f x.2.1 = f a.2.1; rw [e2]⟩
  ts := sort_rows inj (fun r hr => by
    obtain ⟨e, x, hx, e1, e2⟩ := h.ta r hr
    rw [← e2]
    exact (h.aa x hx).l) h.ts
  lk := h.lk
end KL
set_option Elab.async false
set_option linter.all false
set_option maxRecDepth 100000
set_option maxHeartbeats 4000000
namespace KL
open PySem L2 PySem.Spec PyProof.Rows
/-! ### == and != of an instance with an own __eq__, the other thing anything -/
section
variable {X : Cx} {pins : List (Addr × Obj)} {σ : L2.St} {H : Hp} {s : Shared}
theorem ty_looks {y : V} {u t : Value} (I : Inv X pins σ H s) (ry : RelV y u) (ty : TyOf X.K H y t) : PySem.W.Looks (model X.prog X.w) s.heap (typeOf u) t := by
  have at_ : ∀ {a : Addr} {o : Obj} {T : String}, s.heap.get? a = some o → o.cls = .type T → PySem.W.Looks (model X.prog X.w) s.heap (typeOf (.ref a)) (.type T) := fun ho hc A Q E s' k q => wpAny_typeOf ⟨_, k _ _ ho, hc⟩ q
  cases ty with
  | non => cases ry; exact .of_pure rfl
  | bl b => cases ry; exact .of_pure rfl
  | int i => obtain ⟨tk, rfl⟩ := ry; exact .of_pure rfl
  | str x => obtain ⟨tk, rfl⟩ := ry; exact .of_pure rfl
  | flt x => obtain ⟨tk, rfl⟩ := ry; exact .of_pure rfl
  | lst e =>
    cases ry
    obtain ⟨_, _, n, _, h1⟩ := I.hok _ _ e
    exact at_ h1 rfl
  | frz e =>
    cases ry
    obtain ⟨_, _, _, n, _, h1⟩ := I.hok _ _ e
    exact at_ h1 rfl
  | tup e =>
    cases ry
    obtain ⟨_, _, _, o, h1, h2, _⟩ := I.hok _ _ e
    exact at_ h1 h2
  | dK e =>
    cases ry
    obtain ⟨_, _, vs, _, o, es, ep, h1, h2, _⟩ := I.hok _ _ e
    exact at_ h1 h2.1
  | dT e =>
    cases ry
    obtain ⟨_, _, xs, _, o, es, ep, h1, h2, _⟩ := I.hok _ _ e
    exact at_ h1 h2.1
  | ins e _ _ _ _ _ =>
    cases ry
    obtain ⟨mA, O, _⟩ := ins_get I.hok e
    obtain ⟨od, J, _⟩ := O.look
    exact J.type
/-- none of these types is below a class of the text -/
theorem not_below {K : PySem.W.Frag} {C : Addr} {T : String} (h : T = "NoneType" ∨ T = "bool" ∨ T = "int" ∨ T = "str" ∨ T = "list" ∨ T = "tuple" ∨ T = "dict") : PySem.W.subIn K (.type T) (.ref C) = some false := by
  have go : ∀ {l : List Value}, fastBuiltinMro T = some l → l.contains (Value.ref C) = false → PySem.W.subIn K (.type T) (.ref C) = some false := fun {l} e n => by
    show (fastBuiltinMro T).map (·.contains (.ref C)) = some false
    rw [e, Option.map_some, n]
  rcases h with rfl | rfl | rfl | rfl | rfl | rfl | rfl
  · exact go (l := [.type "NoneType", .type "object"]) (by decide +kernel) (by simp)
  · exact go (l := [.type "bool", .type "int", .type "object"]) (by decide +kernel) (by simp)
  · exact go (l := [.type "int", .type "object"]) (by decide +kernel) (by simp)
  · exact go (l := [.type "str", .type "object"]) (by decide +kernel) (by simp)
  · exact go (l := [.type "list", .type "object"]) (by decide +kernel) (by simp)
  · exact go (l := [.type "tuple", .type "object"]) (by decide +kernel) (by simp)
  · exact go (l := [.type "dict", .type "object"]) (by decide +kernel) (by simp)
/-- the other thing is of such a type, or an instance of the same class -/
def Other (K : PySem.W.Frag) (C : Addr) (H : Hp) (y : V) : Prop := ∃ t, TyOf K H y t ∧ (t = .ref C ∨ ∃ T, t = .type T ∧ (T = "NoneType" ∨ T = "bool" ∨ T = "int" ∨ T = "str" ∨ T = "list" ∨ T = "tuple" ∨ T = "dict"))
theorem not_first {K : PySem.W.Frag} {C : Addr} {t : Value} (h : t = .ref C ∨ ∃ T, t = .type T ∧ (T = "NoneType" ∨ T = "bool" ∨ T = "int" ∨ T = "str" ∨ T = "list" ∨ T = "tuple" ∨ T = "dict")) : PySem.W.notFirst K C t = true := by
  unfold PySem.W.notFirst
  rcases h with rfl | ⟨T, rfl, h⟩
  · simp
  · rw [not_below h]
    simp
variable {CX : CXT} {n : Nat} {C f : Addr} {fd : FuncData} {ps : List Str} {sp : Sp} {E : XK}
theorem own_call (F : FnOk X.prog X.w X.K X.mg X.base CX n f fd ps sp) (hb : L2.Binds X.K fd ps []) (hx : Passes CX X E) {A : Around} (sb : Sub X n A) (I : Inv X pins σ H s) {us : List Value} {vs : List V} {Q : VK} (r : Vals vs us) (h : sp vs H Q E) :
    wpAny (model X.prog X.w) A (call (.ref f) us) (EP X pins σ Q) X.xe s := by
  have e0 : Env0 X.prog X.w X.K X.mg X.base A X.stack s H := by
    have e := I.env0
    exact ⟨by rw [sb.fr]; exact e.frames, e.mod, e.bs, e.bsz, e.funs, e.frf, e.hok, e.bare⟩
  have hl := F.len _ _ _ _ h
  have b := hb s us I.kIn (by rw [List.append_nil, ← hl]; exact r.length.symm)
  rw [List.append_nil] at b
  refine wpAny_call (codeAny_mono (F.run A X.stack s H ⟨us, []⟩ us vs _ E sb.room e0 b r h) fun r s' hq => ?_)
  cases r with
  | error e => exact hx pins σ H s e s' I hq
  | ok fl =>
    cases fl with
    | ret w => exact I.after hq
    | next => exact False.elim hq
    | brk => exact False.elim hq
    | cont => exact False.elim hq
/-- what == and != ask -/
def rOwn (neg : Bool) (K : PySem.W.Frag) (C : Addr) (sp : Sp) (E : XK) : R2 := fun x y H Q => ∃ a dx fs, x = .ref a ∧ H a = some (.ins C dx fs) ∧ Other K C H y ∧ sp [.ref a, y] H (fun v H' => ∃ b, v = .bl b ∧ Q (.bl (if neg = true then !b else b)) H') E
theorem op_eqOwn (F : FnOk X.prog X.w X.K X.mg X.base CX n f fd ps sp) (hs : PySem.W.findIn X.K (.ref C) "__eq__" = some (some (.ref f))) (hf : PySem.W.isFn X.K (.ref f) = true) (hb : L2.Binds X.K fd ps []) (hx : Passes CX X E) (hr : Room n X.A) : OpR X (compareOp .Eq) (rOwn false X.K C sp E) := by
  intro pins s σ H x y v u Q I rx ry h
  obtain ⟨a, dx, fs, rfl, ha, ⟨t, ty, ht⟩, h⟩ := h
  cases rx
  obtain ⟨mA, J, _⟩ := ins_get I.hok ha
  obtain ⟨od, J, _⟩ := J.look
  obtain ⟨m, hF⟩ := I.fr
  show wpAny (model X.prog X.w) X.A (richCompare .Eq (.ref a) u) (EP X pins σ Q) X.xe s
  refine PySem.W.cmp_K (op := .Eq) (tb := t) hr.units0 hF I.ok.mod.kin J (ty_looks I ry ty) (not_first ht) hs hf (wpAny_mono (own_call F hb hx (A := X.A) ⟨hr, rfl⟩ I (us := [.ref a, u]) (vs := [V.ref a, y]) (.cons (show RelV (V.ref a) (Value.ref a) from rfl) (.cons ry .nil)) h) (fun r s' z => ?_) fun _ _ e => e)
  obtain ⟨z, H', I', rz, b, rfl, q⟩ := z
  cases rz
  exact ⟨.bl b, H', I', rfl, q⟩
end
end KL
set_option Elab.async false
set_option linter.all false
set_option maxRecDepth 100000
set_option maxHeartbeats 4000000
namespace KL
open PySem L2 PySem.Spec PyProof.Rows
section
variable {prog : Program} {w : World} {A : Around} {E : Value → Shared → Prop} {s : Shared} {K : PySem.W.Frag} {x C L f : Addr} {h₀ : Heap} {m : Str → Option Value} {ox : Obj} {od : Option Obj} {b tb : Value}
theorem ne_entry (X : K.In s.heap) (I : PySem.W.InstAt s.heap x ox C od) (he : PySem.W.findIn K (.ref C) "__eq__" = some (some (.ref f))) (hf : PySem.W.isFn K (.ref f) = true) (hu : A.units < cLine) {Q : Fin → Shared → Prop}
    (h : wpAny (model prog w) A (call (.ref f) [.ref x, b]) (fun v s' => ∃ c, v = .bool c ∧ Q (.done (.ret (.bool (!c)))) s') E s) :
    wpAny (model prog w) A (Builtin.«object.__ne__» ⟨[.ref x, b], []⟩) Q E s := by
  unfold Builtin.«object.__ne__»
  repeat (first
    | with_reducible refine wpAny_cRoomFor hu ?_
    | (refine wpAny_bind (m := callSpecialIfBound? (.ref x) (Str.ofString "__eq__") [b])
        (PySem.W.ifBound_K X I he hf (wpAny_mono h (fun r s' hr => by
          obtain ⟨c, rfl, hq⟩ := hr
          repeat (first | exact hq | exact wpAny_pure hq | exact wpAny_truthy_bool hq | (refine wpAny_bind (m := truthy (.bool _)) (wpAny_truthy_bool ?_)) | wp_step)) fun _ _ e => e)))
    | wp_step)
theorem ne_bound {args : List Value} {Q : Option Value → Shared → Prop} (X : K.In s.heap) (I : PySem.W.InstAt s.heap x ox C od) (hs : PySem.W.findIn K (.ref C) "__ne__" = some (some (.builtin "object.__ne__")))
    (h : wpAny (model prog w) A (call (.builtin "object.__ne__") (.ref x :: args)) (fun v => Q (some v)) E s) : wpAny (model prog w) A (callSpecialIfBound? (.ref x) "__ne__" args) Q E s := by
  simp only [callSpecialIfBound?, bindSpecialIfBound?]
  refine wpAny_holding (wpAny_bind (wpAny_bind (wpAny_bind (I.type.here ((PySem.W.looks_findIn X hs).here ?_)))))
  refine wpAny_bind (wpAny_askSetting (wpAny_ite ?_))
  have fin : wpAny (model prog w) A (call (.builtin "object.__ne__") ([.ref x] ++ args) >>= fun v => pure (some v)) Q E s := wpAny_bind (wpAny_mono h (fun v s' h' => wpAny_pure h') fun _ _ h' => h')
  split
  · exact wpAny_bind (wpAny_of_eq (F.cmp_object.ne.bind _) (wpAny_pure (by exact fin)))
  · exact wpAny_tryCatch (wpAny_bind (wpAny_of_eq (F.cmp_object.ne.bind _) (wpAny_pure (by exact fin))))
theorem cmp_neK {Q : Value → Shared → Prop} (hu : A.units + 1 < cLine) (F : PyProof.Rows.Fr h₀ L s.heap m) (X₀ : K.In h₀) (I : PySem.W.InstAt s.heap x ox C od) (hb : PySem.W.Looks (model prog w) s.heap (typeOf b) tb) (hn : PySem.W.notFirst K C tb = true)
    (hs : PySem.W.findIn K (.ref C) "__ne__" = some (some (.builtin "object.__ne__"))) (hm : PySem.W.mroIn K C (.type "object") = some true)
    (he : PySem.W.findIn K (.ref C) "__eq__" = some (some (.ref f))) (hf : PySem.W.isFn K (.ref f) = true)
    (h : wpAny (model prog w) A.in1 (call (.ref f) [.ref x, b]) (fun v s' => ∃ c, v = .bool c ∧ Q (.bool (!c)) s') E s) : wpAny (model prog w) A (richCompare .NotEq (.ref x) b) Q E s := by
  have X := X₀.keeps F.keep
  have one : wpAny (model prog w) A (tryCompare (.ref x) "__ne__" b) (fun r s' => ∃ v, r = some v ∧ Q v s') E s := by
    unfold tryCompare
    refine wpAny_bind (ne_bound X I hs (wpAny_call (codeAny_call_builtin PySem.F.cmp_object.ne.plain PySem.F.cmpEntry_ne (PySem.W.check_slot PySem.F.cmpKind_ne PySem.F.cmpSplit_ne (I.type.andThen (PySem.W.looks_mroIn X hm)) (PySem.F.cmpArgs_ne _ _)
      (ne_entry (A := A.in1) X I he hf hu (wpAny_mono h (fun v s' hv => ?_) fun _ _ e => e))))))
    obtain ⟨c, rfl, hq⟩ := hv
    exact ⟨c, rfl, wpAny_pure ⟨_, rfl, hq⟩⟩
  unfold richCompare
  simp only [oneThing_ref]
  refine wpAny_holding (wpAny_bind (wpAny_cRoomFor (Nat.lt_of_succ_lt hu) ?_))
  rw [cmpInfo_NotEq]
  dsimp only
  refine wpAny_bind (I.type.here (wpAny_bind (hb.here ?_)))
  split
  · rename_i q
    have e : PySem.W.subIn K tb (.ref C) = some false := by
      rcases Bool.or_eq_true_iff.mp hn with e | e
      · rw [beq_iff_eq.mp e] at q; simp at q
      · exact beq_iff_eq.mp e
    refine wpAny_bind ((PySem.W.looks_subIn X e).here ?_)
    simp only [Bool.false_eq_true, if_false]
    refine wpAny_bind (wpAny_mono one (fun r s' z => ?_) fun _ _ e => e)
    obtain ⟨v, rfl, hq⟩ := z
    exact wpAny_pure hq
  · refine wpAny_bind (wpAny_pure ?_)
    simp only [Bool.false_eq_true, if_false]
    refine wpAny_bind (wpAny_mono one (fun r s' z => ?_) fun _ _ e => e)
    obtain ⟨v, rfl, hq⟩ := z
    exact wpAny_pure hq
end
section
variable {X : Cx} {pins : List (Addr × Obj)} {σ : L2.St} {H : Hp} {s : Shared} {CX : CXT} {n : Nat} {C f : Addr} {fd : FuncData} {ps : List Str} {sp : Sp} {E : XK}
theorem op_neOwn (F : FnOk X.prog X.w X.K X.mg X.base CX n f fd ps sp) (hs : PySem.W.findIn X.K (.ref C) "__eq__" = some (some (.ref f))) (hf : PySem.W.isFn X.K (.ref f) = true) (hb : L2.Binds X.K fd ps []) (hx : Passes CX X E)
    (hne : PySem.W.findIn X.K (.ref C) "__ne__" = some (some (.builtin "object.__ne__"))) (hm : PySem.W.mroIn X.K C (.type "object") = some true) (hr : Room (n + 1) X.A) : OpR X (compareOp .NotEq) (rOwn true X.K C sp E) := by
  intro pins s σ H x y v u Q I rx ry h
  obtain ⟨a, dx, fs, rfl, ha, ⟨t, ty, ht⟩, h⟩ := h
  cases rx
  obtain ⟨mA, J, _⟩ := ins_get I.hok ha
  obtain ⟨od, J, _⟩ := J.look
  obtain ⟨m, hF⟩ := I.fr
  show wpAny (model X.prog X.w) X.A (richCompare .NotEq (.ref a) u) (EP X pins σ Q) X.xe s
  have hu : X.A.units + 1 < cLine := by
    have := hr.un
    omega
  refine cmp_neK (tb := t) hu hF I.ok.mod.kin J (ty_looks I ry ty) (not_first ht) hne hm hs hf (wpAny_mono (own_call F hb hx (A := X.A.in1) ⟨hr.in1, rfl⟩ I (us := [.ref a, u]) (vs := [V.ref a, y]) (.cons (show RelV (V.ref a) (Value.ref a) from rfl) (.cons ry .nil)) h) (fun r s' z => ?_) fun _ _ e => e)
  obtain ⟨z, H', I', rz, b, rfl, q⟩ := z
  cases rz
  exact ⟨b, rfl, .bl (!b), H', I', rfl, q⟩
end
end KL
set_option Elab.async false
set_option linter.all false
set_option maxRecDepth 100000
set_option maxHeartbeats 4000000
namespace KL
open PySem L2 PySem.KX PySem.Spec PyProof.Rows
/-- what the class is asked -/
structure TxtQ (K : PySem.W.Frag) (C : Addr) : Prop where
  i : C8.InsC K C
  k : ((PySem.W.clsIn K C).isSome && (PySem.W.typeIn K (.ref C) == some (.type "type"))) = true
mutual
theorem dp_laid {K : PySem.W.Frag} {H : Hp} : ∀ (d : PyData) (v : V), d.canLay0 = true → Dq H v d → Dp K H v d
  | .none, _, _, h => by
    cases h
    exact .non
  | .bool _, _, _, h => by
    cases h
    exact .bl _
  | .int _, _, _, h => by
    cases h
    exact .int _
  | .str _, _, _, h => by
    cases h
    exact .str _
  | .list ds, _, z, h => by
    cases h with
    | lst e q => exact .lst (SqL.of e) (dpAll_laid ds _ z q)
  | .tuple ds, _, z, h => by
    cases h with
    | tup e q => exact .tup (SqT.of e) (dpAll_laid ds _ z q)
  | .dict _, _, z, _ => by cases z
theorem dpAll_laid {K : PySem.W.Frag} {H : Hp} : ∀ (ds : List PyData) (vs : List V), PyData.canLayAll0 ds = true → DqAll H vs ds → DpAll K H vs ds
  | [], _, _, h => by
    cases h
    exact .nil
  | d :: ds, _, z, h => by
    have z := Bool.and_eq_true_iff.mp (show (d.canLay0 && PyData.canLayAll0 ds) = true from z)
    cases h with
    | cons q r => exact .cons (dp_laid d _ z.1 q) (dpAll_laid ds _ z.2 r)
end
theorem dp_shaped {K : PySem.W.Frag} {H : Hp} {d : PyData} {v : V} (z : SeqAt.shaped d = true) (h : Dq H v d) : Dp K H v d := dp_laid d v (Bool.and_eq_true_iff.mp z).1 h
theorem ty_data {K : PySem.W.Frag} {H : Hp} {v : V} {d : PyData} (h : Dq H v d) : TyOf K H v (.type (tyName d)) := by
  cases h with
  | non => exact .non
  | bl b => exact .bl b
  | int i => exact .int i
  | str x => exact .str x
  | lst e _ => exact .lst e
  | tup e _ => exact .tup e
  | dct0 e => exact .dK e
  | dct1 e => exact .dK e
theorem ty_names (d : PyData) : tyName d = "NoneType" ∨ tyName d = "bool" ∨ tyName d = "int" ∨ tyName d = "str" ∨ tyName d = "list" ∨ tyName d = "tuple" ∨ tyName d = "dict" := by cases d <;> simp [tyName]
theorem other_data {K : PySem.W.Frag} {C : Addr} {H : Hp} {v : V} {d : PyData} (h : Dq H v d) : Other K C H v := ⟨_, ty_data h, .inr ⟨_, rfl, ty_names d⟩⟩
theorem ty_ins {K : PySem.W.Frag} {C a dx : Addr} {H : Hp} {fs : List (Str × V)} (i : C8.InsC K C) (h : H a = some (.ins C dx fs)) : TyOf K H (.ref a) (.ref C) := .ins h i.cl i.ha i.hn i.htk i.hm
theorem other_ins {K : PySem.W.Frag} {C a dx : Addr} {H : Hp} {fs : List (Str × V)} (i : C8.InsC K C) (h : H a = some (.ins C dx fs)) : Other K C H (.ref a) := ⟨_, ty_ins i h, .inl rfl⟩
theorem kit_other {K : PySem.W.Frag} {C : Addr} (T : TxtQ K C) (d : PyData) : PySem.W.kitOne K (.type (tyName d)) (.ref C) = some false := by
  have h : PySem.W.kitCls K (.type (tyName d)) (.ref C) = some false := by
    show (if _ = true then PySem.W.subIn K (.type (tyName d)) (.ref C) else none) = some false
    rw [if_pos T.k]
    exact not_below (ty_names d)
  unfold PySem.W.kitOne
  rw [if_neg (by simp)]
  exact h
section
variable {X : Cx} {CX : CXT} {n : Nat} {C f : Addr} {fd : FuncData} {ps : List Str} {sp : Sp} {E : XK}
/-- len of an instance with an own __len__ -/
theorem cr_lenOwn (F : FnOk X.prog X.w X.K X.mg X.base CX n f fd ps sp) (hs : PySem.W.findIn X.K (.ref C) "__len__" = some (some (.ref f))) (hf : PySem.W.isFn X.K (.ref f) = true) (hb : L2.Binds X.K fd ps []) (hx : Passes CX X E) (hr : Room (n + 1) X.A) :
    CallR X (.builtin "len") (fun vs H Q => ∃ a dx fs, vs = [V.ref a] ∧ H a = some (.ins C dx fs) ∧ sp [.ref a] H (fun v H' => ∃ m : Int, v = .int m ∧ 0 ≤ m ∧ m < 1000000 ∧ Q (.int m) H') E) := by
  intro pins s σ H xs us Q I r h
  obtain ⟨a, dx, fs, rfl, ha, h⟩ := h
  obtain ⟨u, rfl, ru⟩ := vals1 r
  cases ru
  obtain ⟨mA, J, _⟩ := ins_get I.hok ha
  obtain ⟨od, J, _⟩ := J.look
  obtain ⟨m, hF⟩ := I.fr
  refine PySem.W.len_K hF I.ok.mod.kin J hs hf (wpAny_mono (own_call F hb hx (A := X.A.in1) ⟨hr.in1, rfl⟩ I (us := [.ref a]) (vs := [V.ref a]) (.cons (show RelV (V.ref a) (Value.ref a) from rfl) .nil) h) (fun r s' z => ?_) fun _ _ e => e)
  obtain ⟨z, H', I', rz, k, rfl, h0, h1, q⟩ := z
  obtain ⟨t, rfl⟩ := rz
  exact ⟨⟨h0, by omega⟩, .int k, H', I'.tok _, ⟨_, rfl⟩, q⟩
end
end KL
set_option Elab.async false
set_option linter.all false
set_option maxRecDepth 100000
set_option maxHeartbeats 8000000
namespace KL
open PySem L2 PySem.KX PySem.Spec PyProof.Rows HT
theorem depth_mem : ∀ {ds : List PyData} {d : PyData}, d ∈ ds → d.depth ≤ PyData.depthAll ds
  | x :: ds, d, h => by
    show d.depth ≤ max x.depth (PyData.depthAll ds)
    rcases List.mem_cons.mp h with rfl | h
    · exact Nat.le_max_left _ _
    · exact Nat.le_trans (depth_mem h) (Nat.le_max_right _ _)
theorem rev_bounds (n : Nat) : Builtin.Slice.sliceAdjust none none (-1) (n : Int) = ((n : Int) - 1, -1) := by
  have h : (-1 : Int) < 0 := by decide
  unfold Builtin.Slice.sliceAdjust
  simp only [h, if_true]
theorem rev_count (n : Nat) : Builtin.Slice.slicePlaces ((n : Int) - 1) (-1) (-1) = n := by
  have h : ¬ ((-1 : Int) > 0) := by decide
  unfold Builtin.Slice.slicePlaces
  simp only [h, if_false, Int.neg_neg, Int.ediv_one]
  split <;> omega
theorem rev_pick (xs : Array Value) : ((List.range xs.size).filterMap fun (k : Nat) => xs[((xs.size : Int) - 1 + (k : Int) * (-1)).toNat]?).toArray = xs.toList.reverse.toArray := by
  congr 1
  have e : ∀ (m : Nat), m ≤ xs.size → (List.range m).filterMap (fun (k : Nat) => xs[((xs.size : Int) - 1 + (k : Int) * (-1)).toNat]?) = xs.toList.reverse.take m := by
    intro m
    induction m with
    | zero => intro _; rfl
    | succ m ih =>
      intro hm
      rw [List.range_succ, List.filterMap_append, ih (by omega), List.take_add_one]
      congr 1
      have i1 : ((xs.size : Int) - 1 + ((m : Nat) : Int) * (-1)).toNat = xs.size - 1 - m := by omega
      have i2 : xs.toList.reverse[m]? = xs[xs.size - 1 - m]? := by
        rw [List.getElem?_reverse (by simp; omega)]
        simp
      rw [i2]
      show List.filterMap _ [m] = _
      rw [List.filterMap_cons, i1]
      cases z : xs[xs.size - 1 - m]? <;> rfl
  have := e xs.size (Nat.le_refl _)
  rw [this, List.take_of_length_le (by simp)]
section
variable {prog : Program} {w : World} {A : Around} {E : Value → Shared → Prop} {s : Shared}
theorem tup_rev {t sl : Addr} {items : Array Value} {u : Tok} {Q : Value → Shared → Prop} (ht : IsTup s.heap t items) (hs : s.heap.IsSliceOf sl .none .none (.int (-1) u))
    (h : Q (.ref s.heap.objs.size) { s with heap := s.heap.push { cls := .type "tuple", data := .seq items.toList.reverse.toArray } }) (hz : items.size ≤ sizeLine) : wpAny (model prog w) A (getItem (.ref t) (.ref sl)) Q E s := by
  have ok : sizeOk (.seq items.toList.reverse.toArray) := by
    show items.toList.reverse.toArray.size ≤ sizeLine
    rw [List.size_toArray, List.length_reverse, Array.length_toList]
    exact hz
  obtain ⟨os, h1, h2, h3⟩ := id hs
  have tS : s.TypeIs (.ref sl) "slice" := ⟨os, h1, h2⟩
  unfold getItem
  try with_reducible refine wpAny_holding ?_
  first | refine wpAny_bind (wpAny_pure ?_) | skip
  refine wpAny_bind (wpAny_sequenceKey ht.typeIs (by decide) ?_)
  refine wpAny_bind (wpAny_callSpecial?_slot (name := Str.ofString "__getitem__") ht.typeIs slot_tuple_getitem (wpAny_call_entry slot_tuple_getitem ht.typeIs entry_tuple_getitem ?_ (args_tuple_getitem _ _)))
  refine wpAny_bind (m := Builtin.Tuple.tupleItemsOf (.ref t)) (tupleItemsOf_ ht (wpAny_bind (wpAny_typeOf tS ?_)))
  rw [if_pos (by decide)]
  refine wpAny_bind (m := Builtin.Slice.sliceApplied (.ref sl) (pure (items.size : Int))) ?_
  unfold Builtin.Slice.sliceApplied Builtin.Slice.sliceFields
  refine wpAny_bind (wpAny_bind (wpAny_field h1 h3 (x := Value.none) rfl (wpAny_bind (wpAny_field h1 h3 (x := Value.none) rfl (wpAny_bind (wpAny_field h1 h3 (x := .int (-1) u) rfl (wpAny_pure ?_)))))))
  refine wpAny_bind (slicePart_int ?_)
  show wpAny _ _ (if ((-1 : Int) == 0) = true then _ else _) _ _ s
  rw [if_neg (by decide)]
  refine wpAny_bind (slicePart_none (wpAny_bind (slicePart_none (wpAny_bind (wpAny_pure ?_)))))
  show wpAny _ _ (match Builtin.Slice.sliceAdjust none none (-1) (items.size : Int) with | (a, b) => pure (a, (-1 : Int), Builtin.Slice.slicePlaces a b (-1))) _ _ s
  rw [rev_bounds]
  show wpAny _ _ (pure ((items.size : Int) - 1, (-1 : Int), Builtin.Slice.slicePlaces ((items.size : Int) - 1) (-1) (-1))) _ _ s
  rw [rev_count]
  refine wpAny_pure ?_
  show wpAny _ _ (if (((items.size : Int) - 1 == 0) && ((-1 : Int) == 1) && (items.size == items.size)) = true then _ else _) _ _ s
  rw [if_neg (by simp), rev_pick]
  first
    | exact wpAny_bind (m := Builtin.Tuple.tupleExact _) (wpAny_newObj_type (wpAny_pure ⟨_, rfl, wpAny_pure h⟩) ok)
    | exact wpAny_bind (m := Builtin.Tuple.tupleExact _) (wpAny_newObj_type (wpAny_bind (wpAny_pure (wpAny_pure ⟨_, rfl, wpAny_pure h⟩))) ok)
    | exact wpAny_bind (wpAny_bind (m := Builtin.Tuple.tupleExact _) (wpAny_newObj_type (wpAny_pure (wpAny_pure ⟨_, rfl, wpAny_pure h⟩)) ok))
    | exact wpAny_bind (wpAny_bind (m := Builtin.Tuple.tupleExact _) (wpAny_newObj_type (wpAny_pure ⟨_, rfl, wpAny_pure h⟩) ok))
end
def tRevT (K : PySem.W.Frag) (te : TE) : TE := fun σ H Q => te σ H fun x H1 => ∃ a xs, x = .ref a ∧ SqT K H1 a xs ∧ ∀ p, H1 p = none → Q (.ref p) (upd H1 p (.tup xs.reverse))
section
variable {X : Cx}
theorem pe_revT {e : Expr} {te : TE} {k : Nat} {p1 p2 p3 pos : Pos} (he : PE X e te) : PE X (.Subscript e (.Slice none none (some (.UnaryOp .USub (.Constant (.int 1) k p1) p2)) p3) pos) (tRevT X.K te) := by
  refine ⟨fun pins s σ H Q I h => ?_⟩
  refine Subscript_ (thn (he.run pins s σ H _ I h) fun v s1 ⟨x, H1, I1, r1, a, xs, ex, hx, q⟩ => ?_)
  subst ex
  cases r1
  have st : PO X (some (.UnaryOp .USub (.Constant (.int 1) k p1) p2)) (tPart (tUn (rU fun i => .int (-i)) (tC (.int 1)))) := po_some (pe_un un_neg pe_int)
  refine wpAny_Slice (thn (po_none.run pins s1 σ H1 (fun o H2 => o = none ∧ H2 = H1) I1 ⟨rfl, rfl⟩) fun vl s2 ⟨l, H2, I2, pl, el, e2⟩ => ?_)
  subst el e2
  refine thn (po_none.run pins s2 σ H2 (fun o H3 => o = none ∧ H3 = H2) I2 ⟨rfl, rfl⟩) fun vu s3 ⟨u, H3, I3, pu, eu, e3⟩ => ?_
  subst eu e3
  refine thn (st.run pins s3 σ H3 (fun o H4 => o = some (-1) ∧ H4 = H3) I3 ⟨1, rfl, -1, rfl, rfl, rfl⟩) fun vs s4 ⟨o, H4, I4, ps, eo, e4⟩ => ?_
  subst eo e4
  have I5 : Inv X pins σ H4 { s4 with heap := s4.heap.push ⟨.type "slice", none, .fields #[vl, vu, vs], #[]⟩ } := I4.kept (t' := s4.toks) fun b ob q => Heap.get?_push_of_some _ q
  cases pl
  cases pu
  cases ps with
  | int i tk =>
    obtain ⟨its, r, ht, hz⟩ := I5.tuple hx
    have hl := r.length
    refine tail_any (ops := [.ref a, .ref s4.heap.objs.size]) ht.typeIs (slot_tuple_getitem.lookup) ?_ (by with_unfolding_all rfl)
    refine tup_rev ht (Heap.IsSliceOf.new _ .none .none (.int (-1) tk)) ?_ (by rw [List.size_toArray]; omega)
    refine ⟨.ref _, _, I5.laid (t' := s4.toks) (o := .tup xs.reverse) (fun b ob q => Heap.get?_push_of_some _ q) (Nat.le_refl _) ?_, rfl, q _ (I5.hok.fresh (Nat.le_refl _))⟩
    exact ⟨by rw [List.length_reverse]; exact hz, _, r.reverse, IsTup.new _ _⟩
/-- an int or a bool, and a number -/
def numB : V → Option Int
  | .int i => some i
  | .bl b => some (if b = true then 1 else 0)
  | _ => none
def rNumB (g : Int → Int → Int) : R2 := fun x y H Q => ∃ i j, numB x = some i ∧ y = .int j ∧ Q (.int (g i j)) H
theorem op_addB : OpR X (binaryOp .Add) (rNumB fun i j => i + j) := by
  intro pins s σ H x y v u Q I rx ry h
  obtain ⟨i, j, hx, rfl, q⟩ := h
  cases x with
  | int i' =>
    cases hx
    exact op_add pins s σ H _ _ v u Q I rx ry ⟨_, _, rfl, rfl, q⟩
  | bl b =>
    cases hx
    obtain ⟨t, rfl⟩ := ry
    cases rx
    exact PySem.IntBool.add_bool_int ⟨.int _, H, I.tok _, ⟨_, rfl⟩, q⟩
  | _ => cases hx
theorem op_subB : OpR X (binaryOp .Sub) (rNumB fun i j => i - j) := by
  intro pins s σ H x y v u Q I rx ry h
  obtain ⟨i, j, hx, rfl, q⟩ := h
  cases x with
  | int i' =>
    cases hx
    exact op_sub pins s σ H _ _ v u Q I rx ry ⟨_, _, rfl, rfl, q⟩
  | bl b =>
    cases hx
    obtain ⟨t, rfl⟩ := ry
    cases rx
    exact PySem.IntBool.sub_bool_int ⟨.int _, H, I.tok _, ⟨_, rfl⟩, q⟩
  | _ => cases hx
def rEqB : R2 := fun x y H Q => ∃ i j, numB x = some i ∧ y = .int j ∧ ∀ b, Q (.bl b) H
theorem op_eqB : OpR X (compareOp .Eq) rEqB := by
  intro pins s σ H x y v u Q I rx ry h
  obtain ⟨i, j, hx, rfl, q⟩ := h
  cases x with
  | int i' => exact op_eq pins s σ H _ _ v u Q I rx ry ⟨rfl, q _⟩
  | bl b =>
    obtain ⟨t, rfl⟩ := ry
    cases rx
    exact SeqAt.RcAt.bool_int b j t _ _ _ _ ⟨.bl _, H, I, rfl, q _⟩
  | _ => cases hx
/-- str of an int or a bool -/
def rStrB : List V → Hp → VK → Prop := fun xs H Q => (∃ i, xs = [.int i] ∧ i.natAbs.log2 < 1920 ∧ Q (.str (toString i)) H) ∨ ∃ b, xs = [.bl b] ∧ Q (.str (if b = true then "True" else "False" : String)) H
theorem call_strB : CallR X (.type "str") rStrB := by
  intro pins s σ H xs us Q I r h
  rcases h with ⟨i, rfl, z, q⟩ | ⟨b, rfl, q⟩
  · exact call_str_int pins s σ H _ us Q I r ⟨i, rfl, z, q⟩
  · obtain ⟨u, rfl, e⟩ := vals1 r
    cases (show u = Value.bool b from e)
    refine PySem.P.str_of_bool ⟨.str _, H, I.tok _, ⟨_, rfl⟩, ?_⟩
    cases b <;> exact q
end

theorem cps_of (s : String) : (Str.ofString s).cps.toList = s.toList.map Char.toNat := by
  rw [Str.ofString_eq_toList]
theorem tx_toString (i : Int) : txS (Str.ofString (toString i)) = true := by
  unfold txS
  have dig : ∀ (m : Nat) (c : Nat), c ∈ (toString m : String).toList.map Char.toNat → c < 128 := by
    intro m c hc
    obtain ⟨ch, h1, rfl⟩ := List.mem_map.mp hc
    have h2 : ch ∈ Nat.toDigits 10 m := by simpa [toString, Nat.repr] using h1
    have h3 := Nat.isDigit_of_mem_toDigits (by decide) (by decide) h2
    simp only [Char.isDigit, Bool.and_eq_true, decide_eq_true_eq] at h3
    have := UInt32.le_iff_toNat_le.mp h3.2
    show ch.val.toNat < 128
    have e : ('9' : Char).val.toNat = 57 := by decide
    omega
  rw [List.all_eq_true]
  intro c hc
  rw [cps_of] at hc
  refine decide_eq_true ?_
  cases i with
  | ofNat m => exact dig m c hc
  | negSucc m =>
    have e : (toString (Int.negSucc m) : String) = "-" ++ toString (m + 1) := rfl
    rw [e, String.toList_append, List.map_append, List.mem_append] at hc
    rcases hc with hc | hc
    · have : c = 45 := by simpa using hc
      omega
    · exact dig (m + 1) c hc
theorem len_toString (i : Int) : (Str.ofString (toString i)).length ≤ i.natAbs.log2 + 2 := by
  have e := int_text_length_le (a := i) (k := i.natAbs.log2 + 1) (Nat.succ_pos _) (Nat.lt_succ_self _)
  rw [PySem.ofString_length]
  exact e
theorem log2_succ {a b : Nat} (h : b ≤ a + 1) : b.log2 ≤ a.log2 + 1 := by
  by_cases z : b = 0
  · subst z
    simp
  · have h1 : b < 2 ^ (a.log2 + 2) := by
      have := Nat.lt_log2_self (n := a)
      rw [Nat.pow_succ]
      omega
    have := (Nat.log2_lt z).mpr h1
    omega
/-- what odd values are like, beside a value of a size -/
abbrev Og (w p W : Nat) (d : PyData) : Prop := Gd (2 * w + 200) (p + 2) (2 * W + 10 * w + 400) d
theorem gd_str2 {x : Str} {n : Nat} (h : txS x = true) (e : x.length ≤ n) : Gd n 0 (10 * n + 2) (.str x) :=
  ⟨e, Nat.zero_le _, by show 10 * x.length + 2 ≤ _; omega, h⟩
theorem og_int {w p W : Nat} {i : Int} (h : i.natAbs.log2 ≤ w + 1) : Og w p W (.int i) :=
  ⟨by show i.natAbs.log2 ≤ _; omega, Nat.zero_le _, by show i.natAbs.log2 + 2 ≤ _; omega, rfl⟩
theorem og_bool {w p W : Nat} (b : Bool) : Og w p W (.bool b) := ⟨Nat.zero_le _, Nat.zero_le _, by show 5 ≤ _; omega, rfl⟩
theorem og_str {w p W : Nat} {x : Str} (h : txS x = true) (e : x.length ≤ w + 5) : Og w p W (.str x) := (gd_str2 h e).mono (by omega) (by omega) (by omega)
theorem og_none {w p W : Nat} : Og w p W .none := ⟨Nat.zero_le _, Nat.zero_le _, by show 4 ≤ _; omega, rfl⟩
theorem tx_app {x y : Str} (h : txS x = true) (k : txS y = true) : txS (x ++ y) = true := by
  unfold txS at *
  have e : (x ++ y).cps.toList = x.cps.toList ++ y.cps.toList := by
    show (x.cps ++ y.cps).toList = _
    simp
  rw [e, List.all_append, h, k]
  rfl
theorem DqAll.app {H : Hp} : ∀ {xs ys : List V} {ds es : List PyData}, DqAll H xs ds → DqAll H ys es → DqAll H (xs ++ ys) (ds ++ es)
  | _, _, _, _, .nil, k => k
  | _, _, _, _, .cons h r, k => .cons h (r.app k)
theorem Many.app {n m w p W : Nat} {ds es : List PyData} (h : Many n w p W ds) (k : Many m w p W es) : Many (n + m) w p W (ds ++ es) := by
  refine ⟨by have := h.1; have := k.1; simp; omega, fun x hx => ?_⟩
  rcases List.mem_append.mp hx with z | z
  · exact h.2 x z
  · exact k.2 x z
theorem Many.rev {n w p W : Nat} {ds : List PyData} (h : Many n w p W ds) : Many n w p W ds.reverse := ⟨by simpa using h.1, fun x hx => h.2 x (by simpa using hx)⟩
theorem DqAll.drop {H : Hp} : ∀ {ds : List PyData} {xs : List V} (n : Nat), DqAll H xs ds → DqAll H (xs.drop n) (ds.drop n)
  | _, _, 0, h => h
  | _, _, n + 1, .nil => .nil
  | _, _, n + 1, .cons _ r => r.drop n
theorem DqAll.rev {H : Hp} : ∀ {ds : List PyData} {xs : List V}, DqAll H xs ds → DqAll H xs.reverse ds.reverse
  | _, _, .nil => .nil
  | _, _, .cons h r => by
    rw [List.reverse_cons, List.reverse_cons]
    exact r.rev.snoc h
theorem wtAll_app : ∀ (ds es : List PyData), wtAll (ds ++ es) = wtAll ds + wtAll es
  | [], _ => by simp [wtAll]
  | d :: r, es => by
    show wt d + 2 + wtAll (r ++ es) = wt d + 2 + wtAll r + wtAll es
    rw [wtAll_app r es]
    omega
theorem wdAll_mem {ds : List PyData} {d : PyData} (h : d ∈ ds) : wd d ≤ wdAll ds := by
  induction ds with
  | nil => cases h
  | cons e r ih =>
    rcases List.mem_cons.mp h with rfl | h
    · exact Nat.le_max_left _ _
    · exact Nat.le_trans (ih h) (Nat.le_max_right _ _)
theorem txAll_mem {ds : List PyData} {d : PyData} (t : txAll ds = true) (h : d ∈ ds) : txD d = true := by
  induction ds with
  | nil => cases h
  | cons e r ih =>
    have t' := Bool.and_eq_true_iff.mp (show (txD e && txAll r) = true from t)
    rcases List.mem_cons.mp h with rfl | h
    · exact t'.1
    · exact ih t'.2 h
theorem wdAll_bound {ds : List PyData} {n : Nat} (h : ∀ d ∈ ds, wd d ≤ n) : wdAll ds ≤ n := by
  induction ds with
  | nil => exact Nat.zero_le _
  | cons e r ih => exact Nat.max_le.mpr ⟨h e (.head _), ih fun d hd => h d (.tail _ hd)⟩
theorem dpAll_bound {ds : List PyData} {n : Nat} (h : ∀ d ∈ ds, d.depth ≤ n) : PyData.depthAll ds ≤ n := by
  induction ds with
  | nil => exact Nat.zero_le _
  | cons e r ih => exact Nat.max_le.mpr ⟨h e (.head _), ih fun d hd => h d (.tail _ hd)⟩
theorem txAll_bound {ds : List PyData} (h : ∀ d ∈ ds, txD d = true) : txAll ds = true := by
  induction ds with
  | nil => rfl
  | cons e r ih =>
    show (txD e && txAll r) = true
    rw [h e (.head _), ih fun d hd => h d (.tail _ hd)]
    rfl
theorem wtAll_cut (n : Nat) (ds : List PyData) : wtAll (ds.take n) + wtAll (ds.drop n) = wtAll ds := by
  rw [← wtAll_app, List.take_append_drop]
theorem wtAll_rev : ∀ (ds : List PyData), wtAll ds.reverse = wtAll ds
  | [] => rfl
  | d :: r => by
    rw [List.reverse_cons, wtAll_app, wtAll_rev r]
    show wtAll r + (wt d + 2 + 0) = wt d + 2 + wtAll r
    omega
/-- a tuple or a list of items that stand in another one -/
theorem gd_items {w p W n m : Nat} {ds es : List PyData} (g : Gd w p W (.tuple ds)) (hl : es.length ≤ n) (hm : ∀ d ∈ es, d ∈ ds) (hw : wtAll es ≤ m) :
    Gd (max w n) p (m + 3) (.tuple es) ∧ Gd (max w n) p (m + 3) (.list es) := by
  have g1 : max ds.length (wdAll ds) ≤ w := g.wd
  have g2 : PyData.depthAll ds + 1 ≤ p := g.dp
  have a1 : wdAll es ≤ w := wdAll_bound fun d hd => Nat.le_trans (wdAll_mem (hm d hd)) (by omega)
  have a2 : PyData.depthAll es + 1 ≤ p := by
    have := dpAll_bound (n := PyData.depthAll ds) fun d (hd : d ∈ es) => depth_mem (hm d hd)
    omega
  have a3 : txAll es = true := txAll_bound fun d hd => txAll_mem g.tx (hm d hd)
  refine ⟨⟨?_, a2, ?_, a3⟩, ⟨?_, a2, ?_, a3⟩⟩
  · show max es.length (wdAll es) ≤ _
    omega
  · show wtAll es + 3 ≤ _
    omega
  · show max es.length (wdAll es) ≤ _
    omega
  · show wtAll es + 2 ≤ _
    omega

/-! ### texts cut -/
theorem tx_cut {x : Str} (h : txS x = true) (lo hi : Option Int) : txS (cutS x lo hi) = true ∧ (cutS x lo hi).length ≤ x.length := by
  refine ⟨?_, cutS_length _ _ _⟩
  unfold txS at *
  rw [List.all_eq_true] at *
  intro c hc
  exact h c (List.mem_of_mem_drop (List.mem_of_mem_take (show c ∈ (x.cps.toList.drop (HT.sIx x.length 0 lo)).take (HT.sIx x.length x.length hi - HT.sIx x.length 0 lo) from by simpa [cutS] using hc)))
/-- the values that stand first in the list of odd ones -/
def odd18 : List PyData := [.none, .bool true, .bool false, .int 0, .int (-1), .int 1, .int (10 ^ 39), .str "", .str "a", .str "states", .tuple [], .list [], .dict [], .tuple [.str "a"], .tuple [.str ""], .tuple [.int 0], .tuple [.tuple []], .tuple [.str "a", .int 0]]
theorem odd18_ok {w p W : Nat} : Many 18 (2 * w + 200) (p + 2) (2 * W + 10 * w + 400) odd18 := by
  refine ⟨by decide, fun d hd => ?_⟩
  have z : (odd18.all fun d => decide (wd d ≤ 200) && decide (d.depth ≤ 2) && decide (wt d ≤ 400) && txD d) = true := by decide +kernel
  have y := List.all_eq_true.mp z d hd
  simp only [Bool.and_eq_true, decide_eq_true_eq] at y
  exact ⟨by omega, by omega, by omega, y.2⟩
theorem odd18_few : ∀ d ∈ odd18, (itemsD d).length ≤ 3 := by decide +kernel
end KL
set_option Elab.async false
set_option linter.all false
set_option maxRecDepth 100000
set_option maxHeartbeats 4000000
namespace KL
open PySem L2
/-! ### values that are made beside a deck: what is made is new, and stays -/
theorem slA_go {K : PySem.W.Frag} {p l a : Addr} {H0 H : Hp} {t : Int} {ys : List V} {ds : List PyData} {lo hi : Option Int} {R : VK} (D : DeckAt H0 H p l t) (ha : H0 a = some (.tup ys)) (hq : DqAll H0 ys ds)
    (h : ∀ H0' H' v' xs' a', Go p l H0 H t H0' H' t 0 → v' = .ref a' → H0' a' = some (.tup xs') → DqAll H0' xs' ((ds.drop (HT.sIx ds.length 0 lo)).take (HT.sIx ds.length ds.length hi - HT.sIx ds.length 0 lo)) → R v' H') : rSlA K (.ref a) lo hi H R := by
  have e := dq_len hq
  have q : DqAll H0 ((ys.drop (HT.sIx ds.length 0 lo)).take (HT.sIx ds.length ds.length hi - HT.sIx ds.length 0 lo)) ((ds.drop (HT.sIx ds.length 0 lo)).take (HT.sIx ds.length ds.length hi - HT.sIx ds.length 0 lo)) := (hq.drop _).take _
  refine ⟨a, ys, rfl, SqT.of (D.s _ _ ha), fun z => ?_, fun _ r nr => ?_⟩
  · rw [e] at z
    rw [z.1, z.2, Nat.sub_zero, List.drop_zero, List.drop_zero, ← e, List.take_of_length_le (Nat.le_refl _), e, List.take_of_length_le (Nat.le_refl _)] at q
    refine h H0 H _ ys a (Go.refl D) rfl ha ?_
    rw [z.1, z.2, Nat.sub_zero, List.drop_zero, List.take_of_length_le (Nat.le_refl _)]
    exact q
  · refine h _ _ _ _ r ((Go.refl D).new nr) rfl upd_same ?_
    rw [← e] at q ⊢
    rw [e]
    rw [e] at q
    have q2 := DqAll.same (same_new (o := .tup (cutV ys lo hi)) (D.s.free nr)) _ _ q
    unfold cutV at q2 ⊢
    rw [e] at q2 ⊢
    exact q2
theorem catA_go {K : PySem.W.Frag} {p l a b : Addr} {H0 H : Hp} {t : Int} {xs ys : List V} {ds es : List PyData} {R : VK} (D : DeckAt H0 H p l t) (ha : H0 a = some (.tup xs)) (hb : H0 b = some (.tup ys)) (qa : DqAll H0 xs ds) (qb : DqAll H0 ys es) (hz : xs.length + ys.length ≤ sizeLine)
    (h : ∀ H0' H' v', Go p l H0 H t H0' H' t 0 → Dq H0' v' (.tuple (ds ++ es)) → R v' H') : rCatA K (.ref a) (.ref b) H R := by
  refine ⟨a, b, xs, ys, rfl, rfl, SqT.of (D.s _ _ ha), SqT.of (D.s _ _ hb), hz, fun z => ?_, fun _ z => ?_, fun _ _ r nr => ?_⟩
  · subst z
    cases qa
    exact h _ _ _ (Go.refl D) (.tup hb qb)
  · subst z
    cases qb
    rw [List.append_nil] at h
    exact h _ _ _ (Go.refl D) (.tup ha qa)
  · exact h _ _ _ ((Go.refl D).new nr) (dq_new (D.s.free nr) (qa.app qb))
section
variable {K : PySem.W.Frag} {p l : Addr} {B : Hp} {σ : L2.St}
def LitG (p l : Addr) (B : Hp) (σ : L2.St) (te : TE) (d : PyData) : Prop := ∀ (H0 H : Hp) (t : Int) (Q : VK), DeckAt H0 H p l t → Same B H0 → (∀ H0' H' v, Go p l H0 H t H0' H' t 0 → Dq H0' v d → Q v H') → te σ H Q
def LitsG (p l : Addr) (B : Hp) (σ : L2.St) (ta : TA) (ds : List PyData) : Prop := ∀ (H0 H : Hp) (t : Int) (Q : List V → Hp → Prop), DeckAt H0 H p l t → Same B H0 → (∀ H0' H' vs, Go p l H0 H t H0' H' t 0 → DqAll H0' vs ds → Q vs H') → ta σ H Q
def PartG (σ : L2.St) (tp : TO) (o : Option Int) : Prop := ∀ (H : Hp) (Q : Option Int → Hp → Prop), Q o H → tp σ H Q
theorem litg_int {i : Int} : LitG p l B σ (tC (.int i)) (.int i) := fun _ _ _ _ D _ k => k _ _ _ (Go.refl D) (.int i)
theorem litg_str {x : Str} : LitG p l B σ (tC (.str x)) (.str x) := fun _ _ _ _ D _ k => k _ _ _ (Go.refl D) (.str x)
theorem litg_bl {b : Bool} : LitG p l B σ (tC (.bl b)) (.bool b) := fun _ _ _ _ D _ k => k _ _ _ (Go.refl D) (.bl b)
theorem litg_non : LitG p l B σ (tC .non) .none := fun _ _ _ _ D _ k => k _ _ _ (Go.refl D) .non
theorem litg_neg {i : Int} : LitG p l B σ (tUn (rU fun i => .int (-i)) (tC (.int i))) (.int (-i)) := fun _ _ _ _ D _ k => ⟨i, rfl, k _ _ _ (Go.refl D) (.int _)⟩
theorem litg_op2 {r : R2} {x y z : V} {d : PyData} (hr : ∀ H (Q : VK), Q z H → r x y H Q) (hz : ∀ H, Dq H z d) : LitG p l B σ (tOp r (tC x) (tC y)) d := fun _ H _ Q D _ k => hr H Q (k _ H z (Go.refl D) (hz _))
theorem litg_opV {r : R2} {i : Nat} {x y z : V} {d : PyData} (e : σ[i]? = some (some x)) (hr : ∀ H (Q : VK), Q z H → r x y H Q) (hz : ∀ H, Dq H z d) : LitG p l B σ (tOp r (tVar i) (tC y)) d := fun _ H _ Q D _ k => ⟨x, e, hr H Q (k _ H z (Go.refl D) (hz _))⟩
theorem litg_opVV {r : R2} {i j : Nat} {x y z : V} {d : PyData} (e : σ[i]? = some (some x)) (e' : σ[j]? = some (some y)) (hr : ∀ H (Q : VK), Q z H → r x y H Q) (hz : ∀ H, Dq H z d) : LitG p l B σ (tOp r (tVar i) (tVar j)) d := fun _ H _ Q D _ k => ⟨x, e, y, e', hr H Q (k _ H z (Go.refl D) (hz _))⟩
theorem litg_callV {r : List V → Hp → VK → Prop} {i : Nat} {x z : V} {d : PyData} (e : σ[i]? = some (some x)) (hr : ∀ H (Q : VK), Q z H → r [x] H Q) (hz : ∀ H, Dq H z d) : LitG p l B σ (tCB r (tCons (tVar i) tNil)) d := fun _ H _ Q D _ k => ⟨x, e, hr H Q (k _ H z (Go.refl D) (hz _))⟩
theorem litg_slS {i : Nat} {x : Str} {tl th : TO} {lo hi : Option Int} (e : σ[i]? = some (some (.str x))) (hz : x.length ≤ sizeLine) (hl : PartG σ tl lo) (hh : PartG σ th hi) : LitG p l B σ (tSl rSlS (tVar i) tl th) (.str (cutS x lo hi)) :=
  fun _ H _ Q D _ k => ⟨_, e, hl _ _ (hh _ _ ⟨x, rfl, hz, k _ _ _ (Go.refl D) (.str _)⟩)⟩
theorem litg_var {i : Nat} {v : V} {d : PyData} (e : σ[i]? = some (some v)) (h : Dq B v d) : LitG p l B σ (tVar i) d := fun _ _ _ _ D S k => ⟨v, e, k _ _ _ (Go.refl D) (Dq.same S _ _ h)⟩
theorem litsg_nil : LitsG p l B σ tNil [] := fun _ _ _ _ D _ k => k _ _ _ (Go.refl D) .nil
theorem litsg_cons {te : TE} {ta : TA} {d : PyData} {ds : List PyData} (h : LitG p l B σ te d) (hs : LitsG p l B σ ta ds) : LitsG p l B σ (tCons te ta) (d :: ds) := fun H0 H t Q D S k =>
  h H0 H t _ D S fun H1 H1' v g dv => hs H1 H1' t _ g.d (S.trans g.s) fun H2 H2' vs g2 dvs => k H2 H2' (v :: vs) ((g.trans g2).more (by omega)) (.cons (Dq.same g2.s _ _ dv) dvs)
theorem litg_tup {ta : TA} {ds : List PyData} (hs : LitsG p l B σ ta ds) (hn : ds.length ≤ 1000) : LitG p l B σ (tTup ta) (.tuple ds) := fun H0 H t Q D S k =>
  hs H0 H t _ D S fun H1 H1' vs g dvs => ⟨by rw [dvs.len, sizeLine_eq]; omega, fun q nq => k _ _ _ (g.new nq) (dq_new (g.d.s.free nq) dvs)⟩
theorem litg_lst {ta : TA} {ds : List PyData} (hs : LitsG p l B σ ta ds) (hn : ds.length ≤ 1000) : LitG p l B σ (tLst ta) (.list ds) := fun H0 H t Q D S k =>
  hs H0 H t _ D S fun H1 H1' vs g dvs => ⟨by rw [dvs.len, sizeLine_eq]; omega, fun q nq => k _ _ _ (g.new nq) (.lst upd_same (DqAll.same (same_new (g.d.s.free nq)) _ _ dvs))⟩
theorem litg_dict : LitG p l B σ tDNewK (.dict []) := fun H0 H t Q D S k q nq => k _ _ _ ((Go.refl D).new nq) (.dct0 upd_same)
theorem part_no : PartG σ tNoPart none := fun _ _ q => q
theorem part_int {i : Int} : PartG σ (tPart (tC (.int i))) (some i) := fun _ _ q => ⟨i, rfl, q⟩
theorem part_neg {i : Int} : PartG σ (tPart (tUn (rU fun i => .int (-i)) (tC (.int i)))) (some (-i)) := fun _ _ q => ⟨i, rfl, _, rfl, q⟩
theorem part_var {i : Nat} {n : Int} (e : σ[i]? = some (some (.int n))) : PartG σ (tPart (tVar i)) (some n) := fun _ _ q => ⟨_, e, n, rfl, q⟩
theorem part_add {i : Nat} {n m : Int} (e : σ[i]? = some (some (.int n))) : PartG σ (tPart (tOp (rI0 fun i j => .int (i + j)) (tVar i) (tC (.int m)))) (some (n + m)) := fun _ _ q => ⟨_, e, _, _, rfl, rfl, _, rfl, q⟩
abbrev pc (es : List PyData) (lo hi : Option Int) : List PyData := (es.drop (HT.sIx es.length 0 lo)).take (HT.sIx es.length es.length hi - HT.sIx es.length 0 lo)
theorem litg_slT {te : TE} {tl th : TO} {lo hi : Option Int} {es : List PyData} (h : LitG p l B σ te (.tuple es)) (hl : PartG σ tl lo) (hh : PartG σ th hi) : LitG p l B σ (tSl (rSlA K) te tl th) (.tuple (pc es lo hi)) := fun H0 H t Q D S k => by
  refine h H0 H t _ D S fun H1 H1' v g dv => hl _ _ (hh _ _ ?_)
  cases dv with
  | tup ha qa =>
    refine slA_go g.d ha qa fun H2 H2' v2 xs2 a2 g2 e2 h2 q2 => ?_
    subst e2
    exact k _ _ _ ((g.trans g2).more (by omega)) (.tup h2 q2)
theorem litg_catT {ta tb : TE} {ds es : List PyData} (h1 : LitG p l B σ ta (.tuple ds)) (h2 : LitG p l B σ tb (.tuple es)) (hz : ds.length + es.length ≤ 4000) : LitG p l B σ (tOp (rCatA K) ta tb) (.tuple (ds ++ es)) := fun H0 H t Q D S k =>
  h1 H0 H t _ D S fun H1 H1' v g dv => h2 H1 H1' t _ g.d (S.trans g.s) fun H2 H2' u g2 du => by
    have dv := Dq.same g2.s _ _ dv
    cases dv with
    | tup ha qa =>
      cases du with
      | tup hb qb =>
        exact catA_go g2.d ha hb qa qb (by rw [dq_len qa, dq_len qb, sizeLine_eq]; omega) fun H3 H3' v3 g3 d3 => k _ _ _ (((g.trans g2).trans g3).more (by omega)) d3
theorem litg_revT {te : TE} {es : List PyData} (h : LitG p l B σ te (.tuple es)) : LitG p l B σ (tRevT K te) (.tuple es.reverse) := fun H0 H t Q D S k =>
  h H0 H t _ D S fun H1 H1' v g dv => by
    cases dv with
    | tup ha qa => exact ⟨_, _, rfl, SqT.of (g.d.s _ _ ha), fun q nq => k _ _ _ (g.new nq) (dq_new (g.d.s.free nq) qa.rev)⟩
theorem litg_listT {te : TE} {es : List PyData} (h : LitG p l B σ te (.tuple es)) : LitG p l B σ (tCB (fun xs H Q => ∃ p ys, xs = [.ref p] ∧ (SqL K H p ys ∨ SqT K H p ys) ∧ ∀ l, H l = none → Q (.ref l) (upd H l (.lst ys))) (tCons te tNil)) (.list es) := fun H0 H t Q D S k =>
  h H0 H t _ D S fun H1 H1' v g dv => by
    cases dv with
    | tup ha qa => exact ⟨_, _, rfl, .inr (SqT.of (g.d.s _ _ ha)), fun q nq => k _ _ _ (g.new nq) (.lst upd_same (DqAll.same (same_new (g.d.s.free nq)) _ _ qa))⟩
end
end KL
set_option Elab.async false
set_option linter.all false
set_option maxRecDepth 100000
set_option maxHeartbeats 8000000
namespace KL
open PySem L2 PySem.KX PySem.Spec PyProof.Rows
def rNilT (K : PySem.W.Frag) : R2 := fun x y H Q => ∃ a b xs, x = .ref a ∧ y = .ref b ∧ SqT K H a xs ∧ SqT K H b [] ∧ Q (.bl (!xs.isEmpty)) H
theorem op_neNilT {X : Cx} (hu : X.A.units + 64 < cLine) : OpR X (compareOp .NotEq) (rNilT X.K) := by
  intro pins s σ H x y v u Q I rx ry h
  obtain ⟨a, b, xs, rfl, rfl, ha, hb, q⟩ := h
  cases (show v = Value.ref a from rx)
  cases (show u = Value.ref b from ry)
  obtain ⟨its, r, ⟨o, ho, hc, n, hd⟩, _⟩ := I.tuple ha
  obtain ⟨it2, r2, ⟨o2, ho2, hc2, n2, hd2⟩, _⟩ := I.tuple hb
  cases r2
  refine SeqAt.RcNeAt.tuples (e := fun _ => true) ⟨o, ho, hc, n, hd⟩ ⟨o2, ho2, hc2, n2, hd2⟩ (by omega) (fun j h1 h2 => absurd h2 (Nat.not_lt_zero _)) _ _ _ _ ⟨.bl (!xs.isEmpty), H, I, ?_, q⟩
  cases r with
  | nil => rfl
  | cons _ _ => rfl
theorem pc_take (es : List PyData) (k : Nat) : pc es none (some (k : Int)) = es.take k := by
  show (es.drop 0).take (HT.sIx es.length es.length (some (k : Int)) - 0) = _
  rw [HT.sIx_nat, Nat.sub_zero, List.drop_zero]
  by_cases h : k ≤ es.length
  · rw [Nat.min_eq_left h]
  · rw [Nat.min_eq_right (by omega), List.take_of_length_le (Nat.le_refl _), List.take_of_length_le (by omega)]
theorem pc_drop (es : List PyData) (k : Nat) : pc es (some (k : Int)) none = es.drop k := by
  show (es.drop (HT.sIx es.length 0 (some (k : Int)))).take (es.length - HT.sIx es.length 0 (some (k : Int))) = _
  rw [HT.sIx_nat]
  by_cases h : k ≤ es.length
  · rw [Nat.min_eq_left h, List.take_of_length_le (by rw [List.length_drop]; omega)]
  · rw [Nat.min_eq_right (by omega), Nat.sub_self, List.drop_eq_nil_of_le (by omega : es.length ≤ k)]
    rfl
theorem pc_mid (es : List PyData) (k m : Nat) (h : k ≤ es.length) : pc es (some (k : Int)) (some ((k : Int) + (m : Int))) = (es.drop k).take m := by
  have e : ((k : Int) + (m : Int)) = (((k + m : Nat)) : Int) := by omega
  rw [e]
  show (es.drop (HT.sIx es.length 0 (some (k : Int)))).take (HT.sIx es.length es.length (some ((k + m : Nat) : Int)) - HT.sIx es.length 0 (some (k : Int))) = _
  rw [HT.sIx_nat, HT.sIx_nat, Nat.min_eq_left h]
  by_cases h2 : k + m ≤ es.length
  · rw [Nat.min_eq_left h2]
    congr 1
    omega
  · rw [Nat.min_eq_right (by omega), List.take_of_length_le (by rw [List.length_drop]; omega), List.take_of_length_le (by rw [List.length_drop]; omega)]
theorem wtAll_get {es : List PyData} {i : Nat} {d : PyData} (h : es[i]? = some d) : wtAll es = wtAll (es.take i) + (wt d + 2) + wtAll (es.drop (i + 1)) := by
  obtain ⟨hi, rfl⟩ := List.getElem?_eq_some_iff.mp h
  have h1 := wtAll_cut i es
  have h2 : es.drop i = es[i] :: es.drop (i + 1) := List.drop_eq_getElem_cons hi
  rw [h2] at h1
  have h3 : wtAll (es[i] :: es.drop (i + 1)) = wt es[i] + 2 + wtAll (es.drop (i + 1)) := rfl
  omega
/-! ### readings of which one knows the value that they hand back, by data -/
def LitAt (σ : L2.St) (H0 : Hp) (t : TE) (d : PyData) : Prop := ∀ H Q, Same H0 H → (∀ H' v, Same H H' → Dq H' v d → Q v H') → t σ H Q
def LitsAt (σ : L2.St) (H0 : Hp) (t : TA) (ds : List PyData) : Prop := ∀ H Q, Same H0 H → (∀ H' vs, Same H H' → DqAll H' vs ds → Q vs H') → t σ H Q
section
variable {σ : L2.St} {H0 : Hp}
theorem lit_int {i : Int} : LitAt σ H0 (tC (.int i)) (.int i) := fun H Q _ k => k H _ (Same.refl _) (.int i)
theorem lit_str {x : Str} : LitAt σ H0 (tC (.str x)) (.str x) := fun H Q _ k => k H _ (Same.refl _) (.str x)
theorem lit_bl {b : Bool} : LitAt σ H0 (tC (.bl b)) (.bool b) := fun H Q _ k => k H _ (Same.refl _) (.bl b)
theorem lit_non : LitAt σ H0 (tC .non) .none := fun H Q _ k => k H _ (Same.refl _) .non
theorem lit_dict : LitAt σ H0 tDNewK (.dict []) := fun H Q _ k p np => k _ _ (same_new np) (.dct0 upd_same)
theorem lits_nil : LitsAt σ H0 tNil [] := fun H Q _ k => k H _ (Same.refl _) .nil
theorem lits_cons {t : TE} {ts : TA} {d : PyData} {ds : List PyData} (h : LitAt σ H0 t d) (hs : LitsAt σ H0 ts ds) : LitsAt σ H0 (tCons t ts) (d :: ds) := fun H Q S k =>
  h H _ S fun H1 v S1 d1 => hs H1 _ (S.trans S1) fun H2 vs S2 d2 => k H2 _ (S1.trans S2) (.cons (Dq.same S2 _ _ d1) d2)
theorem lit_tup {ts : TA} {ds : List PyData} (hs : LitsAt σ H0 ts ds) (hn : ds.length ≤ 1000) : LitAt σ H0 (tTup ts) (.tuple ds) := fun H Q S k =>
  hs H _ S fun H1 vs S1 d1 => ⟨by rw [d1.len, sizeLine_eq]; omega, fun p np => k _ _ (S1.trans (same_new np)) (dq_new np d1)⟩
theorem lit_lst {ts : TA} {ds : List PyData} (hs : LitsAt σ H0 ts ds) (hn : ds.length ≤ 1000) : LitAt σ H0 (tLst ts) (.list ds) := fun H Q S k =>
  hs H _ S fun H1 vs S1 d1 => ⟨by rw [d1.len, sizeLine_eq]; omega, fun p np => k _ _ (S1.trans (same_new np)) (.lst upd_same (DqAll.same (same_new np) _ _ d1))⟩
theorem lit_var {i : Nat} {v : V} {d : PyData} (e : σ[i]? = some (some v)) (h : Dq H0 v d) : LitAt σ H0 (tVar i) d := fun H Q S k => ⟨v, e, k H v (Same.refl _) (Dq.same S _ _ h)⟩
end
theorem asg_lst {σ : L2.St} {H0 : Hp} {ts : TA} {ds : List PyData} {i : Nat} {D : Ends} (hs : LitsAt σ H0 ts ds) (hn : ds.length ≤ 1000) (k : ∀ J p vs, Same H0 J → J p = none → DqAll J vs ds → D.nx (σ.set i (some (.ref p))) (upd J p (.lst vs))) : tAsg (tLst ts) (gName i) D σ H0 :=
  hs H0 _ (Same.refl _) fun J vs S d => ⟨by rw [d.len, sizeLine_eq]; omega, fun p np => k J p vs S np d⟩
def okS (x : Str) : Bool := PyData.strOk x
mutual
/-- all texts in it can be laid -/
def okD : PyData → Bool
  | .str x => okS x
  | .list ds => okAll ds
  | .tuple ds => okAll ds
  | _ => true
def okAll : List PyData → Bool
  | [] => true
  | d :: r => okD d && okAll r
end
theorem ok_char : ∀ c : Nat, c < 128 → PyData.strOk ⟨#[c]⟩ = true := by decide +kernel
theorem okS_tx {x : Str} (h : txS x = true) : okS x = true := by
  have a : ∀ c ∈ x.cps.toList, c < 128 := fun c hc => of_decide_eq_true (List.all_eq_true.mp h c hc)
  unfold okS PyData.strOk
  simp only [Array.all_eq_true, ← Array.all_toList, List.all_eq_true] at *
  intro c hc
  have h1 := ok_char c (a c hc)
  unfold PyData.strOk at h1
  simpa using h1
mutual
theorem okD_tx : ∀ d : PyData, txD d = true → okD d = true
  | .str x, h => okS_tx h
  | .list ds, h => okAll_tx ds h
  | .tuple ds, h => okAll_tx ds h
  | .none, _ => rfl
  | .bool _, _ => rfl
  | .int _, _ => rfl
  | .dict _, _ => rfl
theorem okAll_tx : ∀ ds : List PyData, txAll ds = true → okAll ds = true
  | [], _ => rfl
  | d :: r, h => by
    have h := Bool.and_eq_true_iff.mp (show (txD d && txAll r) = true from h)
    show (okD d && okAll r) = true
    rw [okD_tx d h.1, okAll_tx r h.2]
    rfl
end
theorem DeckAt.mono {H0 H H' : Hp} {p l : Addr} {t : Int} (D : DeckAt H0 H p l t) (S : Same H H') : DeckAt H0 H' p l t := by
  obtain ⟨ns, m, hp, hl, r⟩ := D.d
  exact ⟨D.s.trans S, D.p0, D.l0, ns, m, S _ _ hp, S _ _ hl, r⟩
/-! ### questions whose answer is no -/
def NoAt (σ : L2.St) (H0 : Hp) (t : TT) : Prop := ∀ H (Q : Bool → Hp → Prop), Same H0 H → (∀ H', Same H H' → Q false H') → t σ H Q
section
variable {σ : L2.St} {H0 : Hp}
theorem no_or {t u : TT} (h1 : NoAt σ H0 t) (h2 : NoAt σ H0 u) : NoAt σ H0 (tOr t u) := fun H Q S k => h1 H _ S fun H1 S1 => iteNo rfl (h2 H1 Q (S.trans S1) fun H2 S2 => k H2 (S1.trans S2))
theorem ifs_no {c : TT} {a : TS} {D : Ends} (h : NoAt σ H0 c) (k : ∀ H', Same H0 H' → D.nx σ H') : tIfS c a tNext D σ H0 := h H0 _ (Same.refl _) fun H' S => iteNo rfl (k H' S)
end
end KL
set_option Elab.async false
set_option linter.all false
set_option maxRecDepth 100000
set_option maxHeartbeats 8000000
namespace KL
open PySem L2 PySem.KX PySem.Spec PyProof.Rows
mutual
def plainD : PyData → Bool
  | .int _ => true
  | .str _ => true
  | .tuple ds => plainAll ds
  | _ => false
def plainAll : List PyData → Bool
  | [] => true
  | d :: r => plainD d && plainAll r
end
mutual
theorem plain_eq : ∀ (x y : PyData), plainD x = true → plainD y = true → PyData.eqv x y = true → x = y
  | .int i, y, _, hy, h => by
    cases y with
    | int j => rw [eq_of_beq (show (i == j) = true from by simpa [PyData.eqv] using h)]
    | str _ => simp [PyData.eqv] at h
    | tuple _ => simp [PyData.eqv] at h
    | _ => simp [plainD] at hy
  | .str a, y, _, hy, h => by
    cases y with
    | str b => rw [eq_of_beq (show (a == b) = true from by simpa [PyData.eqv] using h)]
    | int _ => simp [PyData.eqv] at h
    | tuple _ => simp [PyData.eqv] at h
    | _ => simp [plainD] at hy
  | .tuple xs, y, hx, hy, h => by
    cases y with
    | tuple ys => rw [plain_all_eq xs ys (by simpa [plainD] using hx) (by simpa [plainD] using hy) (by simpa [PyData.eqv] using h)]
    | int _ => simp [PyData.eqv] at h
    | str _ => simp [PyData.eqv] at h
    | _ => simp [plainD] at hy
  | .none, _, hx, _, _ => by simp [plainD] at hx
  | .bool _, _, hx, _, _ => by simp [plainD] at hx
  | .list _, _, hx, _, _ => by simp [plainD] at hx
  | .dict _, _, hx, _, _ => by simp [plainD] at hx
theorem plain_all_eq : ∀ (xs ys : List PyData), plainAll xs = true → plainAll ys = true → PyData.eqvAll xs ys = true → xs = ys
  | [], [], _, _, _ => rfl
  | [], _ :: _, _, _, h => by simp [PyData.eqvAll] at h
  | _ :: _, [], _, _, h => by simp [PyData.eqvAll] at h
  | x :: xs, y :: ys, hx, hy, h => by
    have hx := Bool.and_eq_true_iff.mp (show (plainD x && plainAll xs) = true from by simpa [plainAll] using hx)
    have hy := Bool.and_eq_true_iff.mp (show (plainD y && plainAll ys) = true from by simpa [plainAll] using hy)
    have h := Bool.and_eq_true_iff.mp (show (PyData.eqv x y && PyData.eqvAll xs ys) = true from by simpa [PyData.eqvAll] using h)
    rw [plain_eq x y hx.1 hy.1 h.1, plain_all_eq xs ys hx.2 hy.2 h.2]
end
mutual
theorem plain_refl : ∀ (x : PyData), plainD x = true → PyData.eqv x x = true
  | .int i, _ => by simp [PyData.eqv]
  | .str a, _ => by simp [PyData.eqv]
  | .tuple xs, h => by
    rw [PyData.eqv]
    exact plain_all_refl xs (by simpa [plainD] using h)
  | .none, h => by simp [plainD] at h
  | .bool _, h => by simp [plainD] at h
  | .list _, h => by simp [plainD] at h
  | .dict _, h => by simp [plainD] at h
theorem plain_all_refl : ∀ (xs : List PyData), plainAll xs = true → PyData.eqvAll xs xs = true
  | [], _ => by simp [PyData.eqvAll]
  | x :: xs, h => by
    have h := Bool.and_eq_true_iff.mp (show (plainD x && plainAll xs) = true from by simpa [plainAll] using h)
    rw [PyData.eqvAll, plain_refl x h.1, plain_all_refl xs h.2]
    rfl
end
mutual
theorem lay_plain : ∀ d : PyData, plainD d = true → txD d = true → d.canLay0 = true
  | .int _, _, _ => rfl
  | .str x, _, h => okS_tx h
  | .tuple ds, p, h => lay_plains ds p h
theorem lay_plains : ∀ ds : List PyData, plainAll ds = true → txAll ds = true → PyData.canLayAll0 ds = true
  | [], _, _ => rfl
  | d :: r, p, h => by
    have p := Bool.and_eq_true_iff.mp (show (plainD d && plainAll r) = true from p)
    have h := Bool.and_eq_true_iff.mp (show (txD d && txAll r) = true from h)
    show (d.canLay0 && PyData.canLayAll0 r) = true
    rw [lay_plain d p.1 h.1, lay_plains r p.2 h.2]
    rfl
end
theorem shaped_plain {d : PyData} {w p W : Nat} (hp : plainD d = true) (g : Gd w p W d) (h : p ≤ 60) : SeqAt.shaped d = true := by
  unfold SeqAt.shaped
  rw [Bool.and_eq_true]
  exact ⟨lay_plain d hp g.tx, decide_eq_true (by have := g.dp; omega)⟩

/-! ### a house in the heap -/
abbrev sHEq : Stmt := inClass (top 69) 1
abbrev sBarred : Stmt := inClass (top 69) 4
abbrev sRenamed : Stmt := inClass (top 69) 5
/-- parts of a size, plain ones -/
def Fit (d : PyData) : Prop := Gd 20 4 20000 d ∧ plainD d = true
theorem Fit.shaped {d : PyData} (h : Fit d) : SeqAt.shaped d = true := shaped_plain h.2 h.1 (by decide)
def FitH (m : HM) : Prop := ∀ d ∈ m.parts, Fit d
def HsAt (C : Addr) (H : Hp) (x : Addr) (m : HM) : Prop := ∃ dx fs v1 v2 v4 v6 v7 v8, H x = some (.ins C dx fs) ∧ fsOf (.int m.people) v1 v2 (.int m.places) v4 (.int m.logs) v6 v7 v8 fs ∧
  Dq H v1 (.tuple (m.deeds.map dE)) ∧ Dq H v2 (.tuple (m.start.map .int)) ∧ Dq H v4 (.tuple (m.ends.map .int)) ∧ Dq H v6 (.tuple (m.arrows.map rowE)) ∧ Dq H v7 (.tuple (m.tests.map rowE)) ∧ Dq H v8 m.looks
theorem HsAt.same {C : Addr} {H H' : Hp} {x : Addr} {m : HM} (S : Same H H') (h : HsAt C H x m) : HsAt C H' x m := by
  obtain ⟨dx, fs, v1, v2, v4, v6, v7, v8, hx, hf, q1, q2, q4, q6, q7, q8⟩ := h
  exact ⟨dx, fs, v1, v2, v4, v6, v7, v8, S _ _ hx, hf, Dq.same S _ _ q1, Dq.same S _ _ q2, Dq.same S _ _ q4, Dq.same S _ _ q6, Dq.same S _ _ q7, Dq.same S _ _ q8⟩
/-- whether all nine parts are alike -/
def sameH (m n : HM) : Bool := PyData.eqv (.int m.people) (.int n.people) && (PyData.eqv (.tuple (m.deeds.map dE)) (.tuple (n.deeds.map dE)) && (PyData.eqv (.tuple (m.start.map .int)) (.tuple (n.start.map .int)) && (PyData.eqv (.int m.places) (.int n.places) && (PyData.eqv (.tuple (m.ends.map .int)) (.tuple (n.ends.map .int)) && (PyData.eqv (.int m.logs) (.int n.logs) && (PyData.eqv (.tuple (m.arrows.map rowE)) (.tuple (n.arrows.map rowE)) && (PyData.eqv (.tuple (m.tests.map rowE)) (.tuple (n.tests.map rowE)) && PyData.eqv m.looks n.looks)))))))
def spHEq (C : Addr) : Sp := fun vs H Q _ => ∃ (x : Addr) (y : V) (m : HM), vs = [.ref x, y] ∧ HsAt C H x m ∧ FitH m ∧ ((∃ d, Dq H y d ∧ Q (.bl false) H) ∨ ∃ z n, y = .ref z ∧ HsAt C H z n ∧ FitH n ∧ Q (.bl (sameH m n)) H)
theorem and_step {a b : Bool} {T : Bool → Prop} (h : T (a && b)) : (a = true → T b) ∧ (a = false → T false) := by
  cases a <;> exact ⟨fun z => (by first | exact h | cases z), fun z => (by first | exact h | cases z)⟩
section
variable {P : Program} {w : World} {K : PySem.W.Frag} {mg : Str → Option Value} {base : Heap} {C : Addr}
theorem scHEq : FnScope ["self", "other"] ["self", "other"] (defScope sHEq) := ⟨rfl, rfl, rfl, by decide +kernel, rfl, by decide +kernel, by decide +kernel⟩
theorem ok_heq {f : Addr} {fd : FuncData} (F : Fun K "__eq__" "House.__eq__" sHEq f fd) (T : TxtH K C) (TQ : TxtQ K C) (TB : TxtB mg) (mC : mg "House" = some (.ref C)) :
    FnOk P w K mg base CX0 3 f fd ["self", "other"] (spHEq C) := by
  refine F.ok scHEq (fun vs H Q E h => ?_) (fun cdv A outer s H vs Q E hr h => ?_)
  · obtain ⟨x, y, m, rfl, _⟩ := h
    rfl
  · obtain ⟨x, y, m, rfl, hx, fm, h⟩ := h
    obtain ⟨dx, fs, v1, v2, v4, v6, v7, v8, hx, hf, q1, q2, q4, q6, q7, q8⟩ := hx
    obtain ⟨f0, f1, f2, f3, f4, f5, f6, f7, f8, fnm⟩ := hf
    refine ⟨_, pss_one (ps_ret (pe_and (pe_callB call_isi (by rfl) TB.isi (by decide +kernel) (pa_cons (pv 1) (pa_cons (pe_glob (v := .ref C) (by rfl) mC rfl) pa_nil)))
      (pe_and (pe_cmpR op_eq (pe_fld (pv 0) (by rfl)) (pe_fld (pv 1) (by rfl)) (nomark _)) (pe_and (pe_cmpR (op_eqD hr.units) (pe_fld (pv 0) (by rfl)) (pe_fld (pv 1) (by rfl)) (nomark _)) (pe_and (pe_cmpR (op_eqD hr.units) (pe_fld (pv 0) (by rfl)) (pe_fld (pv 1) (by rfl)) (nomark _))
      (pe_and (pe_cmpR op_eq (pe_fld (pv 0) (by rfl)) (pe_fld (pv 1) (by rfl)) (nomark _)) (pe_and (pe_cmpR (op_eqD hr.units) (pe_fld (pv 0) (by rfl)) (pe_fld (pv 1) (by rfl)) (nomark _)) (pe_and (pe_cmpR op_eq (pe_fld (pv 0) (by rfl)) (pe_fld (pv 1) (by rfl)) (nomark _))
      (pe_and (pe_cmpR (op_eqD hr.units) (pe_fld (pv 0) (by rfl)) (pe_fld (pv 1) (by rfl)) (nomark _)) (pe_and (pe_cmpR (op_eqD hr.units) (pe_fld (pv 0) (by rfl)) (pe_fld (pv 1) (by rfl)) (nomark _)) (pe_one (pe_cmpR (op_eqD hr.units) (pe_fld (pv 0) (by rfl)) (pe_fld (pv 1) (by rfl)) (nomark _))))))))))))), ?_⟩
    rcases h with ⟨d, qd, k⟩ | ⟨z, n, rfl, hz, fn, k⟩
    · exact ⟨_, rfl, y, .ref C, _, .ref C, false, rfl, .own C, .base (ty_data qd), kit_other TQ d, _, rfl, k⟩
    obtain ⟨dz, gs, u1, u2, u4, u6, u7, u8, hz, hg, p1, p2, p4, p6, p7, p8⟩ := hz
    obtain ⟨g0, g1, g2, g3, g4, g5, g6, g7, g8, gnm⟩ := hg
    have fit : ∀ {d : PyData}, d ∈ m.parts → SeqAt.shaped d = true := fun hd => (fm _ hd).shaped
    have fit' : ∀ {d : PyData}, d ∈ n.parts → SeqAt.shaped d = true := fun hd => (fn _ hd).shaped
    have m1 : PyData.tuple (m.deeds.map dE) ∈ m.parts := by simp [HM.parts]
    have m2 : PyData.tuple (m.start.map .int) ∈ m.parts := by simp [HM.parts]
    have m4 : PyData.tuple (m.ends.map .int) ∈ m.parts := by simp [HM.parts]
    have m6 : PyData.tuple (m.arrows.map rowE) ∈ m.parts := by simp [HM.parts]
    have m7 : PyData.tuple (m.tests.map rowE) ∈ m.parts := by simp [HM.parts]
    have m8 : m.looks ∈ m.parts := by simp [HM.parts]
    have n1 : PyData.tuple (n.deeds.map dE) ∈ n.parts := by simp [HM.parts]
    have n2 : PyData.tuple (n.start.map .int) ∈ n.parts := by simp [HM.parts]
    have n4 : PyData.tuple (n.ends.map .int) ∈ n.parts := by simp [HM.parts]
    have n6 : PyData.tuple (n.arrows.map rowE) ∈ n.parts := by simp [HM.parts]
    have n7 : PyData.tuple (n.tests.map rowE) ∈ n.parts := by simp [HM.parts]
    have n8 : n.looks ∈ n.parts := by simp [HM.parts]
    have num : ∀ {i j : Int}, decide (V.int i = V.int j) = PyData.eqv (.int i) (.int j) := fun {i j} => by
      rw [eqv_int]
      by_cases e : i = j
      · rw [decide_eq_true e, e]
        exact decide_eq_true rfl
      · rw [decide_eq_false e]
        exact decide_eq_false fun z => e (by injection z)
    unfold sameH at k
    refine ⟨_, rfl, .ref z, .ref C, _, .ref C, true, rfl, .own C, .base (ty_ins TQ.i hz), TQ.i.me, _, rfl, ?_⟩
    refine ⟨_, rfl, x, C, dx, _, _, rfl, hx, T.c, T.people, f0, _, rfl, z, C, dz, _, _, rfl, hz, T.c, T.people, g0, rfl, _, rfl, ?_⟩
    rw [num]
    obtain ⟨k1, k0⟩ := and_step (T := fun b => Q (.bl b) H) k
    rcases bool_ft (PyData.eqv (.int m.people) (.int n.people)) with b | b
    · exact iteNo b (k0 b)
    refine iteYes b ?_
    replace k := k1 b
    refine ⟨_, rfl, x, C, dx, _, _, rfl, hx, T.c, T.deeds, f1, _, rfl, z, C, dz, _, _, rfl, hz, T.c, T.deeds, g1, _, _, dp_shaped (fit m1) q1, dp_shaped (fit' n1) p1, fit m1, fit' n1, _, rfl, ?_⟩
    obtain ⟨k1, k0⟩ := and_step (T := fun b => Q (.bl b) H) k
    rcases bool_ft (PyData.eqv (.tuple (m.deeds.map dE)) (.tuple (n.deeds.map dE))) with b | b
    · exact iteNo b (k0 b)
    refine iteYes b ?_
    replace k := k1 b
    refine ⟨_, rfl, x, C, dx, _, _, rfl, hx, T.c, T.start, f2, _, rfl, z, C, dz, _, _, rfl, hz, T.c, T.start, g2, _, _, dp_shaped (fit m2) q2, dp_shaped (fit' n2) p2, fit m2, fit' n2, _, rfl, ?_⟩
    obtain ⟨k1, k0⟩ := and_step (T := fun b => Q (.bl b) H) k
    rcases bool_ft (PyData.eqv (.tuple (m.start.map .int)) (.tuple (n.start.map .int))) with b | b
    · exact iteNo b (k0 b)
    refine iteYes b ?_
    replace k := k1 b
    refine ⟨_, rfl, x, C, dx, _, _, rfl, hx, T.c, T.places, f3, _, rfl, z, C, dz, _, _, rfl, hz, T.c, T.places, g3, rfl, _, rfl, ?_⟩
    rw [num]
    obtain ⟨k1, k0⟩ := and_step (T := fun b => Q (.bl b) H) k
    rcases bool_ft (PyData.eqv (.int m.places) (.int n.places)) with b | b
    · exact iteNo b (k0 b)
    refine iteYes b ?_
    replace k := k1 b
    refine ⟨_, rfl, x, C, dx, _, _, rfl, hx, T.c, T.ends, f4, _, rfl, z, C, dz, _, _, rfl, hz, T.c, T.ends, g4, _, _, dp_shaped (fit m4) q4, dp_shaped (fit' n4) p4, fit m4, fit' n4, _, rfl, ?_⟩
    obtain ⟨k1, k0⟩ := and_step (T := fun b => Q (.bl b) H) k
    rcases bool_ft (PyData.eqv (.tuple (m.ends.map .int)) (.tuple (n.ends.map .int))) with b | b
    · exact iteNo b (k0 b)
    refine iteYes b ?_
    replace k := k1 b
    refine ⟨_, rfl, x, C, dx, _, _, rfl, hx, T.c, T.logs, f5, _, rfl, z, C, dz, _, _, rfl, hz, T.c, T.logs, g5, rfl, _, rfl, ?_⟩
    rw [num]
    obtain ⟨k1, k0⟩ := and_step (T := fun b => Q (.bl b) H) k
    rcases bool_ft (PyData.eqv (.int m.logs) (.int n.logs)) with b | b
    · exact iteNo b (k0 b)
    refine iteYes b ?_
    replace k := k1 b
    refine ⟨_, rfl, x, C, dx, _, _, rfl, hx, T.c, T.arrows, f6, _, rfl, z, C, dz, _, _, rfl, hz, T.c, T.arrows, g6, _, _, dp_shaped (fit m6) q6, dp_shaped (fit' n6) p6, fit m6, fit' n6, _, rfl, ?_⟩
    obtain ⟨k1, k0⟩ := and_step (T := fun b => Q (.bl b) H) k
    rcases bool_ft (PyData.eqv (.tuple (m.arrows.map rowE)) (.tuple (n.arrows.map rowE))) with b | b
    · exact iteNo b (k0 b)
    refine iteYes b ?_
    replace k := k1 b
    refine ⟨_, rfl, x, C, dx, _, _, rfl, hx, T.c, T.tests, f7, _, rfl, z, C, dz, _, _, rfl, hz, T.c, T.tests, g7, _, _, dp_shaped (fit m7) q7, dp_shaped (fit' n7) p7, fit m7, fit' n7, _, rfl, ?_⟩
    obtain ⟨k1, k0⟩ := and_step (T := fun b => Q (.bl b) H) k
    rcases bool_ft (PyData.eqv (.tuple (m.tests.map rowE)) (.tuple (n.tests.map rowE))) with b | b
    · exact iteNo b (k0 b)
    refine iteYes b ?_
    replace k := k1 b
    exact ⟨_, rfl, x, C, dx, _, _, rfl, hx, T.c, T.looks, f8, _, rfl, z, C, dz, _, _, rfl, hz, T.c, T.looks, g8, _, _, dp_shaped (fit m8) q8, dp_shaped (fit' n8) p8, fit m8, fit' n8, k⟩
end
end KL
set_option Elab.async false
set_option linter.all false
set_option maxRecDepth 100000
set_option maxHeartbeats 8000000
namespace KL
open PySem L2 PySem.KX PySem.Spec PyProof.Rows
/-! ### sizes of what is left -/
theorem plain_all_of {ds : List PyData} : plainAll ds = true ↔ ∀ d ∈ ds, plainD d = true := by
  induction ds with
  | nil => exact ⟨fun _ _ h => (nomatch h), fun _ => rfl⟩
  | cons d r ih =>
    rw [show plainAll (d :: r) = (plainD d && plainAll r) from by simp [plainAll], Bool.and_eq_true, ih]
    exact ⟨fun ⟨a, b⟩ x hx => by
      rcases List.mem_cons.mp hx with e | hx
      · rw [e]
        exact a
      · exact b x hx, fun h => ⟨h d List.mem_cons_self, fun x hx => h x (List.mem_cons_of_mem _ hx)⟩⟩
theorem wtAll_sub {ds es : List PyData} (s : es.Sublist ds) : wtAll es ≤ wtAll ds := by
  induction s with
  | slnil => exact Nat.le_refl _
  | cons a s ih =>
    show _ ≤ wt a + 2 + wtAll _
    omega
  | cons_cons a s ih =>
    show wt a + 2 + wtAll _ ≤ wt a + 2 + wtAll _
    omega
theorem wtAll_perm {ds es : List PyData} (s : es.Perm ds) : wtAll es = wtAll ds := by
  induction s with
  | nil => rfl
  | cons a s ih =>
    show wt a + 2 + wtAll _ = wt a + 2 + wtAll _
    omega
  | swap a b l =>
    show wt b + 2 + (wt a + 2 + wtAll l) = wt a + 2 + (wt b + 2 + wtAll l)
    omega
  | trans s t i j => exact i.trans j
theorem fit_all {ds es : List PyData} (h : Fit (.tuple ds)) (len : es.length ≤ ds.length) (mem : ∀ d ∈ es, d ∈ ds) (w : wtAll es ≤ wtAll ds) : Fit (.tuple es) := by
  obtain ⟨g, p⟩ := h
  have p := plain_all_of.mp (show plainAll ds = true from by simpa [plainD] using p)
  have g1 : max ds.length (wdAll ds) ≤ 20 := g.wd
  have g2 : PyData.depthAll ds + 1 ≤ 4 := g.dp
  have g3 : wtAll ds + 3 ≤ 20000 := g.wt
  refine ⟨⟨?_, ?_, ?_, ?_⟩, ?_⟩
  · show max es.length (wdAll es) ≤ 20
    have : wdAll es ≤ 20 := wdAll_bound fun d hd => Nat.le_trans (wdAll_mem (mem d hd)) (by omega)
    omega
  · show PyData.depthAll es + 1 ≤ 4
    have : PyData.depthAll es ≤ 3 := dpAll_bound fun d hd => Nat.le_trans (depth_mem (mem d hd)) (by omega)
    omega
  · show wtAll es + 3 ≤ 20000
    omega
  · exact txAll_bound fun d hd => txAll_mem g.tx (mem d hd)
  · show plainD (.tuple es) = true
    rw [show plainD (.tuple es) = plainAll es from by simp [plainD]]
    exact plain_all_of.mpr fun d hd => p d (mem d hd)
theorem fit_sub {ds es : List PyData} (h : Fit (.tuple ds)) (s : es.Sublist ds) : Fit (.tuple es) := fit_all h s.length_le (fun d hd => s.mem hd) (wtAll_sub s)
theorem fit_perm {ds es : List PyData} (h : Fit (.tuple ds)) (s : es.Perm ds) : Fit (.tuple es) := fit_all h (Nat.le_of_eq s.length_eq) (fun d hd => s.mem_iff.mp hd) (Nat.le_of_eq (wtAll_perm s))
theorem FitH.mk {m : HM} (h0 : Fit (.int m.people)) (h1 : Fit (.tuple (m.deeds.map dE))) (h2 : Fit (.tuple (m.start.map .int))) (h3 : Fit (.int m.places)) (h4 : Fit (.tuple (m.ends.map .int))) (h5 : Fit (.int m.logs)) (h6 : Fit (.tuple (m.arrows.map rowE))) (h7 : Fit (.tuple (m.tests.map rowE))) (h8 : Fit m.looks) : FitH m := fun d hd => by
  simp only [HM.parts, List.mem_cons, List.not_mem_nil, or_false] at hd
  rcases hd with rfl | rfl | rfl | rfl | rfl | rfl | rfl | rfl | rfl <;> assumption
structure FitP (m : HM) : Prop where
  h0 : Fit (.int m.people)
  h1 : Fit (.tuple (m.deeds.map dE))
  h2 : Fit (.tuple (m.start.map .int))
  h3 : Fit (.int m.places)
  h4 : Fit (.tuple (m.ends.map .int))
  h5 : Fit (.int m.logs)
  h6 : Fit (.tuple (m.arrows.map rowE))
  h7 : Fit (.tuple (m.tests.map rowE))
  h8 : Fit m.looks
theorem FitH.at {m : HM} (h : FitH m) : FitP m := ⟨h _ (by simp [HM.parts]), h _ (by simp [HM.parts]), h _ (by simp [HM.parts]), h _ (by simp [HM.parts]), h _ (by simp [HM.parts]), h _ (by simp [HM.parts]), h _ (by simp [HM.parts]), h _ (by simp [HM.parts]), h _ (by simp [HM.parts])⟩
theorem FitH.bar {m : HM} (h : FitH m) (s : Str) : FitH (m.bar s) := by
  have p := h.at
  exact .mk p.h0 p.h1 p.h2 p.h3 p.h4 p.h5 (fit_sub p.h6 ((List.filter_sublist (p := outB s)).map rowE)) (fit_sub p.h7 ((List.filter_sublist (p := outB s)).map rowE)) p.h8
theorem Fit.sm {d : PyData} (h : Fit d) : smB d = true := (sm_wd d (Nat.le_trans h.1.wd (by decide))).1
theorem FitP.sm {m : HM} (p : FitP m) : (smB (.int m.people) && smB (.tuple (m.deeds.map dE)) && smB (.tuple (m.start.map .int)) && smB (.int m.places) && smB (.tuple (m.ends.map .int)) && smB (.int m.logs) && smB (.tuple (m.arrows.map rowE)) && smB (.tuple (m.tests.map rowE)) && smB m.looks) = true := by
  rw [p.h0.sm, p.h1.sm, p.h2.sm, p.h3.sm, p.h4.sm, p.h5.sm, p.h6.sm, p.h7.sm, p.h8.sm]
  rfl
/-- a letter is one sign -/
theorem letter_sign {x : Str} (h : letS x = true) : x = ⟨#[signS x]⟩ := by
  have l : x.length = 1 := of_decide_eq_true (Bool.and_eq_true_iff.mp h).1
  obtain ⟨a⟩ := x
  have l : a.size = 1 := l
  refine str_ext ?_
  obtain ⟨c, hc⟩ : ∃ c, a.toList = [c] := by
    have : a.toList.length = 1 := by simpa using l
    match a.toList, this with
    | [c], _ => exact ⟨c, rfl⟩
  have : a = #[c] := Array.toList_inj.mp (by rw [hc])
  subst this
  rfl
theorem RightH.letter {m : HM} (h : RightH m) {x : Str} (hx : x ∈ m.deeds.map (·.1)) : letS x = true := by
  obtain ⟨d, hd, rfl⟩ := List.mem_map.mp hx
  exact (h.da d hd).1
theorem RightH.testL {m : HM} (h : RightH m) {r : Row} (hr : r ∈ m.tests) : r.2.1 ∈ m.deeds.map (·.1) := by
  obtain ⟨e, x, hx, e1, e2⟩ := h.ta r hr
  rw [← e2]
  exact (h.aa x hx).l
/-! ### House.barred -/
def spBarred (C : Addr) : Sp := fun vs H Q _ => ∃ (x : Addr) (s : Str) (m : HM), vs = [.ref x, .str s] ∧ HsAt C H x m ∧ RightH m ∧ FitH m ∧ ∀ H' y, Same H H' → HsAt C H' y (m.bar s) → Q (.ref y) H'
abbrev pInit9 : List Str := ["self", "people", "deeds", "start", "places", "ends", "logs", "arrows", "tests", "looks"]
section
variable {P : Program} {w : World} {K : PySem.W.Frag} {mg : Str → Option Value} {base : Heap} {C CB fI : Addr} {dI : FuncData}
abbrev nBarred : List Str := ["self", "deeds", "arrows", "tests", "arrow", "test"]
theorem scBarred : FnScope nBarred ["self", "deeds"] (defScope sBarred) := ⟨rfl, rfl, rfl, by decide +kernel, rfl, by decide +kernel, by decide +kernel⟩
/-- what is left of some rows -/
theorem left_rows {H : Hp} {m : HM} (h : RightH m) {rows : List Row} (hl : ∀ r ∈ rows, r.2.1 ∈ m.deeds.map (·.1)) {i : Nat} {xs : List V} {y : V} (q : DqAll H xs (rows.map rowE)) (hy : xs[i]? = some y) :
    ∃ r, rows[i]? = some r ∧ Dq H y (rowE r) ∧ ∃ a z zs, y = .ref a ∧ H a = some (.tup (z :: .str ⟨#[signS r.2.1]⟩ :: zs)) := by
  obtain ⟨d', hd', hq⟩ := DqAll.at q hy
  obtain ⟨r, hr, rfl⟩ : ∃ r, rows[i]? = some r ∧ rowE r = d' := by
    rw [List.getElem?_map] at hd'
    cases ex : rows[i]? with
    | none =>
      rw [ex] at hd'
      cases hd'
    | some r =>
      rw [ex] at hd'
      exact ⟨r, rfl, Option.some.inj hd'⟩
  refine ⟨r, hr, hq, ?_⟩
  have e := letter_sign (h.letter (hl r (List.mem_of_getElem? hr)))
  rw [← e]
  cases hq with
  | @tup c vs _ ec hz =>
    cases hz with
    | cons p0 hz =>
    cases hz with
    | cons p1 hz =>
    cases p1
    exact ⟨c, _, _, rfl, ec⟩
/-- the rows so far that are left stand in the list at D -/
def Kept (H : Hp) (D : Addr) (rows : List Row) (s : Str) (i : Nat) (H' : Hp) : Prop := ∃ vs, MadeTo H D vs H' ∧ DqAll H vs (((rows.take i).filter (outB s)).map rowE)
theorem Kept.step {H H' : Hp} {D : Addr} {rows : List Row} {s : Str} {i : Nat} {r : Row} {y : V} (nD : H D = none) (few : rows.length ≤ 20) (h : Kept H D rows s i H') (hr : rows[i]? = some r) (hq : Dq H y (rowE r)) :
    (outB s r = true → ∃ acc, H' D = some (.lst acc) ∧ acc.length < sizeLine ∧ Kept H D rows s (i + 1) (upd H' D (.lst (acc ++ [y])))) ∧ (outB s r = false → Kept H D rows s (i + 1) H') := by
  obtain ⟨vs, M, dq⟩ := h
  have et : rows.take (i + 1) = rows.take i ++ [r] := by
    rw [List.take_add_one, hr]
    rfl
  have len : vs.length ≤ 20 := by
    rw [dq_len dq, List.length_map]
    refine Nat.le_trans (List.length_filter_le _ _) ?_
    rw [List.length_take]
    omega
  refine ⟨fun o => ?_, fun o => ⟨vs, M, ?_⟩⟩
  · obtain ⟨h1, M2⟩ := M.more y nD (Same.refl _)
    refine ⟨vs, h1, by rw [sizeLine_eq]; omega, vs ++ [y], M2, ?_⟩
    rw [et, List.filter_append, List.filter_cons_of_pos o, List.map_append]
    exact dq.app (.cons hq .nil)
  · rw [et, List.filter_append, List.filter_cons_of_neg (by rw [o]; decide), List.filter_nil, List.append_nil]
    exact dq
theorem ok_barred {f : Addr} {fd : FuncData} (F : Fun K "barred" "House.barred" sBarred f fd) (T : TxtH K C) (mt : mg "tuple" = none) (mC : mg "House" = some (.ref C)) (G : FnOk P w K mg base (L2.CX P w) 6 fI dI pInit9 (spInit C CB)) (M : Mk K C fI) (bI : L2.Binds K dI pInit9 []) :
    FnOk P w K mg base CX0 8 f fd ["self", "deeds"] (spBarred C) := by
  refine F.ok scBarred (fun vs H Q E h => ?_) (fun cdv A outer s H vs Q E hr h => ?_)
  · obtain ⟨x, t, m, rfl, _⟩ := h
    rfl
  · obtain ⟨x, t, m, rfl, hx, hR, hF, k⟩ := h
    have nd := scBarred.nd
    obtain ⟨dx, fs, v1, v2, v4, v6, v7, v8, hx, hf, q1, q2, q4, q6, q7, q8⟩ := hx
    obtain ⟨f0, f1, f2, f3, f4, f5, f6, f7, f8, fnm⟩ := hf
    refine ⟨_, pss_cons (ps_set (i := 2) nd rfl (.inl rfl) (pe_tupleOf (by rfl) mt (pe_lc (own := [("arrow", 4)]) (g := gName 4) (tt := tTest (tOp (fun x y H Q => ∃ (c : Nat) (z : Str), x = .str ⟨#[c]⟩ ∧ y = .str z ∧ Q (.bl (!decide (c ∈ z.cps.toList))) H) (tOp (rIxT K) (tVar 4) (tC (.int 1))) (tVar 1))) rfl nd (pi_tup (pe_fld (pv 0) (by rfl))) (blkOk_by (N := nBarred) (sc := defScope sBarred) (by decide +kernel)) (fun _ _ _ _ _ => pg_name (i := 4) nd rfl (.inl rfl))
          (fun _ _ _ _ _ => pts_one (pt_cmpR op_notIn_sign (pe_ix (r := rIxT K) ix_tup (pv 4) pe_int (fun _ _ => rfl)) (pv 1) rfl)) (fun _ _ _ _ _ => pv 4))))
      (pss_cons (ps_set (i := 3) nd rfl (.inl rfl) (pe_tupleOf (by rfl) mt (pe_lc (own := [("test", 5)]) (g := gName 5) (tt := tTest (tOp (fun x y H Q => ∃ (c : Nat) (z : Str), x = .str ⟨#[c]⟩ ∧ y = .str z ∧ Q (.bl (!decide (c ∈ z.cps.toList))) H) (tOp (rIxT K) (tVar 5) (tC (.int 1))) (tVar 1))) rfl nd (pi_tup (pe_fld (pv 0) (by rfl))) (blkOk_by (N := nBarred) (sc := defScope sBarred) (by decide +kernel)) (fun _ _ _ _ _ => pg_name (i := 5) nd rfl (.inl rfl))
          (fun _ _ _ _ _ => pts_one (pt_cmpR op_notIn_sign (pe_ix (r := rIxT K) ix_tup (pv 5) pe_int (fun _ _ => rfl)) (pv 1) rfl)) (fun _ _ _ _ _ => pv 5))))
      (pss_one (ps_ret (pe_make M G hr (by rfl) mC bI .nil passL (pa_cons (pe_fld (pv 0) (by rfl)) (pa_cons (pe_fld (pv 0) (by rfl)) (pa_cons (pe_fld (pv 0) (by rfl)) (pa_cons (pe_fld (pv 0) (by rfl)) (pa_cons (pe_fld (pv 0) (by rfl)) (pa_cons (pe_fld (pv 0) (by rfl)) (pa_cons (pv 2) (pa_cons (pv 3) (pa_cons (pe_fld (pv 0) (by rfl)) pa_nil))))))))))))), ?_⟩
    obtain ⟨a6, xs6, rfl, e6, qa6⟩ : ∃ a xs, v6 = .ref a ∧ H a = some (.tup xs) ∧ DqAll H xs (m.arrows.map rowE) := by
      cases q6 with
      | tup h1 h2 => exact ⟨_, _, rfl, h1, h2⟩
    obtain ⟨a7, xs7, rfl, e7, qa7⟩ : ∃ a xs, v7 = .ref a ∧ H a = some (.tup xs) ∧ DqAll H xs (m.tests.map rowE) := by
      cases q7 with
      | tup h1 h2 => exact ⟨_, _, rfl, h1, h2⟩
    have few6 : m.arrows.length ≤ 20 := by
      have : max (m.arrows.map rowE).length (wdAll (m.arrows.map rowE)) ≤ 20 := hF.at.h6.1.wd
      rw [List.length_map] at this
      omega
    have few7 : m.tests.length ≤ 20 := by
      have : max (m.tests.map rowE).length (wdAll (m.tests.map rowE)) ≤ 20 := hF.at.h7.1.wd
      rw [List.length_map] at this
      omega
    have l6 : xs6.length = m.arrows.length := by rw [dq_len qa6, List.length_map]
    have l7 : xs7.length = m.tests.length := by rw [dq_len qa7, List.length_map]
    refine ⟨_, rfl, x, C, dx, _, _, rfl, hx, T.c, T.arrows, f6, a6, rfl, ⟨_, SqT.of e6⟩, fun D nD => ?_⟩
    refine lc_tup (K := K) (a := a6) (xs := xs6) (fun i H2 => Kept H D m.arrows t i H2) ⟨[], ⟨same_new nD, upd_same⟩, .nil⟩ (fun i H2 _ M => by
      obtain ⟨_, M, _⟩ := M
      exact SqT.of (M.1 _ _ e6)) ?_ ?_
    · rintro i y H2 hy M
      obtain ⟨r, hr, hq, a, z, zs, rfl, ha⟩ := left_rows hR (fun r h => (hR.aa r h).l) qa6 hy
      have st := M.step nD few6 hr hq
      obtain ⟨_, M1, _⟩ := M
      refine ⟨rfl, _, rfl, a, _, _, _, rfl, rfl, SqT.of (M1.1 _ _ ha), atI_nat (j := 1) rfl, _, rfl, signS r.2.1, t, rfl, rfl, _, rfl, ?_⟩
      rcases bool_ft (outB t r) with o | o
      · exact iteNo o (st.2 o)
      · refine iteYes o ?_
        obtain ⟨acc, h1, h2, h3⟩ := st.1 o
        exact ⟨_, rfl, acc, h1, h2, h3⟩
    rintro H2 ⟨vs, M, dq⟩
    rw [l6, List.take_length] at dq
    refine .inl ⟨D, vs, rfl, SqL.of M.2, fun tp ntp => ?_⟩
    have S3 := M.1.trans (same_new (o := .tup vs) ntp)
    have h3 : upd H2 tp (.tup vs) tp = some (.tup vs) := upd_same
    revert S3 h3
    generalize upd H2 tp (.tup vs) = H3
    intro S3 h3
    clear M nD ntp
    have e7' := S3 _ _ e7
    have qa7' := DqAll.same S3 _ _ qa7
    refine ⟨_, rfl, x, C, dx, _, _, rfl, S3 _ _ hx, T.c, T.tests, f7, a7, rfl, ⟨_, SqT.of e7'⟩, fun D nD => ?_⟩
    refine lc_tup (K := K) (a := a7) (xs := xs7) (fun i H2 => Kept H3 D m.tests t i H2) ⟨[], ⟨same_new nD, upd_same⟩, .nil⟩ (fun i H2 _ M => by
      obtain ⟨_, M, _⟩ := M
      exact SqT.of (M.1 _ _ e7')) ?_ ?_
    · rintro i y H4 hy M
      obtain ⟨r, hr, hq, a, z, zs, rfl, ha⟩ := left_rows hR (fun r h => hR.testL h) qa7' hy
      have st := M.step nD few7 hr hq
      obtain ⟨_, M1, _⟩ := M
      refine ⟨rfl, _, rfl, a, _, _, _, rfl, rfl, SqT.of (M1.1 _ _ ha), atI_nat (j := 1) rfl, _, rfl, signS r.2.1, t, rfl, rfl, _, rfl, ?_⟩
      rcases bool_ft (outB t r) with o | o
      · exact iteNo o (st.2 o)
      · refine iteYes o ?_
        obtain ⟨acc, h1, h2, h3⟩ := st.1 o
        exact ⟨_, rfl, acc, h1, h2, h3⟩
    rintro H4 ⟨us, M, dq7⟩
    rw [l7, List.take_length] at dq7
    refine .inl ⟨D, us, rfl, SqL.of M.2, fun tq ntq => ?_⟩
    have S5 := M.1.trans (same_new (o := .tup us) ntq)
    have h5 : upd H4 tq (.tup us) tq = some (.tup us) := upd_same
    revert S5 h5
    generalize upd H4 tq (.tup us) = H5
    intro S5 h5
    have S := S3.trans S5
    have hx5 := S _ _ hx
    refine ⟨_, rfl, x, C, dx, _, _, rfl, hx5, T.c, T.people, f0, _, rfl, x, C, dx, _, _, rfl, hx5, T.c, T.deeds, f1, _, rfl, x, C, dx, _, _, rfl, hx5, T.c, T.start, f2, _, rfl, x, C, dx, _, _, rfl, hx5, T.c, T.places, f3, _, rfl, x, C, dx, _, _, rfl, hx5, T.c, T.ends, f4, _, rfl, x, C, dx, _, _, rfl, hx5, T.c, T.logs, f5, _, rfl, _, rfl, _, rfl, x, C, dx, _, _, rfl, hx5, T.c, T.looks, f8, fun y dy ny ndy ne => ?_⟩
    have S2 : Same H5 (upd (upd H5 dy (.own y)) y (.ins C dy [])) := fun b o e => by
      rw [upd_ne (ne_of_none e ny), upd_ne (ne_of_none e ndy)]
      exact e
    have q6' : Dq H5 (.ref tp) (.tuple ((m.bar t).arrows.map rowE)) := .tup (S5 _ _ h3) (DqAll.same S _ _ dq)
    have q7' : Dq H5 (.ref tq) (.tuple ((m.bar t).tests.map rowE)) := .tup h5 (DqAll.same S5 _ _ dq7)
    have q1 := Dq.same S _ _ q1
    have q2 := Dq.same S _ _ q2
    have q4 := Dq.same S _ _ q4
    have q8 := Dq.same S _ _ q8
    refine ⟨H5, y, dy, _, _, _, _, _, _, _, _, _, _, _, _, _, _, _, _, _, _, rfl, S2, ny, upd_same, .int m.people, q1, q2, .int m.places, q4, .int m.logs, q6', q7', q8, (hF.bar t).at.sm, fun _ H6 gs S6 hy hg => ⟨rfl, ?_⟩, fun it e => ?_⟩
    · exact k H6 y (S.trans S6) ⟨dy, gs, _, _, _, _, _, _, hy, hg, Dq.same S6 _ _ q1, Dq.same S6 _ _ q2, Dq.same S6 _ _ q4, Dq.same S6 _ _ q6', Dq.same S6 _ _ q7', Dq.same S6 _ _ q8⟩
    · have due : (m.bar t).due = none := (hR.bar t).due
      have e : (m.bar t).due = some it := e
      rw [due] at e
      cases e
end
end KL
set_option Elab.async false
set_option linter.all false
set_option maxRecDepth 100000
set_option maxHeartbeats 8000000
namespace KL
open PySem L2 PySem.KX PySem.Spec PyProof.Rows
/-! ### a def that gathers keywords -/
def dctO (es : List DictEntry) (n : Nat) : Obj := ⟨.type "dict", none, .dict es.toArray n, #[]⟩
/-- the dict of what is gathered -/
def gath (ex : List (Str × Value)) (d : Addr) : Sem PUnit := forIn ex PUnit.unit fun x _ => (nsSet d x.1 x.2 >>= fun _ => pure (ForInStep.yield PUnit.unit))
def BindKw (fd : FuncData) (ex : List (Str × Value)) : Prop := ∀ u : Value, bindArgs fd ⟨[u], ex⟩ = (alloc (dctO [] 0) >>= fun d => gath ex d >>= fun _ => pure [(("self" : Str), u), (("letters" : Str), .ref d)])
theorem put_fresh {es : List DictEntry} {n : Nat} {k : Str} {h : Int} {key v : Value} (no : ∀ e ∈ es, e.key.isStr k = false) : Obj.putName k h key v (dctO es n) = dctO (es ++ [⟨h, key, v⟩]) (n + 1) := by
  have z : es.toArray.findIdx? (·.key.isStr k) = none := by
    rw [List.findIdx?_toArray, List.findIdx?_eq_none_iff]
    exact no
  unfold dctO
  simp only [Obj.putName_eq, Obj.putNameByArray, z]
  rw [List.push_toArray]
/-- these entries are these pairs -/
def Gat (P : Program) (w : World) (es : List DictEntry) (ex : List (Str × Value)) : Prop := Pairs (mixKind P w) es (ex.map fun x => ((Sum.inr x.1 : Key), x.2)) ∧ ∀ e ∈ es, ∃ x ∈ ex, ∃ u, e.key = .str x.1 u ∧ e.hash = hashStr w x.1
theorem Gat.nil (P : Program) (w : World) : Gat P w [] [] := ⟨.nil, fun _ h => nomatch h⟩
theorem pairs_snoc {P : Program} {w : World} {es : List DictEntry} {kvs : List (Key × Value)} {e : DictEntry} {kv : Key × Value} (h : Pairs (mixKind P w) es kvs) (a : (mixKind P w).is kv.1 e.key = true) (b : e.val = kv.2) : Pairs (mixKind P w) (es ++ [e]) (kvs ++ [kv]) := by
  induction h with
  | nil => exact .cons a b .nil
  | cons p q _ ih => exact .cons p q ih
theorem Gat.snoc {P : Program} {w : World} {es : List DictEntry} {ex : List (Str × Value)} {x : Str} {v : Value} {u : Tok} (h : Gat P w es ex) : Gat P w (es ++ [⟨hashStr w x, .str x u, v⟩]) (ex ++ [(x, v)]) := by
  refine ⟨?_, fun e he => ?_⟩
  · rw [List.map_append]
    exact pairs_snoc h.1 (keyIs_str x u) rfl
  · rcases List.mem_append.mp he with z | z
    · obtain ⟨y, hy, q⟩ := h.2 e z
      exact ⟨y, List.mem_append_left _ hy, q⟩
    · rw [List.mem_singleton.mp z]
      exact ⟨(x, v), List.mem_append_right _ List.mem_cons_self, u, rfl, rfl⟩
section
variable {prog : Program} {w : World} {A : Around} {E : Value → Shared → Prop} {d : Addr}
theorem ns_fresh {s : Shared} {es : List DictEntry} {ex : List (Str × Value)} {n : Nat} {k : Str} {v : Value} {Q : Unit → Shared → Prop} (D : s.heap.get? d = some (dctO es n)) (g : Gat prog w es ex) (nk : k ∉ ex.map (·.1))
    (h : ∀ h' t', (∀ b, b ≠ d → h'.get? b = s.heap.get? b) → h'.get? d = some (dctO (es ++ [⟨hashStr w k, .str k s.toks, v⟩]) (n + 1)) → Q () { s with heap := h', toks := t' }) : wpAny (model prog w) A (nsSet d k v) Q E s := by
  have no : ∀ e ∈ es, e.key.isStr k = false := fun e he => by
    obtain ⟨x, hx, u, q, _⟩ := g.2 e he
    rw [q]
    exact beq_eq_false_iff_ne.mpr fun z => nk (by rw [← z]; exact List.mem_map.mpr ⟨x, hx, rfl⟩)
  have nr : ∀ e ∈ es, e.refKey = false := fun e he => by
    obtain ⟨x, hx, u, q, _⟩ := g.2 e he
    unfold DictEntry.refKey
    rw [q]
  have c : aRefKeyMayBeTheName k es.toArray = false := by
    rw [aRefKeyMayBeTheName_at]
    have : es.toArray.any (·.refKey) = false := by
      rw [List.any_toArray, List.any_eq_false]
      intro e he
      rw [nr e he]
      decide
    rw [this, Bool.and_false]
  unfold nsSet strHash
  refine wpAny_bind (wpAny_bind (wpAny_askSetting (wpAny_pure ?_)))
  refine wpAny_bind (wpAny_mkText ?_)
  refine wpAny_bind (wpAny_loadPart D ?_)
  show wpAny _ _ (if aRefKeyMayBeTheName k es.toArray = true then _ else _) _ _ _
  rw [c, if_neg (by decide)]
  refine wpAny_updatePart D (h _ _ (fun b nb => Heap.get?_update_other _ _ fun z => nb z.symm) ?_)
  rw [← put_fresh no]
  exact Heap.get?_update_self _ D (by rw [put_fresh no]; rfl)
theorem gath_ok {Q : PUnit → Shared → Prop} : ∀ (ex done : List (Str × Value)) (s : Shared) (es : List DictEntry) (n : Nat), s.heap.get? d = some (dctO es n) → Gat prog w es done → ((done ++ ex).map (·.1)).Nodup →
    (∀ h' t' es' n', (∀ b, b ≠ d → h'.get? b = s.heap.get? b) → h'.get? d = some (dctO es' n') → Gat prog w es' (done ++ ex) → Q ⟨⟩ { s with heap := h', toks := t' }) → wpAny (model prog w) A (gath ex d) Q E s
  | [], done, s, es, n, D, g, nd, h => by
    unfold gath
    rw [List.forIn_nil]
    rw [List.append_nil] at h
    exact wpAny_pure (h s.heap s.toks es n (fun _ _ => rfl) D g)
  | x :: r, done, s, es, n, D, g, nd, h => by
    have nk : x.1 ∉ done.map (·.1) := by
      rw [List.map_append, List.nodup_append] at nd
      exact fun z => nd.2.2 _ z _ (List.mem_map.mpr ⟨x, List.mem_cons_self, rfl⟩) rfl
    unfold gath
    rw [List.forIn_cons]
    refine wpAny_bind (wpAny_bind (ns_fresh D g nk fun h1 t1 o1 d1 => wpAny_pure ?_))
    have a : done ++ x :: r = (done ++ [(x.1, x.2)]) ++ r := by simp
    rw [a] at nd h
    refine gath_ok r _ { s with heap := h1, toks := t1 } _ _ d1 g.snoc nd fun h2 t2 es' n' o2 d2 g2 => ?_
    exact h h2 t2 es' n' (fun b nb => (o2 b nb).trans (o1 b nb)) d2 g2
theorem bind_kw {fd : FuncData} {ex : List (Str × Value)} (B : BindKw fd ex) (nd : (ex.map (·.1)).Nodup) {s : Shared} {u : Value} {R : List (Str × Value) → Shared → Prop}
    (h : ∀ h' t' es n, (∀ b o, s.heap.get? b = some o → h'.get? b = some o) → h'.get? s.heap.objs.size = some (dctO es n) → Gat prog w es ex → R [(("self" : Str), u), (("letters" : Str), .ref s.heap.objs.size)] { s with heap := h', toks := t' }) :
    wpAny (model prog w) A (bindArgs fd ⟨[u], ex⟩) R E s := by
  rw [B u]
  refine wpAny_bind (wpAny_alloc ?_)
  refine wpAny_bind (gath_ok ex [] _ [] 0 (Heap.get?_push_size _ rfl) (.nil _ _) nd fun h' t' es n o1 d1 g => wpAny_pure ?_)
  refine h h' t' es n (fun b o e => ?_) d1 g
  rw [o1 b (Nat.ne_of_lt (Heap.lt_size e))]
  exact Heap.get?_push_of_some _ e
end
/-- a def's promise, keywords gathered in its last parameter -/
structure FnKw (P : Program) (w : World) (K : PySem.W.Frag) (mg : Str → Option Value) (base : Heap) (CX : CXT) (k : Nat) (f : Addr) (fd : FuncData) (sp : Sp) : Prop where
  len : ∀ vs H Q E, sp vs H Q E → vs.length = 2
  run : ∀ (A : Around) (outer : List Env) (s : Shared) (args : Args) (u d : Value) (Post : Shared → Prop) (R : Result → Shared → Prop), Room k A → K.In s.heap →
    (∀ (A' : Around) (T : List (Str × Value) → Shared → Prop) (E' : Value → Shared → Prop), (∀ s2, Post s2 → T [(("self" : Str), u), (("letters" : Str), d)] s2) → wpAny (model P w) A' (bindArgs fd args) T E' s) →
    (∀ s2, Post s2 → ∃ (H2 : Hp) (vs : List V) (Q : VK) (E : XK), Env0 P w K mg base A outer s2 H2 ∧ Vals vs [u, d] ∧ sp vs H2 Q E ∧ ∀ r s', CR CX outer P w H2 s2 Q E r s' → R r s') →
    codeAny (model P w) A (.call (.ref f) args) R s
abbrev kwPs : List Str := ["self", "letters"]
section
variable {P : Program} {w : World} {K : PySem.W.Frag} {mg : Str → Option Value} {base : Heap}
theorem fnKw {k : Nat} {f : Addr} {qual x : Str} {st : Stmt} {N : List Str} {sp : Sp} {fd : FuncData} (F : Fun K x qual st f fd) (S : FnScope N kwPs (defScope st)) (len : ∀ vs H Q E, sp vs H Q E → vs.length = 2)
    (hbody : ∀ (cdv : Value) (A : Around) (outer : List Env) (s : Shared) (H : Hp) (vs : List V) (Q : VK) (E : XK), Room k (A.deeper (envOfC qual (defScope st) s.heap.objs.size f cdv)) → sp vs H Q E →
      Takes (cxOf (L2.CX P w) P w K mg base N qual (defScope st) f cdv A outer s H E) (fun cls d _ H' => E cls d H') →
      PassesOwn (model P w) (A.deeper (envOfC qual (defScope st) s.heap.objs.size f cdv)) (envOfC qual (defScope st) s.heap.objs.size f cdv) (cxOf (L2.CX P w) P w K mg base N qual (defScope st) f cdv A outer s H E).xe →
      ∃ t, PSs (cxOf (L2.CX P w) P w K mg base N qual (defScope st) f cdv A outer s H E) (defBody st) t ∧ t { nx := fun _ H' => Q .non H', rt := Q } (start N vs) H) : FnKw P w K mg base (L2.CX P w) (k + 1) f fd sp := by
  obtain ⟨oc, od, kV, doc, pm, an, cdv, ct, osl, rfl, lk, hcd⟩ := F.ex
  refine ⟨len, fun A outer s args u d Post R hr KX hb go => ?_⟩
  refine codeAny_call_function hr.depth (KX _ _ lk) rfl S.co S.gen rfl (PySem.W.codeRec_of KX hcd) (hb _ _ _ fun s2 ps => ?_)
  obtain ⟨H, vs, Q, E, e0, r, hs, fin⟩ := go s2 ps
  have hl := len _ _ _ _ hs
  have lim := e0.mod.nolimit.keeps fun b o e => (e0.bs b o e).1
  have hk : ∀ y ∈ kwPs.zip [u, d], (defScope st).names.lookup y.1 = some .local ∨ ((defScope st).names.lookup y.1 = some .cell ∧ ((cellsFrom (s2.heap.objs.size + 1) (defScope st).names []).lookup y.1).isSome = true) := by
    rintro ⟨n, v⟩ hy
    rcases S.par n (List.of_mem_zip hy).1 with q | q
    · exact Or.inl q
    · exact Or.inr ⟨q, PySem.W.cellsFrom_some _ _ _ (Or.inl q)⟩
  refine wpAny_newFunctionEnv_cells (s := s2) S.kind hk fun env he s1 z => ?_
  subst he
  refine ⟨lim.keeps z.toInCall.keep, codeAny_func ?_⟩
  obtain ⟨t, ht, hq⟩ := hbody cdv A outer s2 H vs Q E (hr.deeper _) hs (takes_of rfl rfl rfl rfl) (passes_of rfl)
  have J0 := inv_start (CX := L2.CX P w) (E := E) S hr.hd e0 hl r z
  refine wpAny_mono (ht.run [] s1 (start N vs) H _ J0 hq) (fun fl s' y => ?_) fun e s' y => wpAny_mono y (fun _ s'' z => fin (.error e) s'' z) fun e' s'' z => fin (.error e') s'' z
  match fl, y with
  | .ret u, ⟨v, σ', H', J, rv, q⟩ => exact fin _ _ ⟨v, H', J.os, J.bare, J.base, J.hok, rv, q⟩
  | .next, ⟨σ', H', J, q⟩ => exact fin _ _ ⟨V.non, H', J.os, J.bare, J.base, J.hok, rfl, q⟩
  | .brk, ⟨_, _, _, q⟩ => exact q.elim
  | .cont, ⟨_, _, _, q⟩ => exact q.elim
end
/-- the dict that is gathered -/
def kwV (ks : List Str) (zs : List V) : List (Key × V) := (ks.zip zs).map fun p => ((Sum.inr p.1 : Key), p.2)
theorem kwV_rel : ∀ {ks : List Str} {zs : List V} {ws : List Value}, Vals zs ws → KV (kwV ks zs) ((ks.zip ws).map fun x => ((Sum.inr x.1 : Key), x.2))
  | [], _, _, _ => .nil
  | _ :: _, _, _, .nil => .nil
  | k :: ks, _, _, .cons r rs => .cons ⟨rfl, r⟩ (kwV_rel (ks := ks) rs)
theorem zip_names : ∀ {ks : List Str} {ws : List Value}, ks.Nodup → ((ks.zip ws).map (·.1)).Nodup
  | [], _, _ => List.nodup_nil
  | _ :: _, [], _ => List.nodup_nil
  | k :: ks, v :: ws, h => by
    obtain ⟨h1, h2⟩ := List.nodup_cons.mp h
    refine List.nodup_cons.mpr ⟨fun z => h1 ?_, zip_names h2⟩
    obtain ⟨p, hp, e⟩ := List.mem_map.mp z
    have := (List.of_mem_zip hp).1
    have e : p.1 = k := e
    rw [← e]
    exact this
section
variable {X : Cx} {pins : List (Addr × Obj)} {σ : L2.St} {H : Hp} {s : Shared} {CX : CXT} {n : Nat} {C f : Addr} {fd : FuncData} {sp : Sp}
theorem run_kw {E : XK} {Q : VK} {a : Addr} {ks : List Str} {zs : List V} {ws : List Value} (F : FnKw X.prog X.w X.K X.mg X.base CX n f fd sp) (hr : Room n X.A) (hx : PassesAt CX X σ E) (I : Inv X pins σ H s) (B : BindKw fd (ks.zip ws)) (nd : ks.Nodup) (few : ks.length ≤ 100) (rz : Vals zs ws)
    (h : ∀ p, H p = none → sp [.ref a, .ref p] (upd H p (.dK (kwV ks zs))) Q E) : wpAny (model X.prog X.w) X.A (call (.ref f) [.ref a] (ks.zip ws)) (EP X pins σ Q) X.xe s := by
  have np : H s.heap.objs.size = none := I.hok.fresh (Nat.le_refl _)
  refine wpAny_call (F.run X.A X.stack s ⟨[.ref a], ks.zip ws⟩ (.ref a) (.ref s.heap.objs.size) (fun s2 => ∃ h' t' es n, s2 = { s with heap := h', toks := t' } ∧ (∀ b o, s.heap.get? b = some o → h'.get? b = some o) ∧ h'.get? s.heap.objs.size = some (dctO es n) ∧ Gat X.prog X.w es (ks.zip ws)) _ hr I.kIn
    (fun A' T E' hT => bind_kw B (zip_names nd) fun h' t' es n o1 d1 g => hT _ ⟨h', t', es, n, rfl, o1, d1, g⟩) ?_)
  rintro s2 ⟨h', t', es, n, rfl, o1, d1, g⟩
  have len : (kwV ks zs).length ≤ sizeLine := by
    unfold kwV
    rw [List.length_map, List.length_zip, sizeLine_eq]
    omega
  have sys : (s.heap.objs.size == sysModules) = false := beq_eq_false_iff_ne.mpr (Ne.symm (Nat.ne_of_lt I.big))
  have nd2 : (((ks.zip ws).map fun x => ((Sum.inr x.1 : Key), x.2)).map (·.1)).Nodup := by
    rw [List.map_map]
    have := zip_names (ws := ws) nd
    rw [List.nodup_iff_pairwise_ne, List.pairwise_map] at this ⊢
    exact this.imp fun ne z => ne (Sum.inr.inj z)
  have I2 := I.laid (a := s.heap.objs.size) (o := .dK (kwV ks zs)) (h' := h') (t' := t') o1 (Nat.le_refl _) ⟨len, sys, _, kwV_rel rz, _, es.toArray, n, d1, ⟨rfl, rfl, rfl⟩, rfl, fun e he => by
    obtain ⟨x, _, u, q1, q2⟩ := g.2 e (by simpa using he)
    exact ⟨Sum.inr x.1, by rw [q1]; exact keyIs_str x.1 u, q2⟩, g.1, nd2⟩
  refine ⟨_, [.ref a, .ref s.heap.objs.size], Q, E, I2.env0, .cons rfl (.cons rfl .nil), h _ np, fun r s' hq => ?_⟩
  have J : ∀ (v : V) (H' : Hp) (s3 : Shared), Inv X pins σ H' s3 → Inv X pins σ H' s3 := fun _ _ _ h => h
  cases r with
  | error e => exact hx pins _ _ e s' I2 hq
  | ok fl =>
    cases fl with
    | ret w => exact I2.after hq
    | next => exact False.elim hq
    | brk => exact False.elim hq
    | cont => exact False.elim hq
end
end KL
set_option Elab.async false
set_option linter.all false
set_option maxRecDepth 100000
set_option maxHeartbeats 8000000
namespace KL
open PySem L2 PySem.KX PySem.Spec PyProof.Rows
/-! ### sizes of what is renamed -/
structure LeD (a b : PyData) : Prop where
  w : wd a ≤ wd b
  d : a.depth ≤ b.depth
  t : wt a ≤ wt b
  x : txD b = true → txD a = true
  p : plainD b = true → plainD a = true
theorem fit_le {α : Type} {g h : α → PyData} {l : List α} (e : ∀ a ∈ l, LeD (g a) (h a)) (f : Fit (.tuple (l.map h))) : Fit (.tuple (l.map g)) := by
  obtain ⟨gd, pl⟩ := f
  have pl := plain_all_of.mp (show plainAll (l.map h) = true from by simpa [plainD] using pl)
  have g1 : max (l.map h).length (wdAll (l.map h)) ≤ 20 := gd.wd
  have g2 : PyData.depthAll (l.map h) + 1 ≤ 4 := gd.dp
  have g3 : wtAll (l.map h) + 3 ≤ 20000 := gd.wt
  rw [List.length_map] at g1
  have wts : ∀ l : List α, (∀ a ∈ l, LeD (g a) (h a)) → wtAll (l.map g) ≤ wtAll (l.map h) := fun l => by
    induction l with
    | nil => exact fun _ => Nat.le_refl _
    | cons a r ih =>
      intro e
      have := (e a List.mem_cons_self).t
      have := ih fun x hx => e x (List.mem_cons_of_mem _ hx)
      show wt (g a) + 2 + wtAll (r.map g) ≤ wt (h a) + 2 + wtAll (r.map h)
      omega
  refine ⟨⟨?_, ?_, ?_, ?_⟩, ?_⟩
  · show max (l.map g).length (wdAll (l.map g)) ≤ 20
    have : wdAll (l.map g) ≤ 20 := wdAll_bound fun d hd => by
      obtain ⟨a, ha, rfl⟩ := List.mem_map.mp hd
      have := wdAll_mem (List.mem_map.mpr ⟨a, ha, rfl⟩ : h a ∈ l.map h)
      have := (e a ha).w
      omega
    rw [List.length_map]
    omega
  · show PyData.depthAll (l.map g) + 1 ≤ 4
    have : PyData.depthAll (l.map g) ≤ 3 := dpAll_bound fun d hd => by
      obtain ⟨a, ha, rfl⟩ := List.mem_map.mp hd
      have := depth_mem (List.mem_map.mpr ⟨a, ha, rfl⟩ : h a ∈ l.map h)
      have := (e a ha).d
      omega
    omega
  · show wtAll (l.map g) + 3 ≤ 20000
    have := wts l e
    omega
  · exact txAll_bound fun d hd => by
      obtain ⟨a, ha, rfl⟩ := List.mem_map.mp hd
      exact (e a ha).x (txAll_mem gd.tx (List.mem_map.mpr ⟨a, ha, rfl⟩))
  · rw [show plainD (.tuple (l.map g)) = plainAll (l.map g) from by simp [plainD]]
    exact plain_all_of.mpr fun d hd => by
      obtain ⟨a, ha, rfl⟩ := List.mem_map.mp hd
      exact (e a ha).p (pl _ (List.mem_map.mpr ⟨a, ha, rfl⟩))
theorem letter_len {x : Str} (h : letS x = true) : x.length = 1 := of_decide_eq_true (Bool.and_eq_true_iff.mp h).1
theorem letter_tx {x : Str} (h : letS x = true) : txS x = true := by
  have e := letter_sign h
  have b := (Bool.and_eq_true_iff.mp (Bool.and_eq_true_iff.mp h).2).2
  rw [e] at b
  have b : (!decide (("z" : Str).cps.toList < [signS x])) = true := b
  have z : ("z" : Str).cps.toList = [122] := by decide +kernel
  rw [z] at b
  rw [e]
  show ([signS x].all fun c => decide (c < 128)) = true
  have : ¬ (122 < signS x) := fun q => by
    have : ([122] : List Nat) < [signS x] := List.Lex.rel q
    rw [decide_eq_true this] at b
    cases b
  simp only [List.all_cons, List.all_nil, Bool.and_true, decide_eq_true_eq]
  omega
theorem row_le_d {r : Row} {y : Str} (l : r.2.1.length = 1) (h : letS y = true) : LeD (rowE (r.1, y, r.2.2)) (rowE r) := by
  have ly := letter_len h
  have ty := letter_tx h
  refine ⟨?_, ?_, ?_, fun z => ?_, fun z => ?_⟩
  · show max (r.2.2.length + 1 + 1) (max (wd (.int r.1)) (max y.length (wdAll r.2.2))) ≤ max (r.2.2.length + 1 + 1) (max (wd (.int r.1)) (max r.2.1.length (wdAll r.2.2)))
    omega
  · exact Nat.le_refl _
  · show wt (.int r.1) + 2 + (10 * y.length + 2 + 2 + wtAll r.2.2) + 3 ≤ wt (.int r.1) + 2 + (10 * r.2.1.length + 2 + 2 + wtAll r.2.2) + 3
    omega
  · have z : (true && (txS r.2.1 && txAll r.2.2)) = true := z
    show (true && (txS y && txAll r.2.2)) = true
    rw [ty]
    simpa using (Bool.and_eq_true_iff.mp (by simpa using z)).2
  · have z : plainAll (.int r.1 :: .str r.2.1 :: r.2.2) = true := by simpa [rowE, plainD] using z
    have := plain_all_of.mp z
    rw [show plainD (rowE (r.1, y, r.2.2)) = plainAll (.int r.1 :: .str y :: r.2.2) from by simp [rowE, plainD]]
    refine plain_all_of.mpr fun d hd => ?_
    rcases List.mem_cons.mp hd with e | hd
    · rw [e]; rfl
    rcases List.mem_cons.mp hd with e | hd
    · rw [e]; rfl
    · exact this d (List.mem_cons_of_mem _ (List.mem_cons_of_mem _ hd))
theorem deed_le_d {r : Str × Int} {y : Str} (l : r.1.length = 1) (h : letS y = true) : LeD (dE (y, r.2)) (dE r) := by
  have ly := letter_len h
  have ty := letter_tx h
  refine ⟨?_, ?_, ?_, fun z => ?_, fun z => ?_⟩
  · show max 2 (max y.length (max (wd (.int r.2)) 0)) ≤ max 2 (max r.1.length (max (wd (.int r.2)) 0))
    omega
  · exact Nat.le_refl _
  · show 10 * y.length + 2 + 2 + (wt (.int r.2) + 2 + 0) + 3 ≤ 10 * r.1.length + 2 + 2 + (wt (.int r.2) + 2 + 0) + 3
    omega
  · show (txS y && (true && true)) = true
    rw [ty]
    rfl
  · rfl
theorem FitH.ren {m : HM} (h : FitH m) (hR : RightH m) {f : Str → Str} (hl : ∀ l ∈ m.deeds.map (·.1), letS (f l) = true) : FitH (m.ren f) := by
  have p := h.at
  have hl' : ∀ {l : Str}, l ∈ m.deeds.map (·.1) → l.length = 1 := fun hx => letter_len (hR.letter hx)
  refine .mk p.h0 ?_ p.h2 p.h3 p.h4 p.h5 ?_ ?_ p.h8
  · refine fit_perm (ds := m.deeds.map fun d => dE (f d.1, d.2)) (fit_le (h := dE) (fun a ha => ?_) p.h1) ?_
    · have z : a.1 ∈ m.deeds.map (·.1) := List.mem_map.mpr ⟨a, ha, rfl⟩
      exact deed_le_d (hl' z) (hl _ z)
    · have := (sortDs_perm (m.deeds.map (renD f))).map dE
      rw [List.map_map] at this
      exact this
  · refine fit_perm (ds := m.arrows.map fun r => rowE (r.1, f r.2.1, r.2.2)) (fit_le (h := rowE) (fun a ha => ?_) p.h6) ?_
    · have z := (hR.aa a ha).l
      exact row_le_d (hl' z) (hl _ z)
    · have := (sortR_perm (m.arrows.map (renR f))).map rowE
      rw [List.map_map] at this
      exact this
  · refine fit_perm (ds := m.tests.map fun r => rowE (r.1, f r.2.1, r.2.2)) (fit_le (h := rowE) (fun a ha => ?_) p.h7) ?_
    · have z := hR.testL ha
      exact row_le_d (hl' z) (hl _ z)
    · have := (sortR_perm (m.tests.map (renR f))).map rowE
      rw [List.map_map] at this
      exact this
/-! ### two with one letter -/
theorem asc_strs : ∀ {l : List Str}, ascD (l.map .str) = true → l.Pairwise sLt
  | [], _ => .nil
  | [_], _ => List.pairwise_singleton _ _
  | a :: b :: l, h => by
    have h : (decide (a.cps.toList < b.cps.toList) && ascD (((b :: l) : List Str).map .str)) = true := by
      have := asc_cons (.str a) (.str b) (l.map .str)
      rw [show ((a :: b :: l).map PyData.str) = .str a :: .str b :: l.map .str from rfl, this] at h
      exact h
    obtain ⟨h1, h2⟩ := Bool.and_eq_true_iff.mp h
    have ih := asc_strs h2
    have ab : a.cps.toList < b.cps.toList := of_decide_eq_true h1
    have ab : sLt a b := ab
    refine List.pairwise_cons.mpr ⟨fun c hc => ?_, ih⟩
    rcases List.mem_cons.mp hc with e | hc
    · rw [e]
      exact ab
    · exact sLt_trans ab ((List.pairwise_cons.mp ih).1 c hc)
theorem due_dup {m : HM} (h : RightH m) {f : Str → Str} (no : ¬ Apart m f) : (m.ren f).due = some (.str "deeds") := by
  have p1 := h.p1
  have p3 := h.p3
  have bad : deedsD m.people (.tuple ((m.ren f).deeds.map dE)) = false := by
    cases z : deedsD m.people (.tuple ((m.ren f).deeds.map dE)) with
    | false => rfl
    | true =>
      refine absurd ?_ no
      have z : (tupD 1 5 (.tuple ((m.ren f).deeds.map dE)) && (allD (deedD m.people) (.tuple ((m.ren f).deeds.map dE)) && ascD (((m.ren f).deeds.map dE).map (itemD 0)))) = true := z
      have z := (Bool.and_eq_true_iff.mp (Bool.and_eq_true_iff.mp z).2).2
      rw [letters_map] at z
      have z : ascD (((m.ren f).deeds.map (·.1)).map .str) = true := by
        rw [List.map_map]
        exact z
      have q := asc_strs z
      have q2 : ((m.ren f).deeds).Pairwise fun a b => a.1 ≠ b.1 := (List.pairwise_map.mp q).imp fun h => sLt_ne h
      have q3 := (sortDs_perm (m.deeds.map (renD f))).pairwise q2 fun h => h.symm
      exact (List.pairwise_map (R := fun a b : Str × Int => a.1 ≠ b.1) (f := renD f)).mp q3
  unfold HM.due dueD
  show (badOf (betD 1 3 (.int m.people)) "people").or ((badOf (deedsD m.people (.tuple ((m.ren f).deeds.map dE))) "deeds").or _) = _
  rw [bad_no (bet_int p1 p3), bad]
  rfl
/-! ### the dict of new letters -/
def valOf (kvs : List (Key × V)) (l : Str) : V := (valV kvs (.inr l)).getD (.str l)
def newK (kvs : List (Key × V)) (ds : List (Str × Int)) : List (Key × V) := ds.map fun d => ((Sum.inr d.1 : Key), valOf kvs d.1)
theorem putK_fresh {kvs : List (Key × V)} {k : Key} {v : V} (h : ∀ p ∈ kvs, p.1 ≠ k) : putK kvs k v = kvs ++ [(k, v)] := by
  unfold putK
  rw [if_neg]
  intro z
  obtain ⟨p, hp, e⟩ := List.any_eq_true.mp z
  exact h p hp (of_decide_eq_true e)
theorem valV_new {kvs : List (Key × V)} : ∀ {ds : List (Str × Int)} {l : Str}, l ∈ ds.map (·.1) → valV (newK kvs ds) (.inr l) = some (valOf kvs l)
  | d :: ds, l, h => by
    show (List.find? _ (((Sum.inr d.1 : Key), valOf kvs d.1) :: newK kvs ds)).map (·.2) = _
    by_cases e : d.1 = l
    · rw [List.find?_cons_of_pos (p := fun kv : Key × V => decide (kv.1 = Sum.inr l)) (decide_eq_true (by rw [e])), e]
      rfl
    · rw [List.find?_cons_of_neg (p := fun kv : Key × V => decide (kv.1 = Sum.inr l)) (by rw [decide_eq_false fun z => e (Sum.inr.inj z)]; decide)]
      rcases List.mem_cons.mp h with z | z
      · exact absurd z.symm e
      · exact valV_new z
/-- what the letters are called -/
def Called (m : HM) (dF : Str → PyData) (f : Str → Str) : Prop := ∀ l ∈ m.deeds.map (·.1), dF l = .str (f l) ∧ letS (f l) = true
theorem called_or {m : HM} (dF : Str → PyData) : (∃ f, Called m dF f) ∨ (∃ l ∈ m.deeds.map (·.1), letD (dF l) = false) := by
  by_cases h : ∃ l ∈ m.deeds.map (·.1), letD (dF l) = false
  · exact .inr h
  · let g : Str → Str := fun l => match dF l with | .str x => x | _ => l
    refine .inl ⟨g, fun l hl => ?_⟩
    have z : letD (dF l) = true := by
      cases q : letD (dF l) with
      | true => rfl
      | false => exact absurd ⟨l, hl, q⟩ h
    have hg : g l = match dF l with | .str x => x | _ => l := rfl
    rw [hg]
    revert z
    cases dF l with
    | str x => exact fun z => ⟨rfl, z⟩
    | _ => exact fun z => nomatch z
end KL
set_option Elab.async false
set_option linter.all false
set_option maxRecDepth 100000
set_option maxHeartbeats 8000000
namespace KL
open PySem L2 PySem.KX PySem.Spec PyProof.Rows
/-! ### a list of new tuples that is being made -/
def BuiltTo (H0 : Hp) (D : Addr) (ds : List PyData) (H' : Hp) : Prop := ∃ Hk vs, Same H0 Hk ∧ Hk D = none ∧ MadeTo Hk D vs H' ∧ DqAll Hk vs ds
theorem BuiltTo.start {H0 : Hp} {D : Addr} (nD : H0 D = none) : BuiltTo H0 D [] (upd H0 D (.lst [])) := ⟨H0, [], Same.refl _, nD, ⟨same_new nD, upd_same⟩, .nil⟩
theorem BuiltTo.s {H0 H' : Hp} {D : Addr} {ds : List PyData} (M : BuiltTo H0 D ds H') : Same H0 H' := by
  obtain ⟨Hk, vs, S, _, M, _⟩ := M
  exact S.trans M.1
theorem BuiltTo.more {H0 H' : Hp} {D q : Addr} {ds : List PyData} {ws : List V} {d : PyData} (M : BuiltTo H0 D ds H') (nq : H' q = none) (hd : ∀ J, Same H0 J → J q = some (.tup ws) → Dq J (.ref q) d) (few : ds.length ≤ 1000) :
    ∃ acc, upd H' q (.tup ws) D = some (.lst acc) ∧ acc.length < sizeLine ∧ BuiltTo H0 D (ds ++ [d]) (upd (upd H' q (.tup ws)) D (.lst (acc ++ [.ref q]))) := by
  obtain ⟨Hk, vs, S, nD, M, dq⟩ := M
  have qD : D ≠ q := fun z => by
    rw [← z, M.2] at nq
    cases nq
  have nk : Hk q = none := M.1.free nq
  have Sk := same_new (o := .tup ws) nk
  refine ⟨vs, by rw [upd_ne qD]; exact M.2, by rw [dq_len dq, sizeLine_eq]; omega, upd Hk q (.tup ws), vs ++ [.ref q], S.trans Sk, by rw [upd_ne qD]; exact nD, ⟨fun b o e => ?_, upd_same⟩, (DqAll.same Sk _ _ dq).snoc (hd _ (S.trans Sk) upd_same)⟩
  have bD : b ≠ D := fun z => by
    rw [z, upd_ne qD, nD] at e
    cases e
  rw [upd_ne bD]
  by_cases z : b = q
  · rw [z, upd_same] at e ⊢
    exact e
  · rw [upd_ne z] at e ⊢
    exact M.1 _ _ e
/-! ### rows that can be sorted -/
theorem alike_all {xs ys : List PyData} (h : ∀ x ∈ xs, ∀ y ∈ ys, PySem.W.alike x y = true) : PySem.W.alikeAll xs ys = true := by
  induction xs generalizing ys with
  | nil => cases ys <;> simp [PySem.W.alikeAll]
  | cons x xs ih =>
    cases ys with
    | nil => simp [PySem.W.alikeAll]
    | cons y ys =>
      rw [PySem.W.alikeAll, h x List.mem_cons_self y List.mem_cons_self, ih fun a ha b hb => h a (List.mem_cons_of_mem _ ha) b (List.mem_cons_of_mem _ hb)]
      rfl
theorem form_ints {n : Int} {d : PyData} (h : formD n d = true) : ∃ ds, d = .tuple ds ∧ ∀ x ∈ ds, ∃ i, x = .int i := by
  cases d with
  | tuple ds =>
    have h : (decide ((ds.length : Int) = n + 1) && ds.all intD) = true := h
    refine ⟨ds, rfl, fun x hx => ?_⟩
    have := List.all_eq_true.mp (Bool.and_eq_true_iff.mp h).2 x hx
    cases x with
    | int i => exact ⟨i, rfl⟩
    | _ => cases this
  | _ => cases h
theorem alike_form {n k : Int} {d e : PyData} (h : formD n d = true) (h' : formD k e = true) : PySem.W.alike d e = true := by
  obtain ⟨ds, rfl, hd⟩ := form_ints h
  obtain ⟨es, rfl, he⟩ := form_ints h'
  rw [PySem.W.alike]
  refine alike_all fun x hx y hy => ?_
  obtain ⟨i, rfl⟩ := hd x hx
  obtain ⟨j, rfl⟩ := he y hy
  simp [PySem.W.alike]
theorem mark_str {d : PyData} (h : markD d = true) : ∃ x, d = .str x := by
  cases d with
  | str x => exact ⟨x, rfl⟩
  | _ => cases h
theorem alike_arrow {m : HM} {r s : Row} {x y : Str} (h : RightA m r) (h' : RightA m s) : PySem.W.alike (rowE (r.1, x, r.2.2)) (rowE (s.1, y, s.2.2)) = true := by
  obtain ⟨t, fs, ms, e, _, _, _, hf, _, hm⟩ := h.e
  obtain ⟨t', fs', ms', e', _, _, _, hf', _, hm'⟩ := h'.e
  unfold rowE
  dsimp only
  rw [e, e']
  have a1 : PySem.W.alikeAll fs fs' = true := alike_all fun x hx y hy => alike_form (hf x hx) (hf' y hy)
  have a2 : PySem.W.alikeAll ms ms' = true := alike_all fun x hx y hy => by
    obtain ⟨i, rfl⟩ := mark_str (hm x hx)
    obtain ⟨j, rfl⟩ := mark_str (hm' y hy)
    simp [PySem.W.alike]
  simp [PySem.W.alike, PySem.W.alikeAll, a1, a2]
theorem alike_test {m : HM} {r s : Row} {x y : Str} (h : RightT m r) (h' : RightT m s) : PySem.W.alike (rowE (r.1, x, r.2.2)) (rowE (s.1, y, s.2.2)) = true := by
  obtain ⟨f, lo, hi, e, hf, _⟩ := h.e
  obtain ⟨f', lo', hi', e', hf', _⟩ := h'.e
  unfold rowE
  dsimp only
  rw [e, e']
  have a1 : PySem.W.alike f f' = true := alike_form hf hf'
  simp [PySem.W.alike, PySem.W.alikeAll, a1]
theorem rows_alike {m : HM} {f : Str → Str} {rows : List Row} (h : ∀ r ∈ rows, ∀ s ∈ rows, ∀ x y, PySem.W.alike (rowE (r.1, x, r.2.2)) (rowE (s.1, y, s.2.2)) = true) : PySem.W.AllAlike ((rows.map (renR f)).map rowE) := fun d hd d' hd' => by
  rw [List.map_map] at hd hd'
  obtain ⟨r, hr, rfl⟩ := List.mem_map.mp hd
  obtain ⟨s, hs, rfl⟩ := List.mem_map.mp hd'
  exact h r hr s hs _ _
theorem rows_sortable {f : Str → Str} {rows : List Row} : PySem.W.Sortable ((rows.map (renR f)).map rowE) := .inl fun d hd => by
  rw [List.map_map] at hd
  obtain ⟨r, hr, rfl⟩ := List.mem_map.mp hd
  exact ⟨_, _, rfl⟩
theorem deeds_alike {f : Str → Str} {ds : List (Str × Int)} : PySem.W.AllAlike ((ds.map (renD f)).map dE) := fun d hd d' hd' => by
  rw [List.map_map] at hd hd'
  obtain ⟨r, hr, rfl⟩ := List.mem_map.mp hd
  obtain ⟨s, hs, rfl⟩ := List.mem_map.mp hd'
  simp [dE, renD, PySem.W.alike, PySem.W.alikeAll]
theorem deeds_sortable {f : Str → Str} {ds : List (Str × Int)} : PySem.W.Sortable ((ds.map (renD f)).map dE) := .inl fun d hd => by
  rw [List.map_map] at hd
  obtain ⟨r, hr, rfl⟩ := List.mem_map.mp hd
  exact ⟨_, _, rfl⟩
theorem fit_lay {ds : List PyData} (h : Fit (.tuple ds)) : PyData.canLayAll0 ds = true ∧ PyData.depthAll ds ≤ 20 := by
  refine ⟨lay_plains ds (by simpa [plainD] using h.2) h.1.tx, ?_⟩
  have : PyData.depthAll ds + 1 ≤ 4 := h.1.dp
  omega
/-- before they are sorted -/
theorem FitH.pre {m : HM} (h : FitH m) (hR : RightH m) {f : Str → Str} (hl : ∀ l ∈ m.deeds.map (·.1), letS (f l) = true) : Fit (.tuple ((m.deeds.map (renD f)).map dE)) ∧ Fit (.tuple ((m.arrows.map (renR f)).map rowE)) ∧ Fit (.tuple ((m.tests.map (renR f)).map rowE)) := by
  have p := (h.ren hR hl).at
  exact ⟨fit_perm p.h1 ((sortDs_perm _).symm.map dE), fit_perm p.h6 ((sortR_perm _).symm.map rowE), fit_perm p.h7 ((sortR_perm _).symm.map rowE)⟩
end KL
set_option Elab.async false
set_option linter.all false
set_option maxRecDepth 100000
set_option maxHeartbeats 16000000
namespace KL
open PySem L2 PySem.KX PySem.Spec PyProof.Rows
/-! ### House.renamed -/
abbrev nRen : List Str := ["self", "letters", "new", "deeds", "arrows", "tests", "letter", "owner", "source", "deed", "target", "forms", "marks", "form", "low", "high"]
section
variable {P : Program} {w : World} {K : PySem.W.Frag} {mg : Str → Option Value} {base : Heap} {C CB IB fI : Addr} {dI : FuncData}
theorem scRen : FnScope nRen kwPs (defScope sRenamed) := ⟨rfl, rfl, rfl, by decide +kernel, rfl, by decide +kernel, by decide +kernel⟩
def spRen (C CB : Addr) : Sp := fun vs H Q E => ∃ (x p : Addr) (m : HM) (kvs : List (Key × V)) (dF : Str → PyData), vs = [.ref x, .ref p] ∧ HsAt C H x m ∧ RightH m ∧ FitH m ∧ H p = some (.dK kvs) ∧
  (∀ l ∈ m.deeds.map (·.1), Dq H (valOf kvs l) (dF l) ∧ smB (dF l) = true) ∧ (∀ f, Called m dF f → Apart m f → ∀ H' y, Same H H' → HsAt C H' y (m.ren f) → Q (.ref y) H') ∧
  ((∀ f, Called m dF f → ¬ Apart m f) → ∀ H' dd, Same H H' → H' dd = some (.xd [("part", .str "deeds")]) → E (.ref CB) (some dd) H')
theorem deed_at {H : Hp} {ds : List (Str × Int)} {xs : List V} {i : Nat} {y : V} (q : DqAll H xs (ds.map dE)) (hy : xs[i]? = some y) : ∃ d c, ds[i]? = some d ∧ y = .ref c ∧ H c = some (.tup [.str d.1, .int d.2]) := by
  obtain ⟨d', hd', hq⟩ := DqAll.at q hy
  rw [List.getElem?_map] at hd'
  cases ex : ds[i]? with
  | none =>
    rw [ex] at hd'
    cases hd'
  | some d =>
    rw [ex] at hd'
    cases hd'
    cases hq with
    | @tup c vs _ ec hz =>
      cases hz with
      | cons p0 hz =>
      cases hz with
      | cons p1 hz =>
      cases hz
      cases p0
      cases p1
      exact ⟨d, c, rfl, rfl, ec⟩
theorem row_at5 {H : Hp} {rows : List Row} {xs : List V} {i : Nat} {y : V} {e0 e1 e2 : Row → PyData} (h3 : ∀ r ∈ rows, r.2.2 = [e0 r, e1 r, e2 r]) (q : DqAll H xs (rows.map rowE)) (hy : xs[i]? = some y) :
    ∃ r c u0 u1 u2, rows[i]? = some r ∧ y = .ref c ∧ H c = some (.tup [.int r.1, .str r.2.1, u0, u1, u2]) ∧ Dq H u0 (e0 r) ∧ Dq H u1 (e1 r) ∧ Dq H u2 (e2 r) := by
  obtain ⟨d', hd', hq⟩ := DqAll.at q hy
  rw [List.getElem?_map] at hd'
  cases ex : rows[i]? with
  | none =>
    rw [ex] at hd'
    cases hd'
  | some r =>
    rw [ex] at hd'
    cases hd'
    have e := h3 r (List.mem_of_getElem? ex)
    unfold rowE at hq
    rw [e] at hq
    cases hq with
    | @tup c vs _ ec hz =>
      cases hz with
      | cons p0 hz =>
      cases hz with
      | cons p1 hz =>
      cases hz with
      | cons p2 hz =>
      cases hz with
      | cons p3 hz =>
      cases hz with
      | cons p4 hz =>
      cases hz
      cases p0
      cases p1
      exact ⟨r, c, _, _, _, rfl, rfl, ec, p2, p3, p4⟩
theorem ok_ren {f g1 : Addr} {fd gd1 : FuncData} (F : Fun K "renamed" "House.renamed" sRenamed f fd) (T : TxtH K C) (TB : TxtB mg) (TE : TxtE K mg CB IB) (ms : mg "sorted" = none) (mC : mg "House" = some (.ref C)) (G : FnOk P w K mg base (L2.CX P w) 6 fI dI pInit9 (spInit C CB)) (M : Mk K C fI) (bI : L2.Binds K dI pInit9 [])
    (G1 : FnOk P w K mg base CX0 1 g1 gd1 ["thing"] (spTest letD)) (c1 : Cal K mg "is_letter" g1 gd1 ["thing"]) :
    FnKw P w K mg base (L2.CX P w) 8 f fd (spRen C CB) := by
  refine fnKw F scRen (fun vs H Q E h => (by
    obtain ⟨x, p, m, kvs, dF, rfl, _⟩ := h
    rfl)) (fun cdv A outer s H vs Q E hr h tk po => ?_)
  obtain ⟨x, p, m, kvs, dF, rfl, hH, hR, hF, hp, hv, kQ, kE⟩ := h
  obtain ⟨dx, fs, v1, v2, v4, v6, v7, v8, hx, hf, q1, q2, q4, q6, q7, q8⟩ := hH
  obtain ⟨f0, f1, f2, f3, f4, f5, f6, f7, f8, fnm⟩ := hf
  have nd := scRen.nd
  have hu : _ + 1 < cLine := hu_of hr
  have hr1 : Room 1 _ := hr.mono (by decide)
  refine ⟨_, pss_cons (ps_set (i := 2) nd rfl (.inr rfl) (pe_dc (own := [("letter", 6), ("owner", 7)]) (g := gTup K 2 (gCons (gName 6) (gCons (gName 7) gNil))) (tt := tYes) rfl nd (pi_tup (pe_fld (pv 0) (by rfl))) (blkOk_by (N := nRen) (sc := defScope sRenamed) (by decide +kernel)) (fun _ _ _ _ _ => pg_tup rfl (pgs_cons (pg_name (i := 6) nd rfl (.inl rfl)) (pgs_cons (pg_name (i := 7) nd rfl (.inl rfl)) pgs_nil)))
      (fun _ _ _ _ _ => pts_nil) (fun _ _ _ _ _ => pv 6) (fun _ _ _ _ _ => pe_dget2 hu (pv 1) (pv 6) (pv 6) ⟨rfl, rfl, rfl, rfl⟩)))
    (C8.pss_cut (ps_if (pt_not (pt_val (pe_callB (cr_all rfl) (by rfl) TB.all (by decide +kernel) (pa_cons (pe_lock (pe_lc (own := [("letter", 6)]) (g := gName 6) (tt := tYes) rfl nd (pi_keys (pv 2)) (blkOk_by (N := nRen) (sc := defScope sRenamed) (by decide +kernel)) (fun _ _ _ _ _ => pg_name (i := 6) nd rfl (.inl rfl)) (fun _ _ _ _ _ => pts_nil)
        (fun _ _ _ _ _ => pe_call G1 hr1 (by rfl) c1.m c1.k c1.b .nil pass0 (pa_cons (pe_dget hu (pv 2) (pv 6) (fun _ _ => rfl)) pa_nil)))) pa_nil)))) (pss_one (ps_raise rfl tk (pmk_ex TE.ei TE.ty TE.m hr1 (by rfl) (pa_cons pe_str pa_nil)))) pss_nil)
    (C8.pss_cut (ps_setLc (i := 3) (own := [("letter", 6), ("owner", 7)]) (g := gTup K 2 (gCons (gName 6) (gCons (gName 7) gNil))) (tt := tYes) rfl nd rfl rfl (by rfl) (pi_tup (pe_fld (pv 0) (by rfl))) (blkOk_by (N := nRen) (sc := defScope sRenamed) (by decide +kernel)) (fun _ _ _ _ _ => pg_tup rfl (pgs_cons (pg_name (i := 6) nd rfl (.inl rfl)) (pgs_cons (pg_name (i := 7) nd rfl (.inl rfl)) pgs_nil)))
        (fun _ _ _ _ _ => pts_nil) (fun _ _ _ _ _ => pe_tup (pa_cons (pe_dget hu (pv 2) (pv 6) (fun _ _ => rfl)) (pa_cons (pv 7) pa_nil))))
    (C8.pss_cut (ps_setLc (i := 4) (own := [("source", 8), ("deed", 9), ("target", 10), ("forms", 11), ("marks", 12)]) (g := gTup K 5 (gCons (gName 8) (gCons (gName 9) (gCons (gName 10) (gCons (gName 11) (gCons (gName 12) gNil)))))) (tt := tYes) rfl nd rfl rfl (by rfl) (pi_tup (pe_fld (pv 0) (by rfl))) (blkOk_by (N := nRen) (sc := defScope sRenamed) (by decide +kernel)) (fun _ _ _ _ _ => pg_tup rfl (pgs_cons (pg_name (i := 8) nd rfl (.inl rfl)) (pgs_cons (pg_name (i := 9) nd rfl (.inl rfl)) (pgs_cons (pg_name (i := 10) nd rfl (.inl rfl)) (pgs_cons (pg_name (i := 11) nd rfl (.inl rfl)) (pgs_cons (pg_name (i := 12) nd rfl (.inl rfl)) pgs_nil))))))
        (fun _ _ _ _ _ => pts_nil) (fun _ _ _ _ _ => pe_tup (pa_cons (pv 8) (pa_cons (pe_dget hu (pv 2) (pv 9) (fun _ _ => rfl)) (pa_cons (pv 10) (pa_cons (pv 11) (pa_cons (pv 12) pa_nil)))))))
    (C8.pss_cut (ps_setLc (i := 5) (own := [("source", 8), ("deed", 9), ("form", 13), ("low", 14), ("high", 15)]) (g := gTup K 5 (gCons (gName 8) (gCons (gName 9) (gCons (gName 13) (gCons (gName 14) (gCons (gName 15) gNil)))))) (tt := tYes) rfl nd rfl rfl (by rfl) (pi_tup (pe_fld (pv 0) (by rfl))) (blkOk_by (N := nRen) (sc := defScope sRenamed) (by decide +kernel)) (fun _ _ _ _ _ => pg_tup rfl (pgs_cons (pg_name (i := 8) nd rfl (.inl rfl)) (pgs_cons (pg_name (i := 9) nd rfl (.inl rfl)) (pgs_cons (pg_name (i := 13) nd rfl (.inl rfl)) (pgs_cons (pg_name (i := 14) nd rfl (.inl rfl)) (pgs_cons (pg_name (i := 15) nd rfl (.inl rfl)) pgs_nil))))))
        (fun _ _ _ _ _ => pts_nil) (fun _ _ _ _ _ => pe_tup (pa_cons (pv 8) (pa_cons (pe_dget hu (pv 2) (pv 9) (fun _ _ => rfl)) (pa_cons (pv 13) (pa_cons (pv 14) (pa_cons (pv 15) pa_nil)))))))
    (pss_one (ps_ret (pe_mkS M G hr (by rfl) mC bI (fun σ => passAt tk σ) (pa_cons (pe_fld (pv 0) (by rfl)) (pa_cons (pe_tupleOf (by rfl) TB.tuple (pe_callB (cr_sortedQ hr.units) (by rfl) ms (by decide +kernel) (pa_cons (pv 3) pa_nil))) (pa_cons (pe_fld (pv 0) (by rfl)) (pa_cons (pe_fld (pv 0) (by rfl)) (pa_cons (pe_fld (pv 0) (by rfl)) (pa_cons (pe_fld (pv 0) (by rfl)) (pa_cons (pe_tupleOf (by rfl) TB.tuple (pe_callB (cr_sortedQ hr.units) (by rfl) ms (by decide +kernel) (pa_cons (pv 4) pa_nil))) (pa_cons (pe_tupleOf (by rfl) TB.tuple (pe_callB (cr_sortedQ hr.units) (by rfl) ms (by decide +kernel) (pa_cons (pv 5) pa_nil))) (pa_cons (pe_fld (pv 0) (by rfl)) pa_nil)))))))))))))))), ?_⟩
  obtain ⟨a1, xs1, rfl, e1, qa1⟩ : ∃ a xs, v1 = .ref a ∧ H a = some (.tup xs) ∧ DqAll H xs (m.deeds.map dE) := by
    cases q1 with
    | tup h1 h2 => exact ⟨_, _, rfl, h1, h2⟩
  obtain ⟨a6, xs6, rfl, e6, qa6⟩ : ∃ a xs, v6 = .ref a ∧ H a = some (.tup xs) ∧ DqAll H xs (m.arrows.map rowE) := by
    cases q6 with
    | tup h1 h2 => exact ⟨_, _, rfl, h1, h2⟩
  obtain ⟨a7, xs7, rfl, e7, qa7⟩ : ∃ a xs, v7 = .ref a ∧ H a = some (.tup xs) ∧ DqAll H xs (m.tests.map rowE) := by
    cases q7 with
    | tup h1 h2 => exact ⟨_, _, rfl, h1, h2⟩
  have l1 : xs1.length = m.deeds.length := by rw [dq_len qa1, List.length_map]
  have l6 : xs6.length = m.arrows.length := by rw [dq_len qa6, List.length_map]
  have l7 : xs7.length = m.tests.length := by rw [dq_len qa7, List.length_map]
  have few6 : m.arrows.length ≤ 20 := by
    have : max (m.arrows.map rowE).length (wdAll (m.arrows.map rowE)) ≤ 20 := hF.at.h6.1.wd
    rw [List.length_map] at this
    omega
  have few7 : m.tests.length ≤ 20 := by
    have : max (m.tests.map rowE).length (wdAll (m.tests.map rowE)) ≤ 20 := hF.at.h7.1.wd
    rw [List.length_map] at this
    omega
  have few1 := hR.d5
  have mem : ∀ {d : Str × Int}, d ∈ m.deeds → d.1 ∈ m.deeds.map (·.1) := fun h => List.mem_map.mpr ⟨_, h, rfl⟩
  -- the dict of new letters
  refine ⟨_, rfl, x, C, dx, _, _, rfl, hx, T.c, T.deeds, f1, a1, rfl, ⟨_, SqT.of e1⟩, fun D nD => ?_⟩
  refine dc_tup (K := K) (a := a1) (xs := xs1) (fun i H2 => Same H H2 ∧ H2 D = some (.dK (newK kvs (m.deeds.take i)))) ⟨same_new nD, upd_same⟩ (fun i H2 _ M => SqT.of (M.1 _ _ e1)) ?_ ?_
  · rintro i y H2 hy ⟨S2, h2⟩
    obtain ⟨d, c, hd, rfl, ec⟩ := deed_at qa1 hy
    have hi : i < m.deeds.length := (List.getElem?_eq_some_iff.mp hd).1
    have et : m.deeds.take (i + 1) = m.deeds.take i ++ [d] := by
      rw [List.take_add_one, hd]
      rfl
    refine ⟨c, _, rfl, SqT.of (S2 _ _ ec), rfl, _, _, rfl, _, _, rfl, rfl, rfl, _, rfl, _, rfl, p, rfl, .inl ⟨kvs, .inl (S2 _ _ hp)⟩, _, rfl, _, rfl, _, DGet.k (k := Sum.inr d.1) (S2 _ _ hp), _, Sum.inr d.1, rfl, h2, ?_, ?_, ?_⟩
    · unfold newK
      rw [List.length_map, List.length_take, sizeLine_eq]
      omega
    · intro b o e
      rw [upd_ne (ne_of_none e nD)]
      exact S2 _ _ e
    · rw [upd_same, putK_fresh, et]
      · unfold newK
        rw [List.map_append]
        rfl
      · intro q hq
        obtain ⟨d2, hd2, rfl⟩ := List.mem_map.mp hq
        intro z
        have z : d2.1 = d.1 := Sum.inr.inj z
        obtain ⟨j, hj, e2⟩ := List.mem_iff_getElem.mp hd2
        rw [List.length_take] at hj
        rw [List.getElem_take] at e2
        have := List.pairwise_iff_getElem.mp hR.ds j i (by omega) hi (by omega)
        rw [e2, show m.deeds[i] = d from by
          have := (List.getElem?_eq_some_iff.mp hd).2
          exact this, z] at this
        exact sLt_irrefl this
  rintro H2 ⟨S2, h2⟩
  rw [l1, List.take_length] at h2
  generalize hnk : newK kvs m.deeds = nk at h2
  have val : ∀ {l : Str}, l ∈ m.deeds.map (·.1) → valV nk (.inr l) = some (valOf kvs l) := fun hl => by
    rw [← hnk]
    exact valV_new hl
  -- whether all are letters
  refine ⟨fun σ H' => ∃ D f', σ = [some (.ref x), some (.ref p), some (.ref D), none, none, none, none, none, none, none, none, none, none, none, none, none] ∧ Same H H' ∧ H' D = some (.dK (newK kvs m.deeds)) ∧ Called m dF f', ?_, ?_⟩
  rotate_left
  · rintro σ4 H4 ⟨D, f', rfl, S4, h4D, hc⟩
    generalize hnk' : newK kvs m.deeds = nk at h4D
    have val : ∀ {l : Str}, l ∈ m.deeds.map (·.1) → valV nk (.inr l) = some (valOf kvs l) := fun hl => by
      rw [← hnk']
      exact valV_new hl
    have vv : ∀ {l : Str}, l ∈ m.deeds.map (·.1) → valOf kvs l = .str (f' l) := fun {l} hl => by
      have q := (hv l hl).1
      rw [(hc l hl).1] at q
      revert q
      generalize valOf kvs l = v
      intro q
      cases q
      rfl
    have lt : ∀ l ∈ m.deeds.map (·.1), letS (f' l) = true := fun l hl => (hc l hl).2
    obtain ⟨fitD, fitA, fitT⟩ := hF.pre hR lt
    -- the deeds
    refine ⟨fun σ H' => ∃ D3 us3, σ = [some (.ref x), some (.ref p), some (.ref D), some (.ref D3), none, none, none, none, none, none, none, none, none, none, none, none] ∧ Same H H' ∧ H' D = some (.dK nk) ∧ H' D3 = some (.lst us3) ∧ DqAll H' us3 ((m.deeds.map (renD f')).map dE), ?_, ?_⟩
    · refine ⟨_, rfl, x, C, dx, _, _, rfl, S4 _ _ hx, T.c, T.deeds, f1, a1, rfl, ⟨_, SqT.of (S4 _ _ e1)⟩, fun D3 n3 => ?_⟩
      refine lc_tup (K := K) (a := a1) (xs := xs1) (fun i H' => BuiltTo H4 D3 (((m.deeds.take i).map (renD f')).map dE) H') (.start n3) (fun i H' _ M => SqT.of (M.s _ _ (S4 _ _ e1))) ?_ ?_
      · rintro i y H5 hy M
        obtain ⟨d, c, hd, rfl, ec⟩ := deed_at qa1 hy
        have hm := mem (List.mem_of_getElem? hd)
        have et : m.deeds.take (i + 1) = m.deeds.take i ++ [d] := by
          rw [List.take_add_one, hd]
          rfl
        refine ⟨c, _, rfl, SqT.of (M.s _ _ (S4 _ _ ec)), rfl, _, _, rfl, _, _, rfl, rfl, rfl, _, rfl, _, rfl, D, valOf kvs d.1, rfl, .inl ⟨nk, Sum.inr d.1, .inl (M.s _ _ h4D), rfl, (val hm).symm⟩, _, rfl, (by show 2 ≤ sizeLine; decide), fun q nq => ?_⟩
        rw [vv hm, et, List.map_append, List.map_append]
        obtain ⟨acc, z1, z2, z3⟩ := M.more (d := dE (renD f' d)) nq (fun J _ hq => .tup hq (.cons (.str _) (.cons (.int _) .nil))) (by rw [List.length_map, List.length_map, List.length_take]; omega)
        exact ⟨acc, z1, z2, z3⟩
      rintro H5 M5
      rw [l1, List.take_length] at M5
      have S45 := M5.s
      have S5 := S4.trans S45
      obtain ⟨Hk3, us3, Sk3, nk3, Mk3, dq3⟩ := M5
      have d5 := DqAll.same Mk3.1 _ _ dq3
      have h53 := Mk3.2
      exact ⟨D3, us3, rfl, S5, S45 _ _ h4D, h53, d5⟩
    rintro σ5 H5 ⟨D3, us3, rfl, S5, h5D, h53, d5⟩
    -- the arrows
    have three6 : ∀ r ∈ m.arrows, r.2.2 = [r.2.2.getD 0 .none, r.2.2.getD 1 .none, r.2.2.getD 2 .none] := fun r hr => by
      obtain ⟨t, fs', ms', e, _⟩ := (hR.aa r hr).e
      rw [e]
      rfl
    have three7 : ∀ r ∈ m.tests, r.2.2 = [r.2.2.getD 0 .none, r.2.2.getD 1 .none, r.2.2.getD 2 .none] := fun r hr => by
      obtain ⟨fo, lo, hi, e, _⟩ := (hR.ta r hr).e
      rw [e]
      rfl
    refine ⟨fun σ H' => ∃ D4 us4, σ = [some (.ref x), some (.ref p), some (.ref D), some (.ref D3), some (.ref D4), none, none, none, none, none, none, none, none, none, none, none] ∧ Same H H' ∧ H' D = some (.dK nk) ∧ H' D3 = some (.lst us3) ∧ DqAll H' us3 ((m.deeds.map (renD f')).map dE) ∧ H' D4 = some (.lst us4) ∧ DqAll H' us4 ((m.arrows.map (renR f')).map rowE), ?_, ?_⟩
    · refine ⟨_, rfl, x, C, dx, _, _, rfl, S5 _ _ hx, T.c, T.arrows, f6, a6, rfl, ⟨_, SqT.of (S5 _ _ e6)⟩, fun D4 n4 => ?_⟩
      refine lc_tup (K := K) (a := a6) (xs := xs6) (fun i H' => BuiltTo H5 D4 (((m.arrows.take i).map (renR f')).map rowE) H') (.start n4) (fun i H' _ M => SqT.of (M.s _ _ (S5 _ _ e6))) ?_ ?_
      · rintro i y H6 hy M
        obtain ⟨r, c, u0, u1, u2, hr, rfl, ec, k0, k1, k2⟩ := row_at5 three6 qa6 hy
        have hm := (hR.aa r (List.mem_of_getElem? hr)).l
        have et : m.arrows.take (i + 1) = m.arrows.take i ++ [r] := by
          rw [List.take_add_one, hr]
          rfl
        refine ⟨c, _, rfl, SqT.of (M.s _ _ (S5 _ _ ec)), rfl, _, _, rfl, _, _, rfl, _, _, rfl, _, _, rfl, _, _, rfl, rfl, ?_, ?_⟩
        · kernel_rfl
        refine ⟨_, rfl, _, rfl, _, rfl, D, valOf kvs r.2.1, rfl, .inl ⟨nk, Sum.inr r.2.1, .inl (M.s _ _ h5D), rfl, (val hm).symm⟩, _, rfl, _, rfl, _, rfl, (by show 5 ≤ sizeLine; decide), fun q nq => ?_⟩
        rw [vv hm, et, List.map_append, List.map_append]
        obtain ⟨acc, z1, z2, z3⟩ := M.more (d := rowE (renR f' r)) nq (fun J SJ hq => by
          unfold rowE renR
          dsimp only
          rw [three6 r (List.mem_of_getElem? hr)]
          exact .tup hq (.cons (.int _) (.cons (.str _) (.cons (Dq.same (S5.trans SJ) _ _ k0) (.cons (Dq.same (S5.trans SJ) _ _ k1) (.cons (Dq.same (S5.trans SJ) _ _ k2) .nil)))))) (by rw [List.length_map, List.length_map, List.length_take]; omega)
        exact ⟨acc, z1, z2, z3⟩
      rintro H6 M6
      rw [l6, List.take_length] at M6
      have S56 := M6.s
      have S6 := S5.trans S56
      obtain ⟨Hk4, us4, Sk4, nk4, Mk4, dq4⟩ := M6
      have d6 := DqAll.same Mk4.1 _ _ dq4
      have h64 := Mk4.2
      exact ⟨D4, us4, rfl, S6, S56 _ _ h5D, S56 _ _ h53, DqAll.same S56 _ _ d5, h64, d6⟩
    rintro σ6 H6 ⟨D4, us4, rfl, S6, h6D, h63, d5, h64, d6⟩
    -- the tests
    refine ⟨fun σ H' => ∃ D5 us5, σ = [some (.ref x), some (.ref p), some (.ref D), some (.ref D3), some (.ref D4), some (.ref D5), none, none, none, none, none, none, none, none, none, none] ∧ Same H H' ∧ H' D3 = some (.lst us3) ∧ DqAll H' us3 ((m.deeds.map (renD f')).map dE) ∧ H' D4 = some (.lst us4) ∧ DqAll H' us4 ((m.arrows.map (renR f')).map rowE) ∧ H' D5 = some (.lst us5) ∧ DqAll H' us5 ((m.tests.map (renR f')).map rowE), ?_, ?_⟩
    · refine ⟨_, rfl, x, C, dx, _, _, rfl, S6 _ _ hx, T.c, T.tests, f7, a7, rfl, ⟨_, SqT.of (S6 _ _ e7)⟩, fun D5 n5 => ?_⟩
      refine lc_tup (K := K) (a := a7) (xs := xs7) (fun i H' => BuiltTo H6 D5 (((m.tests.take i).map (renR f')).map rowE) H') (.start n5) (fun i H' _ M => SqT.of (M.s _ _ (S6 _ _ e7))) ?_ ?_
      · rintro i y H7 hy M
        obtain ⟨r, c, u0, u1, u2, hr, rfl, ec, k0, k1, k2⟩ := row_at5 three7 qa7 hy
        have hm := hR.testL (List.mem_of_getElem? hr)
        have et : m.tests.take (i + 1) = m.tests.take i ++ [r] := by
          rw [List.take_add_one, hr]
          rfl
        refine ⟨c, _, rfl, SqT.of (M.s _ _ (S6 _ _ ec)), rfl, _, _, rfl, _, _, rfl, _, _, rfl, _, _, rfl, _, _, rfl, rfl, ?_, ?_⟩
        · kernel_rfl
        refine ⟨_, rfl, _, rfl, _, rfl, D, valOf kvs r.2.1, rfl, .inl ⟨nk, Sum.inr r.2.1, .inl (M.s _ _ h6D), rfl, (val hm).symm⟩, _, rfl, _, rfl, _, rfl, (by show 5 ≤ sizeLine; decide), fun q nq => ?_⟩
        rw [vv hm, et, List.map_append, List.map_append]
        obtain ⟨acc, z1, z2, z3⟩ := M.more (d := rowE (renR f' r)) nq (fun J SJ hq => by
          unfold rowE renR
          dsimp only
          rw [three7 r (List.mem_of_getElem? hr)]
          exact .tup hq (.cons (.int _) (.cons (.str _) (.cons (Dq.same (S6.trans SJ) _ _ k0) (.cons (Dq.same (S6.trans SJ) _ _ k1) (.cons (Dq.same (S6.trans SJ) _ _ k2) .nil)))))) (by rw [List.length_map, List.length_map, List.length_take]; omega)
        exact ⟨acc, z1, z2, z3⟩
      rintro H7 M7
      rw [l7, List.take_length] at M7
      have S67 := M7.s
      have S7 := S6.trans S67
      obtain ⟨Hk5, us5, Sk5, nk5, Mk5, dq5⟩ := M7
      have d7 := DqAll.same Mk5.1 _ _ dq5
      have h75 := Mk5.2
      exact ⟨D5, us5, rfl, S7, S67 _ _ h63, DqAll.same S67 _ _ d5, S67 _ _ h64, DqAll.same S67 _ _ d6, h75, d7⟩
    rintro σ7 H7 ⟨D5, us5, rfl, S7, h73, d5, h74, d6, h75, d7⟩
    obtain ⟨lay3, dep3⟩ := fit_lay fitD
    obtain ⟨lay4, dep4⟩ := fit_lay fitA
    obtain ⟨lay5, dep5⟩ := fit_lay fitT
    have hx7 := S7 _ _ hx
    refine ⟨_, rfl, x, C, dx, _, _, rfl, hx7, T.c, T.people, f0, _, rfl, H7, D3, us3, _, rfl, SqL.of h73, Same.refl _, d5, lay3, deeds_alike, deeds_sortable, dep3, fun ys3 p3 qy3 np3 => ?_⟩
    refine .inl ⟨p3, ys3, rfl, SqL.of upd_same, fun t3 nt3 => ?_⟩
    have S8 := (same_new (o := .lst ys3) np3).trans (same_new (o := .tup ys3) nt3)
    have g3 : upd (upd H7 p3 (.lst ys3)) t3 (HO.tup ys3) t3 = some (.tup ys3) := upd_same
    revert S8 g3
    generalize upd (upd H7 p3 (.lst ys3)) t3 (HO.tup ys3) = H8
    intro S8 g3
    have hx8 := S8 _ _ hx7
    refine ⟨_, rfl, x, C, dx, _, _, rfl, hx8, T.c, T.start, f2, _, rfl, x, C, dx, _, _, rfl, hx8, T.c, T.places, f3, _, rfl, x, C, dx, _, _, rfl, hx8, T.c, T.ends, f4, _, rfl, x, C, dx, _, _, rfl, hx8, T.c, T.logs, f5, _, rfl, H8, D4, us4, _, rfl, SqL.of (S8 _ _ h74), Same.refl _, DqAll.same S8 _ _ d6, lay4, rows_alike (m := m) (fun r hr s hs x y => alike_arrow (hR.aa r hr) (hR.aa s hs)), rows_sortable, dep4, fun ys4 p4 qy4 np4 => ?_⟩
    refine .inl ⟨p4, ys4, rfl, SqL.of upd_same, fun t4 nt4 => ?_⟩
    have S9 := (same_new (o := .lst ys4) np4).trans (same_new (o := .tup ys4) nt4)
    have g4 : upd (upd H8 p4 (.lst ys4)) t4 (HO.tup ys4) t4 = some (.tup ys4) := upd_same
    revert S9 g4
    generalize upd (upd H8 p4 (.lst ys4)) t4 (HO.tup ys4) = H9
    intro S9 g4
    refine ⟨_, rfl, H9, D5, us5, _, rfl, SqL.of (S9 _ _ (S8 _ _ h75)), Same.refl _, DqAll.same (S8.trans S9) _ _ d7, lay5, rows_alike (m := m) (fun r hr s hs x y => alike_test (hR.ta r hr) (hR.ta s hs)), rows_sortable, dep5, fun ys5 p5 qy5 np5 => ?_⟩
    refine .inl ⟨p5, ys5, rfl, SqL.of upd_same, fun t5 nt5 => ?_⟩
    have S10 := (same_new (o := .lst ys5) np5).trans (same_new (o := .tup ys5) nt5)
    have g5 : upd (upd H9 p5 (.lst ys5)) t5 (HO.tup ys5) t5 = some (.tup ys5) := upd_same
    revert S10 g5
    generalize upd (upd H9 p5 (.lst ys5)) t5 (HO.tup ys5) = H10
    intro S10 g5
    have S810 := S9.trans S10
    have S710 := S8.trans S810
    have Sx := S7.trans S710
    refine ⟨_, rfl, x, C, dx, _, _, rfl, S710 _ _ hx7, T.c, T.looks, f8, fun y dy ny ndy ne => ?_⟩
    have Sy : Same H10 (upd (upd H10 dy (.own y)) y (.ins C dy [])) := fun b o e => by
      rw [upd_ne (ne_of_none e ny), upd_ne (ne_of_none e ndy)]
      exact e
    have q1' : Dq H10 (.ref t3) (.tuple ((m.ren f').deeds.map dE)) := by
      rw [show (m.ren f').deeds = sortDs (m.deeds.map (renD f')) from rfl, sortDs_map]
      exact .tup (S810 _ _ g3) (DqAll.same S710 _ _ qy3)
    have q6' : Dq H10 (.ref t4) (.tuple ((m.ren f').arrows.map rowE)) := by
      rw [show (m.ren f').arrows = sortR (m.arrows.map (renR f')) from rfl, sortR_map]
      exact .tup (S10 _ _ g4) (DqAll.same S810 _ _ qy4)
    have q7' : Dq H10 (.ref t5) (.tuple ((m.ren f').tests.map rowE)) := by
      rw [show (m.ren f').tests = sortR (m.tests.map (renR f')) from rfl, sortR_map]
      exact .tup g5 (DqAll.same S10 _ _ qy5)
    have q2 := Dq.same Sx _ _ q2
    have q4 := Dq.same Sx _ _ q4
    have q8 := Dq.same Sx _ _ q8
    refine ⟨H10, y, dy, _, _, _, _, _, _, _, _, _, _, _, _, _, _, _, _, _, _, rfl, Sy, ny, upd_same, .int m.people, q1', q2, .int m.places, q4, .int m.logs, q6', q7', q8, (hF.ren hR lt).at.sm, fun due H11 gs S11 hy hg => ⟨rfl, ?_⟩, fun it e H11 dd v' S11 qv hxd => ?_⟩
    · by_cases ap : Apart m f'
      · exact kQ f' hc ap H11 y (Sx.trans S11) ⟨dy, gs, _, _, _, _, _, _, hy, hg, Dq.same S11 _ _ q1', Dq.same S11 _ _ q2, Dq.same S11 _ _ q4, Dq.same S11 _ _ q6', Dq.same S11 _ _ q7', Dq.same S11 _ _ q8⟩
      · have z := due_dup hR ap
        have due : (m.ren f').due = none := due
        rw [z] at due
        cases due
    · have e : (m.ren f').due = some it := e
      by_cases ap : Apart m f'
      · rw [(hR.ren (fun d hd => lt d.1 (mem hd)) ap).due] at e
        cases e
      · rw [due_dup hR ap] at e
        cases e
        cases qv
        refine kE (fun g hg => ?_) H11 dd (Sx.trans S11) hxd
        have same : ∀ l ∈ m.deeds.map (·.1), g l = f' l := fun l hl => by
          have a := (hg l hl).1
          rw [(hc l hl).1] at a
          injection a with a
          exact a.symm
        intro ag
        refine ap (ag.imp_of_mem fun {a b} ha hb ne => ?_)
        rw [← same _ (mem ha), ← same _ (mem hb)]
        exact ne
  refine ⟨D, .dK nk, h2, trivial, fun od => ?_⟩
  have SL : Same H (upd H2 D (.frz od (.dK nk))) := fun b o e => by
    rw [upd_ne (ne_of_none e nD)]
    exact S2 _ _ e
  have hL : upd H2 D (.frz od (.dK nk)) D = some (.frz od (.dK nk)) := upd_same
  have back : upd (upd H2 D (.frz od (.dK nk))) D (.dK nk) = H2 := by
    funext b
    by_cases z : b = D
    · rw [z, upd_same, h2]
    · rw [upd_ne z, upd_ne z]
  revert SL hL
  generalize hLe : upd H2 D (.frz od (.dK nk)) = L
  intro SL hL
  refine ⟨_, rfl, D, od, rfl, .inl ⟨nk, hL, fun B nB => ?_⟩⟩
  have nkl : nk.length = m.deeds.length := by
    rw [← hnk]
    unfold newK
    rw [List.length_map]
  refine lc_it (walk_keys (d := D) (o := od) (kvs := nk)) (fun i H' => MadeTo L B (((m.deeds.take i).map fun d => letD (dF d.1)).map V.bl) H') ⟨same_new nB, upd_same⟩ (fun i H' _ M => M.1 _ _ hL) ?_ ?_
  · rintro i y H3 H4 hi M ⟨rfl, kk, v, hk, rfl⟩
    rw [← hnk] at hk
    unfold newK at hk
    rw [List.getElem?_map] at hk
    cases hd : m.deeds[i]? with
    | none =>
      rw [hd] at hk
      cases hk
    | some d =>
      rw [hd] at hk
      cases hk
      have hm := mem (List.mem_of_getElem? hd)
      obtain ⟨dq, sm⟩ := hv d.1 hm
      have et : m.deeds.take (i + 1) = m.deeds.take i ++ [d] := by
        rw [List.take_add_one, hd]
        rfl
      refine ⟨rfl, _, rfl, _, rfl, D, valOf kvs d.1, rfl, .inl ⟨nk, Sum.inr d.1, .inr ⟨od, M.1 _ _ hL⟩, rfl, (val hm).symm⟩, valOf kvs d.1, dF d.1, rfl, Dq.same (SL.trans M.1) _ _ dq, sm, fun H5 S5 => ?_⟩
      obtain ⟨h1, M2⟩ := M.more (.bl (letD (dF d.1))) nB S5
      refine ⟨_, h1, by rw [List.length_map, List.length_map, List.length_take, sizeLine_eq]; omega, ?_⟩
      rw [et, List.map_append, List.map_append]
      exact M2
  rintro H3 M
  rw [nkl, List.take_length] at M
  have BD : B ≠ D := fun z => by
    rw [z, hL] at nB
    cases nB
  have S3 : Same H2 (upd H3 D (.dK nk)) := fun b o e => by
    by_cases z : b = D
    · rw [z, upd_same, ← h2, ← z]
      exact e
    · rw [upd_ne z]
      refine M.1 _ _ ?_
      rw [← hLe, upd_ne z]
      exact e
  have hB : upd H3 D (.dK nk) B = some (.lst ((m.deeds.map fun d => letD (dF d.1)).map V.bl)) := by
    rw [upd_ne BD]
    exact M.2
  refine ⟨M.1 _ _ hL, B, _, rfl, SqL.of hB, _, rfl, ?_⟩
  have S4 := S2.trans S3
  have h4D : upd H3 D (.dK nk) D = some (.dK nk) := upd_same
  revert S4 h4D hB
  generalize upd H3 D (.dK nk) = H4
  intro hB S4 h4D
  clear S3 M hL SL back hLe nB nD h2 S2
  rcases called_or (m := m) dF with ⟨f', hc⟩ | ⟨l, hl, bad⟩
  case inr =>
    have b : (m.deeds.map fun d => letD (dF d.1)).all id = false := by
      cases z : (m.deeds.map fun d => letD (dF d.1)).all id with
      | false => rfl
      | true =>
        obtain ⟨d, hd, rfl⟩ := List.mem_map.mp hl
        have := List.all_eq_true.mp z (letD (dF d.1)) (List.mem_map.mpr ⟨d, hd, rfl⟩)
        have this : letD (dF d.1) = true := this
        rw [bad] at this
        cases this
    refine iteYes (by rw [b]; rfl) ⟨_, rfl, fun dd ndd => kE (fun g hg _ => ?_) _ dd (S4.trans (same_new ndd)) upd_same⟩
    obtain ⟨e, z⟩ := hg l hl
    rw [e] at bad
    have bad : letS (g l) = false := bad
    rw [bad] at z
    cases z
  have b : (m.deeds.map fun d => letD (dF d.1)).all id = true := List.all_eq_true.mpr fun y hy => by
    obtain ⟨d, hd, rfl⟩ := List.mem_map.mp hy
    obtain ⟨e, z⟩ := hc d.1 (mem hd)
    show letD (dF d.1) = true
    rw [e]
    exact z
  exact iteNo (by rw [b]; rfl) ⟨D, f', rfl, S4, by rw [hnk]; exact h4D, hc⟩
end
end KL
set_option Elab.async false
set_option linter.all false
set_option maxRecDepth 100000
set_option maxHeartbeats 8000000
namespace KL
open PySem L2 PySem.KX PySem.Spec PyProof.Rows
/-! ### o.m(k = v, ..), gathered -/
def tMthKw (C : Addr) (m : Str) (ks : List Str) (sp : Sp) (E : L2.St → XK) (ta : TE) (tk : TA) : TE := fun σ H Q => ta σ H fun x H1 => ∃ a dx fs, x = .ref a ∧ H1 a = some (.ins C dx fs) ∧ fs.lookup m = none ∧ tk σ H1 fun zs H2 => zs.length = ks.length ∧ ∀ p, H2 p = none → sp [.ref a, .ref p] (upd H2 p (.dK (kwV ks zs))) Q (E σ)
section
variable {X : Cx} {CX : CXT} {n : Nat} {f C : Addr} {fd : FuncData} {sp : Sp} {o : Expr} {m : Str} {apos pos : Pos} {ta : TE} {tk : TA} {pl : Sem Bool}
theorem pe_methKw {E : L2.St → XK} {ks : List Str} {kws : List Keyword} (he : PE X o ta) (c : Cls X.K C) (hm : Meth X.K C m f) (F : FnKw X.prog X.w X.K X.mg X.base CX n f fd sp) (hr : Room n X.A) (B : ∀ ws : List Value, ws.length = ks.length → BindKw fd (ks.zip ws)) (nd : ks.Nodup) (few : ks.length ≤ 100) (hx : ∀ σ, PassesAt CX X σ (E σ)) (hkw : PK X kws tk)
    (hall : (backToKw pos (keywordEach kws X.env)).all (·.1.isSome) = true := by rfl) (hks : (backToKw pos (keywordEach kws X.env)).filterMap (·.1) = ks := by rfl)
    (hpl : ((backTo pos (starEach [] X.env)).any (·.1) || (backToKw pos (keywordEach kws X.env)).any (·.1.isNone)) = false := by rfl)
    (ht : eval (.Call (.Attribute o m apos) [] kws pos) X.env = (do
      let ov ← eval o X.env
      standAt apos.atName
      let (f, first) ← holding [ov] (getMethod ov m pl)
      callWith pos f first (backTo pos (starEach [] X.env)) (backToKw pos (keywordEach kws X.env))) := by rfl) :
    PE X (.Call (.Attribute o m apos) [] kws pos) (tMthKw C m ks sp E ta tk) := by
  refine ⟨fun pins s σ H Q I h => ?_⟩
  refine PySem.W.methodCall_KW (pl := pl) (thn (he.run pins s σ H _ I h) fun u s1 ⟨x, H1, I1, rx, a, dx, fs, ex, ea, l, q⟩ => ?_) ht
  subst ex
  obtain rfl : u = Value.ref a := rx
  refine getmeth_ok I1 ea c hm l ?_
  refine PySem.W.callWith_KW0 (first := [.ref a]) (h₀ := X.base) I.ok.mod.kin hm.kp hall (thn (hkw.run pos pins s1 σ H1 _ I1 q) fun ws s2 ⟨zs, H2, I2, rz, lz, q2⟩ => ⟨I2.kIn, ?_⟩) hpl
  rw [hks]
  exact run_kw F hr (hx σ) I2 (B ws (rz.length.symm.trans lz)) nd few rz q2
theorem pe_methKw0 {E : L2.St → XK} (he : PE X o ta) (c : Cls X.K C) (hm : Meth X.K C m f) (F : FnKw X.prog X.w X.K X.mg X.base CX n f fd sp) (hr : Room n X.A) (B : BindKw fd []) (hx : ∀ σ, PassesAt CX X σ (E σ))
    (ht : eval (.Call (.Attribute o m apos) [] [] pos) X.env = (do
      let ov ← eval o X.env
      standAt apos.atName
      let (f, first) ← holding [ov] (getMethod ov m pl)
      callWith pos f first (backTo pos (starEach [] X.env)) (backToKw pos (keywordEach [] X.env))) := by rfl) :
    PE X (.Call (.Attribute o m apos) [] [] pos) (tMthKw C m [] sp E ta tNil) := by
  refine ⟨fun pins s σ H Q I h => ?_⟩
  refine PySem.W.methodCall_KW (pl := pl) (thn (he.run pins s σ H _ I h) fun u s1 ⟨x, H1, I1, rx, a, dx, fs, ex, ea, l, q⟩ => ?_) ht
  subst ex
  obtain rfl : u = Value.ref a := rx
  refine getmeth_ok I1 ea c hm l ?_
  obtain ⟨_, q⟩ := q
  exact PySem.W.callWith_K0 (first := [.ref a]) I1.kIn hm.kp (run_kw (ks := []) (zs := []) (ws := []) F hr (hx σ) I1 B List.nodup_nil (by decide) .nil q)
end
theorem bind_ren {kV doc pm : Value} {an : Option Addr} {cdv ct : Value} {ks : List Str} (hk : ks ∈ ([[], ["a"], ["a", "b"], ["z", "k"], ["y"], ["b", "a"]] : List (List Str))) (ws : List Value) (hl : ws.length = ks.length) :
    BindKw (PySem.W.fnOf "renamed" "House.renamed" (defArgs sRenamed) (defBody sRenamed) (defScope sRenamed) .none kV doc pm an cdv ct) (ks.zip ws) := by
  simp only [List.mem_cons, List.not_mem_nil, or_false] at hk
  rcases hk with rfl | rfl | rfl | rfl | rfl | rfl
  · exact fun u => by rfl
  · match ws, hl with
    | [_], _ => exact fun u => by rfl
  · match ws, hl with
    | [_, _], _ => exact fun u => by rfl
  · match ws, hl with
    | [_, _], _ => exact fun u => by rfl
  · match ws, hl with
    | [_], _ => exact fun u => by rfl
  · match ws, hl with
    | [_, _], _ => exact fun u => by rfl
end KL
set_option Elab.async false
set_option linter.all false
set_option maxRecDepth 100000
set_option maxHeartbeats 4000000
namespace KL
open PySem L2 PySem.KX PySem.Spec PyProof.Rows
/-! ### what a drawn house is made of -/
instance : DecidableRel sLt := fun x y => inferInstanceAs (Decidable (x.cps.toList < y.cps.toList))
def sgS (c : Nat) : Str := ⟨#[c]⟩
def letsOf (x : Str) : List Str := x.cps.toList.map sgS
theorem lets_len (x : Str) : (letsOf x).length = x.cps.size := by simp [letsOf]
theorem lets_get {x : Str} {i c : Nat} (h : x.cps[i]? = some c) : (letsOf x)[i]? = some (sgS c) := by
  unfold letsOf
  rw [List.getElem?_map, Array.getElem?_toList, h]
  rfl
theorem lets_fine {x : Str} (h : x ∈ lets5) : (letsOf x).Pairwise sLt ∧ (∀ l ∈ letsOf x, letS l = true) ∧ 1 ≤ x.cps.size ∧ x.cps.size ≤ 3 := by
  have z : (lets5.all fun x => decide ((letsOf x).Pairwise sLt) && ((letsOf x).all letS && (decide (1 ≤ x.cps.size) && decide (x.cps.size ≤ 3)))) = true := by decide +kernel
  have y := List.all_eq_true.mp z x h
  simp only [Bool.and_eq_true, decide_eq_true_eq] at y
  exact ⟨y.1, List.all_eq_true.mp y.2.1, y.2.2⟩
theorem take_more {α : Type} {l : List α} {i : Nat} {a : α} (h : l[i]? = some a) : l.take (i + 1) = l.take i ++ [a] := by
  rw [List.take_add_one, h]
  rfl
def DeedsOk (people : Int) (x : Str) (i : Nat) (ds : List PyData) : Prop := ∃ dl : List (Str × Int), ds = dl.map dE ∧ dl.map (·.1) = (letsOf x).take i ∧ ∀ d ∈ dl, 0 ≤ d.2 ∧ d.2 < people
theorem DeedsOk.start {people : Int} {x : Str} : DeedsOk people x 0 [] := ⟨[], rfl, rfl, fun _ h => nomatch h⟩
theorem DeedsOk.snoc {people r : Int} {x : Str} {i c : Nat} {ds : List PyData} (h : DeedsOk people x i ds) (e : x.cps[i]? = some c) (r0 : 0 ≤ r) (r1 : r < people) : DeedsOk people x (i + 1) (ds ++ [.tuple [.str ⟨#[c]⟩, .int r]]) := by
  obtain ⟨dl, rfl, e1, q⟩ := h
  refine ⟨dl ++ [(sgS c, r)], by rw [List.map_append]; rfl, by rw [List.map_append, e1, take_more (lets_get e)]; rfl, fun d hd => ?_⟩
  rcases List.mem_append.mp hd with z | z
  · exact q d z
  · rw [List.mem_singleton.mp z]
    exact ⟨r0, r1⟩
def IntsOk (i : Nat) (ds : List PyData) : Prop := ∃ ns : List Int, ds = ns.map .int ∧ ns.length = i
theorem IntsOk.start : IntsOk 0 [] := ⟨[], rfl, rfl⟩
theorem IntsOk.snoc {i : Nat} {ds : List PyData} {r : Int} (h : IntsOk i ds) : IntsOk (i + 1) (ds ++ [.int r]) := by
  obtain ⟨ns, rfl, rfl⟩ := h
  exact ⟨ns ++ [r], by rw [List.map_append]; rfl, by simp⟩
def EndsOk (i : Nat) (ds : List PyData) : Prop := ∃ es : List Int, ds = es.map .int ∧ es.Pairwise (fun a b => a < b) ∧ ∀ e ∈ es, 0 ≤ e ∧ e < (i : Int)
theorem EndsOk.start : EndsOk 0 [] := ⟨[], rfl, .nil, fun _ h => nomatch h⟩
theorem EndsOk.snoc {i : Nat} {ds : List PyData} (h : EndsOk i ds) : EndsOk (i + 1) (ds ++ [.int (0 + (i : Int))]) := by
  obtain ⟨ns, rfl, s, q⟩ := h
  refine ⟨ns ++ [0 + (i : Int)], by rw [List.map_append]; rfl, ?_, fun e he => ?_⟩
  · refine List.pairwise_append.mpr ⟨s, List.pairwise_singleton _ _, fun a ha b hb => ?_⟩
    rw [List.mem_singleton.mp hb]
    have := q a ha
    omega
  · rcases List.mem_append.mp he with z | z
    · have := q e z
      omega
    · rw [List.mem_singleton.mp z]
      omega
theorem EndsOk.skip {i : Nat} {ds : List PyData} (h : EndsOk i ds) : EndsOk (i + 1) ds := by
  obtain ⟨ns, rfl, s, q⟩ := h
  refine ⟨ns, rfl, s, fun e he => ?_⟩
  have := q e he
  omega
def Bef (x : Str) (i : Int) (j : Nat) (r : Row) : Prop := r.1 < i ∨ (r.1 = i ∧ r.2.1 ∈ (letsOf x).take j)
theorem Bef.more {x : Str} {i : Int} {j j' : Nat} {r : Row} (h : Bef x i j r) (e : j ≤ j') : Bef x i j' r := h.imp id fun ⟨a, b⟩ => ⟨a, (List.take_prefix_take_left e).subset b⟩
theorem Bef.next {x : Str} {i : Int} {j j' : Nat} {r : Row} (h : Bef x i j r) : Bef x (i + 1) j' r := .inl (by rcases h with h | ⟨h, _⟩ <;> omega)
theorem Bef.lt {x : Str} (hx : x ∈ lets5) {i : Int} {j c : Nat} {r : Row} {rest : List PyData} (h : Bef x i j r) (e : x.cps[j]? = some c) : keyLt r (i, sgS c, rest) := by
  rcases h with h | ⟨h, m⟩
  · exact .inl h
  · refine .inr ⟨h, ?_⟩
    have s := (lets_fine hx).1
    have g := lets_get e
    obtain ⟨k, hk, ek⟩ := List.mem_take_iff_getElem.mp m
    obtain ⟨hj, ej⟩ := List.getElem?_eq_some_iff.mp g
    have := List.pairwise_iff_getElem.mp s k j (by omega) hj (by omega)
    rw [ek, ej] at this
    exact this
structure OkA (size many lg : Int) (r : Row) : Prop where
  s0 : 0 ≤ r.1
  s1 : r.1 < many
  e : ∃ t fs ms, r.2.2 = [.int t, .tuple fs, .tuple ms] ∧ 0 ≤ t ∧ t < many ∧ (fs.length : Int) = size ∧ (∀ f ∈ fs, FormS size f) ∧ (ms.length : Int) = lg ∧ ∀ x ∈ ms, markD x = true
structure OkT (size : Int) (ra : List Row) (r : Row) : Prop where
  e : ∃ f lo hi, r.2.2 = [f, .int lo, .int hi] ∧ FormS size f ∧ lo ≤ hi
  a : ∃ y ∈ ra, y.1 = r.1 ∧ y.2.1 = r.2.1
structure RowsX (size many lg : Int) (x : Str) (i : Int) (ja jt : Nat) (da db : List PyData) : Prop where
  ex : ∃ ra rt : List Row, da = ra.map rowE ∧ db = rt.map rowE ∧ ra.Pairwise keyLt ∧ rt.Pairwise keyLt ∧ (∀ r ∈ ra, Bef x i ja r ∧ r.2.1 ∈ letsOf x ∧ OkA size many lg r) ∧ (∀ r ∈ rt, Bef x i jt r ∧ OkT size ra r) ∧
    ∀ l, jt < ja → (letsOf x)[jt]? = some l → ∃ r ∈ ra, r.1 = i ∧ r.2.1 = l
section
variable {size many lg i lo hi : Int} {x : Str} {ja jt j c : Nat} {da db rest : List PyData} {f : PyData}
theorem RowsX.start : RowsX size many lg x i 0 0 [] [] := ⟨[], [], rfl, rfl, .nil, .nil, (fun _ h => nomatch h), (fun _ h => nomatch h), fun _ h => absurd h (by omega)⟩
theorem RowsX.arrow (h : RowsX size many lg x i j j da db) (hx : x ∈ lets5) (e : x.cps[j]? = some c) (k : OkA size many lg (i, sgS c, rest)) : RowsX size many lg x i (j + 1) j (da ++ [.tuple (.int i :: .str ⟨#[c]⟩ :: rest)]) db := by
  obtain ⟨ra, rt, rfl, rfl, sa, st, qa, qt, _⟩ := h
  have g := lets_get e
  refine ⟨ra ++ [(i, sgS c, rest)], rt, by rw [List.map_append]; rfl, rfl, ?_, st, fun r hr => ?_, fun r hr => ?_, fun l _ hl => ?_⟩
  · refine List.pairwise_append.mpr ⟨sa, List.pairwise_singleton _ _, fun a ha b hb => ?_⟩
    rw [List.mem_singleton.mp hb]
    exact (qa a ha).1.lt hx e
  · rcases List.mem_append.mp hr with z | z
    · obtain ⟨h1, h2⟩ := qa r z
      exact ⟨h1.more (by omega), h2⟩
    · rw [List.mem_singleton.mp z]
      refine ⟨.inr ⟨rfl, ?_⟩, List.mem_of_getElem? g, k⟩
      rw [take_more g]
      exact List.mem_append_right _ (List.mem_singleton.mpr rfl)
  · obtain ⟨h1, h2, y, hy, h3⟩ := qt r hr
    exact ⟨h1, h2, y, List.mem_append_left _ hy, h3⟩
  · rw [g] at hl
    cases hl
    exact ⟨_, List.mem_append_right _ (List.mem_singleton.mpr rfl), rfl, rfl⟩
theorem RowsX.test (h : RowsX size many lg x i (j + 1) j da db) (hx : x ∈ lets5) (e : x.cps[j]? = some c) (hf : FormS size f) (le : lo ≤ hi) : RowsX size many lg x i (j + 1) (j + 1) da (db ++ [.tuple [.int i, .str ⟨#[c]⟩, f, .int lo, .int hi]]) := by
  obtain ⟨ra, rt, rfl, rfl, sa, st, qa, qt, q⟩ := h
  have g := lets_get e
  refine ⟨ra, rt ++ [(i, sgS c, [f, .int lo, .int hi])], rfl, by rw [List.map_append]; rfl, sa, ?_, qa, fun r hr => ?_, fun l k => absurd k (by omega)⟩
  · refine List.pairwise_append.mpr ⟨st, List.pairwise_singleton _ _, fun a ha b hb => ?_⟩
    rw [List.mem_singleton.mp hb]
    exact (qt a ha).1.lt hx e
  · rcases List.mem_append.mp hr with z | z
    · obtain ⟨h1, h2⟩ := qt r z
      exact ⟨h1.more (by omega), h2⟩
    · rw [List.mem_singleton.mp z]
      refine ⟨.inr ⟨rfl, ?_⟩, ⟨f, lo, hi, rfl, hf, le⟩, ?_⟩
      · rw [take_more g]
        exact List.mem_append_right _ (List.mem_singleton.mpr rfl)
      · obtain ⟨y, hy, h1, h2⟩ := q _ (by omega) g
        exact ⟨y, hy, h1, h2⟩
theorem RowsX.more (h : RowsX size many lg x i ja jt da db) (e : ja ≤ j) (e' : jt ≤ j) : RowsX size many lg x i j j da db := by
  obtain ⟨ra, rt, rfl, rfl, sa, st, qa, qt, q⟩ := h
  exact ⟨ra, rt, rfl, rfl, sa, st, fun r hr => ⟨(qa r hr).1.more e, (qa r hr).2⟩, fun r hr => ⟨(qt r hr).1.more e', (qt r hr).2⟩, fun l k => absurd k (by omega)⟩
theorem RowsX.next (h : RowsX size many lg x i ja jt da db) : RowsX size many lg x (i + 1) 0 0 da db := by
  obtain ⟨ra, rt, rfl, rfl, sa, st, qa, qt, q⟩ := h
  exact ⟨ra, rt, rfl, rfl, sa, st, fun r hr => ⟨(qa r hr).1.next, (qa r hr).2⟩, fun r hr => ⟨(qt r hr).1.next, (qt r hr).2⟩, fun l k => absurd k (by omega)⟩
end
def CellOk (size : Int) (d : PyData) : Prop := ∃ fs, d = .tuple fs ∧ ∀ f ∈ fs, FormS size f
def RowOk (size : Int) (j : Nat) (dy : List PyData) : Prop := dy.length = j ∧ ∀ c ∈ dy, CellOk size c
def LooksOk (size many : Int) (m : Nat) (dr : List PyData) : Prop := dr.length = m ∧ ∀ d ∈ dr, ∃ dy, d = .tuple dy ∧ RowOk size many.toNat dy
theorem RowOk.snoc {size : Int} {j : Nat} {dy : List PyData} {c : PyData} (h : RowOk size j dy) (hc : CellOk size c) : RowOk size (j + 1) (dy ++ [c]) := by
  refine ⟨by simp [h.1], fun x hx => ?_⟩
  rcases List.mem_append.mp hx with z | z
  · exact h.2 x z
  · rw [List.mem_singleton.mp z]
    exact hc
theorem LooksOk.snoc {size many : Int} {m : Nat} {dr dy : List PyData} (h : LooksOk size many m dr) (hc : RowOk size many.toNat dy) : LooksOk size many (m + 1) (dr ++ [.tuple dy]) := by
  refine ⟨by simp [h.1], fun x hx => ?_⟩
  rcases List.mem_append.mp hx with z | z
  · exact h.2 x z
  · rw [List.mem_singleton.mp z]
    exact ⟨dy, rfl, hc⟩
theorem FormS.form {n : Int} {d : PyData} (h : FormS n d) : formD n d = true := by
  obtain ⟨ns, rfl, e, _⟩ := h
  show (decide (((ns.map PyData.int).length : Int) = n + 1) && (ns.map PyData.int).all intD) = true
  rw [List.length_map, decide_eq_true e, List.all_map]
  exact List.all_eq_true.mpr fun _ _ => rfl
theorem plain_tup {ds : List PyData} (h : ∀ d ∈ ds, plainD d = true) : plainD (.tuple ds) = true := by
  rw [show plainD (.tuple ds) = plainAll ds from by simp [plainD]]
  exact plain_all_of.mpr h
theorem FormS.plain {n : Int} {d : PyData} (h : FormS n d) : plainD d = true := by
  obtain ⟨ns, rfl, e, _⟩ := h
  refine plain_tup fun d hd => ?_
  obtain ⟨i, _, rfl⟩ := List.mem_map.mp hd
  simp [plainD]
theorem plain_int {i : Int} : plainD (.int i) = true := by simp [plainD]
theorem plain_str {x : Str} : plainD (.str x) = true := by simp [plainD]
theorem made_house {people many lg size : Int} {x : Str} (hx : x ∈ lets5) {dd dn de da db dr : List PyData} {i : Int} {ja jt : Nat} (s0 : 1 ≤ size) (s1 : size ≤ 2) (m0 : 1 ≤ many) (m1 : many ≤ 3) (q0 : 1 ≤ people) (q1 : people ≤ 3) (l0 : 0 ≤ lg) (l1 : lg ≤ 2)
    (hd : DeedsOk people x x.cps.size dd) (hn : IntsOk size.toNat dn) (he : EndsOk many.toNat de) (hr : RowsX size many lg x i ja jt da db) (hl : LooksOk size many people.toNat dr)
    (g : ∀ d ∈ [PyData.int people, .tuple dd, .tuple dn, .int many, .tuple de, .int lg, .tuple da, .tuple db, .tuple dr], Gd 20 4 20000 d) :
    ∃ m : HM, [PyData.int people, .tuple dd, .tuple dn, .int many, .tuple de, .int lg, .tuple da, .tuple db, .tuple dr] = m.parts ∧ RightH m ∧ FitH m ∧ m.deeds.map (·.1) = letsOf x := by
  obtain ⟨fs, fl, f0, f1⟩ := lets_fine hx
  obtain ⟨dl, rfl, ed, qd⟩ := hd
  obtain ⟨ns, rfl, en⟩ := hn
  obtain ⟨es, rfl, se, qe⟩ := he
  obtain ⟨ra, rt, rfl, rfl, sa, st, qa, qt, _⟩ := hr
  obtain ⟨er, qr⟩ := hl
  have ed : dl.map (·.1) = letsOf x := by
    rw [ed, ← lets_len]
    exact List.take_length
  have el : dl.length = x.cps.size := by
    have := congrArg List.length ed
    rw [List.length_map, lets_len] at this
    exact this
  have esz : (ns.length : Int) = size := by omega
  refine ⟨⟨people, dl, ns, many, es, lg, ra, rt, .tuple dr⟩, rfl, ?_, ?_, ed⟩
  · exact {
      p1 := q0
      p3 := q1
      d1 := by show 1 ≤ dl.length; omega
      d5 := by show dl.length ≤ 5; omega
      da := fun d hd => ⟨fl d.1 (by rw [← ed]; exact List.mem_map.mpr ⟨d, hd, rfl⟩), qd d hd⟩
      ds := by
        have : (dl.map (·.1)).Pairwise sLt := by rw [ed]; exact fs
        exact List.pairwise_map.mp this
      n1 := by show 1 ≤ ns.length; omega
      n3 := by show ns.length ≤ 3; omega
      q1 := m0
      q3 := m1
      ea := fun e he => by
        have := qe e he
        show 0 ≤ e ∧ e < many
        omega
      es := se
      g0 := l0
      g2 := l1
      aa := fun r hr => by
        obtain ⟨_, h2, h3⟩ := qa r hr
        obtain ⟨t, fs, ms, e, t0, t1, fl, fa, ml, ma⟩ := h3.e
        refine ⟨h3.s0, h3.s1, ?_, t, fs, ms, e, t0, t1, ?_, fun f hf => ?_, ml, ma⟩
        · show r.2.1 ∈ dl.map (·.1)
          rw [ed]
          exact h2
        · show fs.length = ns.length
          omega
        · show formD (ns.length : Int) f = true
          rw [esz]
          exact (fa f hf).form
      as := sa
      ta := fun r hr => by
        obtain ⟨_, h2, h3⟩ := qt r hr
        obtain ⟨f, lo, hi, e, hf, le⟩ := h2
        refine ⟨⟨f, lo, hi, e, ?_, le⟩, h3⟩
        show formD (ns.length : Int) f = true
        rw [esz]
        exact hf.form
      ts := st
      lk := by
        show ((decide (people ≤ (dr.length : Int)) && decide ((dr.length : Int) ≤ people)) && (dr.all (tupD many many) && dr.all (allD (formsD _)))) = true
        rw [decide_eq_true (by omega), decide_eq_true (by omega)]
        simp only [Bool.and_self, Bool.true_and, Bool.and_eq_true]
        refine ⟨List.all_eq_true.mpr fun d hd => ?_, List.all_eq_true.mpr fun d hd => ?_⟩
        · obtain ⟨dy, rfl, h1, h2⟩ := qr d hd
          show (decide (many ≤ (dy.length : Int)) && decide ((dy.length : Int) ≤ many)) = true
          rw [decide_eq_true (by omega), decide_eq_true (by omega)]
          rfl
        · obtain ⟨dy, rfl, h1, h2⟩ := qr d hd
          refine List.all_eq_true.mpr fun c hc => ?_
          obtain ⟨fs, rfl, hf⟩ := h2 c hc
          show (true && fs.all (formD (ns.length : Int))) = true
          rw [Bool.true_and]
          refine List.all_eq_true.mpr fun f hf' => ?_
          rw [esz]
          exact (hf f hf').form }
  · refine .mk ⟨g _ (by simp), plain_int⟩ ⟨g _ (by simp), plain_tup fun d hd => ?_⟩ ⟨g _ (by simp), plain_tup fun d hd => ?_⟩ ⟨g _ (by simp), plain_int⟩ ⟨g _ (by simp), plain_tup fun d hd => ?_⟩ ⟨g _ (by simp), plain_int⟩ ⟨g _ (by simp), plain_tup fun d hd => ?_⟩ ⟨g _ (by simp), plain_tup fun d hd => ?_⟩ ⟨g _ (by simp), plain_tup fun d hd => ?_⟩
    · obtain ⟨a, _, rfl⟩ := List.mem_map.mp hd
      exact plain_tup fun d hd => by
        simp only [List.mem_cons, List.not_mem_nil, or_false] at hd
        rcases hd with rfl | rfl
        · exact plain_str
        · exact plain_int
    · obtain ⟨a, _, rfl⟩ := List.mem_map.mp hd
      exact plain_int
    · obtain ⟨a, _, rfl⟩ := List.mem_map.mp hd
      exact plain_int
    · obtain ⟨r, hr, rfl⟩ := List.mem_map.mp hd
      obtain ⟨_, _, h3⟩ := qa r hr
      obtain ⟨t, fs, ms, e, _, _, _, fa, _, ma⟩ := h3.e
      refine plain_tup fun d hd => ?_
      rw [e] at hd
      simp only [List.mem_cons, List.not_mem_nil, or_false] at hd
      rcases hd with rfl | rfl | rfl | rfl | rfl
      · exact plain_int
      · exact plain_str
      · exact plain_int
      · exact plain_tup fun f hf => (fa f hf).plain
      · exact plain_tup fun y hy => by
          obtain ⟨z, rfl⟩ := mark_str (ma y hy)
          exact plain_str
    · obtain ⟨r, hr, rfl⟩ := List.mem_map.mp hd
      obtain ⟨_, h2, _⟩ := qt r hr
      obtain ⟨f, lo, hi, e, hf, _⟩ := h2
      refine plain_tup fun d hd => ?_
      rw [e] at hd
      simp only [List.mem_cons, List.not_mem_nil, or_false] at hd
      rcases hd with rfl | rfl | rfl | rfl | rfl
      · exact plain_int
      · exact plain_str
      · exact hf.plain
      · exact plain_int
      · exact plain_int
    · obtain ⟨dy, rfl, _, h2⟩ := qr d hd
      refine plain_tup fun c hc => ?_
      obtain ⟨fs, rfl, hf⟩ := h2 c hc
      exact plain_tup fun f hf' => (hf f hf').plain
end KL
set_option Elab.async false
set_option linter.all false
set_option maxRecDepth 100000
set_option maxHeartbeats 8000000
namespace KL
open PySem L2
abbrev nHouse : List Str := ["_law_deck_here", "_law_places", "_law_size", "_law_top", "_law_many", "_law_people", "_law_letters", "_law_w", "_law_arrows", "_law_tests", "_law_place", "_law_letter", "_law_forms", "_law_marks", "_law_low", "_law_unit_here", "_law_looks", "_law_person", "_law_row", "_law_near", "_law_far", "_law_k"]
def spHouse : Sp := fun vs H Q _ => ∃ (H0 : Hp) (p l : Addr) (t n : Int), vs = [.ref p, .int n] ∧ DeckAt H0 H p l t ∧ 0 ≤ t ∧ t < 900000 ∧ 1 ≤ n ∧ n ≤ 3 ∧ ∀ H1 H' t' w vs' m, Go p l H0 H t H1 H' t' 200 → H1 w = some (.dK (wk vs')) → DqAll H1 vs' (HM.parts m) → RightH m → FitH m → (∃ x ∈ lets5, m.deeds.map (·.1) = letsOf x) → Q (.ref w) H'
theorem DeedsOk.at {people : Int} {x : Str} {i j : Nat} {ds : List PyData} (h : DeedsOk people x i ds) (e : i = j) : DeedsOk people x j ds := e ▸ h
theorem IntsOk.at {i j : Nat} {ds : List PyData} (h : IntsOk i ds) (e : i = j) : IntsOk j ds := e ▸ h
theorem EndsOk.at {i j : Nat} {ds : List PyData} (h : EndsOk i ds) (e : i = j) : EndsOk j ds := e ▸ h
theorem RowOk.at {size : Int} {i j : Nat} {ds : List PyData} (h : RowOk size i ds) (e : i = j) : RowOk size j ds := e ▸ h
theorem LooksOk.at {size many : Int} {i j : Nat} {ds : List PyData} (h : LooksOk size many i ds) (e : i = j) : LooksOk size many j ds := e ▸ h
theorem RowsX.nextAt {size many lg i i' : Int} {x : Str} {ja jt : Nat} {da db : List PyData} (h : RowsX size many lg x i ja jt da db) (e : i' = i + 1) : RowsX size many lg x i' 0 0 da db := by
  subst e
  exact h.next
/-- forms, as many as there are registers -/
def FormsOk (size : Int) (i : Nat) (ds : List PyData) : Prop := ds.length = i ∧ ∀ f ∈ ds, FormS size f
theorem FormsOk.start {size : Int} : FormsOk size 0 [] := ⟨rfl, fun _ h => nomatch h⟩
theorem FormsOk.snoc {size : Int} {i : Nat} {ds : List PyData} {f : PyData} (h : FormsOk size i ds) (hf : FormS size f) : FormsOk size (i + 1) (ds ++ [f]) := by
  refine ⟨by simp [h.1], fun x hx => ?_⟩
  rcases List.mem_append.mp hx with z | z
  · exact h.2 x z
  · rw [List.mem_singleton.mp z]
    exact hf
def MarksOk (i : Nat) (ds : List PyData) : Prop := ds.length = i ∧ ∀ f ∈ ds, markD f = true
theorem MarksOk.start : MarksOk 0 [] := ⟨rfl, fun _ h => nomatch h⟩
theorem MarksOk.snoc {i : Nat} {ds : List PyData} {f : PyData} (h : MarksOk i ds) (hf : markD f = true) : MarksOk (i + 1) (ds ++ [f]) := by
  refine ⟨by simp [h.1], fun x hx => ?_⟩
  rcases List.mem_append.mp hx with z | z
  · exact h.2 x z
  · rw [List.mem_singleton.mp z]
    exact hf
/-- in the loop over places and letters: m turns so far, c draws; sl: the slots 10 to 15; X: what is known besides -/
def Lp (p l : Addr) (Hs Hb : Hp) (t n size top many people : Int) (x : Str) (w : Addr) (vs : List V) (ds : List PyData) (a b : Addr) (c : Int) (m m2 : Nat) (R : List PyData → List PyData → Prop) (sl : List (Option V)) (X : Hp → Prop) (σ : L2.St) (H : Hp) : Prop :=
  ∃ H0 t' as bs da db, σ = [some (.ref p), some (.int n), some (.int size), some (.int top), some (.int many), some (.int people), some (.str x), some (.ref w), some (.ref a), some (.ref b)] ++ sl ++ [none, none, none, none, none, none] ∧
    Go p l Hs Hb t H0 H t' c ∧ Own p l w Hb H0 H (.dK (wk vs)) ∧ DqAll H0 vs ds ∧ Own p l a Hb H0 H (.lst as) ∧ DqAll H0 as da ∧ Own p l b Hb H0 H (.lst bs) ∧ DqAll H0 bs db ∧ Many m 20 3 2000 da ∧ Many m2 20 3 2000 db ∧ R da db ∧ X H0
def LpO (p l : Addr) (Hs Hb : Hp) (t n size top many people : Int) (x : Str) (w : Addr) (vs : List V) (ds : List PyData) (a b : Addr) (m : Nat) (lg i : Int) (σ : L2.St) (H : Hp) : Prop :=
  ∃ o1 o2 o3 o4 o5 o6, Lp p l Hs Hb t n size top many people x w vs ds a b (14 + 14 * (m : Int)) m m (RowsX size many lg x i 0 0) [o1, o2, o3, o4, o5, o6] (fun _ => True) σ H
theorem LpO.more {p l : Addr} {Hs Hb : Hp} {t n size top many people lg i : Int} {x : Str} {w : Addr} {vs : List V} {ds : List PyData} {a b : Addr} {m m' : Nat} {σ : L2.St} {H : Hp} (h : LpO p l Hs Hb t n size top many people x w vs ds a b m lg i σ H) (e : m ≤ m') :
    LpO p l Hs Hb t n size top many people x w vs ds a b m' lg i σ H := by
  obtain ⟨o1, o2, o3, o4, o5, o6, H0, t', as, bs, da, db, h1, g, hw, hd, ha, qa, hb, qb, ma, mb, hR, _⟩ := h
  exact ⟨o1, o2, o3, o4, o5, o6, H0, t', as, bs, da, db, h1, g.more (by omega), hw, hd, ha, qa, hb, qb, ma.more e, mb.more e, hR, trivial⟩
/-- in the loop over people: m turns so far, c draws; sl: the slots 10 to 20; X: what is known besides -/
def Lk (p l : Addr) (Hs Hb : Hp) (t n size top many people : Int) (x : Str) (w : Addr) (vs : List V) (ds : List PyData) (a b k : Addr) (c : Int) (m m2 : Nat) (sl : List (Option V)) (X : Hp → Hp → Prop) (σ : L2.St) (H : Hp) : Prop :=
  ∃ H0 t' rs dr, σ = [some (.ref p), some (.int n), some (.int size), some (.int top), some (.int many), some (.int people), some (.str x), some (.ref w), some (.ref a), some (.ref b)] ++ sl ++ [none] ∧
    Go p l Hs Hb t H0 H t' c ∧ Own p l w Hb H0 H (.dK (wk vs)) ∧ DqAll H0 vs ds ∧ Own p l k Hb H0 H (.lst rs) ∧ DqAll H0 rs dr ∧ (Many m 20 3 1000 dr ∧ LooksOk size many m2 dr) ∧ X H0 H
def LkO (p l : Addr) (Hs Hb : Hp) (t n size top many people : Int) (x : Str) (w : Addr) (vs : List V) (ds : List PyData) (a b k : Addr) (m m2 : Nat) (σ : L2.St) (H : Hp) : Prop :=
  ∃ o1 o2 o3 o4 o5 o6 o7 o8 o9 o10, Lk p l Hs Hb t n size top many people x w vs ds a b k (140 + 3 * (m : Int)) m m2 [o1, o2, o3, o4, o5, o6, some (.ref k), o7, o8, o9, o10] (fun _ _ => True) σ H
theorem LkO.more {p l : Addr} {Hs Hb : Hp} {t n size top many people : Int} {x : Str} {w : Addr} {vs : List V} {ds : List PyData} {a b k : Addr} {m m' m2 m3 : Nat} {σ : L2.St} {H : Hp} (h : LkO p l Hs Hb t n size top many people x w vs ds a b k m m2 σ H) (e : m ≤ m') (e2 : m2 = m3) :
    LkO p l Hs Hb t n size top many people x w vs ds a b k m' m3 σ H := by
  subst e2
  obtain ⟨o1, o2, o3, o4, o5, o6, o7, o8, o9, o10, H0, t', rs, dr, h1, g, hw, hd, hk, qk, mk, _⟩ := h
  exact ⟨o1, o2, o3, o4, o5, o6, o7, o8, o9, o10, H0, t', rs, dr, h1, g.more (by omega), hw, hd, hk, qk, ⟨mk.1.more e, mk.2⟩, trivial⟩
/-- a row of looks that is being made -/
def RowX (p l : Addr) (Hb : Hp) (size : Int) (r : Addr) (j j2 : Nat) (H0 H : Hp) : Prop := ∃ ys dy, Own p l r Hb H0 H (.lst ys) ∧ DqAll H0 ys dy ∧ Many j 20 2 300 dy ∧ RowOk size j2 dy
theorem mark_four {x : Str} (h : x ∈ (["", "x", "y", "x"] : List Str)) : markD (.str x) = true := by
  have z : ((["", "x", "y", "x"] : List Str).all fun y => markD (.str y)) = true := by decide +kernel
  exact List.all_eq_true.mp z x h
section
variable {P : Program} {w : World} {K : PySem.W.Frag} {mg : Str → Option Value} {base : Heap}
theorem scHouse : FnScope nHouse ["_law_deck_here", "_law_places"] (defScope lHouse) := ⟨rfl, rfl, rfl, by decide +kernel, rfl, by decide +kernel, by decide +kernel⟩
/-- behind the first statement -/
def Mid0 (p l : Addr) (Hs Hb : Hp) (t n : Int) (σ : L2.St) (H : Hp) : Prop :=
  ∃ t' size top many, σ = [some (.ref p), some (.int n), some (.int size), some (.int top), some (.int many), none, none, none, none, none, none, none, none, none, none, none, none, none, none, none, none, none] ∧
    Go p l Hs Hb t Hs H t' 3 ∧ 1 ≤ size ∧ size ≤ 2 ∧ 1 ≤ top ∧ top ≤ 2 ∧ 1 ≤ many ∧ many ≤ 3
/-- behind the second one -/
def Mid1 (p l : Addr) (Hs Hb : Hp) (t n : Int) (σ : L2.St) (H : Hp) : Prop :=
  ∃ t' size top many people x, σ = [some (.ref p), some (.int n), some (.int size), some (.int top), some (.int many), some (.int people), some (.str x), none, none, none, none, none, none, none, none, none, none, none, none, none, none, none] ∧
    Go p l Hs Hb t Hs H t' 5 ∧ 1 ≤ size ∧ size ≤ 2 ∧ 1 ≤ top ∧ top ≤ 2 ∧ 1 ≤ many ∧ many ≤ 3 ∧ 1 ≤ people ∧ people ≤ 3 ∧ x ∈ lets5
/-- with the dict; m draws so far -/
def MidW (p l : Addr) (Hs Hb : Hp) (t n : Int) (c m : Int) (N : Nat) (X : Int → Int → Int → Int → Str → List PyData → Prop) (σ : L2.St) (H : Hp) : Prop :=
  ∃ H0 t' size top many people x w vs ds, σ = [some (.ref p), some (.int n), some (.int size), some (.int top), some (.int many), some (.int people), some (.str x), some (.ref w), none, none, none, none, none, none, none, none, none, none, none, none, none, none] ∧
    Go p l Hs Hb t H0 H t' c ∧ 1 ≤ size ∧ size ≤ 2 ∧ 1 ≤ top ∧ top ≤ 2 ∧ 1 ≤ many ∧ many ≤ 3 ∧ 1 ≤ people ∧ people ≤ 3 ∧ x ∈ lets5 ∧ Own p l w Hb H0 H (.dK (wk vs)) ∧ DqAll H0 vs ds ∧ ds.length = N ∧ Many N 20 4 20000 ds ∧ X size top many people x ds
def X1 : Int → Int → Int → Int → Str → List PyData → Prop := fun _ _ _ people x ds => ∃ dd, DeedsOk people x x.cps.size dd ∧ ds = [.int people, .tuple dd]
def X2 : Int → Int → Int → Int → Str → List PyData → Prop := fun size _ many people x ds => ∃ dd dn, DeedsOk people x x.cps.size dd ∧ IntsOk size.toNat dn ∧ ds = [.int people, .tuple dd, .tuple dn, .int many]
def X3 : Int → Int → Int → Int → Str → List PyData → Prop := fun size _ many people x ds => ∃ dd dn de, DeedsOk people x x.cps.size dd ∧ IntsOk size.toNat dn ∧ EndsOk many.toNat de ∧ ds = [.int people, .tuple dd, .tuple dn, .int many, .tuple de]
theorem ok_house {f g1 g2 g3 g4 : Addr} {fd gd1 gd2 gd3 gd4 : FuncData} (F : Fun K "_law_house" "_law_house" lHouse f fd) (T : TxtG mg)
    (G1 : FnOk P w K mg base CX0 1 g1 gd1 ["_law_deck_here", "_law_below"] spDraw) (c1 : Cal K mg "_law_draw" g1 gd1 ["_law_deck_here", "_law_below"])
    (G2 : FnOk P w K mg base CX0 2 g2 gd2 ["_law_deck_here", "_law_some"] spPick) (c2 : Cal K mg "_law_pick" g2 gd2 ["_law_deck_here", "_law_some"])
    (G3 : FnOk P w K mg base CX0 2 g3 gd3 ["_law_deck_here", "_law_size", "_law_top"] spFormG) (c3 : Cal K mg "_law_form" g3 gd3 ["_law_deck_here", "_law_size", "_law_top"])
    (G4 : FnOk P w K mg base CX0 1 g4 gd4 ["_law_size", "_law_k", "_law_base", "_law_factor"] spUnit) (c4 : Cal K mg "_law_unit" g4 gd4 ["_law_size", "_law_k", "_law_base", "_law_factor"]) :
    FnOk P w K mg base CX0 3 f fd ["_law_deck_here", "_law_places"] spHouse := by
  refine F.ok scHouse (fun vs H Q E h => ?_) (fun cdv A outer s H vs Q E hr h => ?_)
  · obtain ⟨H0, p, l, t, n, rfl, _⟩ := h
    rfl
  · obtain ⟨Hs, p, l, t, n, rfl, D, t0, t1, n1, n3, k⟩ := h
    have hu := hu_of hr
    have r1 : Room 1 _ := hr.mono (by decide)
    have nd := scHouse.nd
    refine ⟨_, C8.pss_cut (ps_asg (pe_tup (pa_cons (pe_op op_add pe_int (pe_call G1 r1 rfl c1.m c1.k c1.b .nil pass0 (pa_cons (pv 0) (pa_cons pe_int pa_nil)))) (pa_cons (pe_op op_add pe_int (pe_callTy call_int1 (by rfl) T.d.int (by decide +kernel) (pa_cons (pe_cmpR op_eq (pe_call G1 r1 rfl c1.m c1.k c1.b .nil pass0 (pa_cons (pv 0) (pa_cons pe_int pa_nil))) pe_int (nomark _)) pa_nil))) (pa_cons (pe_op op_add pe_int (pe_call G1 r1 rfl c1.m c1.k c1.b .nil pass0 (pa_cons (pv 0) (pa_cons (pv 1) pa_nil)))) pa_nil)))) (pg_tup rfl (pgs_cons (pg_name (i := 2) nd rfl (.inr rfl)) (pgs_cons (pg_name (i := 3) nd rfl (.inr rfl)) (pgs_cons (pg_name (i := 4) nd rfl (.inl rfl)) pgs_nil)))))
      (C8.pss_cut (ps_asg (pe_tup (pa_cons (pe_op op_add pe_int (pe_call G1 r1 rfl c1.m c1.k c1.b .nil pass0 (pa_cons (pv 0) (pa_cons pe_int pa_nil)))) (pa_cons (pe_call G2 hr rfl c2.m c2.k c2.b .nil pass0 (pa_cons (pv 0) (pa_cons (pe_lst (pa_cons pe_str (pa_cons pe_str (pa_cons pe_str (pa_cons pe_str (pa_cons pe_str pa_nil)))))) pa_nil))) pa_nil))) (pg_tup rfl (pgs_cons (pg_name (i := 5) nd rfl (.inr rfl)) (pgs_cons (pg_name (i := 6) nd rfl (.inl rfl)) pgs_nil))))
      (C8.pss_cut (ps_set (i := 7) nd rfl (.inl rfl) (pe_disp (pps_cons pe_str (pv 5) (pps_cons pe_str (pe_tupleOf (by rfl) T.tuple (pe_lc (own := [("_law_letter", 11)]) (g := gName 11) (tt := tYes) rfl nd (pi_str (pv 6)) (blkOk_by (N := nHouse) (sc := defScope lHouse) (by decide +kernel)) (fun _ _ _ _ _ => pg_name (i := 11) nd rfl (.inl rfl)) (fun _ _ _ _ _ => pts_nil) (fun _ _ _ _ _ => (pe_tup (pa_cons (pv 11) (pa_cons (pe_call G1 r1 rfl c1.m c1.k c1.b .nil pass0 (pa_cons (pv 0) (pa_cons (pv 5) pa_nil))) pa_nil)))))) pps_nil)) (by rfl) (by rfl) (fun z => by cases z) (by decide)))
      (C8.pss_cut (ps_asg (pe_tup (pa_cons (pe_tupleOf (by rfl) T.tuple (pe_lc (own := [("_law_k", 21)]) (g := gName 21) (tt := tYes) rfl nd (pi_range1 (by rfl) T.range (pa_cons (pv 2) pa_nil)) (blkOk_by (N := nHouse) (sc := defScope lHouse) (by decide +kernel)) (fun _ _ _ _ _ => pg_name (i := 21) nd rfl (.inl rfl)) (fun _ _ _ _ _ => pts_nil) (fun _ _ _ _ _ => (pe_call G1 r1 rfl c1.m c1.k c1.b .nil pass0 (pa_cons (pv 0) (pa_cons (pe_op op_add (pv 3) pe_int) pa_nil)))))) (pa_cons (pv 4) pa_nil))) (pg_tup rfl (pgs_cons (pg_sub (pv 7) pe_str (set_dict hu)) (pgs_cons (pg_sub (pv 7) pe_str (set_dict hu)) pgs_nil))))
      (C8.pss_cut (ps_dput hu (pv 7) pe_str (pe_tupleOf (by rfl) T.tuple (pe_lc (own := [("_law_place", 10)]) (g := gName 10) rfl nd (pi_range1 (by rfl) T.range (pa_cons (pv 4) pa_nil)) (blkOk_by (N := nHouse) (sc := defScope lHouse) (by decide +kernel)) (fun _ _ _ _ _ => pg_name (i := 10) nd rfl (.inl rfl)) (fun _ _ _ _ _ => (pts_one (pt_cmpR op_gt (pe_call G1 r1 rfl c1.m c1.k c1.b .nil pass0 (pa_cons (pv 0) (pa_cons pe_int pa_nil))) pe_int (nomark _)))) (fun _ _ _ _ _ => (pv 10)))) rfl)
      (C8.pss_cut (ps_asg (pe_tup (pa_cons (pe_call G1 r1 rfl c1.m c1.k c1.b .nil pass0 (pa_cons (pv 0) (pa_cons pe_int pa_nil))) (pa_cons (pe_lst pa_nil) (pa_cons (pe_lst pa_nil) pa_nil)))) (pg_tup rfl (pgs_cons (pg_sub (pv 7) pe_str (set_dict hu)) (pgs_cons (pg_name (i := 8) nd rfl (.inl rfl)) (pgs_cons (pg_name (i := 9) nd rfl (.inl rfl)) pgs_nil)))))
      (C8.pss_cut (ps_for PassesOwn.never rfl (pi_range1 (by rfl) T.range (pa_cons (pv 4) pa_nil)) (pg_name (i := 10) nd rfl (.inl rfl)) (pss_one (ps_for PassesOwn.never rfl (pi_str (pv 6)) (pg_name (i := 11) nd rfl (.inl rfl)) (pss_one
        (ps_if (pt_cmpR op_gt (pe_call G1 r1 rfl c1.m c1.k c1.b .nil pass0 (pa_cons (pv 0) (pa_cons pe_int pa_nil))) pe_int (nomark _)) (C8.pss_cut (ps_set (i := 12) nd rfl (.inl rfl) (pe_tupleOf (by rfl) T.tuple (pe_lc (own := [("_law_k", 21)]) (g := gName 21) (tt := tYes) rfl nd (pi_range1 (by rfl) T.range (pa_cons (pv 2) pa_nil)) (blkOk_by (N := nHouse) (sc := defScope lHouse) (by decide +kernel)) (fun _ _ _ _ _ => pg_name (i := 21) nd rfl (.inl rfl)) (fun _ _ _ _ _ => pts_nil) (fun _ _ _ _ _ => (pe_call G3 hr rfl c3.m c3.k c3.b .nil pass0 (pa_cons (pv 0) (pa_cons (pv 2) (pa_cons (pv 3) pa_nil))))))))
          (C8.pss_cut (ps_set (i := 13) nd rfl (.inl rfl) (pe_tupleOf (by rfl) T.tuple (pe_lc (own := [("_law_k", 21)]) (g := gName 21) (tt := tYes) rfl nd (pi_range1 (by rfl) T.range (pa_cons (pe_dget hu (pv 7) pe_str (fun _ _ => rfl)) pa_nil)) (blkOk_by (N := nHouse) (sc := defScope lHouse) (by decide +kernel)) (fun _ _ _ _ _ => pg_name (i := 21) nd rfl (.inl rfl)) (fun _ _ _ _ _ => pts_nil) (fun _ _ _ _ _ => (pe_call G2 hr rfl c2.m c2.k c2.b .nil pass0 (pa_cons (pv 0) (pa_cons (pe_lst (pa_cons pe_str (pa_cons pe_str (pa_cons pe_str (pa_cons pe_str pa_nil))))) pa_nil)))))))
          (C8.pss_cut (ps_expr (pe_bm PySem.F.plainAttrs_list PySem.F.slot_list_append PySem.F.type_list_append mt_append (pv 8) (pa_cons (pe_tup (pa_cons (pv 10) (pa_cons (pv 11) (pa_cons (pe_call G1 r1 rfl c1.m c1.k c1.b .nil pass0 (pa_cons (pv 0) (pa_cons (pv 4) pa_nil))) (pa_cons (pv 12) (pa_cons (pv 13) pa_nil)))))) pa_nil)))
          (pss_one (ps_if (PW.pt (pw_and (pt_cmpR op_eq (pe_call G1 r1 rfl c1.m c1.k c1.b .nil pass0 (pa_cons (pv 0) (pa_cons pe_int pa_nil))) pe_int (nomark _)) (pw_and1 (pt_cmpR op_lt (pe_callB call_len_seq (by rfl) T.d.len PySem.boot_len (pa_cons (pv 9) pa_nil)) pe_int (nomark _))))) (C8.pss_cut (ps_set (i := 14) nd rfl (.inl rfl) (pe_call G1 r1 rfl c1.m c1.k c1.b .nil pass0 (pa_cons (pv 0) (pa_cons (pe_op op_add (pv 3) pe_int) pa_nil))))
            (C8.pss_cut (ps_set (i := 15) nd rfl (.inl rfl) (pe_call G4 r1 rfl c4.m c4.k c4.b .nil pass0 (pa_cons (pv 2) (pa_cons (pe_call G1 r1 rfl c1.m c1.k c1.b .nil pass0 (pa_cons (pv 0) (pa_cons (pv 2) pa_nil))) (pa_cons pe_int (pa_cons pe_int pa_nil))))))
            (pss_one (ps_expr (pe_bm PySem.F.plainAttrs_list PySem.F.slot_list_append PySem.F.type_list_append mt_append (pv 9) (pa_cons (pe_tup (pa_cons (pv 10) (pa_cons (pv 11) (pa_cons (pv 15) (pa_cons (pv 14) (pa_cons (pe_op op_add (pv 14) (pe_call G1 r1 rfl c1.m c1.k c1.b .nil pass0 (pa_cons (pv 0) (pa_cons pe_int pa_nil)))) pa_nil)))))) pa_nil)))))) pss_nil))))) pss_nil)))))
      (C8.pss_cut (ps_asg (pe_tup (pa_cons (pe_tupleOf (by rfl) T.tuple (pv 8)) (pa_cons (pe_tupleOf (by rfl) T.tuple (pv 9)) (pa_cons (pe_lst pa_nil) pa_nil)))) (pg_tup rfl (pgs_cons (pg_sub (pv 7) pe_str (set_dict hu)) (pgs_cons (pg_sub (pv 7) pe_str (set_dict hu)) (pgs_cons (pg_name (i := 16) nd rfl (.inl rfl)) pgs_nil)))))
      (C8.pss_cut (ps_for PassesOwn.never rfl (pi_range1 (by rfl) T.range (pa_cons (pv 5) pa_nil)) (pg_name (i := 17) nd rfl (.inl rfl)) (C8.pss_cut (ps_set (i := 18) nd rfl (.inl rfl) (pe_lst pa_nil))
        (C8.pss_cut (ps_for PassesOwn.never rfl (pi_range1 (by rfl) T.range (pa_cons (pv 4) pa_nil)) (pg_name (i := 10) nd rfl (.inl rfl)) (C8.pss_cut (ps_par (i := 19) (j := 20) (by rfl) nd rfl rfl (by decide) rfl rfl (pa_cons (pe_call G4 r1 rfl c4.m c4.k c4.b .nil pass0 (pa_cons (pv 2) (pa_cons pe_int (pa_cons pe_int (pa_cons pe_int pa_nil))))) (pa_cons (pe_call G4 r1 rfl c4.m c4.k c4.b .nil pass0 (pa_cons (pv 2) (pa_cons (pe_op op_sub (pv 2) pe_int) (pa_cons pe_int (pa_cons (pe_un un_neg pe_int) pa_nil))))) pa_nil)) (by rfl))
          (pss_one (ps_expr (pe_bm PySem.F.plainAttrs_list PySem.F.slot_list_append PySem.F.type_list_append mt_append (pv 18) (pa_cons (pe_call G2 hr rfl c2.m c2.k c2.b .nil pass0 (pa_cons (pv 0) (pa_cons (pe_lst (pa_cons (pe_tup pa_nil) (pa_cons (pe_tup (pa_cons (pv 19) pa_nil)) (pa_cons (pe_tup (pa_cons (pv 20) pa_nil)) (pa_cons (pe_tup (pa_cons (pv 20) (pa_cons (pv 19) pa_nil))) pa_nil))))) pa_nil))) pa_nil))))))
        (pss_one (ps_expr (pe_bm PySem.F.plainAttrs_list PySem.F.slot_list_append PySem.F.type_list_append mt_append (pv 16) (pa_cons (pe_tupleOf (by rfl) T.tuple (pv 18)) pa_nil)))))))
      (C8.pss_cut (ps_dput hu (pv 7) pe_str (pe_tupleOf (by rfl) T.tuple (pv 16)) rfl)
      (pss_one (ps_ret (pv 7)))))))))))), ?_⟩
    refine ⟨Mid0 p l Hs H t n, ?_, ?_⟩
    · refine ⟨_, rfl, Hs, p, l, t, 2, rfl, D, t0, by omega, by omega, by omega, fun H1 a ga a0 a1 => ?_⟩
      refine ⟨_, _, rfl, rfl, _, rfl, Hs, p, l, _, 3, rfl, ga.d, by omega, by omega, by omega, by omega, fun H2 b gb b0 b1 => ?_⟩
      refine ⟨rfl, .inr ⟨_, rfl, _, _, rfl, rfl, ?_⟩⟩
      refine ⟨_, rfl, _, rfl, Hs, p, l, _, n, rfl, gb.d, by omega, by omega, by omega, by omega, fun H3 m gm m0 m1 => ?_⟩
      refine ⟨_, _, rfl, rfl, (by show 3 ≤ sizeLine; decide), fun tp ntp => ⟨tp, _, rfl, SqT.of upd_same, rfl, _, _, rfl, _, _, rfl, _, _, rfl, rfl, ?_⟩⟩
      refine ⟨_, 1 + a, _, 1 + m, rfl, (((ga.trans gb).trans gm).put0 ntp).more (by omega), by omega, by omega, ?_, ?_, by omega, by omega⟩ <;> (split <;> omega)
    rintro σ1 H1 ⟨t', size, top, many, rfl, g, s0, s1, p0, p1, m0, m1⟩
    have gt := g.t1
    have gt0 := g.t0
    refine ⟨Mid1 p l Hs H t n, ?_, ?_⟩
    · refine ⟨_, rfl, Hs, p, l, _, 3, rfl, g.d, by omega, by omega, by omega, by omega, fun H2 a ga a0 a1 => ?_⟩
      refine ⟨_, _, rfl, rfl, _, rfl, (by show 5 ≤ sizeLine; decide), fun q nq => ?_⟩
      have hq := Own.start (o := .lst [V.str "ab", V.str "abc", V.str "kz", V.str "a", V.str "xyz"]) ga nq
      have g2 := (g.trans ga).put0 (o := .lst [V.str "ab", V.str "abc", V.str "kz", V.str "a", V.str "xyz"]) nq
      revert hq g2
      generalize upd H2 q (.lst [V.str "ab", V.str "abc", V.str "kz", V.str "a", V.str "xyz"]) = H3
      intro hq g2
      refine ⟨Hs, p, l, _, q, _, rfl, g2.d, by omega, by omega, hq.h, hq.ap, hq.al, by decide, by decide, fun H4 i v gv hv => ?_⟩
      have hx : ∃ x, v = .str x ∧ x ∈ lets5 := by
        have e : v ∈ (lets5.map V.str) := List.mem_of_getElem? hv
        obtain ⟨x, hx, rfl⟩ := List.mem_map.mp e
        exact ⟨x, rfl, hx⟩
      obtain ⟨x, rfl, hx⟩ := hx
      refine ⟨(by show 2 ≤ sizeLine; decide), fun tp ntp => ⟨tp, _, rfl, SqT.of upd_same, rfl, _, _, rfl, _, _, rfl, rfl, ?_⟩⟩
      exact ⟨_, size, top, many, _, x, rfl, ((g2.trans gv).put0 ntp).more (by omega), s0, s1, p0, p1, m0, m1, by omega, by omega, hx⟩
    clear g s0 s1 p0 p1 m0 m1 gt gt0
    rintro σ1 H1 ⟨t', size, top, many, people, x, rfl, g, s0, s1, p0, p1, m0, m1, q0, q1, hx⟩
    have gt := g.t1
    have gt0 := g.t0
    refine ⟨MidW p l Hs H t n 8 0 2 X1, ?_, ?_⟩
    · intro w nw
      have gw := g.put0 (o := .dK []) nw
      have hw := Own.start (o := .dK []) g nw
      revert gw hw
      generalize upd H1 w (.dK []) = H2
      intro gw hw
      refine ⟨_, rfl, _, rfl, x, rfl, fun B nB => ?_⟩
      refine lc_it walk_str (fun i H3 => Making p l B Hs H2 t' 1 (fun i ds => Many i 20 1 100 ds ∧ DeedsOk people x i ds) i H3) (Making.start gw.d nB ⟨Many.nil, DeedsOk.start⟩) (fun _ _ _ _ => trivial) ?_ ?_
      · rintro i y H3 H3' hi ⟨H02, t2, ys, ds, g3, w3, q3, hP⟩ ⟨rfl, c, hc, rfl⟩
        have g3t := g3.t1
        have g3t0 := g3.t0
        have hi3 : i < 3 := Nat.lt_of_lt_of_le hi (lets_ok hx).1
        refine ⟨rfl, _, rfl, _, rfl, _, rfl, H02, p, l, t2, people, rfl, g3.d, by omega, by omega, by omega, by omega, fun H4 r g4 r0 r1 => ⟨(by show 2 ≤ sizeLine; decide), fun tp ntp => ?_⟩⟩
        have g5 := g4.new (o := .tup [V.str ⟨#[c]⟩, V.int r]) ntp
        refine Making.turn g3 w3 q3 g5 (dq_new (g4.d.s.free ntp) (.cons (.str _) (.cons (.int _) .nil))) (by have := hP.1.1; omega) ⟨hP.1.snoc ?_, hP.2.snoc hc r0 r1⟩
        exact (Many.cons (gd_sign hx hc) (Many.cons (gd_int (by omega) (by omega)) Many.nil)).tup.mono (by decide) (by decide) (by decide)
      · rintro H3 ⟨H02, t2, ys, ds, g3, w3, q3, hP⟩
        refine .inl ⟨B, ys, rfl, SqL.of w3.h, fun e ne => ?_⟩
        have g4 := g3.new (o := .tup ys) ne
        have w4 := hw.go g4
        have d4 := dq_new (g3.d.s.free ne) q3
        have nl := (lets_ok hx).1
        revert g4 w4 d4
        generalize upd H3 e (.tup ys) = H4
        generalize upd H02 e (.tup ys) = H04
        intro g4 w4 d4
        refine ⟨w4.h, [(Sum.inr "people", .int people), (Sum.inr "deeds", .ref e)], rfl, (by show 2 ≤ 15; decide), ?_⟩
        rw [wk_two]
        refine ⟨H04, t2, size, top, many, people, x, w, _, _, rfl, ((gw.trans g4).more (by omega)).setO w4, s0, s1, p0, p1, m0, m1, q0, q1, hx, w4.set, .cons (.int _) (.cons d4 .nil), rfl, ?_, _, hP.2, rfl⟩
        exact Many.cons ((gd_int (by omega) (by omega)).mono (by decide) (by decide) (by decide)) (Many.cons ((hP.1.more nl).tup.mono (by decide) (by decide) (by decide)) Many.nil)
    clear g s0 s1 p0 p1 m0 m1 gt gt0 q0 q1 hx
    rintro σ1 H1 ⟨H01, t', size, top, many, people, x, w, vs, ds, rfl, g, s0, s1, p0, p1, m0, m1, q0, q1, hx, hw, hd, hn, hm, hX⟩
    have gt := g.t1
    have gt0 := g.t0
    refine ⟨MidW p l Hs H t n 10 0 4 X2, ?_, ?_⟩
    · refine ⟨_, rfl, size, rfl, by omega, by omega, fun B nB => ?_⟩
      refine lc_range (fun i H3 => Making p l B H01 H1 t' 1 (fun i ds => Many i 20 0 30 ds ∧ IntsOk i ds) i H3) (Making.start g.d nB ⟨Many.nil, IntsOk.start⟩) ?_ ?_
      · rintro i H3 hi ⟨H02, t2, ys, ds', g3, w3, q3, hP⟩
        have g3t := g3.t1
        have g3t0 := g3.t0
        refine ⟨rfl, _, rfl, _, rfl, _, _, rfl, rfl, H02, p, l, t2, _, rfl, g3.d, by omega, by omega, by omega, by omega, fun H4 r g4 r0 r1 => ?_⟩
        exact Making.turn g3 w3 q3 g4 (.int r) (by have := hP.1.1; omega) ⟨hP.1.snoc (gd_int (by omega) (by omega)), hP.2.snoc⟩
      · rintro H3 ⟨H02, t2, ys, ds', g3, w3, q3, hP⟩
        refine .inl ⟨B, ys, rfl, SqL.of w3.h, fun e ne => ?_⟩
        have g4 := g3.new (o := .tup ys) ne
        have w4 := hw.go g4
        have d4 := dq_new (g3.d.s.free ne) q3
        have dd := DqAll.same g4.s _ _ hd
        revert g4 w4 d4 dd
        generalize upd H3 e (.tup ys) = H4
        generalize upd H02 e (.tup ys) = H04
        intro g4 w4 d4 dd
        refine ⟨_, rfl, (by show 2 ≤ sizeLine; decide), fun tp ntp => ⟨tp, _, rfl, SqT.of upd_same, rfl, _, _, rfl, ?_⟩⟩
        have g5 := (g.trans g4).put0 (o := .tup [V.ref e, V.int many]) ntp
        have w5 := w4.put (o' := .tup [V.ref e, V.int many]) ntp
        revert g5 w5
        generalize upd H4 tp (.tup [V.ref e, V.int many]) = H5
        intro g5 w5
        obtain ⟨v1, vr, rfl⟩ : ∃ v1 v2, vs = [v1, v2] := by
          have := dq_len hd
          rw [hn] at this
          match vs, this with
          | [a, b], _ => exact ⟨a, b, rfl⟩
        refine ⟨_, rfl, w, _, rfl, DPut.k (k := Sum.inr "start") w5.h (by show 2 < sizeLine; decide), _, _, rfl, _, rfl, w, _, rfl, DPut.k (k := Sum.inr "places") upd_same (by show 3 < sizeLine; decide), rfl, ?_⟩
        rw [wk_start, wk_places]
        refine ⟨H04, t2, size, top, many, people, x, w, [v1, vr, .ref e, .int many], ds ++ [.tuple ds', .int many], rfl, ((g5.more (by omega)).setO w5).setO w5.set, s0, s1, p0, p1, m0, m1, q0, q1, hx, w5.set.set, ?_, by simp [hn], ?_, ?_⟩
        · have := (dd.snoc d4).snoc (.int many)
          simpa using this
        · have h1 := (hm.snoc ((hP.1.tup).mono (w' := 20) (p' := 4) (W' := 20000) (by omega) (by decide) (by omega))).snoc ((gd_int (i := many) (by omega) (by omega)).mono (w' := 20) (p' := 4) (W' := 20000) (by decide) (by decide) (by decide))
          simpa using h1
        · obtain ⟨Dd, hD, rfl⟩ := hX
          exact ⟨Dd, _, hD, hP.2.at (by omega), rfl⟩
    clear g s0 s1 p0 p1 m0 m1 gt gt0 q0 q1 hx hw hd hn hm hX
    rintro σ1 H1 ⟨H01, t', size, top, many, people, x, w, vs, ds, rfl, g, s0, s1, p0, p1, m0, m1, q0, q1, hx, hw, hd, hn, hm, hX⟩
    have gt := g.t1
    have gt0 := g.t0
    refine ⟨MidW p l Hs H t n 13 0 5 X3, ?_, ?_⟩
    · refine ⟨_, rfl, many, rfl, by omega, by omega, fun B nB => ?_⟩
      refine lc_range (fun i H3 => Making p l B H01 H1 t' 1 (fun i ds => Many i 20 0 30 ds ∧ EndsOk i ds) i H3) (Making.start g.d nB ⟨Many.nil, EndsOk.start⟩) ?_ ?_
      · rintro i H3 hi ⟨H02, t2, ys, ds', g3, w3, q3, hP⟩
        have g3t := g3.t1
        have g3t0 := g3.t0
        refine ⟨rfl, _, rfl, H02, p, l, t2, _, rfl, g3.d, by omega, by omega, by omega, by omega, fun H4 r g4 r0 r1 => ?_⟩
        refine ⟨_, _, rfl, rfl, _, rfl, ?_⟩
        by_cases e : 0 < r
        · refine iteYes (decide_eq_true e) ⟨_, rfl, ?_⟩
          exact Making.turn g3 w3 q3 g4 (.int _) (by have := hP.1.1; omega) ⟨hP.1.snoc (gd_int (by omega) (by omega)), hP.2.snoc⟩
        · refine iteNo (decide_eq_false e) ?_
          exact Making.skip g3 w3 q3 g4 ⟨hP.1.more (by omega), hP.2.skip⟩
      · rintro H3 ⟨H02, t2, ys, ds', g3, w3, q3, hP⟩
        refine .inl ⟨B, ys, rfl, SqL.of w3.h, fun e ne => ?_⟩
        have g4 := g3.new (o := .tup ys) ne
        have w4 := hw.go g4
        have d4 := dq_new (g3.d.s.free ne) q3
        have dd := DqAll.same g4.s _ _ hd
        revert g4 w4 d4 dd
        generalize upd H3 e (.tup ys) = H4
        generalize upd H02 e (.tup ys) = H04
        intro g4 w4 d4 dd
        obtain ⟨v1, v2, v3, v4, rfl⟩ : ∃ v1 v2 v3 v4, vs = [v1, v2, v3, v4] := by
          have := dq_len hd
          rw [hn] at this
          match vs, this with
          | [a, b, c, d], _ => exact ⟨a, b, c, d, rfl⟩
        refine ⟨_, rfl, w, _, rfl, DPut.k (k := Sum.inr "ends") w4.h (by show 4 < sizeLine; decide), ?_⟩
        rw [wk_ends]
        refine ⟨H04, t2, size, top, many, people, x, w, [v1, v2, v3, v4, .ref e], ds ++ [.tuple ds'], rfl, ((g.trans g4).more (by omega)).setO w4, s0, s1, p0, p1, m0, m1, q0, q1, hx, w4.set, ?_, by simp [hn], ?_, ?_⟩
        · exact dd.snoc d4
        · exact hm.snoc ((hP.1.tup).mono (by omega) (by decide) (by omega))
        · obtain ⟨Dd, dn, hD, hN, rfl⟩ := hX
          exact ⟨Dd, dn, _, hD, hN, hP.2.at (by omega), rfl⟩
    clear g s0 s1 p0 p1 m0 m1 gt gt0 q0 q1 hx hw hd hn hm hX
    rintro σ1 H1 ⟨H01, t', size, top, many, people, x, w, vs, ds, rfl, g, s0, s1, p0, p1, m0, m1, q0, q1, hx, hw, hd, hn, hm, hX⟩
    have gt := g.t1
    have gt0 := g.t0
    obtain ⟨v1, v2, v3, v4, v5, rfl⟩ : ∃ v1 v2 v3 v4 v5, vs = [v1, v2, v3, v4, v5] := by
      have := dq_len hd
      rw [hn] at this
      match vs, this with
      | [a, b, c, d, e], _ => exact ⟨a, b, c, d, e, rfl⟩
    refine ⟨fun σ H' => ∃ lg a b, 0 ≤ lg ∧ lg ≤ 2 ∧ a ≠ b ∧ LpO p l Hs H t n size top many people x w [v1, v2, v3, v4, v5, .int lg] (ds ++ [.int lg]) a b 0 lg (0 + ((0 : Nat) : Int)) σ H', ?_, ?_⟩
    · refine ⟨_, rfl, H01, p, l, t', 3, rfl, g.d, by omega, by omega, by omega, by omega, fun H2 lg g2 l0 l1 => ?_⟩
      refine ⟨(by show 0 ≤ sizeLine; decide), fun a na => ?_⟩
      have ga := g.trans g2
      have wa := Own.start (o := .lst []) ga na
      have hwa := (hw.go g2).put (o' := .lst []) na
      have ga := ga.put0 (o := .lst []) na
      revert ga wa hwa
      generalize upd H2 a (.lst []) = H3
      intro wa hwa ga
      refine ⟨(by show 0 ≤ sizeLine; decide), fun b nb => ?_⟩
      have ab := wa.ne nb
      have wb := Own.start (o := .lst []) ga nb
      have wa := wa.put (o' := .lst []) nb
      have hwb := hwa.put (o' := .lst []) nb
      have gb := ga.put0 (o := .lst []) nb
      revert gb wa wb hwb
      generalize upd H3 b (.lst []) = H4
      intro wb wa hwb gb
      refine ⟨(by show 3 ≤ sizeLine; decide), fun tp ntp => ⟨tp, _, rfl, SqT.of upd_same, rfl, ?_⟩⟩
      have gc := gb.put0 (o := .tup [.int lg, .ref a, .ref b]) ntp
      have wa := wa.put (o' := .tup [.int lg, .ref a, .ref b]) ntp
      have wb := wb.put (o' := .tup [.int lg, .ref a, .ref b]) ntp
      have hwc := hwb.put (o' := .tup [.int lg, .ref a, .ref b]) ntp
      revert gc wa wb hwc
      generalize upd H4 tp (.tup [.int lg, .ref a, .ref b]) = H5
      intro gc wa wb hwc
      refine ⟨_, _, rfl, _, rfl, w, _, rfl, DPut.k (k := Sum.inr "logs") hwc.h (by show 5 < sizeLine; decide), _, _, rfl, _, _, rfl, rfl, ?_⟩
      rw [wk_logs]
      have nwa : a ≠ w := ne_of wa.h hwc.h (by intro z; cases z)
      have nwb : b ≠ w := ne_of wb.h hwc.h (by intro z; cases z)
      refine ⟨lg, a, b, l0, by omega, ab, none, none, none, none, none, none, H01, _, [], [], [], [], rfl, (gc.setO hwc).more (by omega), hwc.set, ?_, wa.upd nwa, .nil, wb.upd nwb, .nil, Many.nil, Many.nil, RowsX.start, trivial⟩
      exact hd.snoc (.int lg)
    -- loop over places
    clear g hw hd gt gt0
    rintro σ1 H1 ⟨lg, a, b, l0, l1, ab, hL⟩
    refine ⟨fun σ H' => ∃ i, LpO p l Hs H t n size top many people x w [v1, v2, v3, v4, v5, .int lg] (ds ++ [.int lg]) a b 9 lg i σ H', ?_, ?_⟩
    · have hL0 := hL
      obtain ⟨o1, o2, o3, o4, o5, o6, H0, t', as, bs, da, db, rfl, _⟩ := hL
      refine ⟨_, rfl, many, rfl, by omega, by omega, for_range (fun i σ H' => LpO p l Hs H t n size top many people x w [v1, v2, v3, v4, v5, .int lg] (ds ++ [.int lg]) a b (3 * i) lg (0 + (i : Int)) σ H') hL0 ?_ (fun σ H' h => ⟨_, h.more (by omega)⟩)⟩
      rintro i σ H2 hi hL
      have hi3 : i < 3 := by omega
      obtain ⟨o1, o2, o3, o4, o5, o6, hL⟩ := hL
      have hs : ∃ o2 o3 o4 o5 o6, Lp p l Hs H t n size top many people x w [v1, v2, v3, v4, v5, .int lg] (ds ++ [.int lg]) a b (14 + 14 * ((3 * i + 0 : Nat) : Int)) (3 * i + 0) (3 * i + 0) (RowsX size many lg x (0 + (i : Int)) 0 0) [some (.int (0 + (i : Int))), o2, o3, o4, o5, o6] (fun _ => True) (σ.set 10 (some (.int (0 + (i : Int))))) H2 := by
        obtain ⟨H0, t', as, bs, da, db, rfl, r⟩ := hL
        exact ⟨o2, o3, o4, o5, o6, H0, t', as, bs, da, db, rfl, r⟩
      obtain ⟨H0, t', as, bs, da, db, rfl, _⟩ := hL
      refine ⟨_, rfl, x, rfl, for_it walk_str (fun j σ H' => ∃ o2 o3 o4 o5 o6, Lp p l Hs H t n size top many people x w [v1, v2, v3, v4, v5, .int lg] (ds ++ [.int lg]) a b (14 + 14 * ((3 * i + j : Nat) : Int)) (3 * i + j) (3 * i + j) (RowsX size many lg x (0 + (i : Int)) j j) [some (.int (0 + (i : Int))), o2, o3, o4, o5, o6] (fun _ => True) σ H') hs (fun _ _ _ _ _ => trivial) ?_ ?_⟩
      · rintro j v σ H3 H3' hj ⟨o2, o3, o4, o5, o6, H0, t2, as, bs, da, db, rfl, g, hw, hd, ha, qa, hb, qb, ma, mb, hR, _⟩ ⟨rfl, c, hc, rfl⟩
        have hj3 : j < 3 := Nat.lt_of_lt_of_le hj (lets_ok hx).1
        have gt := g.t1
        have gt0 := g.t0
        generalize hm0 : 3 * i + j = m at *
        have hm9 : m < 9 := by omega
        refine ⟨_, rfl, H0, p, l, t2, 6, rfl, g.d, by omega, by omega, by omega, by omega, fun H4 r g4 r0 r1 => ⟨_, _, rfl, rfl, _, rfl, ?_⟩⟩
        by_cases e : 0 < r
        · refine iteYes (decide_eq_true e) ?_
          have g5 := g.trans g4
          have hw5 := hw.go g4
          have ha5 := ha.go g4
          have hb5 := hb.go g4
          have gt5 := g5.t1
          refine ⟨fun σ H' => ∃ v d o4 o5 o6, Lp p l Hs H t n size top many people x w [v1, v2, v3, v4, v5, .int lg] (ds ++ [.int lg]) a b (14 + 14 * (m : Int) + 7) m m (RowsX size many lg x (0 + (i : Int)) j j) [some (.int (0 + (i : Int))), some (.str ⟨#[c]⟩), some v, o4, o5, o6] (fun H0 => Dq H0 v d ∧ Gd 20 2 300 d ∧ ∃ fs, d = .tuple fs ∧ (fs.length : Int) = size ∧ ∀ f ∈ fs, FormS size f) σ H', ?_, ?_⟩
          · refine ⟨_, rfl, size, rfl, by omega, by omega, fun B nB => ?_⟩
            refine lc_range (fun i H5 => Making p l B H0 H4 (t2 + 1) 3 (fun i ds => Many i 20 1 140 ds ∧ FormsOk size i ds) i H5) (Making.start g5.d nB ⟨Many.nil, FormsOk.start⟩) ?_ ?_
            · rintro k' H5 hk ⟨H02, t3, ys, ds', g3, w3, q3, hP⟩
              have g3t := g3.t1
              have g3t0 := g3.t0
              refine ⟨rfl, _, rfl, _, rfl, _, rfl, H02, p, l, t3, size, top, rfl, g3.d, by omega, by omega, by omega, by omega, by omega, by omega, fun H6 H6' t6 v d g6 hdv hG => ?_⟩
              exact Making.turn g3 w3 q3 g6 hdv (by have := hP.1.1; omega) ⟨hP.1.snoc (hG.gd (by omega)), hP.2.snoc hG⟩
            · rintro H5 ⟨H02, t3, ys, ds', g3, w3, q3, hP⟩
              refine .inl ⟨B, ys, rfl, SqL.of w3.h, fun q nq => ?_⟩
              have g6 := g3.new (o := .tup ys) nq
              have d6 := dq_new (g3.d.s.free nq) q3
              refine ⟨.ref q, .tuple ds', o4, o5, o6, _, _, as, bs, da, db, rfl, (g5.trans g6).more (by omega), hw5.go g6, DqAll.same g6.s _ _ hd, ha5.go g6, DqAll.same g6.s _ _ qa, hb5.go g6, DqAll.same g6.s _ _ qb, ma, mb, hR, d6, ?_, ds', rfl, by have := hP.2.1; omega, hP.2.2⟩
              exact (hP.1.more (m := 2) (by omega)).tup.mono (by decide) (by decide) (by decide)
          clear g5 hw5 ha5 hb5 gt5 g hw hd ha hb qa qb ma mb hR as bs da db g4 gt gt0 o3 o4 o5 o6
          rintro σ2 H5 ⟨v12, d12, o4, o5, o6, H0, t2, as, bs, da, db, rfl, g, hw, hd, ha, qa, hb, qb, ma, mb, hR, q12, s12, fs, rfl, fsl, fsf⟩
          have gt := g.t1
          have gt0 := g.t0
          refine ⟨fun σ H' => ∃ v d o5 o6, Lp p l Hs H t n size top many people x w [v1, v2, v3, v4, v5, .int lg] (ds ++ [.int lg]) a b (14 + 14 * (m : Int) + 9) m m (RowsX size many lg x (0 + (i : Int)) j j) [some (.int (0 + (i : Int))), some (.str ⟨#[c]⟩), some v12, some v, o5, o6] (fun H0 => Dq H0 v12 (.tuple fs) ∧ Gd 20 2 300 (.tuple fs) ∧ Dq H0 v d ∧ Gd 20 1 200 d ∧ ∃ ms, d = .tuple ms ∧ (ms.length : Int) = lg ∧ ∀ f ∈ ms, markD f = true) σ H', ?_, ?_⟩
          · refine ⟨_, rfl, w, _, rfl, (show DGet _ w _ (some (V.int lg)) from DGet.k (k := Sum.inr "logs") hw.h), lg, rfl, by omega, by omega, fun B nB => ?_⟩
            refine lc_range (fun i H5 => Making p l B H0 _ t2 1 (fun i ds => Many i 20 0 30 ds ∧ MarksOk i ds) i H5) (Making.start g.d nB ⟨Many.nil, MarksOk.start⟩) ?_ ?_
            · rintro k' H5 hk ⟨H02, t3, ys, ds', g3, w3, q3, hP⟩
              have g3t := g3.t1
              have g3t0 := g3.t0
              refine ⟨rfl, _, rfl, (by show 4 ≤ sizeLine; decide), fun q nq => ?_⟩
              have gq := (Go.refl g3.d).put0 (o := .lst [V.str "", V.str "x", V.str "y", V.str "x"]) nq
              have hq := Own.start (o := .lst [V.str "", V.str "x", V.str "y", V.str "x"]) (Go.refl g3.d) nq
              revert gq hq
              generalize upd H5 q (.lst [V.str "", V.str "x", V.str "y", V.str "x"]) = H6
              intro gq hq
              refine ⟨H02, p, l, t3, q, _, rfl, gq.d, by omega, by omega, hq.h, hq.ap, hq.al, by decide, by decide, fun H7 k7 v gv hv => ?_⟩
              have hx : ∃ x, v = .str x ∧ x ∈ (["", "x", "y", "x"] : List Str) := by
                have e : v ∈ ((["", "x", "y", "x"] : List Str).map V.str) := List.mem_of_getElem? hv
                obtain ⟨x, hx, rfl⟩ := List.mem_map.mp e
                exact ⟨x, rfl, hx⟩
              obtain ⟨y, rfl, hy⟩ := hx
              have gy : txS y = true ∧ y.length ≤ 2 := by
                have z : ((["", "x", "y", "x"] : List Str).all fun y => txS y && decide (y.length ≤ 2)) = true := by decide +kernel
                have := List.all_eq_true.mp z y hy
                simpa using this
              exact Making.turn g3 w3 q3 ((gq.trans gv).more (by omega)) (.str y) (by have := hP.1.1; omega) ⟨hP.1.snoc (gd_str gy.1 gy.2), hP.2.snoc (mark_four hy)⟩
            · rintro H5 ⟨H02, t3, ys, ds', g3, w3, q3, hP⟩
              refine .inl ⟨B, ys, rfl, SqL.of w3.h, fun q nq => ?_⟩
              have g6 := g3.new (o := .tup ys) nq
              have d6 := dq_new (g3.d.s.free nq) q3
              refine ⟨.ref q, .tuple ds', o5, o6, _, _, as, bs, da, db, rfl, (g.trans g6).more (by omega), hw.go g6, DqAll.same g6.s _ _ hd, ha.go g6, DqAll.same g6.s _ _ qa, hb.go g6, DqAll.same g6.s _ _ qb, ma, mb, hR, Dq.same g6.s _ _ q12, s12, d6, ?_, ds', rfl, by have := hP.2.1; omega, hP.2.2⟩
              exact (hP.1.more (m := 2) (by omega)).tup.mono (by decide) (by decide) (by decide)
          clear g hw hd ha hb qa qb ma mb hR as bs da db gt gt0 q12 s12 o4 o5 o6
          rintro σ3 H6 ⟨v13, d13, o5, o6, H0, t2, as, bs, da, db, rfl, g, hw, hd, ha, qa, hb, qb, ma, mb, hR, q12, s12, q13, s13, ms, rfl, msl, msf⟩
          have gt := g.t1
          have gt0 := g.t0
          refine ⟨fun σ H' => ∃ o5 o6, Lp p l Hs H t n size top many people x w [v1, v2, v3, v4, v5, .int lg] (ds ++ [.int lg]) a b (14 + 14 * (m : Int) + 10) (m + 1) m (RowsX size many lg x (0 + (i : Int)) (j + 1) j) [some (.int (0 + (i : Int))), some (.str ⟨#[c]⟩), some v12, some v13, o5, o6] (fun _ => True) σ H', ?_, ?_⟩
          · refine ⟨_, rfl, .inl ⟨rfl, _, SqL.of ha.h⟩, _, rfl, _, rfl, _, rfl, _, rfl, H0, p, l, t2, many, rfl, g.d, by omega, by omega, by omega, by omega, fun H7 tg g7 tg0 tg1 => ?_⟩
            refine ⟨_, rfl, _, rfl, (by show 5 ≤ sizeLine; decide), fun tp ntp => ?_⟩
            have ha7 := ha.go g7
            have g8 := g7.new (o := .tup [V.int (0 + (i : Int)), V.str ⟨#[c]⟩, V.int tg, v12, v13]) ntp
            have d8 := dq_new (g7.d.s.free ntp) (.cons (.int (0 + (i : Int))) (.cons (.str ⟨#[c]⟩) (.cons (.int tg) (.cons (Dq.same g7.s _ _ q12) (.cons (Dq.same g7.s _ _ q13) .nil)))))
            have ha8 := ha.go g8
            have hw8 := hw.go g8
            have hb8 := hb.go g8
            revert g8 d8 ha8 hw8 hb8
            generalize upd H7 tp (.tup [V.int (0 + (i : Int)), V.str ⟨#[c]⟩, V.int tg, v12, v13]) = H8
            generalize upd H0 tp (.tup [V.int (0 + (i : Int)), V.str ⟨#[c]⟩, V.int tg, v12, v13]) = H08
            intro g8 d8 ha8 hw8 hb8
            refine ⟨a, _, _, rfl, rfl, ha8.h, ?_, ?_⟩
            · have := dq_len qa
              have := ma.1
              rw [sizeLine_eq]
              omega
            · refine ⟨o5, o6, H08, _, _, bs, _, db, rfl, ((g.trans g8).more (by omega)).setO ha8, hw8.upd (fun z => ?_), DqAll.same g8.s _ _ hd, ha8.set, (DqAll.same g8.s _ _ qa).snoc d8, hb8.upd (fun z => ab z.symm), DqAll.same g8.s _ _ qb, ma.snoc ?_, mb, hR.arrow hx hc ⟨by show 0 ≤ 0 + (i : Int); omega, by show 0 + (i : Int) < many; omega, tg, fs, ms, rfl, tg0, tg1, fsl, fsf, msl, msf⟩, trivial⟩
              · subst z
                have := hw8.h
                rw [ha8.h] at this
                cases this
              · have z0 : Many 5 20 2 300 [PyData.int (0 + (i : Int)), .str ⟨#[c]⟩, .int tg, .tuple fs, .tuple ms] := by
                  refine Many.cons ((gd_int (by omega) (by omega)).mono (by decide) (by decide) (by decide)) (Many.cons ((gd_sign hx hc).mono (by decide) (by decide) (by decide)) (Many.cons ((gd_int (by omega) (by omega)).mono (by decide) (by decide) (by decide)) (Many.cons s12 (Many.cons (s13.mono (by decide) (by decide) (by decide)) Many.nil))))
                exact z0.tup.mono (by decide) (by decide) (by decide)
          clear g hw hd ha hb qa qb ma mb hR as bs da db gt gt0 q12 s12 q13 s13 o5 o6
          rintro σ4 H8 ⟨o5, o6, H0, t2, as, bs, da, db, rfl, g, hw, hd, ha, qa, hb, qb, ma, mb, hR, _⟩
          have gt := g.t1
          have gt0 := g.t0
          refine ⟨_, rfl, H0, p, l, t2, 6, rfl, g.d, by omega, by omega, by omega, by omega, fun H9 r' g9 r0' r1' => ⟨rfl, _, rfl, ?_⟩⟩
          have g10 := g.trans g9
          have gt10 := g10.t1
          have hw9 := hw.go g9
          have ha9 := ha.go g9
          have hb9 := hb.go g9
          by_cases e6 : r' = 0
          · refine iteYes (by rw [e6]; simp) ?_
            refine ⟨_, rfl, b, _, rfl, .inl (SqL.of hb9.h), _, _, rfl, rfl, _, rfl, ?_⟩
            by_cases e4 : ((bs.length : Nat) : Int) < 4
            · refine iteYes (decide_eq_true e4) ?_
              refine ⟨fun σ H' => ∃ lo o6, 0 ≤ lo ∧ lo ≤ 2 ∧ Lp p l Hs H t n size top many people x w [v1, v2, v3, v4, v5, .int lg] (ds ++ [.int lg]) a b (14 + 14 * (m : Int) + 12) (m + 1) m (RowsX size many lg x (0 + (i : Int)) (j + 1) j) [some (.int (0 + (i : Int))), some (.str ⟨#[c]⟩), some v12, some v13, some (.int lo), o6] (fun _ => True) σ H', ?_, ?_⟩
              · refine ⟨_, rfl, _, rfl, _, _, rfl, rfl, H0, p, l, _, _, rfl, g10.d, by omega, by omega, by omega, by omega, fun H11 lo g11 lo0 lo1 => ?_⟩
                exact ⟨lo, o6, lo0, by omega, H0, _, as, bs, da, db, rfl, (g10.trans g11).more (by omega), hw9.go g11, hd, ha9.go g11, qa, hb9.go g11, qb, ma, mb, hR, trivial⟩
              clear g hw hd ha hb qa qb ma mb hR as bs da db gt gt0 o5 o6 e4 g10 gt10 hw9 ha9 hb9 g9
              rintro σ5 H10 ⟨lo, o6, lo0, lo2, H0, t2, as, bs, da, db, rfl, g, hw, hd, ha, qa, hb, qb, ma, mb, hR, _⟩
              have gt := g.t1
              have gt0 := g.t0
              refine ⟨fun σ H' => ∃ u du, Lp p l Hs H t n size top many people x w [v1, v2, v3, v4, v5, .int lg] (ds ++ [.int lg]) a b (14 + 14 * (m : Int) + 13) (m + 1) m (RowsX size many lg x (0 + (i : Int)) (j + 1) j) [some (.int (0 + (i : Int))), some (.str ⟨#[c]⟩), some v12, some v13, some (.int lo), some u] (fun H0 => Dq H0 u du ∧ Gd 20 1 140 du ∧ FormS size du) σ H', ?_, ?_⟩
              · refine ⟨_, rfl, _, rfl, _, rfl, H0, p, l, _, _, rfl, g.d, by omega, by omega, by omega, by omega, fun H11 kk g11 kk0 kk1 => ?_⟩
                refine ⟨H0, p, l, _, size, kk, 0, 1, rfl, g11.d, by omega, by omega, by omega, by omega, by omega, by omega, fun H12 H12' t12 u du g12 hu' hG => ?_⟩
                have gx := g11.trans g12
                exact ⟨u, du, H12, _, as, bs, da, db, rfl, (g.trans gx).more (by omega), hw.go gx, DqAll.same gx.s _ _ hd, ha.go gx, DqAll.same gx.s _ _ qa, hb.go gx, DqAll.same gx.s _ _ qb, ma, mb, hR, hu', hG.gd (by omega), hG⟩
              clear g hw hd ha hb qa qb ma mb hR as bs da db gt gt0 o6
              rintro σ6 H11 ⟨u, du, H0, t2, as, bs, da, db, rfl, g, hw, hd, ha, qa, hb, qb, ma, mb, hR, qu, su, uf⟩
              have gt := g.t1
              have gt0 := g.t0
              refine ⟨_, rfl, .inl ⟨rfl, _, SqL.of hb.h⟩, _, rfl, _, rfl, _, rfl, _, rfl, _, rfl, _, rfl, H0, p, l, t2, 2, rfl, g.d, by omega, by omega, by omega, by omega, fun H12 hi2 g12 hi0 hi1 => ?_⟩
              refine ⟨_, _, rfl, rfl, (by show 5 ≤ sizeLine; decide), fun tp ntp => ?_⟩
              have g8 := g12.new (o := .tup [V.int (0 + (i : Int)), V.str ⟨#[c]⟩, u, V.int lo, V.int (lo + hi2)]) ntp
              have d8 := dq_new (g12.d.s.free ntp) (.cons (.int (0 + (i : Int))) (.cons (.str ⟨#[c]⟩) (.cons (Dq.same g12.s _ _ qu) (.cons (.int lo) (.cons (.int (lo + hi2)) .nil)))))
              have ha8 := ha.go g8
              have hw8 := hw.go g8
              have hb8 := hb.go g8
              revert g8 d8 ha8 hw8 hb8
              generalize upd H12 tp (.tup [V.int (0 + (i : Int)), V.str ⟨#[c]⟩, u, V.int lo, V.int (lo + hi2)]) = H8
              generalize upd H0 tp (.tup [V.int (0 + (i : Int)), V.str ⟨#[c]⟩, u, V.int lo, V.int (lo + hi2)]) = H08
              intro g8 d8 ha8 hw8 hb8
              refine ⟨b, _, _, rfl, rfl, hb8.h, ?_, ?_⟩
              · have := dq_len qb
                have := mb.1
                rw [sizeLine_eq]
                omega
              · refine ⟨_, _, _, _, _, H08, _, as, _, da, _, rfl, ((g.trans g8).more (by omega)).setO hb8, hw8.upd (fun z => ?_), DqAll.same g8.s _ _ hd, ha8.upd (fun z => ab z), DqAll.same g8.s _ _ qa, hb8.set, (DqAll.same g8.s _ _ qb).snoc d8, ma.more (by omega), (mb.snoc ?_).more (by omega), hR.test hx hc uf (by omega), trivial⟩
                · subst z
                  have := hw8.h
                  rw [hb8.h] at this
                  cases this
                · have z0 : Many 5 20 2 300 [PyData.int (0 + (i : Int)), .str ⟨#[c]⟩, du, .int lo, .int (lo + hi2)] := by
                    refine Many.cons ((gd_int (by omega) (by omega)).mono (by decide) (by decide) (by decide)) (Many.cons ((gd_sign hx hc).mono (by decide) (by decide) (by decide)) (Many.cons (su.mono (by decide) (by decide) (by decide)) (Many.cons ((gd_int (by omega) (by omega)).mono (by decide) (by decide) (by decide)) (Many.cons ((gd_int (by omega) (by omega)).mono (by decide) (by decide) (by decide)) Many.nil))))
                  exact z0.tup.mono (by decide) (by decide) (by decide)
            · refine iteNo (decide_eq_false e4) ?_
              exact ⟨_, _, _, _, _, H0, _, as, bs, da, db, rfl, g10.more (by omega), hw9, hd, ha9, qa, hb9, qb, ma.more (by omega), mb.more (by omega), hR.more (by omega) (by omega), trivial⟩
          · refine iteNo (by simpa using e6) ?_
            refine iteNo rfl ?_
            exact ⟨_, _, _, _, _, H0, _, as, bs, da, db, rfl, g10.more (by omega), hw9, hd, ha9, qa, hb9, qb, ma.more (by omega), mb.more (by omega), hR.more (by omega) (by omega), trivial⟩
        · refine iteNo (decide_eq_false e) ?_
          refine ⟨_, _, _, _, _, H0, _, as, bs, da, db, rfl, ((g.trans g4).more (by omega)), hw.go g4, hd, ha.go g4, qa, hb.go g4, qb, ma.more (by omega), mb.more (by omega), hR.more (by omega) (by omega), trivial⟩
      · rintro σ2 H3 ⟨o2, o3, o4, o5, o6, H0, t', as, bs, da, db, e1, g, hw, hd, ha, qa, hb, qb, ma, mb, hR, _⟩
        have := (lets_ok hx).1
        exact ⟨_, _, _, _, _, _, H0, t', as, bs, da, db, e1, g.more (by omega), hw, hd, ha, qa, hb, qb, ma.more (by omega), mb.more (by omega), hR.nextAt (by omega), trivial⟩
    -- looks
    have fin := k
    clear k
    rintro σ1 H1 ⟨ip, o1, o2, o3, o4, o5, o6, H0, t', as, bs, da, db, rfl, g, hw, hd, ha, qa, hb, qb, ma, mb, hR, _⟩
    have gt := g.t1
    have gt0 := g.t0
    refine ⟨fun σ H' => ∃ qa qb da db k, Many 9 20 3 2000 da ∧ Many 9 20 3 2000 db ∧ RowsX size many lg x ip 0 0 da db ∧ LkO p l Hs H t n size top many people x w [v1, v2, v3, v4, v5, .int lg, .ref qa, .ref qb] (ds ++ [.int lg, .tuple da, .tuple db]) a b k 0 0 σ H', ?_, ?_⟩
    · refine ⟨_, rfl, .inl ⟨a, as, rfl, SqL.of ha.h, fun q1 nq1 => ?_⟩⟩
      have ga := g.new (o := .tup as) nq1
      have da1 := dq_new (g.d.s.free nq1) qa
      have qb1 := DqAll.same (same_new (o := .tup as) (g.d.s.free nq1)) _ _ qb
      have hd1 := DqAll.same (same_new (o := .tup as) (g.d.s.free nq1)) _ _ hd
      have hw1 := hw.new (ob := .tup as) nq1
      have hb1 := hb.new (ob := .tup as) nq1
      clear g hw hd ha qa hb qb
      revert ga da1 qb1 hd1 hw1 hb1
      generalize upd H1 q1 (.tup as) = H2
      generalize upd H0 q1 (.tup as) = H02
      intro ga da1 qb1 hd1 hw1 hb1
      refine ⟨_, rfl, .inl ⟨b, bs, rfl, SqL.of hb1.h, fun q2 nq2 => ?_⟩⟩
      have gb := ga.new (o := .tup bs) nq2
      have db2 := dq_new (ga.d.s.free nq2) qb1
      have da2 := Dq.same (same_new (o := .tup bs) (ga.d.s.free nq2)) _ _ da1
      have hd2 := DqAll.same (same_new (o := .tup bs) (ga.d.s.free nq2)) _ _ hd1
      have hw2 := hw1.new (ob := .tup bs) nq2
      clear ga da1 qb1 hd1 hw1 hb1
      revert gb db2 da2 hd2 hw2
      generalize upd H2 q2 (.tup bs) = H3
      generalize upd H02 q2 (.tup bs) = H03
      intro gb db2 da2 hd2 hw2
      refine ⟨(by show 0 ≤ sizeLine; decide), fun k nk => ?_⟩
      have hk := Own.start (o := .lst []) gb nk
      have hw3 := hw2.put (o' := .lst []) nk
      have gk := gb.put0 (o := .lst []) nk
      clear gb hw2
      revert hk hw3 gk
      generalize upd H3 k (.lst []) = H4
      intro hk hw3 gk
      refine ⟨(by show 3 ≤ sizeLine; decide), fun tp ntp => ⟨tp, _, rfl, SqT.of upd_same, rfl, ?_⟩⟩
      have gc := gk.put0 (o := .tup [.ref q1, .ref q2, .ref k]) ntp
      have hk4 := hk.put (o' := .tup [.ref q1, .ref q2, .ref k]) ntp
      have hw4 := hw3.put (o' := .tup [.ref q1, .ref q2, .ref k]) ntp
      clear gk hk hw3
      revert gc hk4 hw4
      generalize upd H4 tp (.tup [.ref q1, .ref q2, .ref k]) = H5
      intro gc hk4 hw4
      have nkw : k ≠ w := ne_of hk4.h hw4.h (by intro z; cases z)
      refine ⟨_, _, rfl, _, rfl, w, _, rfl, DPut.k (k := Sum.inr "arrows") hw4.h (by show 6 < sizeLine; decide), _, _, rfl, _, rfl, w, _, rfl, DPut.k (k := Sum.inr "tests") upd_same (by show 7 < sizeLine; decide), _, _, rfl, rfl, ?_⟩
      rw [wk_arrows, wk_tests]
      refine ⟨q1, q2, da, db, k, ma, mb, hR, o1, o2, o3, o4, o5, o6, none, none, none, none, H03, _, [], [], rfl, ((gc.more (by omega)).setO hw4).setO hw4.set, hw4.set.set, ?_, (hk4.upd nkw).upd nkw, .nil, ⟨Many.nil, rfl, fun _ h => nomatch h⟩, trivial⟩
      have z := (hd2.snoc da2).snoc db2
      simpa using z
    clear g hw hd ha qa hb qb ma mb hR as bs da db gt gt0 o1 o2 o3 o4 o5 o6
    rintro σ1 H1 ⟨qa, qb, da, db, k, ma, mb, hR, hL⟩
    refine ⟨LkO p l Hs H t n size top many people x w [v1, v2, v3, v4, v5, .int lg, .ref qa, .ref qb] (ds ++ [.int lg, .tuple da, .tuple db]) a b k 3 people.toNat, ?_, ?_⟩
    · have hL0 := hL
      obtain ⟨o1, o2, o3, o4, o5, o6, o7, o8, o9, o10, H0, t', rs, dr, rfl, _⟩ := hL
      refine ⟨_, rfl, people, rfl, by omega, by omega, for_range (fun i σ H' => LkO p l Hs H t n size top many people x w [v1, v2, v3, v4, v5, .int lg, .ref qa, .ref qb] (ds ++ [.int lg, .tuple da, .tuple db]) a b k i i σ H') hL0 ?_ (fun σ H' h => h.more (by omega) (by omega))⟩
      rintro i σ H2 hi ⟨o1, o2, o3, o4, o5, o6, o7, o8, o9, o10, H0, t', rs, dr, rfl, g, hw, hd, hk, qk, mk, _⟩
      have gt := g.t1
      have gt0 := g.t0
      have hi3 : i < 3 := by omega
      refine ⟨fun σ H' => ∃ r o1 o2 o3 o4 o5 o6 o9 o10, r ≠ k ∧ Lk p l Hs H t n size top many people x w [v1, v2, v3, v4, v5, .int lg, .ref qa, .ref qb] (ds ++ [.int lg, .tuple da, .tuple db]) a b k (140 + 3 * (i : Int)) i i [o1, o2, o3, o4, o5, o6, some (.ref k), some (.int (0 + (i : Int))), some (.ref r), o9, o10] (RowX p l H size r 0 0) σ H', ?_, ?_⟩
      · refine ⟨(by show 0 ≤ sizeLine; decide), fun r nr => ?_⟩
        exact ⟨r, o1, o2, o3, o4, o5, o6, o9, o10, (hk.ne nr).symm, H0, t', rs, dr, rfl, g.put0 nr, hw.put nr, hd, hk.put nr, qk, mk, [], [], Own.start g nr, .nil, Many.nil, rfl, fun _ h => nomatch h⟩
      clear g hw hd hk qk mk rs dr gt gt0 o1 o2 o3 o4 o5 o6 o7 o8 o9 o10 H0 t'
      rintro σ H2 ⟨r, o1, o2, o3, o4, o5, o6, o9, o10, nrk, hL⟩
      refine ⟨fun σ H' => ∃ o1 o2 o3 o4 o5 o6 o9 o10, Lk p l Hs H t n size top many people x w [v1, v2, v3, v4, v5, .int lg, .ref qa, .ref qb] (ds ++ [.int lg, .tuple da, .tuple db]) a b k (140 + 3 * (i : Int) + 3) i i [o1, o2, o3, o4, o5, o6, some (.ref k), some (.int (0 + (i : Int))), some (.ref r), o9, o10] (RowX p l H size r 3 many.toNat) σ H', ?_, ?_⟩
      · have hs : ∃ o1 o2 o3 o4 o5 o6 o9 o10, Lk p l Hs H t n size top many people x w [v1, v2, v3, v4, v5, .int lg, .ref qa, .ref qb] (ds ++ [.int lg, .tuple da, .tuple db]) a b k (140 + 3 * (i : Int) + ((0 : Nat) : Int)) i i [o1, o2, o3, o4, o5, o6, some (.ref k), some (.int (0 + (i : Int))), some (.ref r), o9, o10] (RowX p l H size r 0 0) σ H2 := by
          obtain ⟨H0, t', rs, dr, rfl, g, rest⟩ := hL
          exact ⟨o1, o2, o3, o4, o5, o6, o9, o10, H0, t', rs, dr, rfl, g.more (by omega), rest⟩
        obtain ⟨H0, t', rs, dr, rfl, _⟩ := hL
        refine ⟨_, rfl, many, rfl, by omega, by omega, for_range (fun j σ H' => ∃ o1 o2 o3 o4 o5 o6 o9 o10, Lk p l Hs H t n size top many people x w [v1, v2, v3, v4, v5, .int lg, .ref qa, .ref qb] (ds ++ [.int lg, .tuple da, .tuple db]) a b k (140 + 3 * (i : Int) + (j : Int)) i i [o1, o2, o3, o4, o5, o6, some (.ref k), some (.int (0 + (i : Int))), some (.ref r), o9, o10] (RowX p l H size r j j) σ H') hs ?_ ?_⟩
        · rintro j σ H3 hj ⟨o1, o2, o3, o4, o5, o6, o9, o10, H0, t2, rs, dr, rfl, g, hw, hd, hk, qk, mk, ys, dy, hr', qr, mr⟩
          have gt := g.t1
          have gt0 := g.t0
          have hj3 : j < 3 := by omega
          refine ⟨fun σ H' => ∃ nv fv dn df, Lk p l Hs H t n size top many people x w [v1, v2, v3, v4, v5, .int lg, .ref qa, .ref qb] (ds ++ [.int lg, .tuple da, .tuple db]) a b k (140 + 3 * (i : Int) + (j : Int)) i i [some (.int (0 + (j : Int))), o2, o3, o4, o5, o6, some (.ref k), some (.int (0 + (i : Int))), some (.ref r), some nv, some fv] (fun H0 H' => RowX p l H size r j j H0 H' ∧ Dq H0 nv dn ∧ Gd 20 1 140 dn ∧ Dq H0 fv df ∧ Gd 20 1 140 df ∧ FormS size dn ∧ FormS size df) σ H', ?_, ?_⟩
          · refine ⟨_, rfl, H0, p, l, t2, size, 0, 0, 1, rfl, g.d, by omega, by omega, by omega, by omega, by omega, by omega, fun H4 H4' t4 nv dn g4 hn4 gn => ?_⟩
            refine ⟨_, rfl, _, rfl, _, _, rfl, rfl, _, rfl, H4, p, l, t4, size, _, 3, -2, rfl, g4.d, by omega, by omega, by omega, by omega, by omega, by omega, fun H5 H5' t5 fv df g5 hf5 gf => ?_⟩
            have gx := g4.trans g5
            exact ⟨_, _, rfl, nv, fv, dn, df, H5, t5, rs, dr, rfl, (g.trans gx).more (by omega), hw.go gx, DqAll.same gx.s _ _ hd, hk.go gx, DqAll.same gx.s _ _ qk, mk, ⟨ys, dy, hr'.go gx, DqAll.same gx.s _ _ qr, mr⟩, Dq.same g5.s _ _ hn4, gn.gd (by omega), hf5, gf.gd (by omega), gn, gf⟩
          clear g hw hd hk qk mk ys dy hr' qr mr gt gt0 rs dr o1 o9 o10
          rintro σ H4 ⟨nv, fv, dn, df, H0, t2, rs, dr, rfl, g, hw, hd, hk, qk, mk, ⟨ys, dy, hr', qr, mr⟩, hn', sn, hf', sf, un, uf⟩
          have gt := g.t1
          have gt0 := g.t0
          refine ⟨_, rfl, .inl ⟨rfl, _, SqL.of hr'.h⟩, _, rfl, ?_⟩
          refine ⟨(by show 0 ≤ sizeLine; decide), fun e0 ne0 => ?_⟩
          have g0 := (Go.refl g.d).new (o := .tup []) ne0
          have d0 := dq_new (g.d.s.free ne0) (DqAll.nil (H := H0))
          have nn0 := Dq.same (same_new (o := .tup []) (g.d.s.free ne0)) _ _ hn'
          have nf0 := Dq.same (same_new (o := .tup []) (g.d.s.free ne0)) _ _ hf'
          revert g0 d0 nn0 nf0
          generalize upd H4 e0 (.tup []) = K0
          generalize upd H0 e0 (.tup []) = L0
          intro g0 d0 nn0 nf0
          refine ⟨_, rfl, (by show 1 ≤ sizeLine; decide), fun e1 ne1 => ?_⟩
          have g1' := g0.new (o := .tup [nv]) ne1
          have S1 := same_new (o := .tup [nv]) (g0.d.s.free ne1)
          have d1 := dq_new (g0.d.s.free ne1) (DqAll.cons nn0 .nil)
          have d0 := Dq.same S1 _ _ d0
          have nn1 := Dq.same S1 _ _ nn0
          have nf1 := Dq.same S1 _ _ nf0
          clear S1 g0 nn0 nf0
          revert g1' d1 d0 nn1 nf1
          generalize upd K0 e1 (.tup [nv]) = K1
          generalize upd L0 e1 (.tup [nv]) = L1
          intro g1' d1 d0 nn1 nf1
          refine ⟨_, rfl, (by show 1 ≤ sizeLine; decide), fun e2 ne2 => ?_⟩
          have g2' := g1'.new (o := .tup [fv]) ne2
          have S1 := same_new (o := .tup [fv]) (g1'.d.s.free ne2)
          have d2 := dq_new (g1'.d.s.free ne2) (DqAll.cons nf1 .nil)
          have d0 := Dq.same S1 _ _ d0
          have d1 := Dq.same S1 _ _ d1
          have nn2 := Dq.same S1 _ _ nn1
          have nf2 := Dq.same S1 _ _ nf1
          clear S1 g1' nn1 nf1
          revert g2' d2 d0 d1 nn2 nf2
          generalize upd K1 e2 (.tup [fv]) = K2
          generalize upd L1 e2 (.tup [fv]) = L2'
          intro g2' d2 d0 d1 nn2 nf2
          refine ⟨_, rfl, _, rfl, (by show 2 ≤ sizeLine; decide), fun e3 ne3 => ?_⟩
          have g3' := g2'.new (o := .tup [fv, nv]) ne3
          have S1 := same_new (o := .tup [fv, nv]) (g2'.d.s.free ne3)
          have d3 := dq_new (g2'.d.s.free ne3) (DqAll.cons nf2 (.cons nn2 .nil))
          have d0 := Dq.same S1 _ _ d0
          have d1 := Dq.same S1 _ _ d1
          have d2 := Dq.same S1 _ _ d2
          clear S1 g2' nn2 nf2
          revert g3' d3 d0 d1 d2
          generalize upd K2 e3 (.tup [fv, nv]) = K3
          generalize upd L2' e3 (.tup [fv, nv]) = L3
          intro g3' d3 d0 d1 d2
          have dd : DqAll L3 [.ref e0, .ref e1, .ref e2, .ref e3] [.tuple [], .tuple [dn], .tuple [df], .tuple [df, dn]] := .cons d0 (.cons d1 (.cons d2 (.cons d3 .nil)))
          have md : ∀ d ∈ [PyData.tuple [], .tuple [dn], .tuple [df], .tuple [df, dn]], Gd 20 2 300 d ∧ CellOk size d := by
            have z0 : Gd 20 2 300 (.tuple []) := (Many.more (m := 1) (Many.nil (w := 20) (p := 1) (W := 140)) (by decide)).tup.mono (by decide) (by decide) (by decide)
            have z1 : Gd 20 2 300 (.tuple [dn]) := (Many.cons sn Many.nil).tup.mono (by decide) (by decide) (by decide)
            have z2 : Gd 20 2 300 (.tuple [df]) := (Many.cons sf Many.nil).tup.mono (by decide) (by decide) (by decide)
            have z3 : Gd 20 2 300 (.tuple [df, dn]) := (Many.cons sf (Many.cons sn Many.nil)).tup.mono (by decide) (by decide) (by decide)
            intro d hd
            simp only [List.mem_cons, List.not_mem_nil, or_false] at hd
            rcases hd with rfl | rfl | rfl | rfl
            · exact ⟨z0, _, rfl, fun _ h => nomatch h⟩
            · exact ⟨z1, _, rfl, fun f h => by rw [List.mem_singleton.mp h]; exact un⟩
            · exact ⟨z2, _, rfl, fun f h => by rw [List.mem_singleton.mp h]; exact uf⟩
            · exact ⟨z3, _, rfl, fun f h => by
                simp only [List.mem_cons, List.not_mem_nil, or_false] at h
                rcases h with rfl | rfl
                · exact uf
                · exact un⟩
          refine ⟨(by show 4 ≤ sizeLine; decide), fun e4 ne4 => ?_⟩
          have g4' := g3'.put0 (o := .lst [.ref e0, .ref e1, .ref e2, .ref e3]) ne4
          have w4 := Own.start (o := .lst [.ref e0, .ref e1, .ref e2, .ref e3]) g3' ne4
          clear g3' d0 d1 d2 d3
          revert g4' w4
          generalize upd K3 e4 (.lst [.ref e0, .ref e1, .ref e2, .ref e3]) = K4
          intro g4' w4
          refine ⟨L3, p, l, t2, e4, _, rfl, g4'.d, by omega, by omega, w4.h, w4.ap, w4.al, (by show 0 < 4; decide), (by show 4 < 1000; decide), fun H7 k7 v gv hv => ?_⟩
          obtain ⟨d, hd7, hdv⟩ := DqAll.at dd hv
          have sd := md d (List.mem_of_getElem? hd7)
          have gx := g4'.trans gv
          have hr7 := hr'.go gx
          have nrw : r ≠ w := ne_of hr7.h (hw.go gx).h (by intro z; cases z)
          refine ⟨r, _, _, rfl, rfl, hr7.h, ?_, ?_⟩
          · have := dq_len qr
            have := mr.1.1
            rw [sizeLine_eq]
            omega
          · exact ⟨_, o2, o3, o4, o5, o6, _, _, L3, _, rs, dr, rfl, ((g.trans gx).more (by omega)).setO hr7, (hw.go gx).upd nrw.symm, DqAll.same gx.s _ _ hd, (hk.go gx).upd nrk.symm, DqAll.same gx.s _ _ qk, mk, _, _, hr7.set, (DqAll.same gx.s _ _ qr).snoc hdv, mr.1.snoc sd.1, mr.2.snoc sd.2⟩
        · rintro σ H3 ⟨o1, o2, o3, o4, o5, o6, o9, o10, H0, t2, rs, dr, rfl, g, hw, hd, hk, qk, mk, ys, dy, hr', qr, mr⟩
          exact ⟨o1, o2, o3, o4, o5, o6, o9, o10, H0, t2, rs, dr, rfl, g.more (by omega), hw, hd, hk, qk, mk, ys, dy, hr', qr, mr.1.more (by omega), mr.2.at (by omega)⟩
      rintro σ H3 ⟨o1, o2, o3, o4, o5, o6, o9, o10, H0, t2, rs, dr, rfl, g, hw, hd, hk, qk, mk, ys, dy, hr', qr, mr⟩
      have gt := g.t1
      have gt0 := g.t0
      refine ⟨_, rfl, .inl ⟨rfl, _, SqL.of hk.h⟩, _, rfl, .inl ⟨r, ys, rfl, SqL.of hr'.h, fun q nq => ?_⟩⟩
      have gq := g.new (o := .tup ys) nq
      have dq := dq_new (g.d.s.free nq) qr
      have hk2 := hk.new (ob := .tup ys) nq
      have hw2 := hw.new (ob := .tup ys) nq
      have S := same_new (o := .tup ys) (g.d.s.free nq)
      have nkw : w ≠ k := ne_of hw.h hk.h (by intro z; cases z)
      refine ⟨k, _, _, rfl, rfl, hk2.h, ?_, ?_⟩
      · have := dq_len qk
        have := mk.1.1
        rw [sizeLine_eq]
        omega
      · refine ⟨o1, o2, o3, o4, o5, o6, _, _, o9, o10, _, t2, _, _, rfl, (gq.more (by omega)).setO hk2, hw2.upd nkw, DqAll.same S _ _ hd, hk2.set, (DqAll.same S _ _ qk).snoc dq, ⟨mk.1.snoc ?_, mk.2.snoc mr.2⟩, trivial⟩
        exact mr.1.tup.mono (by decide) (by decide) (by decide)
    rintro σ1 H1 ⟨o1, o2, o3, o4, o5, o6, o7, o8, o9, o10, H0, t', rs, dr, rfl, g, hw, hd, hk, qk, mk, _⟩
    have gt := g.t1
    have gt0 := g.t0
    refine ⟨fun σ H' => σ[7]? = some (some (.ref w)) ∧ ∃ H0 t' vs m, Go p l Hs H t H0 H' t' 200 ∧ Own p l w H H0 H' (.dK (wk vs)) ∧ DqAll H0 vs (HM.parts m) ∧ RightH m ∧ FitH m ∧ m.deeds.map (·.1) = letsOf x, ?_, ?_⟩
    · refine ⟨_, rfl, .inl ⟨k, rs, rfl, SqL.of hk.h, fun q nq => ?_⟩⟩
      have gq := g.new (o := .tup rs) nq
      have dq := dq_new (g.d.s.free nq) qk
      have hw2 := hw.new (ob := .tup rs) nq
      have hd2 := DqAll.same (same_new (o := .tup rs) (g.d.s.free nq)) _ _ hd
      refine ⟨_, rfl, w, _, rfl, DPut.k (k := Sum.inr "looks") hw2.h (by show 8 < sizeLine; decide), ?_⟩
      rw [wk_looks]
      have z := hd2.snoc dq
      obtain ⟨dd, dn, de, hD, hN, hE, rfl⟩ := hX
      have hg : ∀ d ∈ [PyData.int people, .tuple dd, .tuple dn, .int many, .tuple de, .int lg, .tuple da, .tuple db, .tuple dr], Gd 20 4 20000 d := by
        intro d hd
        have e : ([PyData.int people, .tuple dd, .tuple dn, .int many, .tuple de, .int lg, .tuple da, .tuple db, .tuple dr] : List PyData) = [PyData.int people, .tuple dd, .tuple dn, .int many, .tuple de] ++ [.int lg, .tuple da, .tuple db, .tuple dr] := rfl
        rw [e] at hd
        rcases List.mem_append.mp hd with hd | hd
        · exact hm.2 d hd
        simp only [List.mem_cons, List.not_mem_nil, or_false] at hd
        rcases hd with rfl | rfl | rfl | rfl
        · exact (gd_int (by omega) (by omega)).mono (by decide) (by decide) (by decide)
        · exact ma.tup.mono (by decide) (by decide) (by decide)
        · exact mb.tup.mono (by decide) (by decide) (by decide)
        · exact mk.1.tup.mono (by decide) (by decide) (by decide)
      obtain ⟨m, em, hR', hF, eL⟩ := made_house hx s0 s1 m0 m1 q0 q1 l0 l1 hD hN hE hR mk.2 hg
      refine ⟨rfl, _, _, [v1, v2, v3, v4, v5, .int lg, .ref qa, .ref qb, .ref q], m, (gq.more (by omega)).setO hw2, hw2.set, ?_, hR', hF, eL⟩
      rw [← em]
      simpa using z
    rintro σ2 H2 ⟨e7, H0, t', vs, m, g, hw, hN, hR', hF, eL⟩
    have g2 := g.keepO hw
    exact ⟨_, e7, fin _ _ _ w vs m g2 upd_same (DqAll.same (fun b o e => by rw [upd_ne (ne_of_none e hw.n)]; exact e) _ _ hN) hR' hF ⟨x, hx, eL⟩⟩
end
end KL
set_option Elab.async false
set_option linter.all false
set_option maxRecDepth 100000
set_option maxHeartbeats 8000000
namespace KL
open PySem L2 PySem.KX PySem.Spec PyProof.Rows
/-! ### the law's code, shown -/
/-- the dict of a house, at w -/
def WAt (H : Hp) (w : Addr) (m : HM) : Prop := ∃ vs, H w = some (.dK (wk vs)) ∧ DqAll H vs m.parts
theorem WAt.same {H H' : Hp} {w : Addr} {m : HM} (S : Same H H') (h : WAt H w m) : WAt H' w m := by
  obtain ⟨vs, hw, q⟩ := h
  exact ⟨vs, S _ _ hw, DqAll.same S _ _ q⟩
theorem WAt.at {H : Hp} {w : Addr} {m : HM} (h : WAt H w m) : ∃ v1 v2 v4 v6 v7 v8, H w = some (.dK (wk [.int m.people, v1, v2, .int m.places, v4, .int m.logs, v6, v7, v8])) ∧
    Dq H v1 (.tuple (m.deeds.map dE)) ∧ Dq H v2 (.tuple (m.start.map .int)) ∧ Dq H v4 (.tuple (m.ends.map .int)) ∧ Dq H v6 (.tuple (m.arrows.map rowE)) ∧ Dq H v7 (.tuple (m.tests.map rowE)) ∧ Dq H v8 m.looks := by
  obtain ⟨vs, hw, q⟩ := h
  cases q with | cons p0 q =>
  cases q with | cons p1 q =>
  cases q with | cons p2 q =>
  cases q with | cons p3 q =>
  cases q with | cons p4 q =>
  cases q with | cons p5 q =>
  cases q with | cons p6 q =>
  cases q with | cons p7 q =>
  cases q with | cons p8 q =>
  cases q
  cases p0
  cases p3
  cases p5
  exact ⟨_, _, _, _, _, _, hw, p1, p2, p4, p6, p7, p8⟩
theorem WAt.mk {H : Hp} {w : Addr} {m : HM} {v1 v2 v4 v6 v7 v8 : V} (hw : H w = some (.dK (wk [.int m.people, v1, v2, .int m.places, v4, .int m.logs, v6, v7, v8]))) (q1 : Dq H v1 (.tuple (m.deeds.map dE))) (q2 : Dq H v2 (.tuple (m.start.map .int))) (q4 : Dq H v4 (.tuple (m.ends.map .int)))
    (q6 : Dq H v6 (.tuple (m.arrows.map rowE))) (q7 : Dq H v7 (.tuple (m.tests.map rowE))) (q8 : Dq H v8 m.looks) : WAt H w m := ⟨_, hw, .cons (.int _) (.cons q1 (.cons q2 (.cons (.int _) (.cons q4 (.cons (.int _) (.cons q6 (.cons q7 (.cons q8 .nil))))))))⟩
def spCode (C : Addr) : Sp := fun vs H Q _ => ∃ (w : Addr) (m : HM), vs = [.ref w] ∧ WAt H w m ∧ RightH m ∧ FitH m ∧ ∀ H' y, Same H H' → HsAt C H' y m → Q (.ref y) H'
def shownH (m : HM) : Str := (PyData.list m.parts).shown
def spShown (C : Addr) : Sp := fun vs H Q _ => ∃ (x : Addr) (m : HM), vs = [.ref x] ∧ HsAt C H x m ∧ FitH m ∧ ∀ H', Same H H' → Q (.str (shownH m)) H'
theorem due_right {m : HM} (h : RightH m) {P : Prop} (k : P) : (m.due = none → P) ∧ ∀ it, m.due = some it → False := ⟨fun _ => k, fun it e => by rw [h.due] at e; cases e⟩
section
variable {P : Program} {w : World} {K : PySem.W.Frag} {mg : Str → Option Value} {base : Heap} {C CB fI : Addr} {dI : FuncData}
abbrev nCode : List Str := ["_law_w", "_law_some"]
theorem scCode : FnScope nCode ["_law_w"] (defScope lCode) := ⟨rfl, rfl, rfl, by decide +kernel, rfl, by decide +kernel, by decide +kernel⟩
theorem ok_code {f : Addr} {fd : FuncData} (F : Fun K "_law_code" "_law_code" lCode f fd) (mC : mg "House" = some (.ref C)) (G : FnOk P w K mg base (L2.CX P w) 6 fI dI pInit9 (spInit C CB)) (M : Mk K C fI) (bI : L2.Binds K dI pInit9 []) :
    FnOk P w K mg base CX0 8 f fd ["_law_w"] (spCode C) := by
  refine F.ok scCode (fun vs H Q E h => ?_) (fun cdv A outer s H vs Q E hr h => ?_)
  · obtain ⟨w, m, rfl, _⟩ := h
    rfl
  · obtain ⟨wd, m, rfl, hW, hR, hF, k⟩ := h
    have nd := scCode.nd
    have hu : _ + 1 < cLine := hu_of hr
    obtain ⟨v1, v2, v4, v6, v7, v8, hw, q1, q2, q4, q6, q7, q8⟩ := hW.at
    refine ⟨_, pss_cons (ps_set (i := 1) nd rfl (.inl rfl) (pe_lst (pa_cons (pe_dget hu (pv 0) pe_str (fun _ _ => rfl)) (pa_cons (pe_dget hu (pv 0) pe_str (fun _ _ => rfl)) (pa_cons (pe_dget hu (pv 0) pe_str (fun _ _ => rfl)) (pa_cons (pe_dget hu (pv 0) pe_str (fun _ _ => rfl)) (pa_cons (pe_dget hu (pv 0) pe_str (fun _ _ => rfl)) (pa_cons (pe_dget hu (pv 0) pe_str (fun _ _ => rfl)) (pa_cons (pe_dget hu (pv 0) pe_str (fun _ _ => rfl)) (pa_cons (pe_dget hu (pv 0) pe_str (fun _ _ => rfl)) (pa_cons (pe_dget hu (pv 0) pe_str (fun _ _ => rfl)) pa_nil)))))))))))
      (pss_one (ps_ret (pe_make M G hr (by rfl) mC bI .nil passL (pa_cons (pe_ix (r := rIxL K) ix_list (pv 1) pe_int (fun _ _ => rfl)) (pa_cons (pe_ix (r := rIxL K) ix_list (pv 1) pe_int (fun _ _ => rfl)) (pa_cons (pe_ix (r := rIxL K) ix_list (pv 1) pe_int (fun _ _ => rfl)) (pa_cons (pe_ix (r := rIxL K) ix_list (pv 1) pe_int (fun _ _ => rfl)) (pa_cons (pe_ix (r := rIxL K) ix_list (pv 1) pe_int (fun _ _ => rfl)) (pa_cons (pe_ix (r := rIxL K) ix_list (pv 1) pe_int (fun _ _ => rfl)) (pa_cons (pe_ix (r := rIxL K) ix_list (pv 1) pe_int (fun _ _ => rfl)) (pa_cons (pe_ix (r := rIxL K) ix_list (pv 1) pe_int (fun _ _ => rfl)) (pa_cons (pe_ix (r := rIxL K) ix_list (pv 1) pe_int (fun _ _ => rfl)) pa_nil)))))))))))), ?_⟩
    refine ⟨_, rfl, wd, _, rfl, DGet.k (k := Sum.inr "people") hw, ?_⟩
    refine ⟨_, rfl, wd, _, rfl, DGet.k (k := Sum.inr "deeds") hw, ?_⟩
    refine ⟨_, rfl, wd, _, rfl, DGet.k (k := Sum.inr "start") hw, ?_⟩
    refine ⟨_, rfl, wd, _, rfl, DGet.k (k := Sum.inr "places") hw, ?_⟩
    refine ⟨_, rfl, wd, _, rfl, DGet.k (k := Sum.inr "ends") hw, ?_⟩
    refine ⟨_, rfl, wd, _, rfl, DGet.k (k := Sum.inr "logs") hw, ?_⟩
    refine ⟨_, rfl, wd, _, rfl, DGet.k (k := Sum.inr "arrows") hw, ?_⟩
    refine ⟨_, rfl, wd, _, rfl, DGet.k (k := Sum.inr "tests") hw, ?_⟩
    refine ⟨_, rfl, wd, _, rfl, DGet.k (k := Sum.inr "looks") hw, ?_⟩
    refine ⟨(by show 9 ≤ sizeLine; decide), fun tp ntp => ?_⟩
    have S1 := same_new (o := .lst [.int m.people, v1, v2, .int m.places, v4, .int m.logs, v6, v7, v8]) ntp
    have h1 : upd H tp (.lst [.int m.people, v1, v2, .int m.places, v4, .int m.logs, v6, v7, v8]) tp = some (.lst [.int m.people, v1, v2, .int m.places, v4, .int m.logs, v6, v7, v8]) := upd_same
    revert S1 h1
    generalize upd H tp (.lst [.int m.people, v1, v2, .int m.places, v4, .int m.logs, v6, v7, v8]) = H1
    intro S1 h1
    refine ⟨_, rfl, tp, _, _, _, rfl, rfl, SqL.of h1, rfl, ?_⟩
    refine ⟨_, rfl, tp, _, _, _, rfl, rfl, SqL.of h1, rfl, ?_⟩
    refine ⟨_, rfl, tp, _, _, _, rfl, rfl, SqL.of h1, rfl, ?_⟩
    refine ⟨_, rfl, tp, _, _, _, rfl, rfl, SqL.of h1, rfl, ?_⟩
    refine ⟨_, rfl, tp, _, _, _, rfl, rfl, SqL.of h1, rfl, ?_⟩
    refine ⟨_, rfl, tp, _, _, _, rfl, rfl, SqL.of h1, rfl, ?_⟩
    refine ⟨_, rfl, tp, _, _, _, rfl, rfl, SqL.of h1, rfl, ?_⟩
    refine ⟨_, rfl, tp, _, _, _, rfl, rfl, SqL.of h1, rfl, ?_⟩
    refine ⟨_, rfl, tp, _, _, _, rfl, rfl, SqL.of h1, rfl, ?_⟩
    refine fun y dy ny ndy ne => ?_
    have S2 : Same H1 (upd (upd H1 dy (.own y)) y (.ins C dy [])) := fun b o e => by
      rw [upd_ne (ne_of_none e ny), upd_ne (ne_of_none e ndy)]
      exact e
    have q1 := Dq.same S1 _ _ q1
    have q2 := Dq.same S1 _ _ q2
    have q4 := Dq.same S1 _ _ q4
    have q6 := Dq.same S1 _ _ q6
    have q7 := Dq.same S1 _ _ q7
    have q8 := Dq.same S1 _ _ q8
    refine ⟨H1, y, dy, _, _, _, _, _, _, _, _, _, _, _, _, _, _, _, _, _, _, rfl, S2, ny, upd_same, .int _, q1, q2, .int _, q4, .int _, q6, q7, q8, hF.at.sm, fun _ H' fs S hy hf => ?_, fun it e => ?_⟩
    · exact ⟨rfl, k H' y (S1.trans S) ⟨dy, fs, v1, v2, v4, v6, v7, v8, hy, hf, Dq.same S _ _ q1, Dq.same S _ _ q2, Dq.same S _ _ q4, Dq.same S _ _ q6, Dq.same S _ _ q7, Dq.same S _ _ q8⟩⟩
    · have z : m.due = some it := e
      rw [hR.due] at z
      cases z
theorem parts_many {m : HM} (h : FitH m) : Many 9 20 4 20000 m.parts := ⟨by show 9 ≤ 9; decide, fun d hd => (h d hd).1⟩
theorem seen_parts {m : HM} (h : FitH m) : Seen (.list m.parts) := by
  have M := parts_many h
  have h1 := wdAll_le M
  have h2 := dpAll_le M
  have h3 := wtAll_le 9 M
  have h4 := txAll_of M
  have h5 : wd (.list m.parts) ≤ 20 := by
    show max m.parts.length (wdAll m.parts) ≤ 20
    have : m.parts.length = 9 := rfl
    omega
  have h6 := shown_wt (.list m.parts) h4
  have h7 : wt (.list m.parts) = wtAll m.parts + 2 := rfl
  exact ⟨(sm_wd _ (Nat.le_trans h5 (by decide))).2, by omega, by show PyData.depthAll m.parts + 1 ≤ 20; omega⟩
structure TxtR (mg : Str → Option Value) : Prop where
  repr : mg "repr" = none
abbrev nShown : List Str := ["_law_code_here", "_law_found"]
theorem scShown : FnScope nShown ["_law_code_here"] (defScope lShown) := ⟨rfl, rfl, rfl, by decide +kernel, rfl, by decide +kernel, by decide +kernel⟩
theorem ok_shown {f : Addr} {fd : FuncData} (F : Fun K "_law_shown" "_law_shown" lShown f fd) (T : TxtH K C) (mr : mg "repr" = none) : FnG P w K mg base CX0 1 f fd ["_law_code_here"] (spShown C) := by
  refine fnG0 F scShown (fun vs H Q E h => ?_) (fun cdv A outer s H vs Q E hG hr h => ?_)
  · obtain ⟨x, m, rfl, _⟩ := h
    rfl
  · obtain ⟨x, m, rfl, hx, hF, k⟩ := h
    have nd := scShown.nd
    let X0 : Cx := (cxOf CX0 P w K mg base nShown "_law_shown" (defScope lShown) f cdv A outer s H E).nox
    obtain ⟨dx, fs, v1, v2, v4, v6, v7, v8, hx, hf, q1, q2, q4, q6, q7, q8⟩ := hx
    obtain ⟨f0, f1, f2, f3, f4, f5, f6, f7, f8, fnm⟩ := hf
    refine ⟨_, pss_cons (ps_set (i := 1) nd rfl (.inl rfl) (pe_lst (pa_cons (pe_fld (pv 0) (by rfl)) (pa_cons (pe_fld (pv 0) (by rfl)) (pa_cons (pe_fld (pv 0) (by rfl)) (pa_cons (pe_fld (pv 0) (by rfl)) (pa_cons (pe_fld (pv 0) (by rfl)) (pa_cons (pe_fld (pv 0) (by rfl)) pa_nil))))))))
      (pss_one (ps_ret (pe_callB (call_repL (X := X0) hG hr.units) (by rfl) mr (by decide +kernel) (pa_cons (pe_op op_cat (pv 1) (pe_lst (pa_cons (pe_fld (pv 0) (by rfl)) (pa_cons (pe_fld (pv 0) (by rfl)) (pa_cons (pe_fld (pv 0) (by rfl)) pa_nil))))) pa_nil)))), ?_⟩
    refine ⟨_, rfl, x, C, dx, _, _, rfl, hx, T.c, T.people, f0, ?_⟩
    refine ⟨_, rfl, x, C, dx, _, _, rfl, hx, T.c, T.deeds, f1, ?_⟩
    refine ⟨_, rfl, x, C, dx, _, _, rfl, hx, T.c, T.start, f2, ?_⟩
    refine ⟨_, rfl, x, C, dx, _, _, rfl, hx, T.c, T.places, f3, ?_⟩
    refine ⟨_, rfl, x, C, dx, _, _, rfl, hx, T.c, T.ends, f4, ?_⟩
    refine ⟨_, rfl, x, C, dx, _, _, rfl, hx, T.c, T.logs, f5, ?_⟩
    refine ⟨(by show 6 ≤ sizeLine; decide), fun a na => ?_⟩
    have S1 := same_new (o := .lst [.int m.people, v1, v2, .int m.places, v4, .int m.logs]) na
    have h1 : upd H a (.lst [.int m.people, v1, v2, .int m.places, v4, .int m.logs]) a = some (.lst [.int m.people, v1, v2, .int m.places, v4, .int m.logs]) := upd_same
    revert S1 h1
    generalize upd H a (.lst [.int m.people, v1, v2, .int m.places, v4, .int m.logs]) = H1
    intro S1 h1
    have hx := S1 _ _ hx
    refine ⟨_, rfl, _, rfl, x, C, dx, _, _, rfl, hx, T.c, T.arrows, f6, ?_⟩
    refine ⟨_, rfl, x, C, dx, _, _, rfl, hx, T.c, T.tests, f7, ?_⟩
    refine ⟨_, rfl, x, C, dx, _, _, rfl, hx, T.c, T.looks, f8, ?_⟩
    refine ⟨(by show 3 ≤ sizeLine; decide), fun b nb => ?_⟩
    have S2 := same_new (o := .lst [v6, v7, v8]) nb
    have h2 : upd H1 b (.lst [v6, v7, v8]) b = some (.lst [v6, v7, v8]) := upd_same
    revert S2 h2
    generalize upd H1 b (.lst [v6, v7, v8]) = H2
    intro S2 h2
    refine ⟨a, b, _, _, rfl, rfl, S2 _ _ h1, h2, (by show 9 ≤ sizeLine; decide), fun c nc => ?_⟩
    have S3 := same_new (o := .lst ([.int m.people, v1, v2, .int m.places, v4, .int m.logs] ++ [v6, v7, v8])) nc
    have S := (S1.trans S2).trans S3
    refine ⟨c, _, _, _, _, rfl, upd_same, .cons (.int m.people) (.cons (Dq.same S _ _ q1) (.cons (Dq.same S _ _ q2) (.cons (.int m.places) (.cons (Dq.same S _ _ q4) (.cons (.int m.logs) (.cons (Dq.same S _ _ q6) (.cons (Dq.same S _ _ q7) (.cons (Dq.same S _ _ q8) .nil)))))))), seen_parts hF, ?_⟩
    exact k _ S
end
end KL
set_option Elab.async false
set_option linter.all false
set_option maxRecDepth 100000
set_option maxHeartbeats 8000000
namespace KL
open PySem L2 PySem.KX PySem.Spec PyProof.Rows
/-! ### the law's barred -/
/-- what stays (B) beside what changes (v) -/
structure VAt (B J : Hp) (v : Addr) (o : HO) : Prop where
  s : Same B J
  n : B v = none
  h : J v = some o
theorem VAt.ne {B J : Hp} {v t : Addr} {o : HO} (V : VAt B J v o) (nt : J t = none) : v ≠ t := fun z => by
  rw [← z, V.h] at nt
  cases nt
theorem VAt.new {B J : Hp} {v t : Addr} {o x : HO} (V : VAt B J v o) (nt : J t = none) : VAt (upd B t x) (upd J t x) v o := by
  have ne := V.ne nt
  refine ⟨fun b u e => ?_, by rw [upd_ne ne]; exact V.n, by rw [upd_ne ne]; exact V.h⟩
  by_cases z : b = t
  · rw [z, upd_same] at e ⊢
    exact e
  · rw [upd_ne z] at e ⊢
    exact V.s _ _ e
theorem VAt.set {B J : Hp} {v : Addr} {o o' : HO} (V : VAt B J v o) : VAt B (upd J v o') v o' := ⟨same_put V.s V.n, V.n, upd_same⟩
/-- something else that does not stay -/
theorem VAt.other {B J : Hp} {v D : Addr} {o x : HO} (V : VAt B J v o) (nD : B D = none) (ne : D ≠ v) : VAt B (upd J D x) v o := ⟨same_put V.s nD, V.n, by rw [upd_ne ne.symm]; exact V.h⟩
def spLBarred : Sp := fun vs H Q _ => ∃ (w : Addr) (s : Str) (m : HM), vs = [.ref w, .str s] ∧ WAt H w m ∧ RightH m ∧ FitH m ∧ ∀ H' v, Same H H' → WAt H' v (m.bar s) → Q (.ref v) H'
theorem merge_wk (v0 v1 v2 v3 v4 v5 v6 v7 v8 : V) : mergeK [] (wk [v0, v1, v2, v3, v4, v5, v6, v7, v8]) = wk [v0, v1, v2, v3, v4, v5, v6, v7, v8] := by rfl
theorem put_arrows (v0 v1 v2 v3 v4 v5 v6 v7 v8 v : V) : putK (wk [v0, v1, v2, v3, v4, v5, v6, v7, v8]) (Sum.inr "arrows") v = wk [v0, v1, v2, v3, v4, v5, v, v7, v8] := by rfl
theorem put_tests (v0 v1 v2 v3 v4 v5 v6 v7 v8 v : V) : putK (wk [v0, v1, v2, v3, v4, v5, v6, v7, v8]) (Sum.inr "tests") v = wk [v0, v1, v2, v3, v4, v5, v6, v, v8] := by rfl
theorem put_deeds (v0 v1 v2 v3 v4 v5 v6 v7 v8 v : V) : putK (wk [v0, v1, v2, v3, v4, v5, v6, v7, v8]) (Sum.inr "deeds") v = wk [v0, v, v2, v3, v4, v5, v6, v7, v8] := by rfl
def rDictP (K : PySem.W.Frag) : List V → Hp → VK → Prop := fun xs H Q => ∃ (a : Addr) (ps : List Addr) (kvs : List (Key × V)), xs = [.ref a] ∧ SqL K H a (ps.map V.ref) ∧ Paired (fun p kv => SqT K H p [kV kv.1, kv.2]) ps kvs ∧ ∀ p, H p = none → Q (.ref p) (upd H p (.dK (mergeK [] kvs)))
theorem cr_dictP {X : Cx} (hc : X.calm = true) : CallR X (.type "dict") (rDictP X.K) := call_dictP hc
theorem paired_sq {K : PySem.W.Frag} {H' : Hp} : ∀ {ts : List Addr} {kk : List (Key × V)}, Paired (fun (t : Addr) (q : Key × V) => H' t = some (.tup [kV q.1, q.2])) ts kk → Paired (fun p kv => SqT K H' p [kV kv.1, kv.2]) ts kk
  | _, _, .nil => .nil
  | _, _, .cons a h => .cons (SqT.of a) (paired_sq h)
/-- the rows so far that are left stand in the list at D, the dict at v as it was -/
def KeptV (B : Hp) (v : Addr) (o : HO) (D : Addr) (rows : List Row) (s : Str) (i : Nat) (H' : Hp) : Prop := ∃ vs, VAt B H' v o ∧ B D = none ∧ D ≠ v ∧ H' D = some (.lst vs) ∧ DqAll B vs (((rows.take i).filter (outB s)).map rowE)
theorem KeptV.step {B H' : Hp} {v D : Addr} {o : HO} {rows : List Row} {s : Str} {i : Nat} {r : Row} {y : V} (few : rows.length ≤ 20) (h : KeptV B v o D rows s i H') (hr : rows[i]? = some r) (hq : Dq B y (rowE r)) :
    (outB s r = true → ∃ acc, H' D = some (.lst acc) ∧ acc.length < sizeLine ∧ KeptV B v o D rows s (i + 1) (upd H' D (.lst (acc ++ [y])))) ∧ (outB s r = false → KeptV B v o D rows s (i + 1) H') := by
  obtain ⟨vs, V, nD, ne, hD, dq⟩ := h
  have et : rows.take (i + 1) = rows.take i ++ [r] := by
    rw [List.take_add_one, hr]
    rfl
  have len : vs.length ≤ 20 := by
    rw [dq_len dq, List.length_map]
    refine Nat.le_trans (List.length_filter_le _ _) ?_
    rw [List.length_take]
    omega
  refine ⟨fun u => ⟨vs, hD, by rw [sizeLine_eq]; omega, vs ++ [y], V.other nD ne, nD, ne, upd_same, ?_⟩, fun u => ⟨vs, V, nD, ne, hD, ?_⟩⟩
  · rw [et, List.filter_append, List.filter_cons_of_pos u, List.map_append]
    exact dq.app (.cons hq .nil)
  · rw [et, List.filter_append, List.filter_cons_of_neg (by rw [u]; decide), List.filter_nil, List.append_nil]
    exact dq
theorem tup_at {H : Hp} {v : V} {ds : List PyData} (q : Dq H v (.tuple ds)) : ∃ a xs, v = .ref a ∧ H a = some (.tup xs) ∧ DqAll H xs ds := by
  cases q with
  | tup h1 h2 => exact ⟨_, _, rfl, h1, h2⟩
theorem few_of {rows : List Row} (h : Fit (.tuple (rows.map rowE))) : rows.length ≤ 20 := by
  have : max (rows.map rowE).length (wdAll (rows.map rowE)) ≤ 20 := h.1.wd
  rw [List.length_map] at this
  omega
structure TxtC (mg : Str → Option Value) : Prop where
  b : TxtB mg
  dict : mg "dict" = none
  list : mg "list" = none
  repr : mg "repr" = none
  sorted : mg "sorted" = none
  set : mg "set" = none
section
variable {P : Program} {w : World} {K : PySem.W.Frag} {mg : Str → Option Value} {base : Heap}
abbrev nLBar : List Str := ["_law_w", "_law_some", "_law_v", "_law_it"]
theorem scLBar : FnScope nLBar ["_law_w", "_law_some"] (defScope lBarred) := ⟨rfl, rfl, rfl, by decide +kernel, rfl, by decide +kernel, by decide +kernel⟩
abbrev tOut (K : PySem.W.Frag) : TE := tOp (fun x y H Q => ∃ (c : Nat) (z : Str), x = .str ⟨#[c]⟩ ∧ y = .str z ∧ Q (.bl (!decide (c ∈ z.cps.toList))) H) (tOp (rIxT K) (tVar 3) (tC (.int 1))) (tVar 1)
theorem ok_lbarred {f : Addr} {fd : FuncData} (F : Fun K "_law_barred" "_law_barred" lBarred f fd) (T : TxtC mg) : FnOk P w K mg base CX0 1 f fd ["_law_w", "_law_some"] spLBarred := by
  refine F.ok scLBar (fun vs H Q E h => ?_) (fun cdv A outer s H vs Q E hr h => ?_)
  · obtain ⟨w, t, m, rfl, _⟩ := h
    rfl
  · obtain ⟨wd, t, m, rfl, hW, hR, hF, k⟩ := h
    have nd := scLBar.nd
    have hu : _ + 1 < cLine := hu_of hr
    obtain ⟨v1, v2, v4, v6, v7, v8, hw, q1, q2, q4, q6, q7, q8⟩ := hW.at
    obtain ⟨a6, xs6, rfl, e6, qa6⟩ := tup_at q6
    obtain ⟨a7, xs7, rfl, e7, qa7⟩ := tup_at q7
    have few6 := few_of hF.at.h6
    have few7 := few_of hF.at.h7
    have l6 : xs6.length = m.arrows.length := by rw [dq_len qa6, List.length_map]
    have l7 : xs7.length = m.tests.length := by rw [dq_len qa7, List.length_map]
    refine ⟨_, pss_cons (ps_set (i := 2) nd rfl (.inl rfl) (pe_callTy (cr_dictP rfl) (by rfl) T.dict (by decide +kernel) (pa_cons (LiI.pe_listItems rfl (pv 0) (by rfl) T.list (by decide +kernel)) pa_nil)))
      (pss_cons (ps_dput hu (pv 2) pe_str (pe_tupleOf (by rfl) T.b.tuple (pe_lc (own := [("_law_it", 3)]) (g := gName 3) (tt := tTest (tOut K)) rfl nd (pi_tup (pe_dget hu (pv 0) pe_str (fun _ _ => rfl))) (blkOk_by (N := nLBar) (sc := defScope lBarred) (by decide +kernel)) (fun _ _ _ _ _ => pg_name (i := 3) nd rfl (.inl rfl))
          (fun _ _ _ _ _ => pts_one (pt_cmpR op_notIn_sign (pe_ix (r := rIxT K) ix_tup (pv 3) pe_int (fun _ _ => rfl)) (pv 1) rfl)) (fun _ _ _ _ _ => pv 3))) rfl)
      (pss_cons (ps_dput hu (pv 2) pe_str (pe_tupleOf (by rfl) T.b.tuple (pe_lc (own := [("_law_it", 3)]) (g := gName 3) (tt := tTest (tOut K)) rfl nd (pi_tup (pe_dget hu (pv 0) pe_str (fun _ _ => rfl))) (blkOk_by (N := nLBar) (sc := defScope lBarred) (by decide +kernel)) (fun _ _ _ _ _ => pg_name (i := 3) nd rfl (.inl rfl))
          (fun _ _ _ _ _ => pts_one (pt_cmpR op_notIn_sign (pe_ix (r := rIxT K) ix_tup (pv 3) pe_int (fun _ _ => rfl)) (pv 1) rfl)) (fun _ _ _ _ _ => pv 3))) rfl)
      (pss_one (ps_ret (pv 2))))), ?_⟩
    refine ⟨_, rfl, wd, _, rfl, hw, fun B p ts SB np nt nm hp hq => ⟨p, ts, _, rfl, SqL.of hp, paired_sq hq, fun v nv => ?_⟩⟩
    have SB : Same H B := SB
    rw [merge_wk]
    have V : VAt B (upd B v (.dK (wk [.int m.people, v1, v2, .int m.places, v4, .int m.logs, .ref a6, .ref a7, v8]))) v (.dK (wk [.int m.people, v1, v2, .int m.places, v4, .int m.logs, .ref a6, .ref a7, v8])) := ⟨same_new nv, nv, upd_same⟩
    clear hp hq
    revert V
    generalize upd B v (.dK (wk [.int m.people, v1, v2, .int m.places, v4, .int m.logs, .ref a6, .ref a7, v8])) = J
    intro V
    -- the arrows
    refine ⟨_, rfl, wd, _, rfl, DGet.k (k := Sum.inr "arrows") (V.s _ _ (SB _ _ hw)), a6, rfl, ⟨_, SqT.of (V.s _ _ (SB _ _ e6))⟩, fun D nD => ?_⟩
    refine lc_tup (K := K) (a := a6) (xs := xs6) (fun i H2 => KeptV B v _ D m.arrows t i H2) ⟨[], V.other (V.s.free nD) (fun z => V.ne nD z.symm), V.s.free nD, fun z => V.ne nD z.symm, upd_same, .nil⟩ (fun i H2 _ M => by
      obtain ⟨_, V2, _⟩ := M
      exact SqT.of (V2.s _ _ (SB _ _ e6))) ?_ ?_
    · rintro i y H2 hy M
      obtain ⟨r, hr', hq, a, z, zs, rfl, ha⟩ := left_rows hR (fun r h => (hR.aa r h).l) qa6 hy
      have st := M.step few6 hr' (Dq.same SB _ _ hq)
      obtain ⟨_, V2, _⟩ := M
      refine ⟨rfl, _, rfl, a, _, _, _, rfl, rfl, SqT.of (V2.s _ _ (SB _ _ ha)), atI_nat (j := 1) rfl, _, rfl, signS r.2.1, t, rfl, rfl, _, rfl, ?_⟩
      rcases bool_ft (outB t r) with o | o
      · exact iteNo o (st.2 o)
      · refine iteYes o ?_
        obtain ⟨acc, h1, h2, h3⟩ := st.1 o
        exact ⟨_, rfl, acc, h1, h2, h3⟩
    rintro H2 ⟨vs, V2, _, _, hD, dq⟩
    rw [l6, List.take_length] at dq
    refine .inl ⟨D, vs, rfl, SqL.of hD, fun tp ntp => ?_⟩
    have q6' := dq_new (V2.s.free ntp) dq
    have S3 := SB.trans (same_new (o := .tup vs) (V2.s.free ntp))
    have V3 := V2.new (x := .tup vs) ntp
    clear dq hD V2 V SB nD
    revert q6' S3 V3
    generalize upd H2 tp (.tup vs) = H3
    generalize upd B tp (.tup vs) = B3
    intro q6' SB V3
    refine ⟨_, rfl, v, _, rfl, DPut.k (k := Sum.inr "arrows") V3.h (by show 9 < sizeLine; decide), ?_⟩
    rw [put_arrows]
    have V := V3.set (o' := .dK (wk [.int m.people, v1, v2, .int m.places, v4, .int m.logs, .ref tp, .ref a7, v8]))
    clear V3
    revert V
    generalize upd H3 v (.dK (wk [.int m.people, v1, v2, .int m.places, v4, .int m.logs, .ref tp, .ref a7, v8])) = J3
    intro V
    -- the tests
    refine ⟨_, rfl, wd, _, rfl, DGet.k (k := Sum.inr "tests") (V.s _ _ (SB _ _ hw)), a7, rfl, ⟨_, SqT.of (V.s _ _ (SB _ _ e7))⟩, fun D nD => ?_⟩
    refine lc_tup (K := K) (a := a7) (xs := xs7) (fun i H2 => KeptV B3 v _ D m.tests t i H2) ⟨[], V.other (V.s.free nD) (fun z => V.ne nD z.symm), V.s.free nD, fun z => V.ne nD z.symm, upd_same, .nil⟩ (fun i H2 _ M => by
      obtain ⟨_, V2, _⟩ := M
      exact SqT.of (V2.s _ _ (SB _ _ e7))) ?_ ?_
    · rintro i y H2 hy M
      obtain ⟨r, hr', hq, a, z, zs, rfl, ha⟩ := left_rows hR (fun r h => hR.testL h) qa7 hy
      have st := M.step few7 hr' (Dq.same SB _ _ hq)
      obtain ⟨_, V2, _⟩ := M
      refine ⟨rfl, _, rfl, a, _, _, _, rfl, rfl, SqT.of (V2.s _ _ (SB _ _ ha)), atI_nat (j := 1) rfl, _, rfl, signS r.2.1, t, rfl, rfl, _, rfl, ?_⟩
      rcases bool_ft (outB t r) with o | o
      · exact iteNo o (st.2 o)
      · refine iteYes o ?_
        obtain ⟨acc, h1, h2, h3⟩ := st.1 o
        exact ⟨_, rfl, acc, h1, h2, h3⟩
    rintro H4 ⟨us, V2, _, _, hD, dq⟩
    rw [l7, List.take_length] at dq
    refine .inl ⟨D, us, rfl, SqL.of hD, fun tq ntq => ?_⟩
    have q7' := dq_new (V2.s.free ntq) dq
    have q6' := Dq.same (same_new (o := .tup us) (V2.s.free ntq)) _ _ q6'
    have S5 := SB.trans (same_new (o := .tup us) (V2.s.free ntq))
    have V5 := V2.new (x := .tup us) ntq
    clear dq hD V2 V SB nD
    revert q7' q6' S5 V5
    generalize upd H4 tq (.tup us) = H5
    generalize upd B3 tq (.tup us) = B5
    intro q7' q6' SB V5
    refine ⟨_, rfl, v, _, rfl, DPut.k (k := Sum.inr "tests") V5.h (by show 9 < sizeLine; decide), ?_⟩
    rw [put_tests]
    have V := V5.set (o' := .dK (wk [.int m.people, v1, v2, .int m.places, v4, .int m.logs, .ref tp, .ref tq, v8]))
    refine ⟨_, rfl, k _ v (SB.trans V.s) (.mk V.h (Dq.same (SB.trans V.s) _ _ q1) (Dq.same (SB.trans V.s) _ _ q2) (Dq.same (SB.trans V.s) _ _ q4) (Dq.same V.s _ _ q6') (Dq.same V.s _ _ q7') (Dq.same (SB.trans V.s) _ _ q8))⟩
end
end KL
set_option Elab.async false
set_option linter.all false
set_option maxRecDepth 100000
set_option maxHeartbeats 16000000
namespace KL
open PySem L2 PySem.KX PySem.Spec PyProof.Rows
/-! ### the law's other -/
/-- a list at D beside the dict at v -/
structure WV (B J : Hp) (v : Addr) (o : HO) (D : Addr) (vs : List V) : Prop where
  a : VAt B J v o
  nD : B D = none
  ne : D ≠ v
  h : J D = some (.lst vs)
theorem WV.new {B J : Hp} {v D t : Addr} {o x : HO} {vs : List V} (W : WV B J v o D vs) (nt : J t = none) : WV (upd B t x) (upd J t x) v o D vs := by
  have ne : D ≠ t := fun z => by
    rw [← z, W.h] at nt
    cases nt
  exact ⟨W.a.new nt, by rw [upd_ne ne]; exact W.nD, W.ne, by rw [upd_ne ne]; exact W.h⟩
theorem WV.more {B J : Hp} {v D : Addr} {o : HO} {vs : List V} (W : WV B J v o D vs) (y : V) : WV B (upd J D (.lst (vs ++ [y]))) v o D (vs ++ [y]) := ⟨W.a.other W.nD W.ne, W.nD, W.ne, upd_same⟩
/-- rows so far stand in the list at D -/
def BuiltV (B0 : Hp) (v : Addr) (o : HO) (D : Addr) (ds : List PyData) (H' : Hp) : Prop := ∃ B vs, Same B0 B ∧ WV B H' v o D vs ∧ DqAll B vs ds
theorem BuiltV.start {B J : Hp} {v D : Addr} {o : HO} (V : VAt B J v o) (nD : J D = none) : BuiltV B v o D [] (upd J D (.lst [])) :=
  ⟨B, [], Same.refl _, ⟨V.other (V.s.free nD) (fun z => V.ne nD z.symm), V.s.free nD, fun z => V.ne nD z.symm, upd_same⟩, .nil⟩
theorem BuiltV.s {B0 H' : Hp} {v D : Addr} {o : HO} {ds : List PyData} (M : BuiltV B0 v o D ds H') : Same B0 H' := by
  obtain ⟨B, vs, S, W, _⟩ := M
  exact S.trans W.a.s
theorem cut_one (x y : V) (zs : List V) : cutV (x :: y :: zs) none (some 1) = [x] := by
  unfold cutV
  rw [show (some 1 : Option Int) = some ((1 : Nat) : Int) from rfl, HT.sIx_nat]
  show (List.drop 0 (x :: y :: zs)).take (min 1 (zs.length + 2) - 0) = [x]
  rw [Nat.min_eq_left (by omega)]
  rfl
theorem cut_rest (x y : V) (zs : List V) : cutV (x :: y :: zs) (some 2) none = zs := by
  unfold cutV
  rw [show (some 2 : Option Int) = some ((2 : Nat) : Int) from rfl, HT.sIx_nat]
  show (List.drop (min 2 (zs.length + 2)) (x :: y :: zs)).take (zs.length + 2 - min 2 (zs.length + 2)) = zs
  rw [Nat.min_eq_left (by omega)]
  show zs.take (zs.length + 2 - 2) = zs
  exact List.take_length
theorem not_whole1 (x y : V) (zs : List V) : ¬ (HT.sIx (x :: y :: zs).length 0 none = 0 ∧ HT.sIx (x :: y :: zs).length (x :: y :: zs).length (some 1) = (x :: y :: zs).length) := by
  rw [show (some 1 : Option Int) = some ((1 : Nat) : Int) from rfl, HT.sIx_nat]
  rintro ⟨_, h⟩
  have : min 1 (zs.length + 2) = zs.length + 2 := h
  omega
theorem not_whole2 (x y : V) (zs : List V) : ¬ (HT.sIx (x :: y :: zs).length 0 (some 2) = 0 ∧ HT.sIx (x :: y :: zs).length (x :: y :: zs).length none = (x :: y :: zs).length) := by
  rw [show (some 2 : Option Int) = some ((2 : Nat) : Int) from rfl, HT.sIx_nat]
  rintro ⟨h, _⟩
  have : min 2 (zs.length + 2) = 0 := h
  omega
theorem row_at {H : Hp} {rows : List Row} {xs : List V} {i : Nat} {y : V} (q : DqAll H xs (rows.map rowE)) (hy : xs[i]? = some y) :
    ∃ r a zs, rows[i]? = some r ∧ y = .ref a ∧ H a = some (.tup (.int r.1 :: .str r.2.1 :: zs)) ∧ DqAll H zs r.2.2 := by
  obtain ⟨d', hd', hq⟩ := DqAll.at q hy
  rw [List.getElem?_map] at hd'
  cases ex : rows[i]? with
  | none =>
    rw [ex] at hd'
    cases hd'
  | some r =>
    rw [ex] at hd'
    cases hd'
    obtain ⟨i', l, rest⟩ := r
    cases hq with
    | @tup c vs _ ec hz =>
      cases hz with
      | cons p0 hz =>
      cases hz with
      | cons p1 hz =>
      cases p0
      cases p1
      exact ⟨_, c, _, rfl, rfl, ec, hz⟩
def spLOther : Sp := fun vs H Q _ => ∃ (w c : Addr) (m : HM) (kvs : List (Key × V)) (f : Str → Str), vs = [.ref w, .ref c] ∧ WAt H w m ∧ RightH m ∧ FitH m ∧ H c = some (.dK kvs) ∧ (∀ l ∈ m.deeds.map (·.1), valOf kvs l = .str (f l) ∧ letS (f l) = true) ∧ ∀ H' v, Same H H' → WAt H' v (m.ren f) → Q (.ref v) H'
/-- what the loop over two names needs to know of one of them -/
structure TurnOk (H : Hp) (m : HM) (f : Str → Str) (rows : List Row) (a : Addr) (xs : List V) : Prop where
  e : H a = some (.tup xs)
  q : DqAll H xs (rows.map rowE)
  l : ∀ r ∈ rows, r.2.1 ∈ m.deeds.map (·.1)
  few : rows.length ≤ 20
  rest : ∀ r ∈ rows, r.2.2.length = 3
  fit : Fit (.tuple ((rows.map (renR f)).map rowE))
  al : PySem.W.AllAlike ((rows.map (renR f)).map rowE)
section
variable {P : Program} {w : World} {K : PySem.W.Frag} {mg : Str → Option Value} {base : Heap}
abbrev nLOth : List Str := ["_law_w", "_law_called_here", "_law_v", "_law_name", "_law_letter", "_law_owner", "_law_it"]
theorem scLOth : FnScope nLOth ["_law_w", "_law_called_here"] (defScope lOther) := ⟨rfl, rfl, rfl, by decide +kernel, rfl, by decide +kernel, by decide +kernel⟩
theorem ok_lother {f : Addr} {fd : FuncData} (F : Fun K "_law_other" "_law_other" lOther f fd) (T : TxtC mg) : FnOk P w K mg base CX0 1 f fd ["_law_w", "_law_called_here"] spLOther := by
  refine F.ok scLOth (fun vs H Q E h => ?_) (fun cdv A outer s H vs Q E hr h => ?_)
  · obtain ⟨w, c, m, kvs, f, rfl, _⟩ := h
    rfl
  · obtain ⟨wd, c, m, kvs, f', rfl, hW, hR, hF, hc, hv, k⟩ := h
    have nd := scLOth.nd
    have hu : _ + 1 < cLine := hu_of hr
    obtain ⟨v1, v2, v4, v6, v7, v8, hw, q1, q2, q4, q6, q7, q8⟩ := hW.at
    obtain ⟨a1, xs1, rfl, e1, qa1⟩ := tup_at q1
    obtain ⟨a6, xs6, rfl, e6, qa6⟩ := tup_at q6
    obtain ⟨a7, xs7, rfl, e7, qa7⟩ := tup_at q7
    have lt : ∀ l ∈ m.deeds.map (·.1), letS (f' l) = true := fun l hl => (hv l hl).2
    obtain ⟨fitD, fitA, fitT⟩ := hF.pre hR lt
    have l1 : xs1.length = m.deeds.length := by rw [dq_len qa1, List.length_map]
    have mem : ∀ {d : Str × Int}, d ∈ m.deeds → d.1 ∈ m.deeds.map (·.1) := fun h => List.mem_map.mpr ⟨_, h, rfl⟩
    have few1 := hR.d5
    have T6 : TurnOk H m f' m.arrows a6 xs6 := ⟨e6, qa6, fun r hr => (hR.aa r hr).l, few_of hF.at.h6, fun r hr => by
      obtain ⟨t, fs', ms', e, _⟩ := (hR.aa r hr).e
      rw [e]
      rfl, fitA, rows_alike (m := m) (fun r hr s hs x y => alike_arrow (hR.aa r hr) (hR.aa s hs))⟩
    have T7 : TurnOk H m f' m.tests a7 xs7 := ⟨e7, qa7, fun r hr => hR.testL hr, few_of hF.at.h7, fun r hr => by
      obtain ⟨fo, lo, hi, e, _⟩ := (hR.ta r hr).e
      rw [e]
      rfl, fitT, rows_alike (m := m) (fun r hr s hs x y => alike_test (hR.ta r hr) (hR.ta s hs))⟩
    obtain ⟨lay1, dep1⟩ := fit_lay fitD
    refine ⟨_, pss_cons (ps_set (i := 2) nd rfl (.inl rfl) (pe_callTy (cr_dictP rfl) (by rfl) T.dict (by decide +kernel) (pa_cons (LiI.pe_listItems rfl (pv 0) (by rfl) T.list (by decide +kernel)) pa_nil)))
      (pss_cons (ps_dput hu (pv 2) pe_str (pe_tupleOf (by rfl) T.b.tuple (pe_callB (cr_sortedQ hr.units) (by rfl) T.sorted (by decide +kernel) (pa_cons (pe_lc (own := [("_law_letter", 4), ("_law_owner", 5)]) (g := gTup K 2 (gCons (gName 4) (gCons (gName 5) gNil))) (tt := tYes) rfl nd (pi_tup (pe_dget hu (pv 0) pe_str (fun _ _ => rfl))) (blkOk_by (N := nLOth) (sc := defScope lOther) (by decide +kernel)) (fun _ _ _ _ _ => pg_tup rfl (pgs_cons (pg_name (i := 4) nd rfl (.inl rfl)) (pgs_cons (pg_name (i := 5) nd rfl (.inl rfl)) pgs_nil)))
          (fun _ _ _ _ _ => pts_nil) (fun _ _ _ _ _ => pe_tup (pa_cons (pe_dget2 hu (pv 1) (pv 4) (pv 4) ⟨rfl, rfl, rfl, rfl⟩) (pa_cons (pv 5) pa_nil)))) pa_nil))) rfl)
      (C8.pss_cut (ps_for PassesOwn.never rfl (pi_tup (pe_tup (pa_cons pe_str (pa_cons pe_str pa_nil)))) (pg_name (i := 3) nd rfl (.inl rfl)) (pss_one
        (ps_dput hu (pv 2) (pv 3) (pe_tupleOf (by rfl) T.b.tuple (pe_callB (cr_sortedQ hr.units) (by rfl) T.sorted (by decide +kernel) (pa_cons (pe_lc (own := [("_law_it", 6)]) (g := gName 6) (tt := tYes) rfl nd (pi_tup (pe_dget hu (pv 0) (pv 3) (fun _ _ => rfl))) (blkOk_by (N := nLOth) (sc := defScope lOther) (by decide +kernel)) (fun _ _ _ _ _ => pg_name (i := 6) nd rfl (.inl rfl))
          (fun _ _ _ _ _ => pts_nil) (fun _ _ _ _ _ => pe_op (r := rCatA K) op_catA (pe_op (r := rCatA K) op_catA (pe_slice (r := rSlA K) sl_tupA (pv 6) po_none (po_some pe_int)) (pe_tup (pa_cons (pe_dget2 hu (pv 1) (pe_ix (r := rIxT K) ix_tup (pv 6) pe_int (fun _ _ => rfl)) (pe_ix (r := rIxT K) ix_tup (pv 6) pe_int (fun _ _ => rfl)) ⟨rfl, rfl, rfl, rfl⟩) pa_nil))) (pe_slice (r := rSlA K) sl_tupA (pv 6) (po_some pe_int) po_none))) pa_nil))) rfl)))
      (pss_one (ps_ret (pv 2))))), ?_⟩
    refine ⟨_, rfl, wd, _, rfl, hw, fun B p ts SB np nt nm hp hq => ⟨p, ts, _, rfl, SqL.of hp, paired_sq hq, fun v nv => ?_⟩⟩
    have SB : Same H B := SB
    rw [merge_wk]
    have V : VAt B (upd B v (.dK (wk [.int m.people, .ref a1, v2, .int m.places, v4, .int m.logs, .ref a6, .ref a7, v8]))) v (.dK (wk [.int m.people, .ref a1, v2, .int m.places, v4, .int m.logs, .ref a6, .ref a7, v8])) := ⟨same_new nv, nv, upd_same⟩
    clear hp hq
    revert V
    generalize upd B v (.dK (wk [.int m.people, .ref a1, v2, .int m.places, v4, .int m.logs, .ref a6, .ref a7, v8])) = J
    intro V
    -- the deeds
    refine ⟨_, rfl, wd, _, rfl, DGet.k (k := Sum.inr "deeds") (V.s _ _ (SB _ _ hw)), a1, rfl, ⟨_, SqT.of (V.s _ _ (SB _ _ e1))⟩, fun D nD => ?_⟩
    refine lc_tup (K := K) (a := a1) (xs := xs1) (fun i H2 => BuiltV B v _ D (((m.deeds.take i).map (renD f')).map dE) H2) (.start V nD) (fun i H2 _ M => SqT.of (M.s _ _ (SB _ _ e1))) ?_ ?_
    · rintro i y H2 hy M
      obtain ⟨d, b, hd, rfl, ec⟩ := deed_at qa1 hy
      have hm := mem (List.mem_of_getElem? hd)
      have et : m.deeds.take (i + 1) = m.deeds.take i ++ [d] := by
        rw [List.take_add_one, hd]
        rfl
      have S2 := SB.trans M.s
      have hg : (valV kvs (Sum.inr d.1)).getD (.str d.1) = .str (f' d.1) := (hv _ hm).1
      refine ⟨b, _, rfl, SqT.of (S2 _ _ ec), rfl, _, _, rfl, _, _, rfl, rfl, rfl, _, rfl, c, rfl, .inl ⟨kvs, .inl (S2 _ _ hc)⟩, _, rfl, _, rfl, _, DGet.k (k := Sum.inr d.1) (S2 _ _ hc), _, rfl, (by show 2 ≤ sizeLine; decide), fun q nq => ?_⟩
      rw [hg]
      obtain ⟨Bk, vs, Sk, W, dq⟩ := M
      have W2 := W.new (x := .tup [.str (f' d.1), .int d.2]) nq
      have nb : Bk q = none := W.a.s.free nq
      have few : vs.length ≤ 5 := by
        rw [dq_len dq, List.length_map, List.length_map, List.length_take]
        omega
      refine ⟨vs, W2.h, by rw [sizeLine_eq]; omega, _, _, Sk.trans (same_new nb), W2.more _, ?_⟩
      rw [et, List.map_append, List.map_append]
      exact (DqAll.same (same_new nb) _ _ dq).snoc (dq_new nb (.cons (.str _) (.cons (.int _) .nil)))
    rintro H2 ⟨B2, us, S2, W, dq⟩
    rw [l1, List.take_length] at dq
    refine ⟨B2, D, us, _, rfl, SqL.of W.h, W.a.s, dq, lay1, deeds_alike, deeds_sortable, dep1, fun ys p qy np => ?_⟩
    have V2 := W.a.other (x := .lst ys) (W.a.s.free np) (fun z => W.a.ne np z.symm)
    refine .inl ⟨p, ys, rfl, SqL.of upd_same, fun tq ntq => ?_⟩
    have nb := V2.s.free ntq
    have V3 := V2.new (x := .tup ys) ntq
    have qd := dq_new nb qy
    have S3 := (SB.trans S2).trans (same_new (o := .tup ys) nb)
    rw [← sortDs_map] at qd
    clear dq W V V2 qy nD S2 SB nb ntq np
    revert V3 qd S3
    generalize upd (upd H2 p (.lst ys)) tq (.tup ys) = H3
    generalize upd B2 tq (.tup ys) = B3
    intro V3 qd SB
    refine ⟨_, rfl, v, _, rfl, DPut.k (k := Sum.inr "deeds") V3.h (by show 9 < sizeLine; decide), ?_⟩
    rw [put_deeds]
    have V := V3.set (o' := .dK (wk [.int m.people, .ref tq, v2, .int m.places, v4, .int m.logs, .ref a6, .ref a7, v8]))
    clear V3
    revert V
    generalize upd H3 v (.dK (wk [.int m.people, .ref tq, v2, .int m.places, v4, .int m.logs, .ref a6, .ref a7, v8])) = J3
    intro V
    -- the arrows and the tests
    refine ⟨fun σ H' => ∃ o3 B t6 t7, σ = [some (.ref wd), some (.ref c), some (.ref v), o3, none, none, none] ∧ Same H B ∧ VAt B H' v (.dK (wk [.int m.people, .ref tq, v2, .int m.places, v4, .int m.logs, .ref t6, .ref t7, v8])) ∧ Dq B (.ref tq) (.tuple ((m.ren f').deeds.map dE)) ∧ Dq B (.ref t6) (.tuple ((m.ren f').arrows.map rowE)) ∧ Dq B (.ref t7) (.tuple ((m.ren f').tests.map rowE)), ?_, ?_⟩
    rotate_left
    · rintro σ4 H4 ⟨o3, B4, t6, t7, rfl, SB, V, qd, q6', q7'⟩
      exact ⟨_, rfl, k _ v (SB.trans V.s) (.mk (m := m.ren f') V.h (Dq.same V.s _ _ qd) (Dq.same (SB.trans V.s) _ _ q2) (Dq.same (SB.trans V.s) _ _ q4) (Dq.same V.s _ _ q6') (Dq.same V.s _ _ q7') (Dq.same (SB.trans V.s) _ _ q8))⟩
    refine ⟨(by show 2 ≤ sizeLine; decide), fun tp ntp => ⟨tp, rfl, ⟨_, SqT.of upd_same⟩, ?_⟩⟩
    have nb := V.s.free ntp
    have V4 := V.new (x := .tup [.str "arrows", .str "tests"]) ntp
    have S4 := SB.trans (same_new (o := .tup [.str "arrows", .str "tests"]) nb)
    have qd4 := Dq.same (same_new (o := .tup [.str "arrows", .str "tests"]) nb) _ _ qd
    have htp : upd B3 tp (.tup [.str "arrows", .str "tests"]) tp = some (.tup [.str "arrows", .str "tests"]) := upd_same
    clear V qd SB nb ntp
    revert V4 S4 qd4 htp
    generalize upd J3 tp (.tup [.str "arrows", .str "tests"]) = J4
    generalize upd B3 tp (.tup [.str "arrows", .str "tests"]) = B4
    intro V4 S4 qd4 htp
    refine for_tup (K := K) (a := tp) (xs := [.str "arrows", .str "tests"]) (fun i σ H' => ∃ o3 B t6 t7, σ = [some (.ref wd), some (.ref c), some (.ref v), o3, none, none, none] ∧ Same B4 B ∧ VAt B H' v (.dK (wk [.int m.people, .ref tq, v2, .int m.places, v4, .int m.logs, .ref t6, .ref t7, v8])) ∧
        (i = 0 → t6 = a6 ∧ t7 = a7) ∧ (i = 1 → t7 = a7) ∧ (1 ≤ i → Dq B (.ref t6) (.tuple ((m.ren f').arrows.map rowE))) ∧ (2 ≤ i → Dq B (.ref t7) (.tuple ((m.ren f').tests.map rowE)))) ⟨_, B4, a6, a7, rfl, Same.refl _, V4, fun _ => ⟨rfl, rfl⟩, fun _ => rfl, fun z => absurd z (by omega), fun z => absurd z (by omega)⟩ (fun i σ H' _ ⟨o3, B, t6, t7, _, S, V, _⟩ => SqT.of (V.s _ _ (S _ _ htp))) ?_ ?_
    rotate_left
    · rintro σ5 H5 ⟨o3, B5, t6, t7, rfl, S5, V5, _, _, z6, z7⟩
      exact ⟨o3, B5, t6, t7, rfl, S4.trans S5, V5, Dq.same S5 _ _ qd4, z6 (by decide), z7 (by decide)⟩
    rintro i y σ5 H5 hy ⟨o3, B5, t6, t7, rfl, S5, V5, i0, i1, i2, i3⟩
    obtain ⟨nm, rows, ar, xr, rfl, hget, TT, next⟩ : ∃ (nm : Str) (rows : List Row) (ar : Addr) (xr : List V), y = .str nm ∧ valV (wk [.int m.people, .ref a1, v2, .int m.places, v4, .int m.logs, .ref a6, .ref a7, v8]) (Sum.inr nm) = some (.ref ar) ∧ TurnOk H m f' rows ar xr ∧
        ∀ B' H' t, Same B5 B' → VAt B' H' v (.dK (putK (wk [.int m.people, .ref tq, v2, .int m.places, v4, .int m.logs, .ref t6, .ref t7, v8]) (Sum.inr nm) (.ref t))) → Dq B' (.ref t) (.tuple ((sortR (rows.map (renR f'))).map rowE)) →
          (∃ o3 B t6 t7, [some (.ref wd), some (.ref c), some (.ref v), some y, none, none, none] = [some (.ref wd), some (.ref c), some (.ref v), o3, none, none, none] ∧ Same B4 B ∧ VAt B H' v (.dK (wk [.int m.people, .ref tq, v2, .int m.places, v4, .int m.logs, .ref t6, .ref t7, v8])) ∧
        (i + 1 = 0 → t6 = a6 ∧ t7 = a7) ∧ (i + 1 = 1 → t7 = a7) ∧ (1 ≤ i + 1 → Dq B (.ref t6) (.tuple ((m.ren f').arrows.map rowE))) ∧ (2 ≤ i + 1 → Dq B (.ref t7) (.tuple ((m.ren f').tests.map rowE)))) := by
      match i, hy with
      | 0, hy =>
        cases hy
        obtain ⟨rfl, rfl⟩ := i0 rfl
        refine ⟨_, m.arrows, _, _, rfl, rfl, T6, fun B' H' t S V q => ?_⟩
        rw [put_arrows] at V
        exact ⟨_, B', t, _, rfl, S5.trans S, V, fun z => absurd z (by omega), fun _ => rfl, fun _ => q, fun z => absurd z (by omega)⟩
      | 1, hy =>
        cases hy
        have := i1 rfl
        subst this
        refine ⟨_, m.tests, _, _, rfl, rfl, T7, fun B' H' t S V q => ?_⟩
        rw [put_tests] at V
        exact ⟨_, B', _, t, rfl, S5.trans S, V, fun z => absurd z (by omega), fun z => absurd z (by omega), fun _ => Dq.same S _ _ (i2 (by omega)), fun _ => q⟩
      | i + 2, hy => cases hy
    clear i0 i1 i2 i3 hy
    have S5H := S4.trans S5
    have lr : xr.length = rows.length := by rw [dq_len TT.q, List.length_map]
    refine ⟨_, rfl, _, rfl, wd, _, rfl, hget ▸ DGet.k (k := Sum.inr nm) (V5.s _ _ (S5H _ _ hw)), ar, rfl, ⟨_, SqT.of (V5.s _ _ (S5H _ _ TT.e))⟩, fun D nD => ?_⟩
    refine lc_tup (K := K) (a := ar) (xs := xr) (fun i H2 => BuiltV B5 v _ D (((rows.take i).map (renR f')).map rowE) H2) (.start V5 nD) (fun i H2 _ M => SqT.of (M.s _ _ (S5H _ _ TT.e))) ?_ ?_
    · rintro i y H2 hy M
      obtain ⟨r, b, zs, hr', rfl, ec, qz⟩ := row_at TT.q hy
      have hrm := List.mem_of_getElem? hr'
      have hm := TT.l r hrm
      have et : rows.take (i + 1) = rows.take i ++ [r] := by
        rw [List.take_add_one, hr']
        rfl
      have lz : zs.length = 3 := by rw [dq_len qz, TT.rest r hrm]
      obtain ⟨Bk, vs, Sk, W, dq⟩ := M
      have few := TT.few
      have fv : vs.length ≤ 20 := by
        rw [dq_len dq, List.length_map, List.length_map, List.length_take]
        omega
      have S2 := S5H.trans Sk
      have hg : (valV kvs (Sum.inr r.2.1)).getD (.str r.2.1) = .str (f' r.2.1) := (hv _ hm).1
      have eb := S2 _ _ ec
      have qz := DqAll.same S2 _ _ qz
      have hc2 := S2 _ _ hc
      clear S2 ec hy
      -- it[:1]
      refine ⟨rfl, _, rfl, 1, rfl, b, _, rfl, SqT.of (W.a.s _ _ eb), fun z => absurd z (not_whole1 _ _ _), fun _ p1 n1 => ?_⟩
      rw [cut_one]
      have nb1 := W.a.s.free n1
      have W1 := W.new (x := .tup [.int r.1]) n1
      have s1 := same_new (o := .tup [.int r.1]) nb1
      have g1 : upd Bk p1 (.tup [.int r.1]) p1 = some (.tup [.int r.1]) := upd_same
      have eb := s1 _ _ eb
      have qz := DqAll.same s1 _ _ qz
      have hc2 := s1 _ _ hc2
      have dq := DqAll.same s1 _ _ dq
      have Sk := Sk.trans s1
      clear W s1 nb1 n1
      revert W1 g1 eb qz hc2 dq Sk
      generalize upd H2 p1 (.tup [.int r.1]) = H3
      generalize upd Bk p1 (.tup [.int r.1]) = Bk1
      intro W g1 eb qz hc2 dq Sk
      -- (letter,)
      refine ⟨_, rfl, c, rfl, .inl ⟨kvs, .inl (W.a.s _ _ hc2)⟩, _, rfl, b, _, _, _, rfl, rfl, SqT.of (W.a.s _ _ eb), atI_nat (j := 1) rfl, _, rfl, b, _, _, _, rfl, rfl, SqT.of (W.a.s _ _ eb), atI_nat (j := 1) rfl, _, DGet.k (k := Sum.inr r.2.1) (W.a.s _ _ hc2), (by show 1 ≤ sizeLine; decide), fun p2 n2 => ?_⟩
      rw [hg]
      have nb1 := W.a.s.free n2
      have W1 := W.new (x := .tup [.str (f' r.2.1)]) n2
      have s1 := same_new (o := .tup [.str (f' r.2.1)]) nb1
      have g2 : upd Bk1 p2 (.tup [.str (f' r.2.1)]) p2 = some (.tup [.str (f' r.2.1)]) := upd_same
      have g1 := s1 _ _ g1
      have eb := s1 _ _ eb
      have qz := DqAll.same s1 _ _ qz
      have dq := DqAll.same s1 _ _ dq
      have Sk := Sk.trans s1
      clear W s1 nb1 n2 hc2
      revert W1 g2 g1 eb qz dq Sk
      generalize upd H3 p2 (.tup [.str (f' r.2.1)]) = H4
      generalize upd Bk1 p2 (.tup [.str (f' r.2.1)]) = Bk2
      intro W g2 g1 eb qz dq Sk
      -- the two
      refine ⟨p1, p2, _, _, rfl, rfl, SqT.of (W.a.s _ _ g1), SqT.of (W.a.s _ _ g2), (by show 2 ≤ sizeLine; decide), fun z => by (cases z), fun _ z => by (cases z), fun _ _ p3 n3 => ?_⟩
      have nb1 := W.a.s.free n3
      have W1 := W.new (x := .tup ([.int r.1] ++ [.str (f' r.2.1)])) n3
      have s1 := same_new (o := .tup ([.int r.1] ++ [.str (f' r.2.1)])) nb1
      have g3 : upd Bk2 p3 (.tup ([.int r.1] ++ [.str (f' r.2.1)])) p3 = some (.tup ([.int r.1] ++ [.str (f' r.2.1)])) := upd_same
      have eb := s1 _ _ eb
      have qz := DqAll.same s1 _ _ qz
      have dq := DqAll.same s1 _ _ dq
      have Sk := Sk.trans s1
      clear W s1 nb1 n3 g1 g2
      revert W1 g3 eb qz dq Sk
      generalize upd H4 p3 (.tup ([.int r.1] ++ [.str (f' r.2.1)])) = H5
      generalize upd Bk2 p3 (.tup ([.int r.1] ++ [.str (f' r.2.1)])) = Bk3
      intro W g3 eb qz dq Sk
      -- it[2:]
      refine ⟨_, rfl, 2, rfl, b, _, rfl, SqT.of (W.a.s _ _ eb), fun z => absurd z (not_whole2 _ _ _), fun _ p4 n4 => ?_⟩
      rw [cut_rest]
      have nb1 := W.a.s.free n4
      have W1 := W.new (x := .tup zs) n4
      have s1 := same_new (o := .tup zs) nb1
      have g4 : upd Bk3 p4 (.tup zs) p4 = some (.tup zs) := upd_same
      have g3 := s1 _ _ g3
      have qz := DqAll.same s1 _ _ qz
      have dq := DqAll.same s1 _ _ dq
      have Sk := Sk.trans s1
      clear W s1 nb1 n4 eb
      revert W1 g4 g3 qz dq Sk
      generalize upd H5 p4 (.tup zs) = H6
      generalize upd Bk3 p4 (.tup zs) = Bk4
      intro W g4 g3 qz dq Sk
      refine ⟨p3, p4, _, _, rfl, rfl, SqT.of (W.a.s _ _ g3), SqT.of (W.a.s _ _ g4), ?_, fun z => by (cases z), fun _ z => ?_, fun _ _ p5 n5 => ?_⟩
      · rw [sizeLine_eq]
        show 2 + zs.length ≤ _
        omega
      · rw [z] at lz
        cases lz
      have nb1 := W.a.s.free n5
      have W1 := W.new (x := .tup ([.int r.1] ++ [.str (f' r.2.1)] ++ zs)) n5
      have s1 := same_new (o := .tup ([.int r.1] ++ [.str (f' r.2.1)] ++ zs)) nb1
      refine ⟨vs, W1.h, by rw [sizeLine_eq]; omega, _, _, Sk.trans s1, W1.more _, ?_⟩
      rw [et, List.map_append, List.map_append]
      exact (DqAll.same s1 _ _ dq).snoc (dq_new nb1 (.cons (.int _) (.cons (.str _) qz)))
    rintro H6 ⟨B6, us, S6, W, dq⟩
    rw [lr, List.take_length] at dq
    obtain ⟨lay, dep⟩ := fit_lay TT.fit
    refine ⟨B6, D, us, _, rfl, SqL.of W.h, W.a.s, dq, lay, TT.al, rows_sortable, dep, fun ys p qy np => ?_⟩
    have V6 := W.a.other (x := .lst ys) (W.a.s.free np) (fun z => W.a.ne np z.symm)
    refine .inl ⟨p, ys, rfl, SqL.of upd_same, fun t nt => ?_⟩
    have nb := V6.s.free nt
    have V7 := V6.new (x := .tup ys) nt
    have qd := dq_new nb qy
    rw [← sortR_map] at qd
    refine ⟨_, rfl, _, rfl, v, _, rfl, DPut.k (k := Sum.inr nm) V7.h (by show 9 < sizeLine; decide), ?_⟩
    exact next _ _ t (S6.trans (same_new nb)) V7.set qd
end
end KL
set_option Elab.async false
set_option linter.all false
set_option maxRecDepth 100000
set_option maxHeartbeats 16000000
namespace KL
open PySem L2 PySem.KX PySem.Spec PyProof.Rows
/-! ### the law's called -/
def kss : List (List Str) := [["a", "b"], ["a"], ["k", "z"], ["y"]]
/-- a dict of other letters -/
structure CallD (H : Hp) (c : Addr) (m : HM) (kvs : List (Key × V)) (dF : Str → PyData) : Prop where
  h : H c = some (.dK kvs)
  k : ∃ ks zs, kvs = kwV ks zs ∧ ks ∈ kss ∧ zs.length = ks.length
  v : ∀ l ∈ m.deeds.map (·.1), Dq H (valOf kvs l) (dF l) ∧ smB (dF l) = true
def spLCalled (C CB : Addr) : Sp := fun vs H Q E => ∃ (x c : Addr) (m : HM) (kvs : List (Key × V)) (dF : Str → PyData), vs = [.ref x, .ref c] ∧ HsAt C H x m ∧ RightH m ∧ FitH m ∧ CallD H c m kvs dF ∧
  (∀ f, Called m dF f → Apart m f → ∀ H' y, Same H H' → HsAt C H' y (m.ren f) → Q (.ref y) H') ∧ ((∀ f, Called m dF f → ¬ Apart m f) → ∀ H' dd, Same H H' → H' dd = some (.xd [("part", .str "deeds")]) → E (.ref CB) (some dd) H')
theorem swap_kz (u v : V) (l : Str) : valOf (kwV ["z", "k"] [u, v]) l = valOf (kwV ["k", "z"] [v, u]) l := by
  unfold valOf
  by_cases h1 : l = "k"
  · subst h1
    rfl
  · by_cases h2 : l = "z"
    · subst h2
      rfl
    · have n1 : ¬ (Sum.inr "k" : Key) = Sum.inr l := fun z => h1 (Sum.inr.inj z).symm
      have n2 : ¬ (Sum.inr "z" : Key) = Sum.inr l := fun z => h2 (Sum.inr.inj z).symm
      show (valV [((Sum.inr "z" : Key), u), ((Sum.inr "k" : Key), v)] (Sum.inr l)).getD _ = (valV [((Sum.inr "k" : Key), v), ((Sum.inr "z" : Key), u)] (Sum.inr l)).getD _
      rw [valV_neg n2, valV_neg n1, valV_neg n1, valV_neg n2]
theorem swap_ab (u v : V) (l : Str) : valOf (kwV ["b", "a"] [u, v]) l = valOf (kwV ["a", "b"] [v, u]) l := by
  unfold valOf
  by_cases h1 : l = "a"
  · subst h1
    rfl
  · by_cases h2 : l = "b"
    · subst h2
      rfl
    · have n1 : ¬ (Sum.inr "a" : Key) = Sum.inr l := fun z => h1 (Sum.inr.inj z).symm
      have n2 : ¬ (Sum.inr "b" : Key) = Sum.inr l := fun z => h2 (Sum.inr.inj z).symm
      show (valV [((Sum.inr "b" : Key), u), ((Sum.inr "a" : Key), v)] (Sum.inr l)).getD _ = (valV [((Sum.inr "a" : Key), v), ((Sum.inr "b" : Key), u)] (Sum.inr l)).getD _
      rw [valV_neg n2, valV_neg n1, valV_neg n1, valV_neg n2]
structure TxtN (K : PySem.W.Frag) (C fR : Addr) (dR : FuncData) : Prop where
  c : Cls K C
  m : Meth K C "renamed" fR
  b : ∀ ks ∈ ([[], ["a"], ["a", "b"], ["z", "k"], ["y"], ["b", "a"]] : List (List Str)), ∀ ws : List Value, ws.length = ks.length → BindKw dR (ks.zip ws)
section
variable {P : Program} {w : World} {K : PySem.W.Frag} {mg : Str → Option Value} {base : Heap} {C CB fR : Addr} {dR : FuncData}
theorem scLCal : FnScope ["_law_code_here", "_law_called_here"] ["_law_code_here", "_law_called_here"] (defScope lCalled) := ⟨rfl, rfl, rfl, by decide +kernel, rfl, by decide +kernel, by decide +kernel⟩
theorem ok_lcalled {f : Addr} {fd : FuncData} (F : Fun K "_law_called" "_law_called" lCalled f fd) (T : TxtN K C fR dR) (G : FnKw P w K mg base (L2.CX P w) 8 fR dR (spRen C CB)) : FnOk P w K mg base (L2.CX P w) 9 f fd ["_law_code_here", "_law_called_here"] (spLCalled C CB) := by
  refine fnX F scLCal (fun vs H Q E h => ?_) (fun cdv A outer s H vs Q E hr h tk po => ?_)
  · obtain ⟨x, c, m, kvs, dF, rfl, _⟩ := h
    rfl
  · obtain ⟨x, c, m, kvs, dF, rfl, hx, hR, hF, hc, kQ, kE⟩ := h
    have nd := scLCal.nd
    have hu : _ + 1 < cLine := hu_of hr
    refine ⟨_, pss_cons (ps_if (PW.pt (pw_and (pt_cmp (pc_din hu pe_str (pv 1))) (pw_and1 (pt_cmp (pc_din hu pe_str (pv 1)))))) (pss_one (ps_ret (pe_methKw (ks := ["a", "b"]) (pv 0) T.c T.m G hr (T.b _ (by decide)) (by decide) (by decide) (fun σ => passAt tk σ) (pk_cons (pe_dget hu (pv 1) pe_str (fun _ _ => rfl)) (pk_cons (pe_dget hu (pv 1) pe_str (fun _ _ => rfl)) pk_nil))))) pss_nil)
      (pss_cons (ps_if (pt_cmp (pc_din hu pe_str (pv 1))) (pss_one (ps_ret (pe_methKw (ks := ["a"]) (pv 0) T.c T.m G hr (T.b _ (by decide)) (by decide) (by decide) (fun σ => passAt tk σ) (pk_cons (pe_dget hu (pv 1) pe_str (fun _ _ => rfl)) pk_nil)))) pss_nil)
      (pss_cons (ps_if (pt_cmp (pc_din hu pe_str (pv 1))) (pss_one (ps_ret (pe_methKw (ks := ["z", "k"]) (pv 0) T.c T.m G hr (T.b _ (by decide)) (by decide) (by decide) (fun σ => passAt tk σ) (pk_cons (pe_dget hu (pv 1) pe_str (fun _ _ => rfl)) (pk_cons (pe_dget hu (pv 1) pe_str (fun _ _ => rfl)) pk_nil))))) pss_nil)
      (pss_one (ps_ret (pe_methKw (ks := ["y"]) (pv 0) T.c T.m G hr (T.b _ (by decide)) (by decide) (by decide) (fun σ => passAt tk σ) (pk_cons (pe_dget hu (pv 1) pe_str (fun _ _ => rfl)) pk_nil)))))), ?_⟩
    have S0 : ∀ {p : Addr} {o : HO}, H p = none → Same H (upd H p o) := fun np => same_new np
    obtain ⟨dx, fs, v1, v2, v4, v6, v7, v8, hxx, hf, qs⟩ := id hx
    have fin : ∀ (ks' : List Str) (zs' : List V) (p : Addr), H p = none → (∀ l, valOf (kwV ks' zs') l = valOf kvs l) → spRen C CB [.ref x, .ref p] (upd H p (.dK (kwV ks' zs'))) Q E := fun ks' zs' p np e =>
      ⟨x, p, m, _, dF, rfl, hx.same (S0 np), hR, hF, upd_same, fun l hl => by
        rw [e l]
        exact ⟨Dq.same (S0 np) _ _ (hc.v l hl).1, (hc.v l hl).2⟩, fun f h1 h2 H' y S hy => kQ f h1 h2 H' y ((S0 np).trans S) hy, fun no H' dd S hd => kE no H' dd ((S0 np).trans S) hd⟩
    have nof : fs.lookup ("renamed" : Str) = none := hf.2.2.2.2.2.2.2.2.2.2
    obtain ⟨ks, zs, rfl, hk, hl⟩ := hc.k
    have hcH := hc.h
    simp only [kss, List.mem_cons, List.not_mem_nil, or_false] at hk
    rcases hk with rfl | rfl | rfl | rfl
    · match zs, hl with
      | [va, vb], _ =>
        refine ⟨_, rfl, c, _, rfl, DGet.k (k := Sum.inr "a") hcH, ?_⟩
        refine ⟨_, rfl, ?_⟩
        refine iteYes rfl ?_
        refine ⟨_, rfl, c, _, rfl, DGet.k (k := Sum.inr "b") hcH, ?_⟩
        refine ⟨_, rfl, ?_⟩
        refine iteYes rfl ?_
        refine ⟨_, rfl, x, dx, _, rfl, hxx, nof, ?_⟩
        exact ⟨_, rfl, c, va, rfl, DGet.k (k := Sum.inr "a") hcH, _, rfl, c, vb, rfl, DGet.k (k := Sum.inr "b") hcH, rfl, fun p np => fin ["a", "b"] [va, vb] p np fun l => rfl⟩
    · match zs, hl with
      | [va], _ =>
        refine ⟨_, rfl, c, _, rfl, DGet.k (k := Sum.inr "a") hcH, ?_⟩
        refine ⟨_, rfl, ?_⟩
        refine iteYes rfl ?_
        refine ⟨_, rfl, c, _, rfl, DGet.k (k := Sum.inr "b") hcH, ?_⟩
        refine ⟨_, rfl, ?_⟩
        refine iteNo rfl ?_
        refine ⟨_, rfl, c, _, rfl, DGet.k (k := Sum.inr "a") hcH, ?_⟩
        refine ⟨_, rfl, ?_⟩
        refine iteYes rfl ?_
        refine ⟨_, rfl, x, dx, _, rfl, hxx, nof, ?_⟩
        exact ⟨_, rfl, c, va, rfl, DGet.k (k := Sum.inr "a") hcH, rfl, fun p np => fin ["a"] [va] p np fun l => rfl⟩
    · match zs, hl with
      | [vk, vz], _ =>
        refine ⟨_, rfl, c, _, rfl, DGet.k (k := Sum.inr "a") hcH, ?_⟩
        refine ⟨_, rfl, ?_⟩
        refine iteNo rfl ?_
        refine iteNo rfl ?_
        refine ⟨_, rfl, c, _, rfl, DGet.k (k := Sum.inr "a") hcH, ?_⟩
        refine ⟨_, rfl, ?_⟩
        refine iteNo rfl ?_
        refine ⟨_, rfl, c, _, rfl, DGet.k (k := Sum.inr "k") hcH, ?_⟩
        refine ⟨_, rfl, ?_⟩
        refine iteYes rfl ?_
        refine ⟨_, rfl, x, dx, _, rfl, hxx, nof, ?_⟩
        exact ⟨_, rfl, c, vz, rfl, DGet.k (k := Sum.inr "z") hcH, _, rfl, c, vk, rfl, DGet.k (k := Sum.inr "k") hcH, rfl, fun p np => fin ["z", "k"] [vz, vk] p np fun l => swap_kz _ _ l⟩
    · match zs, hl with
      | [vy], _ =>
        refine ⟨_, rfl, c, _, rfl, DGet.k (k := Sum.inr "a") hcH, ?_⟩
        refine ⟨_, rfl, ?_⟩
        refine iteNo rfl ?_
        refine iteNo rfl ?_
        refine ⟨_, rfl, c, _, rfl, DGet.k (k := Sum.inr "a") hcH, ?_⟩
        refine ⟨_, rfl, ?_⟩
        refine iteNo rfl ?_
        refine ⟨_, rfl, c, _, rfl, DGet.k (k := Sum.inr "k") hcH, ?_⟩
        refine ⟨_, rfl, ?_⟩
        refine iteNo rfl ?_
        refine ⟨_, rfl, x, dx, _, rfl, hxx, nof, ?_⟩
        exact ⟨_, rfl, c, vy, rfl, DGet.k (k := Sum.inr "y") hcH, rfl, fun p np => fin ["y"] [vy] p np fun l => rfl⟩
end
end KL
set_option Elab.async false
set_option linter.all false
set_option maxRecDepth 100000
set_option maxHeartbeats 16000000
namespace KL
open PySem L2 PySem.KX PySem.Spec PyProof.Rows
/-! ### the law's heard -/
def spLHeard (C : Addr) : Sp := fun vs H Q _ => ∃ (x c : Addr) (m : HM) (kvs : List (Key × V)) (dF : Str → PyData), vs = [.ref x, .ref c] ∧ HsAt C H x m ∧ RightH m ∧ FitH m ∧ CallD H c m kvs dF ∧
  (∀ f, Called m dF f → Apart m f → ∀ H' q, Same H H' → H' q = some (.lst [.str "told", .str (shownH (m.ren f))]) → Q (.ref q) H') ∧ ((∀ f, Called m dF f → ¬ Apart m f) → ∀ H' q, Same H H' → H' q = some (.lst [.str "bad", .str "deeds", .bl true]) → Q (.ref q) H')
structure TxtX (K : PySem.W.Frag) (mg : Str → Option Value) (CB IB CH : Addr) : Prop where
  e : TxtE K mg CB IB
  ex : PySem.W.exmOne K (.ref CB) (.ref CB) = some true
  mH : mg "HouseError" = some (.ref CH)
  isH : PySem.W.kitOne K (.ref CB) (.ref CH) = some true
def sHeardS : List Stmt := match (defBody lHeard).getD 1 (.Pass ⟨0, 0, 0, 0⟩) with
  | .Try _ [.ExceptHandler _ _ b _] _ _ _ => b
  | _ => []
section
variable {P : Program} {w : World} {K : PySem.W.Frag} {mg : Str → Option Value} {base : Heap} {C CB IB CH g1 g2 : Addr} {d1 d2 : FuncData}
abbrev nLHea : List Str := ["_law_code_here", "_law_called_here", "_law_found", "e"]
theorem scLHea : FnScope nLHea ["_law_code_here", "_law_called_here"] (defScope lHeard) := ⟨rfl, rfl, rfl, by decide +kernel, rfl, by decide +kernel, by decide +kernel⟩
def tSuH (K : PySem.W.Frag) (CB CH : Addr) (a : Addr) (cls : Value) (d : Option Addr) : TS := tAsg (tLst (tCons (tC (.str "bad")) (tCons (tXf a cls d CB "part" (tVar 3)) (tCons (tCB (rIsX K a cls d) (tCons (tVar 3) (tCons (tC (.ref CH)) tNil))) tNil)))) (gName 2)
theorem ok_lheard {f : Addr} {fd : FuncData} (F : Fun K "_law_heard" "_law_heard" lHeard f fd) (TC : TxtX K mg CB IB CH) (T : TxtC mg) (G1 : FnOk P w K mg base (L2.CX P w) 9 g1 d1 ["_law_code_here", "_law_called_here"] (spLCalled C CB)) (c1 : Cal K mg "_law_called" g1 d1 ["_law_code_here", "_law_called_here"])
    (G2 : FnG P w K mg base CX0 1 g2 d2 ["_law_code_here"] (spShown C)) (c2 : Cal K mg "_law_shown" g2 d2 ["_law_code_here"]) : FnG P w K mg base CX0 10 f fd ["_law_code_here", "_law_called_here"] (spLHeard C) := by
  refine fnG0 F scLHea (fun vs H Q E h => ?_) (fun cdv A outer s H vs Q E hG hr h => ?_)
  · obtain ⟨x, c, m, kvs, dF, rfl, _⟩ := h
    rfl
  · obtain ⟨x, c, m, kvs, dF, rfl, hx, hR, hF, hc, k, kE⟩ := h
    have nd := scLHea.nd
    have r1 : Room 1 _ := hr.mono (by decide)
    let X0 : Cx := (cxOf CX0 P w K mg base nLHea "_law_heard" (defScope lHeard) f cdv A outer s H E).nox
    have su : ∀ (a : Addr) (oe : Obj) (cls : Value) (d : Option Addr) (pn : List (Addr × Obj)), Zc cls d oe → (∃ vs, oe.data = .fields vs) → PSs (X0.suite a ((a, oe) :: pn)) sHeardS (tSuH K CB CH a cls d) := fun a oe cls d pn hz hf =>
      pss_one (ps_set (i := 2) nd rfl (.inl rfl) (pe_lst (pa_cons pe_str (pa_cons (pe_xf (X := X0) (n := "part") (C := CB) ⟨TC.e.ei.c.is.hg, TC.e.ei.c.is.hk, TC.e.ei.c.is.hs, TC.e.ei.c.hd⟩ TC.e.ei.nf hz hf (pv 3)) (pa_cons (pe_callB (call_isX (X := X0) hz hf) (by rfl) T.b.isi (by decide +kernel) (pa_cons (pv 3) (pa_cons (pe_glob (v := .ref CH) (by rfl) TC.mH rfl) pa_nil))) pa_nil)))))
    refine ⟨_, pss_cons (ps_set (i := 2) nd rfl (.inl rfl) (pe_lst pa_nil))
      (pss_cons (ps_try_as (X := X0) (i := 3) (ts := tSuH K CB CH) (Wout := fun _ _ _ _ => False) rfl rfl nd rfl rfl ⟨rfl, by decide, .inl TC.e.m⟩ takes0 (fun W pn xe tk _ => pss_one (X := X0.tr pn xe)
        (ps_set (X := X0.tr pn xe) (i := 2) nd rfl (.inl rfl) (pe_lst (X := X0.tr pn xe) (pa_cons (X := X0.tr pn xe) pe_str (pa_cons (X := X0.tr pn xe) (pe_callG (X := X0.tr pn xe) G2 hG r1 (by rfl) c2.m c2.k c2.b pass0 (pa_cons (X := X0.tr pn xe) (pe_callS (X := X0.tr pn xe) G1 hr (by rfl) c1.m c1.k c1.b (passAt tk) (pa_cons (X := X0.tr pn xe) (pv (X := X0.tr pn xe) 0) (pa_cons (X := X0.tr pn xe) (pv (X := X0.tr pn xe) 1) pa_nil))) pa_nil)) pa_nil))))) su)
      (pss_one (ps_ret (pv 2)))), ?_⟩
    refine ⟨(by show 0 ≤ sizeLine; decide), fun a0 n0 => ?_⟩
    have S0 := same_new (o := .lst []) n0
    have hx0 := hx.same S0
    have hc0 : CallD (upd H a0 (.lst [])) c m kvs dF := ⟨S0 _ _ hc.h, hc.k, fun l hl => ⟨Dq.same S0 _ _ (hc.v l hl).1, (hc.v l hl).2⟩⟩
    clear hx hc
    revert S0 hx0 hc0
    generalize upd H a0 (.lst []) = H0
    intro S0 hx0 hc0
    refine ⟨_, rfl, _, rfl, x, c, m, kvs, dF, rfl, hx0, hR, hF, hc0, fun f hf ap H1 y S1 hy => ?_, fun no H1 dd S1 hd => ?_⟩
    · have hl : ∀ l ∈ m.deeds.map (·.1), letS (f l) = true := fun l hl => (hf l hl).2
      refine ⟨y, m.ren f, rfl, hy, hF.ren hR hl, fun H2 S2 => ⟨(by show 2 ≤ sizeLine; decide), fun q nq => ?_⟩⟩
      exact ⟨_, rfl, k f hf ap _ q (((S0.trans S1).trans S2).trans (same_new nq)) upd_same⟩
    · refine ⟨true, TC.ex, fun _ a ha => ?_, fun z => nomatch z⟩
      exact ⟨_, rfl, rfl, rfl, dd, _, _, rfl, hd, rfl, _, rfl, CB, dd, _, .ref CH, _, true, rfl, rfl, rfl, hd, TC.e.ei.c, .own CH, TC.isH, (by show 3 ≤ sizeLine; decide), fun q nq => ⟨_, rfl, kE no _ q ((S0.trans S1).trans (same_new nq)) upd_same⟩⟩
end
end KL
set_option Elab.async false
set_option linter.all false
set_option maxRecDepth 100000
set_option maxHeartbeats 8000000
namespace KL
open PySem L2 PySem.KX PySem.Spec PyProof.Rows
/-! ### the law's is_letter -/
abbrev abc26 : Str := "abcdefghijklmnopqrstuvwxyz"
theorem abc_range : abc26.cps.toList = List.range' 97 26 := by decide +kernel
theorem letS_abc (c : Nat) : letS ⟨#[c]⟩ = decide (c ∈ abc26.cps.toList) := by
  have e : letS ⟨#[c]⟩ = (true && (!decide ([c] < [97]) && !decide ([122] < [c]))) := rfl
  have l1 : ([c] < [97]) ↔ c < 97 := by simp [List.cons_lt_cons_iff]
  have l2 : ([122] < [c]) ↔ 122 < c := by simp [List.cons_lt_cons_iff]
  have l3 : c ∈ List.range' 97 26 ↔ (¬ c < 97 ∧ ¬ 122 < c) := by
    rw [List.mem_range'_1]
    omega
  rw [e, abc_range, Bool.true_and]
  by_cases h1 : c < 97 <;> by_cases h2 : 122 < c <;> simp only [l1, l2, l3, h1, h2, decide_true, decide_false, not_true_eq_false, not_false_eq_true, and_true, true_and, and_false, false_and, Bool.not_true, Bool.not_false, Bool.and_true, Bool.and_false, Bool.true_and, Bool.false_and]
section
variable {P : Program} {w : World} {K : PySem.W.Frag} {mg : Str → Option Value} {base : Heap}
theorem scLLet : FnScope ["_law_it"] ["_law_it"] (defScope lLetter) := ⟨rfl, rfl, rfl, by decide +kernel, rfl, by decide +kernel, by decide +kernel⟩
theorem ok_lletter {f : Addr} {fd : FuncData} (F : Fun K "_law_is_letter" "_law_is_letter" lLetter f fd) (T : TxtB mg) : FnOk P w K mg base CX0 1 f fd ["_law_it"] (spTest letD) := by
  refine F.ok scLLet (fun vs H Q E h => ?_) (fun cdv A outer s H vs Q E hr h => ?_)
  · obtain ⟨v, d, rfl, _⟩ := h
    rfl
  · obtain ⟨v, d, rfl, hd, sm, k⟩ := h
    refine ⟨_, pss_one (ps_ret (pe_and (pe_callB call_isD (by rfl) T.isi (by decide +kernel) (pa_cons (pv 0) (pa_cons (pe_bltn (v := .ty "str") (by rfl) T.str (by decide +kernel) rfl) pa_nil)))
      (pe_and (pe_cmpR op_eq (pe_callB call_len_str (by rfl) T.len PySem.boot_len (pa_cons (pv 0) pa_nil)) pe_int (nomark _)) (pe_one (pe_cmpR op_in_sign (pv 0) pe_str rfl))))), ?_⟩
    have q := k H (Same.refl H)
    refine ⟨_, rfl, v, d, "str", rfl, by decide, hd, _, rfl, ?_⟩
    cases hd with
    | str x =>
      have hx : x.length ≤ 1000 := of_decide_eq_true sm
      refine ⟨_, rfl, x, rfl, Nat.le_trans hx (by rw [sizeLine_eq]; omega), rfl, _, rfl, ?_⟩
      by_cases h1 : x.length = 1
      · refine iteYes (decide_eq_true (by rw [h1]; rfl)) ?_
        obtain ⟨c, rfl⟩ : ∃ c, x = ⟨#[c]⟩ := by
          obtain ⟨a⟩ := x
          have l : a.size = 1 := h1
          obtain ⟨c, hc⟩ : ∃ c, a.toList = [c] := by
            have : a.toList.length = 1 := by simpa using l
            match a.toList, this with
            | [c], _ => exact ⟨c, rfl⟩
          exact ⟨c, congrArg Str.mk (Array.toList_inj.mp (by rw [hc]))⟩
        have e : letD (.str ⟨#[c]⟩) = decide (c ∈ abc26.cps.toList) := letS_abc c
        rw [e] at q
        exact ⟨_, rfl, c, abc26, rfl, rfl, q⟩
      · refine iteNo (decide_eq_false fun z => ?_) ?_
        · injection z with z
          omega
        · have e : letD (.str x) = false := by
            show (decide (x.length = 1) && _) = false
            rw [decide_eq_false h1]
            rfl
          rw [e] at q
          exact q
    | _ => exact q
end
end KL
set_option Elab.async false
set_option linter.all false
set_option maxRecDepth 100000
set_option maxHeartbeats 4000000
namespace KL
open PySem L2 PySem.Spec PyProof.Rows
/-! ### xs.extend(t), t a tuple -/
theorem ext_tup (l : Addr) (us : Array Value) (n : Nat) (b : Addr) (ws : Array Value) (m : Nat) (dd : Option Addr) (sl : Array (Option Value)) (c0 : ¬(!us.isEmpty && Builtin.List.listTooLong (us.size + ws.size)) = true) (c1 : us.size ≤ sizeLine) (c2 : us.size + ws.size ≤ sizeLine + 1) :
    Meets (Builtin.«list.extend» ⟨[.ref l, .ref b], []⟩) (fun _ R s => s.heap.get? l = some { cls := .type "list", dict := none, data := .seq us n, slots := #[] } ∧ s.heap.get? b = some ⟨.type "tuple", dd, .seq ws m, sl⟩ ∧
      R (.ok (.ret .none)) { s with heap := s.heap.update l (Obj.mapSeq fun x => x ++ ws), toks := s.toks }) :=
  .of_wp fun prog w A R s hh => by
    obtain ⟨hp, g, d, tk, os⟩ := s
    obtain ⟨hl, hb, hh⟩ := hh
    have f3 := AutoSeq1.sub_list_list
    have f4 := AutoSeq1.sub_tuple_list
    have f2 := AutoSeq1.sub_tuple_tuple
    have f5 := AutoSeq1.sub_list_tuple
    have z : (us ++ ws).size ≤ sizeLine + 1 := by
      rw [Array.size_append]
      exact c2
    wp_walk using (wpAny_updateSeq hl rfl (hz := c1) (_hz' := z)), AutoSeq1.wpAny_loadPart' hl, AutoSeq1.wpAny_loadPart' hb
    exact ⟨_, rfl, hh⟩
def rExtT (K : PySem.W.Frag) : V → List V → Hp → VK → Prop := fun x vs H Q => ∃ l b xs zs, x = .ref l ∧ vs = [.ref b] ∧ H l = some (.lst xs) ∧ SqT K H b zs ∧ xs.length + zs.length ≤ sizeLine ∧ Q .non (upd H l (.lst (xs ++ zs)))
theorem mt_extT {X : Cx} : MtM X "list.extend" (rExtT X.K) := by
  intro pins s σ H x vs v us Q I rx rv h
  obtain ⟨l, b, xs, zs, rfl, rfl, hH, hB, hz, q⟩ := h
  cases rx
  obtain ⟨u, rfl, ru⟩ := rv.one
  cases ru
  obtain ⟨z, its, n, r, hl, e⟩ := I.lstM hH
  obtain ⟨its2, r2, ⟨⟨cls, dd, data, sl⟩, ho, hc, m, hd⟩, hs⟩ := I.tuple hB
  simp only at hc hd
  subst hc hd
  have s1 : its.toArray.size = xs.length := by rw [List.size_toArray, r.length]
  have s2 : its2.toArray.size = zs.length := by rw [List.size_toArray, r2.length]
  have hsz : its.toArray.size + its2.toArray.size ≤ sizeLine := by omega
  have hlong : ¬ (!its.toArray.isEmpty && Builtin.List.listTooLong (its.toArray.size + its2.toArray.size)) = true := by
    rw [notLongL hsz, Bool.and_false]
    exact Bool.false_ne_true
  refine call_meets F.slot_list_extend ⟨_, e, rfl⟩ F.entry_list_extend (F.args_list_extend_2 _ _) (ext_tup l its.toArray n b its2.toArray m dd sl hlong (by omega) (by omega)) ⟨e, ho, ?_⟩
  refine ⟨.non, _, I.lset (its' := its ++ its2) hH e (by simp) (r.append r2) ?_, rfl, q⟩
  rw [List.length_append]
  exact hz
/-! ### dict(xs), xs a list of pairs whose keys are tuples of ints and texts -/
def mergeT (kvs more : List (List Key × V)) : List (List Key × V) := more.foldl (fun acc kv => putK acc kv.1 kv.2) kvs
def rDictT (K : PySem.W.Frag) : List V → Hp → VK → Prop := fun xs H Q => ∃ (a : Addr) (ps : List Addr) (kvs : List (List Key × V)), xs = [.ref a] ∧ SqL K H a (ps.map V.ref) ∧
  Paired (fun p kv => ∃ b, SqT K H p [.ref b, kv.2] ∧ H b = some (.tup (kv.1.map kV))) ps kvs ∧ ∀ p, H p = none → Q (.ref p) (upd H p (.dT (mergeT [] kvs)))
section
variable {X : Cx}
theorem pairs_ofT {pins : List (Addr × Obj)} {σ : L2.St} {H : Hp} {s : Shared} (I : Inv X pins σ H s) : ∀ {ps : List Addr} {kvs : List (List Key × V)}, Paired (fun p kv => ∃ b, SqT X.K H p [.ref b, kv.2] ∧ H b = some (.tup (kv.1.map kV))) ps kvs →
    ∃ xs : List (List Key × Addr × Value), KT H kvs xs ∧ xs.length = ps.length ∧ ∀ (j : Nat) (q : List Key × Addr × Value), xs[j]? = some q → ∃ p, ps[j]? = some p ∧ IsTup s.heap p #[.ref q.2.1, q.2.2] ∧ (tupleKind (mixKind X.prog X.w)).is s.heap q.1 q.2.1
  | _, _, .nil => ⟨[], .nil, rfl, fun j q e => by simp at e⟩
  | _, _, .cons (a := p) (b := kv) h t => by
    obtain ⟨xs, r, hl, hp⟩ := pairs_ofT I t
    obtain ⟨b, h, hb⟩ := h
    obtain ⟨its, rv, ht, _⟩ := I.tuple h
    obtain ⟨u, y, ei, ru, ry⟩ := vals2 rv
    subst ei
    cases (show u = Value.ref b from ru)
    refine ⟨(kv.1, b, y) :: xs, .cons ⟨rfl, hb, ry⟩ r, by rw [List.length_cons, List.length_cons, hl], fun j q e => ?_⟩
    cases j with
    | zero =>
      have e' : (kv.1, b, y) = q := Option.some.inj e
      subst e'
      exact ⟨p, rfl, ht, key_of I.hok hb⟩
    | succ j =>
      obtain ⟨p', e1, e2, e3⟩ := hp j q (by simpa using e)
      exact ⟨p', by simpa using e1, e2, e3⟩
theorem merge_keyed {H : Hp} : ∀ {kvs : List (List Key × V)} {xs : List (List Key × Addr × Value)} {acc : List (List Key × V)} {ys : List (List Key × Addr × Value)}, KT H kvs xs → KT H acc ys → KT H (mergeT acc kvs) (storedAllH ys xs)
  | _, _, _, _, .nil, r => r
  | _, _, _, _, .cons (a := kv) (b := x) h t, r => by
    obtain ⟨h1, h2, h3⟩ := h
    have q := r.put kv.1 h2 h3
    have m := merge_keyed t q
    show KT H (mergeT (putK _ kv.1 kv.2) _) (storedAllH (storedH _ x.1 x.2.1 x.2.2) _)
    rw [← h1]
    exact m
theorem merge_len : ∀ (kvs acc : List (List Key × V)), (mergeT acc kvs).length ≤ acc.length + kvs.length
  | [], acc => Nat.le_refl _
  | kv :: kvs, acc => by
    have h1 := merge_len kvs (putK acc kv.1 kv.2)
    have h2 := length_putK acc kv.1 kv.2
    show (mergeT (putK acc kv.1 kv.2) kvs).length ≤ _
    rw [List.length_cons]
    omega
theorem call_dictT (hc : X.calm = true) (hu : X.A.units + 64 < cLine) : CallR X (.type "dict") (rDictT X.K) := by
  intro pins s σ H xs us Q I r h
  obtain ⟨a, ps, kvs, rfl, hs, hp, q⟩ := h
  obtain ⟨its, rv, pl, hz⟩ := I.list hs
  rw [Vals.ref1 r]
  have ei := refs_at rv
  subst ei
  rw [List.length_map] at hz
  obtain ⟨prs, rel, hl, hpr⟩ := pairs_ofT I hp
  obtain ⟨o, n, ho, hcl, hd, hdat⟩ := pl
  have hm : (s.heap.objs.size == sysModules) = false := beq_eq_false_iff_ne.mpr (Nat.ne_of_gt I.big)
  have lp : (prs.map fun x => (Value.ref x.2.1, x.2.2)).length = prs.length := List.length_map _
  refine call_dict_pairsH (knd := tupleKind (mixKind X.prog X.w)) (ps := prs) (PairArg.list a (ps.map Value.ref).toArray (fun j => ps.getD j 0) (prs.map fun x => (Value.ref x.2.1, x.2.2))) (I.ok.hd hc) (show X.A.units + 1 + 1 < cLine by omega)
    ⟨⟨o, n, ho, hcl, hd, hdat⟩, ?_, fun j k v e => ?_⟩ ⟨lp.symm, fun i key v e => ?_⟩ (fun h' hk x hx => ?_) (by rw [lp, hl]; exact hz) fun h' tk hd' k => ?_
  · rw [lp, hl]
    simp
  · rw [List.getElem?_map] at e
    cases ex : prs[j]? with
    | none =>
      rw [ex] at e
      cases e
    | some x =>
      rw [ex] at e
      have e := Option.some.inj e
      obtain ⟨p, e1, e2, e3⟩ := hpr j x ex
      cases e
      refine ⟨by simp [e1], ?_⟩
      show PairAt s.heap (ps.getD j 0) _ _
      rw [List.getD_eq_getElem?_getD, e1]
      obtain ⟨o', h1, h2, m, h3⟩ := e2
      exact .inl ⟨o', h1, h2, m, h3⟩
  · have e : (prs.map fun x => (Value.ref x.2.1, x.2.2))[i]? = some (key, v) := e
    rw [List.getElem?_map] at e
    cases ex : prs[i]? with
    | none =>
      rw [ex] at e
      cases e
    | some x =>
      rw [ex] at e
      have e := Option.some.inj e
      cases e
      exact ⟨x.1, x.2.1, rfl, rfl⟩
  · obtain ⟨j, hj⟩ := List.mem_iff_getElem?.mp hx
    obtain ⟨p, e1, e2, o', its', m, h1, h2, h3, h4⟩ := hpr j x hj
    refine ⟨o', its', m, hk _ _ (Nat.ne_of_lt (Heap.lt_size h1)) (fun z => nomatch z) h1, h2, h3, h4⟩
  · have hlen : (mergeT [] kvs).length ≤ sizeLine := by
      have h1 := merge_len kvs []
      have h2 : kvs.length = prs.length := Paired.length rel
      rw [List.length_nil] at h1
      omega
    have keep : ∀ b o, s.heap.get? b = some o → h'.get? b = some o := fun b o e => k b o (fun z => nomatch z) e
    have m := merge_keyed rel (.nil : KT H [] [])
    obtain ⟨o', es, ep, d1, d2, d3, d4, _, d5⟩ := hd'
    refine ⟨.ref s.heap.objs.size, upd H s.heap.objs.size (.dT (mergeT [] kvs)), I.laid (t' := tk) keep (Nat.le_refl _) (show ObjOk X.prog X.w _ _ _ (.dT (mergeT [] kvs)) from ⟨hlen, hm, _, m.keeps fun b ys e => ?_, o', es, ep, d1, d2, d3, d4, d5⟩), rfl, q _ (I.hok.fresh (Nat.le_refl _))⟩
    rw [upd_ne (ne_of_none e (I.hok.fresh (Nat.le_refl _)))]
    exact e
end
end KL
set_option Elab.async false
set_option linter.all false
set_option maxRecDepth 100000
set_option maxHeartbeats 4000000
namespace KL
open PySem L2 PySem.Spec PyProof.Rows
/-! ### sets of ints and texts, their order too -/
theorem paired_perm {α β : Type} {R : α → β → Prop} {l l' : List α} (p : l'.Perm l) : ∀ {m : List β}, Paired R l m → ∃ m', m'.Perm m ∧ Paired R l' m' := by
  induction p with
  | nil => intro m h; exact ⟨m, .refl _, h⟩
  | cons x _ ih =>
    intro m h
    cases h with
    | cons h1 h2 =>
      obtain ⟨m', p', q'⟩ := ih h2
      exact ⟨_ :: m', p'.cons _, .cons h1 q'⟩
  | swap x y l =>
    intro m h
    cases h with
    | cons h1 h2 =>
      cases h2 with
      | cons h3 h4 => exact ⟨_ :: _ :: _, .swap _ _ _, .cons h3 (.cons h1 h4)⟩
  | trans _ _ ih1 ih2 =>
    intro m h
    obtain ⟨m', p', q'⟩ := ih2 h
    obtain ⟨m'', p'', q''⟩ := ih1 q'
    exact ⟨m'', p''.trans p', q''⟩
def KeyE (P : Program) (w : World) (e : Int × Value) (k : Key) : Prop := RelV (kV k) e.2 ∧ e.1 = (mixKind P w).hash k
/-- a set that has the keys ks, in some order -/
structure SetKs (P : Program) (w : World) (h : Heap) (a : Addr) (ks : List Key) : Prop where
  ex : ∃ o es ep t, h.get? a = some o ∧ o.ExactSet ∧ o.data = .set es ep t ∧ Paired (KeyE P w) es.toList ks ∧ es.size < scanBound ∧ t.fits es.size = true ∧ Ris t.place.toList ∧ (w.params.followText "set-order" = true ∨ t.led = true)
  nd : ks.Nodup
section
variable {P : Program} {w : World} {A : Around} {E : Value → Shared → Prop} {s : Shared} {a : Addr} {ks : List Key} {h h' : Heap}
theorem SetKs.at (R : SetKs P w h a ks) (k : ∀ o, h.get? a = some o → h'.get? a = some o) : SetKs P w h' a ks := by
  obtain ⟨⟨o, es, ep, t, ho, r⟩, nd⟩ := R
  exact ⟨⟨o, es, ep, t, k o ho, r⟩, nd⟩
theorem elems_of : ∀ {l : List (Int × Value)} {ks : List Key}, Paired (KeyE P w) l ks → ElemsOf (mixKind P w) l
  | _, _, .nil => fun e he => nomatch he
  | _, _, .cons h t => fun e he => by
    rcases List.mem_cons.mp he with z | z
    · subst z
      exact ⟨⟨_, kV_is h.1, h.2⟩, key_scan h.1⟩
    · exact elems_of t e z
theorem is_only {k j : Key} {v : Value} (r : RelV (kV j) v) : (mixKind P w).is k v = true ↔ k = j := by
  constructor
  · intro h
    exact (mixKind P w).inj v k j h (kV_is r)
  · rintro rfl
    exact kV_is r
theorem mem_is {k : Key} : ∀ {l : List (Int × Value)} {ks : List Key}, Paired (KeyE P w) l ks → (k ∈ ks ↔ ∃ e ∈ l, (mixKind P w).is k e.2 = true)
  | _, _, .nil => ⟨fun z => (nomatch z), fun ⟨_, z, _⟩ => (nomatch z)⟩
  | _, _, .cons h t => by
    rw [List.mem_cons, mem_is t]
    constructor
    · rintro (z | ⟨e, h1, h2⟩)
      · exact ⟨_, List.mem_cons_self, (is_only h.1).2 z⟩
      · exact ⟨e, List.mem_cons_of_mem _ h1, h2⟩
    · rintro ⟨e, h1, h2⟩
      rcases List.mem_cons.mp h1 with z | z
      · subst z
        exact .inl ((is_only h.1).1 h2)
      · exact .inr ⟨e, z, h2⟩
/-- what stands in the place of ks when k is put in -/
def PutIn (k : Key) (ks ks' : List Key) : Prop := (k ∈ ks ∧ ks' = ks) ∨ (k ∉ ks ∧ ks'.Perm (k :: ks))
theorem PutIn.mem {k j : Key} {ks ks' : List Key} (h : PutIn k ks ks') : j ∈ ks' ↔ j = k ∨ j ∈ ks := by
  rcases h with ⟨h1, rfl⟩ | ⟨_, h2⟩
  · exact ⟨.inr, fun z => z.elim (fun e => e ▸ h1) id⟩
  · rw [h2.mem_iff, List.mem_cons]
theorem PutIn.len {k : Key} {ks ks' : List Key} (h : PutIn k ks ks') : ks'.length ≤ ks.length + 1 := by
  rcases h with ⟨_, rfl⟩ | ⟨_, h2⟩
  · exact Nat.le_succ _
  · rw [h2.length_eq]
    exact Nat.le_refl _
/-- the entries are stored, and laid anew where the table is too full -/
theorem ks_tail {g : Bool → Sem Unit} {o : Obj} {es es1 : Array (Int × Value)} {ep : Nat} {t t2 : SetTable} {ls : List Key} {dm : Bool} {R : Option Bool → Shared → Prop}
    (hg : ∀ (b : Bool) (s₁ : Shared) (Q' : Unit → Shared → Prop), Q' () s₁ → wpAny (model P w) A (g b) Q' E s₁) (ho : s.heap.get? a = some o) (hx : o.ExactSet) (hd : o.data = .set es ep t)
    (pr : Paired (KeyE P w) es1.toList ls) (nd : ls.Nodup) (hb : es1.size < scanBound) (hf : t2.fits es1.size = true) (hr : Ris t2.place.toList) (hl : w.params.followText "set-order" = true ∨ t2.led = true)
    (hR : ∀ h' ms, Heap.SameBut a s.heap h' → SetKs P w h' a ms → ms.Perm ls → R (some true) { s with heap := h' }) :
    wpAny (model P w) A (do
        storeSet a es1 t2
        if (!dm && t2.tooFull) = true then do
            g (relayAll t2 es1 (SetTable.grown es1.size)).2.2
            storeSet a (relayAll t2 es1 (SetTable.grown es1.size)).1 (relayAll t2 es1 (SetTable.grown es1.size)).2.1
            pure (some true)
          else pure (some true)) R E s := by
  have stored := store_at (es' := es1) (t' := t2) ho hd
  have same := Heap.SameBut.update s.heap a (Obj.putSet es1 t2)
  refine wpAny_bind (wpAny_storeSet_of ho hd ?_ (fits_of_scanBound hb))
  by_cases full : (!dm && t2.tooFull) = true
  · rw [if_pos full]
    have k1 := relayAll_perm t2 es1 (SetTable.grown es1.size)
    have k2 := relayAll_fits t2 es1 (SetTable.grown es1.size)
    have k3 := relayAll_ris t2 es1 (SetTable.grown es1.size)
    have k4 := relayAll_led t2 es1 (SetTable.grown es1.size)
    revert k1 k2 k3 k4
    generalize relayAll t2 es1 (SetTable.grown es1.size) = Z
    obtain ⟨es2, t3, gv⟩ := Z
    intro k1 k2 k3 k4
    dsimp only at k1 k2 k3 k4 ⊢
    obtain ⟨ms, m1, m2⟩ := paired_perm k1 pr
    have sz : es2.size = es1.size := by rw [← Array.length_toList, k1.length_eq, Array.length_toList]
    have b2 : es2.size < scanBound := by omega
    refine wpAny_bind (hg _ _ _ (wpAny_bind (wpAny_storeSet_of stored rfl (wpAny_pure ?_) (fits_of_scanBound b2))))
    refine hR _ ms (same.trans (Heap.SameBut.update _ a _)) ⟨⟨_, es2, _, t3, store_at (es' := es2) (t' := t3) stored rfl, hx, rfl, m2, b2, k2, k3, hl.imp id fun z => ?_⟩, m1.nodup_iff.mpr nd⟩ m1
    rw [k4]
    exact z
  · rw [if_neg full]
    exact wpAny_pure (hR _ ls same ⟨⟨_, es1, _, t2, stored, hx, rfl, pr, hb, hf, hr, hl⟩, nd⟩ (.refl _))
theorem ks_put {k : Key} {u : Value} {Q : Bool → Shared → Prop} (ru : RelV (kV k) u) (R : SetKs P w s.heap a ks) (room : ks.length + 1 < scanBound)
    (hQ : ∀ h' ks' b, Heap.SameBut a s.heap h' → SetKs P w h' a ks' → PutIn k ks ks' → Q b { s with heap := h' }) : wpAny (model P w) A (setAddHashed a u ((mixKind P w).hash k)) Q E s := by
  obtain ⟨⟨o, es, ep, t, ho, hx, hd, pr, hb, hf, hr, hl⟩, nd⟩ := R
  have len : es.size = ks.length := by rw [← Array.length_toList]; exact Paired.length pr
  have isk := kV_is (P := P) (w := w) ru
  have scn := key_scan ru
  have el := elems_of pr
  unfold setAddHashed setAddHashedIn
  refine wpAny_holding (wpAny_bind (wpAny_setState_of ho hd hf ?_))
  dsimp only
  rw [byScan_of scn hb el]
  simp only [↓reduceIte]
  unfold setAddByScan
  refine wpAny_bind (wpAny_bind (wpAny_rule (wpAny_bind (wpAny_setScan_of isk ho hd hf el ?_))))
  cases hfi : List.findIdx? (fun e => (mixKind P w).is k e.2) es.toList with
  | some j =>
    dsimp only
    obtain ⟨hj, pj, _⟩ := List.findIdx?_eq_some_iff_getElem.mp hfi
    have hm : k ∈ ks := (mem_is pr).2 ⟨es.toList[j], List.getElem_mem hj, pj⟩
    exact wpAny_pure (wpAny_pure (hQ s.heap ks _ (Heap.SameBut.refl a s.heap) ⟨⟨o, es, ep, t, ho, hx, hd, pr, hb, hf, hr, hl⟩, nd⟩ (.inl ⟨hm, rfl⟩)))
  | none =>
    dsimp only
    have hm : k ∉ ks := fun z => by
      obtain ⟨e, he, q⟩ := (mem_is pr).1 z
      have c := List.findIdx?_eq_none_iff.mp hfi e he
      rw [q] at c
      cases c
    have gw : ∀ (b : Bool) {s₁ : Shared} {Q' : Unit → Shared → Prop}, Q' () s₁ → wpAny (model P w) A (match b with | true => rule "set.scan.the-table-gave-way" | false => pure ()) Q' E s₁ := fun b s₁ Q' q => by
      cases b
      · exact wpAny_pure q
      · exact wpAny_rule q
    have k1 := layNew_perm t es ((mixKind P w).hash k) u
    have k2 := layNew_fits t es ((mixKind P w).hash k) u
    have k3 := layNew_ris t es ((mixKind P w).hash k) u hr
    have k4 := layNew_led t es ((mixKind P w).hash k) u
    revert k1 k2 k3 k4
    generalize layNew t es ((mixKind P w).hash k) u = Z
    obtain ⟨es1, t1, dm, gv⟩ := Z
    intro k1 k2 k3 k4
    dsimp only at k1 k2 k3 k4 ⊢
    rw [Array.toList_push] at k1
    have k1 : es1.toList.Perm (((mixKind P w).hash k, u) :: es.toList) := k1.trans (List.perm_append_singleton _ _)
    obtain ⟨ls, m1, m2⟩ := paired_perm k1 (m := k :: ks) (.cons ⟨ru, rfl⟩ pr)
    have sz : es1.size = ks.length + 1 := by rw [← Array.length_toList, k1.length_eq, List.length_cons, Array.length_toList, len]
    have b1 : es1.size < scanBound := by omega
    have nd1 : ls.Nodup := m1.nodup_iff.mpr (List.nodup_cons.mpr ⟨hm, nd⟩)
    have led : w.params.followText "set-order" = true ∨ t1.led = true := hl.imp id fun z => by
      rw [k4]
      exact z
    have fin : ∀ b h' ms, Heap.SameBut a s.heap h' → SetKs P w h' a ms → ms.Perm ls → Q b { s with heap := h' } := fun b h' ms sb r pm => hQ h' ms b sb r (.inr ⟨hm, pm.trans m1⟩)
    refine wpAny_bind (gw _ ?_)
    split
    · refine wpAny_bind ?_
      rw [hashByValue_scannable 8 scn]
      refine wpAny_pure ?_
      refine ks_tail (fun b s₁ Q' q => gw b q) ho hx hd m2 nd1 b1 ?_ ?_ ?_ fun h' ms sb r pm => ?_
      · first | exact k2 | (split <;> first | exact k2 | exact SetTable.fits_plain_off k2)
      · first | exact k3 | (split <;> exact k3)
      · first | exact led | (split <;> exact led)
      · dsimp only
        exact wpAny_pure (fin _ h' ms sb r pm)
    · refine wpAny_bind (wpAny_pure ?_)
      simp only [↓reduceIte]
      refine ks_tail (fun b s₁ Q' q => gw b q) ho hx hd m2 nd1 b1 k2 k3 led fun h' ms sb r pm => ?_
      dsimp only
      exact wpAny_pure (fin _ h' ms sb r pm)
end
end KL
set_option Elab.async false
set_option linter.all false
set_option maxRecDepth 100000
set_option maxHeartbeats 4000000
namespace KL
open PySem L2 PySem.Spec PyProof.Rows
section
variable {P : Program} {w : World} {A : Around} {E : Value → Shared → Prop} {s : Shared} {a : Addr}
theorem keep_run {Wn : World} {h : Heap} {a : Addr} {ks : List Key} (R : SetKs P Wn h a ks) {h' : Heap} (e : ∀ o, h.get? a = some o → h'.get? a = some o) : SetKs P Wn h' a ks := R.at e
/-- the items of an iterator are put into the set at D, one behind the other -/
theorem ks_fill {I D : Addr} {fp wr : List Addr} {G : Array GenState → Array GenState → Prop} {n : Nat} {Pv : Nat → Value → Prop} {St : Nat → Shared → Prop} {R : Result → Shared → Prop} (W : WalksS P w A.in1 I fp wr G n Pv St) (hD : D ∉ fp)
    (xs : List Key) (hn : xs.length = n) (hb : n + 1 < scanBound) (hv : ∀ i v, Pv i v → ∃ k, xs[i]? = some k ∧ RelV (kV k) v) (left : Nat) :
    ∀ (i : Nat) (s : Shared) (ks : List Key), i + left = n → St i s → SetKs P w s.heap D ks → (∀ j, j ∈ ks ↔ j ∈ xs.take i) → ks.length ≤ i →
      (∀ s' ks', Moved (D :: wr) G s s' → SetKs P w s'.heap D ks' → (∀ j, j ∈ ks' ↔ j ∈ xs) → ks'.length ≤ n → R (.ok (.ret .none)) s') → codeAny (model P w) A (.builtin "set.update.loop" ⟨[.ref D, .ref I], []⟩) R s := by
  have off : D ∉ wr := fun z => hD (W.sub _ z)
  have more : ∀ b ∈ wr, b ∈ D :: wr := fun b z => List.mem_cons_of_mem _ z
  induction left with
  | zero =>
    intro i s ks e st S hm hl k
    have e : i = n := e
    subst e
    refine codeAny_builtin F.entry_set_update_loop ?_
    rw [Around.under_plainId F.plain_set_update_loop _]
    show wpAny _ A.in1 (pyNext (.ref I) >>= _) _ _ s
    refine wpAny_bind (W.done s _ _ st fun s' mv => ?_)
    show wpAny _ A.in1 (ret Value.none) _ _ s'
    rw [List.take_of_length_le (by omega)] at hm
    exact wpAny_pure (k s' ks (mv.mono more) (S.at fun o q => mv.heap D o off q) hm hl)
  | succ left ih =>
    intro i s ks e st S hm hl k
    refine codeAny_builtin F.entry_set_update_loop ?_
    rw [Around.under_plainId F.plain_set_update_loop _]
    show wpAny _ A.in1 (pyNext (.ref I) >>= _) _ _ s
    refine wpAny_bind (W.item i s _ _ (by omega) st fun v s' hp st' mv => ?_)
    obtain ⟨z, hz, rz⟩ := hv i v hp
    show wpAny _ A.in1 (holding [v] (setAdd D v) >>= _) _ _ s'
    refine wpAny_bind (wpAny_holding ?_)
    unfold setAdd
    refine wpAny_holding (wpAny_bind ((mixKind P w).pyHash (k := z) (kV_is rz) ?_))
    refine ks_put (s := { s' with toks := s'.toks + 1 }) rz (S.at fun o q => mv.heap D o off q) (by omega) fun h' ks' bb sb S2 pu => ?_
    have hm2 : ∀ j, j ∈ ks' ↔ j ∈ xs.take (i + 1) := fun j => by
      rw [pu.mem, hm, List.take_add_one, hz, List.mem_append]
      exact ⟨fun q => q.elim (fun c => .inr (by rw [c]; exact List.mem_singleton.mpr rfl)) .inl, fun q => q.elim .inr fun c => .inl (List.mem_singleton.mp c)⟩
    have hl2 : ks'.length ≤ i + 1 := Nat.le_trans pu.len (by omega)
    refine wpAny_pure ⟨plainId_quiet F.plain_set_update_loop _, ih (i + 1) _ ks' (by omega) (W.frame _ s' _ _ st' (Nat.le_succ _) fun b hb o e => ?_) S2 hm2 hl2 fun s2 ks2 mv2 S3 hm3 hl3 => ?_⟩
    · have nb : b ≠ D := fun c => hD (by rw [← c]; exact hb)
      rw [sb.2 b nb]
      exact e
    · refine k s2 ks2 (Moved.trans W.gtrans ((mv.mono more).then_heap (Nat.le_succ _) fun b o hb e => ?_) mv2) S3 hm3 hl3
      have nb : b ≠ D := fun c => hb (by rw [c]; exact List.mem_cons_self)
      rw [sb.2 b nb]
      exact e
/-- a built-in class called, the check of its __init__ by itself -/
theorem type_made {T newId initId : String} {Bi : Builtin} {args : List Value} {Q Q₁ : Value → Shared → Prop} (tc : TypeCalled T newId initId) (ct : checkTypeCall T ⟨args, []⟩ = pure ()) (en : entryFor table initId = some Bi)
    (nw : codeAny (model P w) A.in1 (.call (.builtin newId) ⟨.type T :: args, []⟩) (wants Q₁ E) s)
    (nx : ∀ obj s₁, Q₁ obj s₁ → s₁.TypeIs obj T ∧ (∀ {A' : Around} {E' : Value → Shared → Prop} {Q' : Unit → Shared → Prop}, Q' () s₁ → wpAny (model P w) A' (checkBuiltinCall initId ⟨obj :: args, []⟩) Q' E' s₁) ∧
      wpAny (model P w) A.in1.in1 (Bi ⟨obj :: args, []⟩)
        (fun fin s' => match fin with | .done f => wants (fun r s₂ => r = .none ∧ Q obj s₂) E (.ok f) s' | .again c' => c'.quiet = true ∧ codeAny (model P w) A.in1 c' (wants (fun r s₂ => r = .none ∧ Q obj s₂) E) s')
        (fun e s' => wants (fun r s₂ => r = .none ∧ Q obj s₂) E (.error e) s') s₁) : wpAny (model P w) A (call (.type T) args) Q E s := by
  obtain ⟨c0, cs, mro⟩ := tc.mro
  have m1 := tc.made
  have m2 := tc.sub
  have m3 := tc.notType
  have m4 := tc.canCreate
  refine wpAny_call (codeAny_of_tree (show wpAny _ _ (callAny (.type T) _) _ _ _ from ?_))
  refine wpAny_pure ⟨Code.quiet_builtin _ (by decide +kernel), codeAny_builtin F.entry_type_call ?_⟩
  rw [Around.under_plain (weight_type_call_type T args []) rfl]
  repeat any_goals (first | assumption | wp_step)

  refine codeAny_mono nw fun r s₁ hr => ?_
  rcases r with e | f
  · exact hr
  · cases f with
    | ret obj =>
      obtain ⟨q1, q2, q3⟩ := nx _ _ hr
      have l1 := tc.init.lookup
      have l2 := tc.init.bind obj
      repeat any_goals (first | assumption | wp_step)

      refine codeAny_mono (codeAny_call_builtin tc.init.plain en (q2 q3)) fun r₂ s₂ h2 => ?_
      rcases r₂ with e | f
      · exact h2
      · cases f with
        | ret r =>
          obtain ⟨rfl, q⟩ := h2
          repeat any_goals (first | assumption | wp_step)
        | _ => exact h2.elim
    | _ => exact hr.elim
theorem back_get : ∀ {xs : List V} {us : List Value} {i : Nat} {v : Value}, Vals xs us → us[i]? = some v → ∃ y, xs[i]? = some y ∧ RelV y v
  | _, _, i, v, .nil, e => by simp at e
  | _, _, 0, v, .cons h _, e => by
    simp at e
    subst e
    exact ⟨_, rfl, h⟩
  | _, _, i + 1, v, .cons _ t, e => by
    obtain ⟨y, q1, q2⟩ := back_get t (i := i) (by simpa using e)
    exact ⟨y, by simpa using q1, q2⟩
theorem call_set_ks {l : Addr} {us : Array Value} {xs : List Key} {Q : Value → Shared → Prop} (hh : A.handled = none) (hl : s.heap.IsList l us) (rv : Vals (xs.map kV) us.toList) (hb : xs.length + 1 < scanBound)
    (h : ∀ h' tk ks, SetKs P w h' s.heap.objs.size ks → (∀ j, j ∈ ks ↔ j ∈ xs) → ks.length ≤ xs.length → (∀ b o, s.heap.get? b = some o → h'.get? b = some o) → Q (.ref s.heap.objs.size) { s with heap := h', toks := tk }) :
    wpAny (model P w) A (call (.type "set") [.ref l]) Q E s := by
  have sz : us.size = xs.length := by
    have := rv.length
    rw [List.length_map] at this
    rw [← Array.length_toList, ← this]
  refine type_made (Q₁ := fun obj s₁ => obj = .ref s.heap.objs.size ∧ s₁ = { s with heap := s.heap.push { cls := .type "set", dict := none, data := .set #[] 0 (.fresh 0 0 (!w.params.followText "set-order")) } }) F.called_set (F.typeCall_set_1 _) F.entry_set_init (code_set_led1 _ ⟨rfl, rfl⟩) ?_
  rintro obj s₁ ⟨rfl, rfl⟩
  have new : (s.heap.push { cls := .type "set", dict := none, data := .set #[] 0 (.fresh 0 0 (!w.params.followText "set-order")) }).get? s.heap.objs.size = some { cls := .type "set", dict := none, data := .set #[] 0 (.fresh 0 0 (!w.params.followText "set-order")) } := Heap.get?_push_size _ rfl
  refine ⟨⟨_, new, rfl⟩, fun q => check_set_init_1 ⟨_, new, rfl⟩ q, ?_⟩
  have hT : Shared.TypeIs { s with heap := s.heap.push { cls := .type "set", dict := none, data := .set #[] 0 (.fresh 0 0 (!w.params.followText "set-order")) } } (.ref s.heap.objs.size) "set" := ⟨_, new, rfl⟩
  obtain ⟨⟨cls, dd, dat, sl⟩, ho, hc, n, hd⟩ := hl
  simp only at hc hd
  subst hc hd
  have ho' : (s.heap.push { cls := .type "set", dict := none, data := .set #[] 0 (.fresh 0 0 (!w.params.followText "set-order")) }).get? l = some { cls := .type "list", dict := dd, data := .seq us n, slots := sl } := Heap.get?_push_of_some _ ho
  have hl' : (s.heap.push { cls := .type "set", dict := none, data := .set #[] 0 (.fresh 0 0 (!w.params.followText "set-order")) }).IsList l us := ⟨_, ho', rfl, n, rfl⟩
  have hz : (s.heap.push { cls := .type "set", dict := none, data := .set #[] 0 (.fresh 0 0 (!w.params.followText "set-order")) }).objs.size = s.heap.objs.size + 1 := Heap.size_push ..
  have b1 := F.sub_list_set
  have b2 := F.sub_list_frozenset
  have b3 : (Value.type "list" == Value.type "dict") = false := by decide
  unfold Builtin.«set.__init__» noKeywords Builtin.Frozenset.updateFrom
  generalize hPI : pyIter = PI
  wp_walk
  subst hPI
  have lS : l < s.heap.objs.size := Heap.lt_size ho
  have nI : l ≠ (s.heap.push { cls := .type "set", dict := none, data := .set #[] 0 (.fresh 0 0 (!w.params.followText "set-order")) }).objs.size := by
    rw [hz]
    exact Nat.ne_of_lt (Nat.lt_succ_of_lt lS)
  have hD : s.heap.objs.size ∉ [(s.heap.push { cls := .type "set", dict := none, data := .set #[] 0 (.fresh 0 0 (!w.params.followText "set-order")) }).objs.size, l] := fun z => by
    rcases List.mem_cons.mp z with z | z
    · rw [hz] at z
      exact Nat.ne_of_lt (Nat.lt_succ_self _) z
    · have := List.mem_singleton.mp z
      exact Nat.ne_of_gt lS this
  have hv : ∀ (i : Nat) (v : Value), us[i]? = some v → ∃ k, xs[i]? = some k ∧ RelV (kV k) v := fun i v e => by
    obtain ⟨k, q, r⟩ : ∃ y, (xs.map kV)[i]? = some y ∧ RelV y v := by
      have e : us.toList[i]? = some v := by rw [Array.getElem?_toList]; exact e
      exact back_get rv e
    rw [List.getElem?_map] at q
    cases ex : xs[i]? with
    | none =>
      rw [ex] at q
      cases q
    | some x =>
      rw [ex] at q
      cases q
      exact ⟨x, rfl, r⟩
  refine wpAny_pyIter_list hl' ?_
  refine wpAny_bind (wpAny_runValue ?_)
  refine ks_fill ((Walks.list (show A.in1.in1.in1.handled = none by simp [hh]) _ l nI us).toS) hD xs sz.symm (by omega) hv us.size 0 _ [] (by omega)
    ⟨⟨_, Heap.get?_push_size _ rfl, rfl, rfl⟩, hl'.push _⟩ ⟨⟨_, #[], 0, _, Heap.get?_push_of_some _ new, ⟨rfl, rfl, rfl⟩, rfl, .nil, by decide, rfl, List.Pairwise.nil, ?_⟩, List.nodup_nil⟩ (fun j => by simp) (Nat.le_refl _) ?_
  · show _ ∨ (!w.params.followText "set-order") = true
    cases w.params.followText "set-order"
    · exact .inr rfl
    · exact .inl rfl
  · intro s' ks mv S hm hk
    obtain ⟨h', g', d', tk', os'⟩ := s'
    have eg : g' = s.gens := mv.gens
    have ed : d' = s.drawn := mv.drawn
    have eo : os' = s.os := mv.os
    subst eg ed eo
    show wpAny _ _ _ _ _ _
    refine wpAny_pure ?_
    show wpAny _ _ (ret Value.none) _ _ _
    refine wpAny_pure ⟨rfl, h h' tk' ks S hm (by omega) fun b o e => ?_⟩
    have bS : b < s.heap.objs.size := Heap.lt_size e
    refine mv.heap b o (fun z => ?_) (Heap.get?_push_of_some _ (Heap.get?_push_of_some _ e))
    rcases List.mem_cons.mp z with z | z
    · exact Nat.ne_of_lt bS z
    · have z := List.mem_singleton.mp z
      rw [hz] at z
      exact Nat.ne_of_lt (Nat.lt_succ_of_lt bS) z
end
end KL
set_option Elab.async false
set_option linter.all false
set_option maxRecDepth 100000
set_option maxHeartbeats 4000000
namespace KL
open PySem L2 PySem.Spec PyProof.Rows
/-- the set of the keys ks -/
def KsO (P : Program) (w : World) (a : Addr) (ks : List Key) : HO := .ext fun h => SetKs P w h a ks
theorem ksO_ok {P : Program} {w : World} {H : Hp} {h : Heap} {a : Addr} {ks : List Key} (R : SetKs P w h a ks) : ObjOk P w H h a (KsO P w a ks) := by
  obtain ⟨⟨o, _, _, _, ho, _⟩, _⟩ := id R
  exact ⟨R, ⟨o, ho⟩, fun _ _ p k => p.at k⟩
def rSetK (K : PySem.W.Frag) (P : Program) (w : World) : List V → Hp → VK → Prop := fun vs H Q => ∃ (a : Addr) (xs : List Key), vs = [V.ref a] ∧ SqL K H a (xs.map kV) ∧ xs.length ≤ 2000 ∧
  ∀ p ks, H p = none → ks.Nodup → (∀ j, j ∈ ks ↔ j ∈ xs) → ks.length ≤ xs.length → Q (.ref p) (upd H p (KsO P w p ks))
/-- sorted(s), s a set of texts -/
def rSortK (P : Program) (w : World) : List V → Hp → VK → Prop := fun vs H Q => ∃ (a : Addr) (ss : List Str), vs = [V.ref a] ∧ H a = some (KsO P w a (ss.map Sum.inr)) ∧
  ∀ (ys : List Str) (p : Addr), ys.Perm ss → ys.Nodup → ys.Pairwise (fun x y => x.cps.toList ≤ y.cps.toList) → H p = none → Q (.ref p) (upd H p (.lst (ys.map V.str)))
theorem paired_map {α β γ : Type} {R : α → γ → Prop} {f : β → γ} : ∀ {l : List α} {m : List β}, Paired R l (m.map f) → Paired (fun x y => R x (f y)) l m
  | _, [], h => by
    cases h
    exact .nil
  | _, y :: m, h => by
    cases h with
    | cons h1 h2 => exact .cons h1 (paired_map h2)
def StrE (u : Value) (x : Str) : Prop := ∃ t, u = .str x t
theorem strs_each : ∀ {l : List (Int × Value)} {ss : List Str} {P : Program} {w : World}, Paired (KeyE P w) l (ss.map Sum.inr) → Paired StrE (l.map (·.2)) ss
  | _, [], _, _, h => by
    cases h
    exact .nil
  | _, x :: ss, _, _, h => by
    cases h with
    | cons h1 h2 => exact .cons h1.1 (strs_each h2)
theorem each_str {h : Heap} {a : Addr} : ∀ {us : List Value} {ss : List Str}, Paired StrE us ss → PySem.W.EachIs StrE us ss ∧ PySem.W.EachIs (fun v b => ∃ as, Reads h v (PyData.str b) as ∧ a ∉ as) us ss
  | _, _, .nil => ⟨.nil, .nil⟩
  | _, _, .cons h t => by
    obtain ⟨q1, q2⟩ := each_str t
    obtain ⟨tk, rfl⟩ := h
    exact ⟨.cons ⟨tk, rfl⟩ q1, .cons ⟨[], .str _ _, fun z => nomatch z⟩ q2⟩
theorem vals_strs : ∀ {us : List Value} {ss : List Str}, PySem.W.EachIs StrE us ss → Vals (ss.map V.str) us
  | _, _, .nil => .nil
  | _, _, .cons h t => .cons h (vals_strs t)
theorem str_le_total (x y : Str) : (decide (x.cps.toList ≤ y.cps.toList) || decide (y.cps.toList ≤ x.cps.toList)) = true := by
  rcases List.le_total x.cps.toList y.cps.toList with h | h
  · rw [decide_eq_true h]
    rfl
  · rw [decide_eq_true h, Bool.or_true]
section
variable {X : Cx}
theorem cr_setK (hc : X.calm = true) : CallR X (.type "set") (rSetK X.K X.prog X.w) := by
  intro pins s σ H vs us Q I r h
  obtain ⟨a, xs, rfl, hs, hz, q⟩ := h
  obtain ⟨its, rv, hl, _⟩ := I.list hs
  rw [Vals.ref1 r]
  refine call_set_ks (xs := xs) (I.ok.hd hc) hl.isList (by simpa using rv) (by unfold scanBound; omega) fun h' tk ks S hm hk keep => ?_
  exact ⟨.ref s.heap.objs.size, upd H s.heap.objs.size (KsO X.prog X.w s.heap.objs.size ks), I.laid (t' := tk) keep (Nat.le_refl _) (ksO_ok S), rfl, q _ ks (I.hok.fresh (Nat.le_refl _)) S.nd hm hk⟩
theorem cr_sortK (hc : X.calm = true) (hu : X.A.units + 64 < cLine) : CallR X (.builtin "sorted") (rSortK X.prog X.w) := by
  intro pins s σ H vs us Q I r h
  obtain ⟨a, ss, rfl, ha, q⟩ := h
  have R : SetKs X.prog X.w s.heap a (ss.map Sum.inr) := (I.hok a _ ha).1
  rw [Vals.ref1 r]
  obtain ⟨⟨o, es, ep, t, ho, hx, hd, pr, hb, hf, hr, hl⟩, nd⟩ := R
  have nds : ss.Nodup := by
    have := nd
    unfold List.Nodup at this ⊢
    rw [List.pairwise_map] at this
    exact this.imp fun h e => h (by rw [e])
  refine Calls.call_function_entry kind_sorted plain_sorted entry_sorted (args_sorted1 _) ?_
  unfold Builtin.«sorted»
  refine wpAny_bind (m := checkCount "sorted" 1 1 _) (wpAny_pure ?_)
  refine wpAny_bind (collect_set (A := X.A.in1) (I.ok.hd hc) ⟨o, ho, hx.1, hd⟩ hf hb hr hl fun s1 out k1 z1 g1 o1 pm => ?_)
  obtain ⟨ms, pms, prm⟩ := paired_perm pm (strs_each pr)
  have lo : out.length = ms.length := Paired.length prm
  have lm : ms.length = es.size := by
    rw [pms.length_eq, ← Array.length_toList, Paired.length pr, List.length_map]
  have lz : out.length ≤ sizeLine := by
    rw [lo, lm]
    exact fits_of_scanBound hb
  refine wpAny_bind (wpAny_newList ?_ lz)
  have hoL : (s1.heap.push (seqObj "list" out.toArray 0)).get? s1.heap.objs.size = some (seqObj "list" out.toArray 0) := Heap.get?_push_size _ rfl
  obtain ⟨e1, e2⟩ := each_str (h := s1.heap.push (seqObj "list" out.toArray 0)) (a := s1.heap.objs.size) prm
  have al : PySem.W.AllAlike (ms.map PyData.str) := PySem.W.AllAlike.of fun _ _ => rfl
  have so : PySem.W.Sortable (ms.map PyData.str) := PySem.W.Sortable.others fun _ => ⟨fun z => (nomatch z), fun _ z => nomatch z⟩
  refine wpAny_bind (wpAny_holding (PySem.W.list_sort_data hoL e1 e2 al so (by rw [← lo]; exact lz) (fun b _ => (by show X.A.units + 1 + 1 + 0 < cLine; omega)) fun srt ls es' => ?_))
  have vv := vals_strs es'
  rw [PySem.W.dataLe_str (k := fun x => x)] at vv
  have pmm : (ms.mergeSort fun a b => decide (a.cps.toList ≤ b.cps.toList)).Perm ms := List.mergeSort_perm _ _
  have pw := List.pairwise_mergeSort (le := fun (a b : Str) => decide (a.cps.toList ≤ b.cps.toList)) (fun x y z h1 h2 => decide_eq_true (List.le_trans (of_decide_eq_true h1) (of_decide_eq_true h2))) (fun x y => str_le_total x y) ms
  obtain ⟨c, hcc⟩ := sortedHeap_at (vs := out) (out := srt.toArray) hoL
  have len : ((ms.mergeSort fun a b => decide (a.cps.toList ≤ b.cps.toList)).map V.str).length ≤ sizeLine := by
    rw [List.length_map, pmm.length_eq, ← lo]
    exact lz
  have keep : ∀ b u, s.heap.get? b = some u → (sortedHeap (s1.heap.push (seqObj "list" out.toArray 0)) s1.heap.objs.size out srt.toArray).get? b = some u := fun b u e => by
    have e1 := k1 b u e
    have lt := Heap.lt_size e1
    rw [sortedHeap_old (Nat.ne_of_lt lt) (by rw [size_push']; exact Nat.lt_succ_of_lt lt)]
    exact Heap.get?_push_of_some _ e1
  have hn : H s1.heap.objs.size = none := I.hok.fresh z1
  have J : Inv X pins σ (upd H s1.heap.objs.size (.lst ((ms.mergeSort fun a b => decide (a.cps.toList ≤ b.cps.toList)).map V.str))) { s with heap := sortedHeap (s1.heap.push (seqObj "list" out.toArray 0)) s1.heap.objs.size out srt.toArray, gens := s1.gens, drawn := s1.drawn, toks := s1.toks } :=
    I.call (ch := []) (Un.laid keep z1 hn) (I.hok.laid keep z1 ⟨len, srt, c, vv, hcc⟩) (by rw [g1]; exact I.bare) (fun _ z => nomatch z)
  have es1 : ({ s1 with heap := sortedHeap (s1.heap.push (seqObj "list" out.toArray 0)) s1.heap.objs.size out srt.toArray } : Shared) = { s with heap := sortedHeap (s1.heap.push (seqObj "list" out.toArray 0)) s1.heap.objs.size out srt.toArray, gens := s1.gens, drawn := s1.drawn, toks := s1.toks } := by
    cases s1
    cases s
    cases o1
    rfl
  refine wpAny_pure ⟨_, rfl, ?_⟩
  rw [es1]
  exact ⟨.ref _, _, J, rfl, q _ _ (pmm.trans pms) ((pmm.trans pms).nodup_iff.mpr nds) (pw.imp fun h => of_decide_eq_true h) hn⟩
end
end KL
set_option Elab.async false
set_option linter.all false
set_option maxRecDepth 100000
set_option maxHeartbeats 16000000
namespace KL
open PySem L2 PySem.KX PySem.Spec PyProof.Rows
/-! ### what the law's names_right stands on -/
/-- len of a set of texts -/
def rLenK (P : Program) (w : World) : List V → Hp → VK → Prop := fun xs H Q => ∃ (a : Addr) (ks : List Key), xs = [V.ref a] ∧ H a = some (KsO P w a ks) ∧ ks.length ≤ 2000 ∧ Q (.int ks.length) H
theorem cr_lenK {X : Cx} : CallR X (.builtin "len") (rLenK X.prog X.w) := by
  intro pins s σ H vs us Q I r h
  obtain ⟨a, ks, rfl, ha, few, q⟩ := h
  have R : SetKs X.prog X.w s.heap a ks := (I.hok a _ ha).1
  rw [Vals.ref1 r]
  obtain ⟨⟨o, es, ep, t, ho, hex, hd, hp, _, hf, _⟩, _⟩ := R
  have e : es.size = ks.length := by
    have := Paired.length hp
    simpa using this
  refine call_len_set ho hex hd hf (by rw [e]; omega) ⟨.int ks.length, H, I.tok _, ⟨_, by rw [e]⟩, q⟩
theorem inV_str (a : Str) (ss : List Str) : inV (.str a) (ss.map V.str) = decide (a ∈ ss) := by
  unfold inV
  rw [List.any_map]
  by_cases h : a ∈ ss
  · rw [decide_eq_true h, List.any_eq_true]
    exact ⟨a, h, (show (a == a) = true from beq_self_eq_true a)⟩
  · rw [decide_eq_false h, List.any_eq_false]
    intro x hx e
    have e : (x == a) = true := e
    exact h (eq_of_beq e ▸ hx)
theorem flat_str (ss : List Str) : (ss.map V.str).all flatV = true := by
  rw [List.all_map]
  exact List.all_eq_true.mpr fun _ _ => rfl
def someB (x : Str) (c : Nat) : Bool := decide (c ∈ ("aby" : Str).cps.toList) || (decide (c ∈ ("kz" : Str).cps.toList) && decide (("k" : Str) ∈ letsOf x))
def some0 (x : Str) : List Str := (x.cps.toList.filter (someB x)).map sgS
theorem some0_ok {x : Str} (h : x ∈ lets5) : some0 x ∈ kss ∧ ∀ l ∈ some0 x, l ∈ letsOf x := by
  have z : (lets5.all fun x => decide (some0 x ∈ kss) && (some0 x).all fun l => decide (l ∈ letsOf x)) = true := by decide +kernel
  have y := List.all_eq_true.mp z x h
  simp only [Bool.and_eq_true, decide_eq_true_eq] at y
  exact ⟨y.1, fun l hl => of_decide_eq_true (List.all_eq_true.mp y.2 l hl)⟩
abbrev pool9 : List Str := ["m", "a", "b", "c", "k", "z", "y", "x", "q"]
def odd9 : List PyData := [.str "", .str "A", .str "mm", .none, .int 1, .tuple [.str "m"], .str "-", .bool true, .list [.str "m"]]
def pool27 : List PyData := (pool9 ++ pool9).map .str ++ odd9
theorem pool_sm : ∀ d ∈ pool27, smB d = true := by
  have z : pool27.all smB = true := by decide +kernel
  exact fun d hd => List.all_eq_true.mp z d hd
theorem Go.mono {p l : Addr} {H0 H H1 H' H'' : Hp} {t t' n : Int} (g : Go p l H0 H t H1 H' t' n) (S : Same H' H'') : Go p l H0 H t H1 H'' t' n :=
  ⟨g.s, g.d.mono S, fun b o bp bl e => S _ _ (g.f b o bp bl e), g.o, g.t0, g.t1⟩
/-- (letter, value), as data -/
def pairE (q : Str × PyData) : PyData := .tuple [.str q.1, q.2]
theorem pairs_of {H : Hp} : ∀ {ss : List Str} {es : List PyData} {ys : List V}, ss.length = es.length → DqAll H ys ((ss.zip es).map pairE) →
    ∃ (ps : List Addr) (zs : List V), ys = ps.map V.ref ∧ zs.length = ss.length ∧ DqAll H zs es ∧ Paired (fun p (kv : Key × V) => H p = some (.tup [kV kv.1, kv.2])) ps (kwV ss zs)
  | [], [], ys, _, h => by
    cases h
    exact ⟨[], [], rfl, rfl, .nil, .nil⟩
  | s :: ss, e :: es, ys, hl, h => by
    cases h with
    | cons h1 h2 =>
      obtain ⟨ps, zs, rfl, hz, hq, hp⟩ := pairs_of (Nat.succ.inj hl) h2
      cases h1 with
      | tup ha hb =>
        cases hb with
        | cons b1 hb =>
        cases hb with
        | cons b2 hb =>
        cases hb
        cases b1
        exact ⟨_ :: ps, _ :: zs, rfl, congrArg (· + 1) hz, .cons b2 hq, .cons ha hp⟩
theorem merge_kw {ss : List Str} {zs : List V} (h : ss ∈ kss) (hl : zs.length = ss.length) : mergeK [] (kwV ss zs) = kwV ss zs := by
  simp only [kss, List.mem_cons, List.not_mem_nil, or_false] at h
  rcases h with rfl | rfl | rfl | rfl
  · match zs, hl with
    | [_, _], _ => rfl
  · match zs, hl with
    | [_], _ => rfl
  · match zs, hl with
    | [_, _], _ => rfl
  · match zs, hl with
    | [_], _ => rfl
theorem valV_kw : ∀ {ss : List Str} {zs : List V} {k : Key} {v : V}, valV (kwV ss zs) k = some v → v ∈ zs
  | [], _, _, _, h => by cases h
  | s :: ss, [], _, _, h => by cases h
  | s :: ss, z :: zs, k, v, h => by
    have h : valV ((Sum.inr s, z) :: kwV ss zs) k = some v := h
    by_cases e : (Sum.inr s : Key) = k
    · rw [valV_pos e] at h
      cases h
      exact List.mem_cons_self
    · rw [valV_neg e] at h
      exact List.mem_cons_of_mem _ (valV_kw h)
theorem dq_mem {H : Hp} : ∀ {zs : List V} {es : List PyData} {v : V}, DqAll H zs es → v ∈ zs → ∃ d ∈ es, Dq H v d
  | _, _, _, .nil, h => nomatch h
  | _, _, _, .cons a b, h => by
    rcases List.mem_cons.mp h with rfl | h
    · exact ⟨_, List.mem_cons_self, a⟩
    · obtain ⟨d, hd, q⟩ := dq_mem b h
      exact ⟨d, List.mem_cons_of_mem _ hd, q⟩
/-- the data of other letters -/
theorem data_of {H : Hp} {ss : List Str} {zs : List V} {es : List PyData} {ls : List Str} (q : DqAll H zs es) (sm : ∀ d ∈ es, smB d = true) (len : ∀ l ∈ ls, letS l = true) : ∃ dF : Str → PyData, ∀ l ∈ ls, Dq H (valOf (kwV ss zs) l) (dF l) ∧ smB (dF l) = true := by
  have one : ∀ l, ∃ d, l ∈ ls → Dq H (valOf (kwV ss zs) l) d ∧ smB d = true := fun l => by
    unfold valOf
    cases e : valV (kwV ss zs) (Sum.inr l) with
    | none =>
      refine ⟨.str l, fun hl => ⟨.str l, ?_⟩⟩
      have := letter_len (len l hl)
      show decide (l.length ≤ 1000) = true
      rw [decide_eq_true]
      omega
    | some v =>
      obtain ⟨d, hd, hq⟩ := dq_mem q (valV_kw e)
      exact ⟨d, fun _ => ⟨hq, sm d hd⟩⟩
  exact ⟨fun l => Classical.choose (one l), fun l hl => Classical.choose_spec (one l) hl⟩
theorem sub_len {α : Type} [DecidableEq α] : ∀ {ks l : List α}, ks.Nodup → (∀ j ∈ ks, j ∈ l) → ks.length ≤ l.length
  | [], _, _, _ => Nat.zero_le _
  | a :: ks, l, n, h => by
    obtain ⟨n1, n2⟩ := List.nodup_cons.mp n
    have ha : a ∈ l := h a List.mem_cons_self
    have := sub_len (ks := ks) (l := l.erase a) n2 (fun j hj => (List.mem_erase_of_ne (fun z : j = a => n1 (z ▸ hj))).mpr (h j (List.mem_cons_of_mem _ hj)))
    rw [List.length_erase_of_mem ha] at this
    have : 0 < l.length := List.length_pos_of_mem ha
    show ks.length + 1 ≤ l.length
    omega
theorem nodup_of {α : Type} [DecidableEq α] : ∀ {l ks : List α}, ks.Nodup → (∀ j ∈ ks, j ∈ l) → l.length ≤ ks.length → l.Nodup
  | [], _, _, _, _ => List.nodup_nil
  | a :: r, ks, n, h, le => by
    have le : r.length + 1 ≤ ks.length := le
    have na : a ∉ r := fun ha => by
      have := sub_len (ks := ks) (l := r) n (fun j hj => by
        rcases List.mem_cons.mp (h j hj) with z | z
        · exact z ▸ ha
        · exact z)
      omega
    refine List.nodup_cons.mpr ⟨na, nodup_of (ks := ks.erase a) (n.erase a) (fun j hj => ?_) ?_⟩
    · rcases List.mem_cons.mp (h j (List.mem_of_mem_erase hj)) with z | z
      · exact absurd hj (z ▸ n.not_mem_erase)
      · exact z
    · by_cases ha : a ∈ ks
      · rw [List.length_erase_of_mem ha]
        omega
      · rw [List.erase_of_not_mem ha]
        omega
/-- distinct or not: how many there are in a set -/
theorem set_size {l ks : List Key} (nd : ks.Nodup) (hm : ∀ j, j ∈ ks ↔ j ∈ l) : ks.length < l.length ↔ ¬ l.Nodup := by
  constructor
  · intro h n
    have := sub_len n (fun j hj => (hm j).mpr hj)
    omega
  · intro h
    rcases Nat.lt_or_ge ks.length l.length with z | z
    · exact z
    · exact absurd (nodup_of nd (fun j hj => (hm j).mp hj) z) h
theorem apart_nodup {m : HM} {f : Str → Str} : (((m.deeds.map (·.1)).map fun l => (Sum.inr (f l) : Key)).Nodup) ↔ Apart m f := by
  unfold Apart List.Nodup
  rw [List.map_map, List.pairwise_map]
  constructor
  · exact fun h => h.imp fun {a b} z e => z (congrArg Sum.inr e)
  · exact fun h => h.imp fun {a b} z e => z (Sum.inr.inj e)
end KL
set_option Elab.async false
set_option linter.all false
set_option maxRecDepth 100000
set_option maxHeartbeats 16000000
namespace KL
open PySem L2 PySem.KX PySem.Spec PyProof.Rows
/-! ### the law's names_right -/
def spLNames (C : Addr) : Sp := fun vs H Q _ => ∃ (H0 : Hp) (p l wd x la : Addr) (t : Int) (m : HM) (xw : Str), vs = [.ref p, .ref wd, .ref x, .ref la] ∧ DeckAt H0 H p l t ∧ 0 ≤ t ∧ t < 1000000 ∧ WAt H0 wd m ∧ HsAt C H0 x m ∧ RightH m ∧ FitH m ∧ xw ∈ lets5 ∧ m.deeds.map (·.1) = letsOf xw ∧
  H0 la = some (.lst ((letsOf xw).map .str)) ∧ ∀ H1 H' t', Go p l H0 H t H1 H' t' 3 → Q (.bl true) H'
def rLenS (K : PySem.W.Frag) : List V → Hp → VK → Prop := fun xs H Q => ∃ p ys, xs = [.ref p] ∧ (SqL K H p ys ∨ SqT K H p ys) ∧ Q (.int ys.length) H
theorem cr_lenS {X : Cx} : CallR X (.builtin "len") (rLenS X.K) := call_len_seq
theorem lets_at {x : Str} {i : Nat} {y : V} (h : ((letsOf x).map V.str)[i]? = some y) : ∃ c, x.cps[i]? = some c ∧ y = .str ⟨#[c]⟩ := by
  rw [List.getElem?_map] at h
  cases e : (letsOf x)[i]? with
  | none =>
    rw [e] at h
    cases h
  | some l =>
    rw [e] at h
    unfold letsOf at e
    rw [List.getElem?_map, Array.getElem?_toList] at e
    cases e2 : x.cps[i]? with
    | none =>
      rw [e2] at e
      cases e
    | some c =>
      rw [e2] at e
      cases e
      exact ⟨c, rfl, (Option.some.inj h).symm⟩
theorem map_at {α : Type} {g : α → V} {ls : List α} {i : Nat} {y : V} (h : (ls.map g)[i]? = some y) : ∃ l, ls[i]? = some l ∧ y = g l := by
  rw [List.getElem?_map] at h
  cases e : ls[i]? with
  | none =>
    rw [e] at h
    cases h
  | some l =>
    rw [e] at h
    exact ⟨l, rfl, (Option.some.inj h).symm⟩
theorem lits9 {p l : Addr} {B : Hp} {σ : L2.St} : LitsG p l B σ (tCons (tC (.str "")) (tCons (tC (.str "A")) (tCons (tC (.str "mm")) (tCons (tC .non) (tCons (tC (.int 1)) (tCons (tTup (tCons (tC (.str "m")) tNil)) (tCons (tC (.str "-")) (tCons (tC (.bl true)) (tCons (tLst (tCons (tC (.str "m")) tNil)) tNil))))))))) odd9 :=
  litsg_cons litg_str (litsg_cons litg_str (litsg_cons litg_str (litsg_cons litg_non (litsg_cons litg_int (litsg_cons (litg_tup (litsg_cons litg_str litsg_nil) (by simp)) (litsg_cons litg_str (litsg_cons litg_bl (litsg_cons (litg_lst (litsg_cons litg_str litsg_nil) (by simp)) litsg_nil))))))))
theorem only_y {ss : List Str} (h : ss ∈ kss) (hy : ("y" : Str) ∈ ss) : ss.length = 1 := by
  have z : (kss.all fun ss => !decide (("y" : Str) ∈ ss) || decide (ss.length = 1)) = true := by decide +kernel
  have := List.all_eq_true.mp z ss h
  simpa [hy] using this
theorem kss_len {ss : List Str} (h : ss ∈ kss) : ss.length ≤ 2 := by
  have z : (kss.all fun ss => decide (ss.length ≤ 2)) = true := by decide +kernel
  exact of_decide_eq_true (List.all_eq_true.mp z ss h)
theorem dq_strs {H : Hp} : ∀ ss : List Str, DqAll H (ss.map V.str) (ss.map PyData.str)
  | [] => .nil
  | s :: ss => .cons (.str s) (dq_strs ss)
theorem paired_sub {H H' : Hp} (S : Same H H') : ∀ {ps : List Addr} {kk : List (Key × V)}, Paired (fun (t : Addr) (q : Key × V) => H t = some (.tup [kV q.1, q.2])) ps kk → Paired (fun (t : Addr) (q : Key × V) => H' t = some (.tup [kV q.1, q.2])) ps kk
  | _, _, .nil => .nil
  | _, _, .cons a h => .cons (S _ _ a) (paired_sub S h)
section
variable {P : Program} {w : World} {K : PySem.W.Frag} {mg : Str → Option Value} {base : Heap} {C : Addr} {g1 g2 g3 g4 g5 g6 g7 : Addr} {d1 d2 d3 d4 d5 d6 d7 : FuncData}
abbrev nLNam : List Str := ["_law_deck_here", "_law_w", "_law_code_here", "_law_letters", "_law_some", "_law_pool", "_law_called_here", "_law_fresh", "_law_told", "_law_letter", "_law_it"]
theorem scLNam : FnScope nLNam ["_law_deck_here", "_law_w", "_law_code_here", "_law_letters"] (defScope lNames) := ⟨rfl, rfl, rfl, by decide +kernel, rfl, by decide +kernel, by decide +kernel⟩
theorem ok_lnames {f : Addr} {fd : FuncData} (F : Fun K "_law_names_right" "_law_names_right" lNames f fd) (T : TxtC mg)
    (G1 : FnOk P w K mg base CX0 1 g1 d1 ["_law_deck_here", "_law_below"] spDraw) (c1 : Cal K mg "_law_draw" g1 d1 ["_law_deck_here", "_law_below"])
    (G2 : FnOk P w K mg base CX0 2 g2 d2 ["_law_deck_here", "_law_some"] spPick) (c2 : Cal K mg "_law_pick" g2 d2 ["_law_deck_here", "_law_some"])
    (G3 : FnG P w K mg base CX0 10 g3 d3 ["_law_code_here", "_law_called_here"] (spLHeard C)) (c3 : Cal K mg "_law_heard" g3 d3 ["_law_code_here", "_law_called_here"])
    (G4 : FnOk P w K mg base CX0 1 g4 d4 ["_law_it"] (spTest letD)) (c4 : Cal K mg "_law_is_letter" g4 d4 ["_law_it"])
    (G5 : FnG P w K mg base CX0 1 g5 d5 ["_law_code_here"] (spShown C)) (c5 : Cal K mg "_law_shown" g5 d5 ["_law_code_here"])
    (G6 : FnOk P w K mg base CX0 8 g6 d6 ["_law_w"] (spCode C)) (c6 : Cal K mg "_law_code" g6 d6 ["_law_w"])
    (G7 : FnOk P w K mg base CX0 1 g7 d7 ["_law_w", "_law_called_here"] spLOther) (c7 : Cal K mg "_law_other" g7 d7 ["_law_w", "_law_called_here"]) :
    FnG P w K mg base CX0 11 f fd ["_law_deck_here", "_law_w", "_law_code_here", "_law_letters"] (spLNames C) := by
  refine fnG0 F scLNam (fun vs H Q E h => ?_) (fun cdv A outer s H vs Q E hG hr h => ?_)
  · obtain ⟨H0, p, l, wd, x, la, t, m, xw, rfl, _⟩ := h
    rfl
  · obtain ⟨H0, p, l, wd, x, la, t, m, xw, rfl, D, t0, t1, hW, hx, hR, hF, hxw, eL, hla, k⟩ := h
    have nd := scLNam.nd
    have hu := hu_of hr
    have r1 : Room 1 _ := hr.mono (by decide)
    have r2 : Room 2 _ := hr.mono (by decide)
    have r8 : Room 8 _ := hr.mono (by decide)
    let X0 : Cx := (cxOf CX0 P w K mg base nLNam "_law_names_right" (defScope lNames) f cdv A outer s H E).nox
    refine ⟨_, C8.pss_cut (ps_set (i := 4) nd rfl (.inr rfl) (pe_lc (own := [("_law_letter", 9)]) (g := gName 9) rfl nd (pi_list (pv 3)) (blkOk_by (N := nLNam) (sc := defScope lNames) (by decide +kernel)) (fun _ _ _ _ _ => pg_name (i := 9) nd rfl (.inl rfl))
        (fun _ _ _ _ _ => pts_one (PW.pt (pw_or (pt_cmpR op_in_sign (pv 9) pe_str rfl) (pw_or1 (PW.pt (pw_and (pt_cmpR op_in_sign (pv 9) pe_str rfl) (pw_and1 (pt_cmpR (r := rIn K false) op_in_seq pe_str (pv 3) rfl)))))))) (fun _ _ _ _ _ => pv 9)))
      (C8.pss_cut (ps_if (PW.pt (pw_and (pt_cmpR op_in_seq pe_str (pv 4) rfl) (pw_and (pt_cmpR op_in_seq pe_str (pv 4) rfl) (pw_and1 (pt_cmpR op_eq (pe_call G1 r1 rfl c1.m c1.k c1.b .nil pass0 (pa_cons (pv 0) (pa_cons pe_int pa_nil))) pe_int (nomark _)))))) (pss_one (ps_set (i := 4) nd rfl (.inr rfl) (pe_lst (pa_cons pe_str pa_nil)))) pss_nil)
      (C8.pss_cut (ps_set (i := 5) nd rfl (.inr rfl) (pe_op op_cat (pe_op op_rep (pe_lst (pa_cons pe_str (pa_cons pe_str (pa_cons pe_str (pa_cons pe_str (pa_cons pe_str (pa_cons pe_str (pa_cons pe_str (pa_cons pe_str (pa_cons pe_str pa_nil)))))))))) pe_int) (pe_lst (pa_cons pe_str (pa_cons pe_str (pa_cons pe_str (pa_cons pe_non (pa_cons pe_int (pa_cons (pe_tup (pa_cons pe_str pa_nil)) (pa_cons pe_str (pa_cons pe_bl (pa_cons (pe_lst (pa_cons pe_str pa_nil)) pa_nil))))))))))))
      (C8.pss_cut (ps_set (i := 6) nd rfl (.inr rfl) (pe_callTy (cr_dictP rfl) (by rfl) T.dict (by decide +kernel) (pa_cons (pe_lc (own := [("_law_letter", 9)]) (g := gName 9) rfl nd (pi_list (pv 4)) (blkOk_by (N := nLNam) (sc := defScope lNames) (by decide +kernel)) (fun _ _ _ _ _ => pg_name (i := 9) nd rfl (.inl rfl))
          (fun _ _ _ _ _ => pts_one (PW.pt (pw_or (pt_cmpR op_ne (pv 9) pe_str (nomark _)) (pw_or1 (pt_cmpR op_eq (pe_callB (r := rLenS K) cr_lenS (by rfl) T.b.len PySem.boot_len (pa_cons (pv 4) pa_nil)) pe_int (nomark _)))))) (fun _ _ _ _ _ => pe_tup (pa_cons (pv 9) (pa_cons (pe_call G2 r2 rfl c2.m c2.k c2.b .nil pass0 (pa_cons (pv 0) (pa_cons (pv 5) pa_nil))) pa_nil)))) pa_nil)))
      (C8.pss_cut (ps_setLc (i := 7) (own := [("_law_letter", 9)]) (g := gName 9) (tt := tYes) rfl nd rfl rfl (by rfl) (pi_list (pv 3)) (blkOk_by (N := nLNam) (sc := defScope lNames) (by decide +kernel)) (fun _ _ _ _ _ => pg_name (i := 9) nd rfl (.inl rfl)) (fun _ _ _ _ _ => pts_nil) (fun _ _ _ _ _ => pe_dget2 hu (pv 6) (pv 9) (pv 9) ⟨rfl, rfl, rfl, rfl⟩))
      (C8.pss_cut (ps_set (i := 8) nd rfl (.inl rfl) (pe_callG G3 hG hr (by rfl) c3.m c3.k c3.b pass0 (pa_cons (pv 2) (pa_cons (pv 6) pa_nil))))
      (C8.pss_cut (ps_if (PW.pt (pw_or (pt_cmpR (op_neNil hr.units) (pe_lc (own := [("_law_it", 10)]) (g := gName 10) rfl nd (pi_list (pv 7)) (blkOk_by (N := nLNam) (sc := defScope lNames) (by decide +kernel)) (fun _ _ _ _ _ => pg_name (i := 10) nd rfl (.inl rfl))
          (fun _ _ _ _ _ => pts_one (pt_not (pt_val (pe_call G4 r1 rfl c4.m c4.k c4.b .nil pass0 (pa_cons (pv 10) pa_nil))))) (fun _ _ _ _ _ => pv 10)) (pe_lst pa_nil) (nomark _)) (pw_or1 (pt_cmpR op_lt (pe_callB (cr_lenK (X := X0)) (by rfl) T.b.len PySem.boot_len (pa_cons (pe_callTy (cr_setK (X := X0) rfl) (by rfl) T.set (by decide +kernel) (pa_cons (pv 7) pa_nil)) pa_nil)) (pe_callB call_len_seq (by rfl) T.b.len PySem.boot_len (pa_cons (pv 7) pa_nil)) (nomark _)))))
          (pss_one (ps_ret (pe_cmpR (op_eqV hr.units) (pv 8) (pe_lst (pa_cons pe_str (pa_cons pe_str (pa_cons pe_bl pa_nil)))) (nomark _)))) pss_nil)
      (pss_one (ps_ret (pe_cmpR (op_eqV hr.units) (pv 8) (pe_lst (pa_cons pe_str (pa_cons (pe_callG G5 hG r1 (by rfl) c5.m c5.k c5.b pass0 (pa_cons (pe_call G6 r8 rfl c6.m c6.k c6.b .nil pass0 (pa_cons (pe_call G7 r1 rfl c7.m c7.k c7.b .nil pass0 (pa_cons (pv 1) (pa_cons (pv 6) pa_nil))) pa_nil)) pa_nil)) pa_nil))) (nomark _)))))))))), ?_⟩
    -- the letters that get another one
    refine ⟨fun σ H' => ∃ ss sa, σ = [some (.ref p), some (.ref wd), some (.ref x), some (.ref la), some (.ref sa), none, none, none, none, none, none] ∧ Go p l H0 H t H0 H' t 0 ∧ H' sa = some (.lst (ss.map V.str)) ∧ sa ≠ p ∧ sa ≠ l ∧ ss ∈ kss ∧ ∀ l ∈ ss, l ∈ letsOf xw, ?_, ?_⟩
    · have hlaH := D.s _ _ hla
      refine ⟨_, rfl, la, rfl, ⟨_, SqL.of hlaH⟩, fun B nB => ?_⟩
      refine lc_list (K := K) (a := la) (xs := (letsOf xw).map V.str) (fun i H2 => MadeTo H B (((xw.cps.toList.take i).filter (someB xw)).map fun c => V.str (sgS c)) H2) ⟨same_new nB, upd_same⟩ (fun i H2 _ M => SqL.of (M.1 _ _ hlaH)) ?_ ?_
      · rintro i y H2 hy M
        obtain ⟨c, hc, rfl⟩ := lets_at hy
        have et : xw.cps.toList.take (i + 1) = xw.cps.toList.take i ++ [c] := take_more (by rw [Array.getElem?_toList]; exact hc)
        have keep : someB xw c = true → ∃ acc, H2 B = some (.lst acc) ∧ acc.length < sizeLine ∧ MadeTo H B (((xw.cps.toList.take (i + 1)).filter (someB xw)).map fun c => V.str (sgS c)) (upd H2 B (.lst (acc ++ [V.str ⟨#[c]⟩]))) := fun b => by
          obtain ⟨h1, M2⟩ := M.more (V.str (sgS c)) nB (Same.refl _)
          refine ⟨_, h1, ?_, ?_⟩
          · have h3 := (lets_fine hxw).2.2.2
            have : ((xw.cps.toList.take i).filter (someB xw)).length ≤ (xw.cps.toList.take i).length := List.length_filter_le _ _
            have : (xw.cps.toList.take i).length ≤ xw.cps.size := by
              rw [List.length_take]
              simp
              omega
            rw [List.length_map, sizeLine_eq]
            omega
          · rw [et, List.filter_append, List.filter_cons_of_pos b, List.map_append]
            exact M2
        have drop : someB xw c = false → MadeTo H B (((xw.cps.toList.take (i + 1)).filter (someB xw)).map fun c => V.str (sgS c)) H2 := fun b => by
          rw [et, List.filter_append, List.filter_cons_of_neg (by rw [b]; decide), List.filter_nil, List.append_nil]
          exact M
        refine ⟨rfl, _, rfl, c, _, rfl, rfl, _, rfl, ?_⟩
        rcases bool_ft (decide (c ∈ ("aby" : Str).cps.toList)) with b1 | b1
        · refine iteNo b1 ⟨_, rfl, c, _, rfl, rfl, _, rfl, ?_⟩
          rcases bool_ft (decide (c ∈ ("kz" : Str).cps.toList)) with b2 | b2
          · exact iteNo b2 (iteNo rfl (drop (by unfold someB; rw [b1, b2]; rfl)))
          · refine iteYes b2 ⟨_, rfl, la, _, rfl, .inl (SqL.of (M.1 _ _ hlaH)), rfl, flat_str _, _, rfl, ?_⟩
            have e3 : inV (V.str "k") ((letsOf xw).map V.str) = decide (("k" : Str) ∈ letsOf xw) := inV_str _ _
            rcases bool_ft (decide (("k" : Str) ∈ letsOf xw)) with b3 | b3
            · exact iteNo (e3.trans b3) (drop (by unfold someB; rw [b1, b2, b3]; rfl))
            · refine iteYes (e3.trans b3) ?_
              obtain ⟨acc, z1, z2, z3⟩ := keep (by unfold someB; rw [b1, b2, b3]; rfl)
              exact ⟨_, rfl, acc, z1, z2, z3⟩
        · refine iteYes b1 (iteYes rfl ?_)
          obtain ⟨acc, z1, z2, z3⟩ := keep (by unfold someB; rw [b1]; rfl)
          exact ⟨_, rfl, acc, z1, z2, z3⟩
      rintro H2 M
      have e : xw.cps.toList.take ((letsOf xw).map V.str).length = xw.cps.toList := by
        rw [List.length_map, lets_len]
        exact List.take_of_length_le (by simp)
      rw [e] at M
      obtain ⟨bp, bl⟩ := D.notP nB
      obtain ⟨k1, k2⟩ := some0_ok hxw
      refine ⟨some0 xw, B, rfl, (Go.refl D).mono M.1, ?_, bp, bl, k1, k2⟩
      rw [M.2]
      unfold some0
      rw [List.map_map]
      rfl
    rintro σ1 H1 ⟨ss, sa, rfl, g, hs, sp, sl, hk, hsub⟩
    have gt := g.t1
    have gt0 := g.t0
    refine ⟨fun σ H' => ∃ t' ss sa, σ = [some (.ref p), some (.ref wd), some (.ref x), some (.ref la), some (.ref sa), none, none, none, none, none, none] ∧ Go p l H0 H t H0 H' t' 1 ∧ H' sa = some (.lst (ss.map V.str)) ∧ sa ≠ p ∧ sa ≠ l ∧ ss ∈ kss ∧ ∀ l ∈ ss, l ∈ letsOf xw, ?_, ?_⟩
    · refine ⟨_, rfl, sa, _, rfl, .inl (SqL.of hs), rfl, flat_str _, _, rfl, ?_⟩
      rcases bool_ft (inV (V.str "a") (ss.map V.str)) with b1 | b1
      · refine iteNo b1 (iteNo rfl ?_)
        exact ⟨_, ss, sa, rfl, g.more (by omega), hs, sp, sl, hk, hsub⟩
      refine iteYes b1 ?_
      refine ⟨_, rfl, sa, _, rfl, .inl (SqL.of hs), rfl, flat_str _, _, rfl, ?_⟩
      rcases bool_ft (inV (V.str "b") (ss.map V.str)) with b2 | b2
      · refine iteNo b2 (iteNo rfl ?_)
        exact ⟨_, ss, sa, rfl, g.more (by omega), hs, sp, sl, hk, hsub⟩
      refine iteYes b2 ?_
      refine ⟨_, rfl, H0, p, l, t, 3, rfl, g.d, by omega, by omega, by omega, by omega, fun H2 r g2 r0 r1 => ⟨rfl, _, rfl, ?_⟩⟩
      have g3 := g.trans g2
      by_cases e : r = 0
      · refine iteYes (decide_eq_true (by rw [e])) ?_
        refine ⟨(by show 1 ≤ sizeLine; decide), fun q nq => ?_⟩
        obtain ⟨qp, ql⟩ := g3.d.notP nq
        have ha : ("a" : Str) ∈ ss := by
          rw [inV_str] at b1
          exact of_decide_eq_true b1
        exact ⟨_, ["a"], q, rfl, (g3.put0 nq).more (by omega), upd_same, qp, ql, by decide, fun l hl => by
          rw [List.mem_singleton.mp hl]
          exact hsub _ ha⟩
      · refine iteNo (decide_eq_false fun z => e (by injection z)) ?_
        exact ⟨_, ss, sa, rfl, g3.more (by omega), g2.f _ _ sp sl hs, sp, sl, hk, hsub⟩
    clear g hs sp sl hk hsub gt gt0 ss sa
    rintro σ2 H2 ⟨t', ss, sa, rfl, g, hs, sp, sl, hk, hsub⟩
    have gt := g.t1
    have gt0 := g.t0
    -- the pool
    refine ⟨fun σ H' => ∃ K1 ss sa pa xs, σ = [some (.ref p), some (.ref wd), some (.ref x), some (.ref la), some (.ref sa), some (.ref pa), none, none, none, none, none] ∧ Go p l H0 H t K1 H' t' 1 ∧ H' sa = some (.lst (ss.map V.str)) ∧ sa ≠ p ∧ sa ≠ l ∧ ss ∈ kss ∧ (∀ l ∈ ss, l ∈ letsOf xw) ∧ H' pa = some (.lst xs) ∧ DqAll K1 xs pool27 ∧ pa ≠ p ∧ pa ≠ l, ?_, ?_⟩
    · refine ⟨(by show 9 ≤ sizeLine; decide), fun a na => ⟨a, 2, _, rfl, rfl, upd_same, by decide, by decide, by decide, fun b nb => ?_⟩⟩
      obtain ⟨bp, bl⟩ : b ≠ p ∧ b ≠ l := (g.put0 (o := .lst (pool9.map V.str)) na).d.notP nb
      have g2 := (g.put0 (o := .lst (pool9.map V.str)) na).put0 (o := .lst ((pool9 ++ pool9).map V.str)) nb
      have hs2 : upd (upd H2 a (.lst (pool9.map V.str))) b (.lst ((pool9 ++ pool9).map V.str)) sa = some (.lst (ss.map V.str)) := by
        rw [upd_ne (ne_of_none (by rw [upd_ne (ne_of_none hs na)]; exact hs) nb), upd_ne (ne_of_none hs na)]
        exact hs
      have hb : upd (upd H2 a (.lst (pool9.map V.str))) b (.lst ((pool9 ++ pool9).map V.str)) b = some (.lst ((pool9 ++ pool9).map V.str)) := upd_same
      refine lits9 (p := p) (l := l) (B := H0) H0 _ t' _ g2.d (Same.refl _) fun K1 H4 vs g3 qv => ?_
      have lv : vs.length = 9 := dq_len qv
      refine ⟨by rw [lv]; decide, fun q nq => ⟨b, q, _, _, rfl, rfl, by rw [upd_ne (ne_of_none (g3.f _ _ bp bl hb) nq)]; exact g3.f _ _ bp bl hb, upd_same, ?_, fun pa npa => ?_⟩⟩
      · rw [lv]
        decide
      have g4 := ((g2.trans g3).put0 (o := .lst vs) nq).put0 (o := .lst ((pool9 ++ pool9).map V.str ++ vs)) npa
      obtain ⟨pp, pl⟩ : pa ≠ p ∧ pa ≠ l := ((g2.trans g3).put0 (o := .lst vs) nq).d.notP npa
      have hs4 := g3.f _ _ sp sl hs2
      refine ⟨K1, ss, sa, pa, _, rfl, g4.more (by omega), ?_, sp, sl, hk, hsub, upd_same, (dq_strs _).app qv, pp, pl⟩
      rw [upd_ne (ne_of_none (by rw [upd_ne (ne_of_none hs4 nq)]; exact hs4) npa), upd_ne (ne_of_none hs4 nq)]
      exact hs4
    clear g hs sp sl hk hsub gt gt0 ss sa
    rintro σ3 H3 ⟨K1, ss, sa, pa, xs, rfl, g, hs, sp, sl, hk, hsub, hp, qp, pp, pl⟩
    have gt := g.t1
    have gt0 := g.t0
    have lx : xs.length = 27 := dq_len qp
    have hk2 := kss_len hk
    -- the dict of other letters
    refine ⟨fun σ H' => ∃ K1 t' ss zs es sa pa c, σ = [some (.ref p), some (.ref wd), some (.ref x), some (.ref la), some (.ref sa), some (.ref pa), some (.ref c), none, none, none, none] ∧ Go p l H0 H t K1 H' t' 3 ∧ ss ∈ kss ∧ K1 c = some (.dK (kwV ss zs)) ∧ zs.length = ss.length ∧ DqAll K1 zs es ∧ ∀ d ∈ es, d ∈ pool27, ?_, ?_⟩
    · refine ⟨_, rfl, sa, rfl, ⟨_, SqL.of hs⟩, fun B nB => ?_⟩
      refine lc_list (K := K) (a := sa) (xs := ss.map V.str) (fun i H4 => Making p l B K1 H3 t' 1 (fun i ds => ∃ es, ds = ((ss.take i).zip es).map pairE ∧ es.length = i ∧ i ≤ ss.length ∧ ∀ d ∈ es, d ∈ pool27) i H4) (Making.start g.d nB ⟨[], rfl, rfl, Nat.zero_le _, fun _ h => nomatch h⟩) (fun i H4 _ M => by
        obtain ⟨H02, t2, ys, ds, g3, _⟩ := M
        exact SqL.of (g3.f _ _ sp sl hs)) ?_ ?_
      · rintro i y H4 hy ⟨H02, t2, ys, ds, g3, w3, q3, es, rfl, le, li, he⟩
        have g3t := g3.t1
        have g3t0 := g3.t0
        obtain ⟨s', hs', rfl⟩ := map_at hy
        have hi : i < ss.length := (List.getElem?_eq_some_iff.mp hs').1
        have turn : ∀ (tp : Addr) (j : Nat) (v : V) (H5 : Hp), Go p l H02 H4 t2 H02 H5 (t2 + 1) 1 → xs[j]? = some v → H5 tp = none → ∃ acc, upd H5 tp (.tup [.str s', v]) B = some (.lst acc) ∧ acc.length < sizeLine ∧ Making p l B K1 H3 t' 1 (fun i ds => ∃ es, ds = ((ss.take i).zip es).map pairE ∧ es.length = i ∧ i ≤ ss.length ∧ ∀ d ∈ es, d ∈ pool27) (i + 1) (upd (upd H5 tp (.tup [.str s', v])) B (.lst (acc ++ [.ref tp]))) := fun tp j v H5 g4 hv ntp => by
          obtain ⟨d, hd, hq⟩ := DqAll.at qp hv
          have g5 := g4.new (o := .tup [.str s', v]) ntp
          refine Making.turn g3 w3 q3 g5 (dq_new (g4.d.s.free ntp) (.cons (.str s') (.cons (Dq.same (g3.s.trans g4.s) _ _ hq) .nil))) ?_ ⟨es ++ [d], ?_, by simp [le], hi, fun e he' => ?_⟩
          · rw [List.length_map, List.length_zip, le]
            omega
          · rw [take_more hs', List.zip_append (by rw [List.length_take, le]; omega), List.map_append]
            rfl
          · rcases List.mem_append.mp he' with z | z
            · exact he e z
            · rw [List.mem_singleton.mp z]
              exact List.mem_of_getElem? hd
        refine ⟨rfl, _, rfl, rfl, _, rfl, ?_⟩
        by_cases e : s' = "y"
        · refine iteNo (by rw [e]; rfl) ?_
          have e1 := only_y hk (e ▸ List.mem_of_getElem? hs')
          refine ⟨_, rfl, sa, _, rfl, .inl (SqL.of (g3.f _ _ sp sl hs)), rfl, _, rfl, ?_⟩
          refine iteYes (decide_eq_true (by rw [List.length_map, e1]; rfl)) ?_
          refine ⟨_, rfl, _, rfl, _, rfl, H02, p, l, t2, pa, xs, rfl, g3.d, by omega, by omega, g3.f _ _ pp pl hp, pp, pl, by omega, by omega, fun H5 j v g4 hv => ⟨(by show 2 ≤ sizeLine; decide), fun tp ntp => turn tp j v H5 g4 hv ntp⟩⟩
        · refine iteYes (by rw [decide_eq_false (fun z => e (by injection z))]; rfl) ?_
          refine iteYes rfl ?_
          refine ⟨_, rfl, _, rfl, _, rfl, H02, p, l, t2, pa, xs, rfl, g3.d, by omega, by omega, g3.f _ _ pp pl hp, pp, pl, by omega, by omega, fun H5 j v g4 hv => ⟨(by show 2 ≤ sizeLine; decide), fun tp ntp => turn tp j v H5 g4 hv ntp⟩⟩
      · rintro H4 ⟨H02, t2, ys, ds, g3, w3, q3, es, rfl, le, li, he⟩
        rw [List.length_map] at le g3
        rw [List.length_map, List.take_length] at q3
        obtain ⟨ps, zs, rfl, lz, qz, hpr⟩ := pairs_of le.symm q3
        refine ⟨B, ps, kwV ss zs, rfl, SqL.of w3.h, paired_sq (paired_sub g3.d.s hpr), fun c nc => ?_⟩
        rw [merge_kw hk lz]
        have g4 := g3.new (o := .dK (kwV ss zs)) nc
        exact ⟨_, t2, ss, zs, es, sa, pa, c, rfl, (g.trans g4).more (by omega), hk, upd_same, lz, DqAll.same (same_new (g3.d.s.free nc)) _ _ qz, he⟩
    clear g hs sp sl hk hk2 hsub gt gt0 ss sa hp qp pp pl xs lx pa K1 t'
    rintro σ4 H4 ⟨K1, t', ss, zs, es, sa, pa, c, rfl, g, hk, hc, lz, qz, he⟩
    have hlen : ∀ l ∈ letsOf xw, letS l = true := (lets_fine hxw).2.1
    have hl3 := (lets_fine hxw).2.2.2
    have ll : (letsOf xw).length ≤ 3 := by
      rw [lets_len]
      exact hl3
    obtain ⟨dF, hdF⟩ := data_of (ss := ss) (ls := letsOf xw) qz (fun d hd => pool_sm d (he d hd)) hlen
    generalize ekvs : kwV ss zs = kvs at *
    have gS := g.d.s
    -- the letters then
    refine ⟨fun σ H' => ∃ fa, σ = [some (.ref p), some (.ref wd), some (.ref x), some (.ref la), some (.ref sa), some (.ref pa), some (.ref c), some (.ref fa), none, none, none] ∧ Same H4 H' ∧ H' fa = some (.lst ((letsOf xw).map (valOf kvs))), ?_, ?_⟩
    · have hla4 := gS _ _ (g.s _ _ hla)
      have hc4 := gS _ _ hc
      refine ⟨_, rfl, la, rfl, ⟨_, SqL.of hla4⟩, fun B nB => ?_⟩
      refine lc_list (K := K) (a := la) (xs := (letsOf xw).map V.str) (fun i H2 => MadeTo H4 B (((letsOf xw).take i).map (valOf kvs)) H2) ⟨same_new nB, upd_same⟩ (fun i H2 _ M => SqL.of (M.1 _ _ hla4)) ?_ ?_
      · rintro i y H2 hy M
        obtain ⟨s', hs', rfl⟩ := map_at hy
        refine ⟨rfl, _, rfl, c, rfl, .inl ⟨kvs, .inl (M.1 _ _ hc4)⟩, _, rfl, _, rfl, _, DGet.k (k := Sum.inr s') (M.1 _ _ hc4), ?_⟩
        obtain ⟨h1, M2⟩ := M.more (valOf kvs s') nB (Same.refl _)
        refine ⟨_, h1, ?_, ?_⟩
        · rw [List.length_map, List.length_take, sizeLine_eq]
          omega
        · rw [take_more hs', List.map_append]
          exact M2
      · rintro H2 M
        rw [List.length_map, List.take_length] at M
        exact ⟨B, rfl, M.1, M.2⟩
    rintro σ5 H5 ⟨fa, rfl, S5, hf⟩
    have S15 := gS.trans S5
    have hc5 := S15 _ _ hc
    have hdF5 : ∀ l ∈ m.deeds.map (·.1), Dq H5 (valOf kvs l) (dF l) ∧ smB (dF l) = true := fun l hl => by
      rw [eL] at hl
      exact ⟨Dq.same S15 _ _ (hdF l hl).1, (hdF l hl).2⟩
    -- what is heard
    refine ⟨fun σ H' => ∃ q, σ = [some (.ref p), some (.ref wd), some (.ref x), some (.ref la), some (.ref sa), some (.ref pa), some (.ref c), some (.ref fa), some (.ref q), none, none] ∧ Same H5 H' ∧ ((∃ f, Called m dF f ∧ Apart m f ∧ H' q = some (.lst [.str "told", .str (shownH (m.ren f))])) ∨ ((∀ f, Called m dF f → ¬ Apart m f) ∧ H' q = some (.lst [.str "bad", .str "deeds", .bl true]))), ?_, ?_⟩
    · exact ⟨_, rfl, _, rfl, x, c, m, kvs, dF, rfl, (hx.same g.s).same S15, hR, hF, ⟨hc5, ⟨ss, zs, ekvs.symm, hk, lz⟩, hdF5⟩, fun f h1 h2 H' q S hq => ⟨q, rfl, S, .inl ⟨f, h1, h2, hq⟩⟩, fun no H' q S hq => ⟨q, rfl, S, .inr ⟨no, hq⟩⟩⟩
    rintro σ6 H6 ⟨q, rfl, S6, hq⟩
    have S56 := S5.trans S6
    have fin : ∀ H', Same H6 H' → Q (.bl true) H' := fun H' S => k _ _ _ (g.mono (S56.trans S))
    have hf6 := S6 _ _ hf
    have hdF6 : ∀ l ∈ letsOf xw, Dq H6 (valOf kvs l) (dF l) ∧ smB (dF l) = true := fun l hl => by
      have := hdF5 l (by rw [eL]; exact hl)
      exact ⟨Dq.same S6 _ _ this.1, this.2⟩
    -- whether one of them is no letter
    refine ⟨fun σ H' => Same H6 H' ∧ σ = [some (.ref p), some (.ref wd), some (.ref x), some (.ref la), some (.ref sa), some (.ref pa), some (.ref c), some (.ref fa), some (.ref q), none, none] ∧ ∃ f, Called m dF f ∧ Apart m f ∧ H6 q = some (.lst [.str "told", .str (shownH (m.ren f))]), ?_, ?_⟩
    · refine ⟨_, rfl, fa, rfl, ⟨_, SqL.of hf6⟩, fun B nB => ?_⟩
      refine lc_list (K := K) (a := fa) (xs := (letsOf xw).map (valOf kvs)) (fun i H2 => ∃ vs, MadeTo H6 B vs H2 ∧ vs.length ≤ i ∧ (vs = [] ↔ ∀ l ∈ (letsOf xw).take i, letD (dF l) = true)) ⟨[], ⟨same_new nB, upd_same⟩, Nat.le_refl _, by simp⟩ (fun i H2 _ M => by
        obtain ⟨_, M, _⟩ := M
        exact SqL.of (M.1 _ _ hf6)) ?_ ?_
      · rintro i y H2 hy ⟨vs, M, lv, iv⟩
        obtain ⟨s', hs', rfl⟩ := map_at hy
        have hm := List.mem_of_getElem? hs'
        refine ⟨rfl, _, rfl, _, dF s', rfl, Dq.same M.1 _ _ (hdF6 s' hm).1, (hdF6 s' hm).2, fun H3 S3 => ⟨_, rfl, ?_⟩⟩
        have M3 : MadeTo H6 B vs H3 := ⟨M.1.trans S3, S3 _ _ M.2⟩
        have hi : i < (letsOf xw).length := (List.getElem?_eq_some_iff.mp hs').1
        rcases bool_ft (letD (dF s')) with b | b
        · refine iteYes (by rw [b]; rfl) ?_
          obtain ⟨h1, M4⟩ := M3.more (valOf kvs s') nB (Same.refl _)
          refine ⟨_, rfl, _, h1, by rw [sizeLine_eq]; omega, _, M4, by simp; omega, ?_⟩
          refine ⟨fun z => absurd z (by simp), fun z => ?_⟩
          have := z s' (by rw [take_more hs']; simp)
          rw [b] at this
          cases this
        · refine iteNo (by rw [b]; rfl) ⟨vs, M3, by omega, iv.trans ?_⟩
          rw [take_more hs']
          refine ⟨fun z l hl => ?_, fun z l hl => z l (List.mem_append_left _ hl)⟩
          rcases List.mem_append.mp hl with w | w
          · exact z l w
          · rw [List.mem_singleton.mp w]
            exact b
      rintro H7 ⟨vs, M, lv, iv⟩
      rw [List.length_map, List.take_length] at iv
      refine ⟨(by show 0 ≤ sizeLine; decide), fun e0 ne0 => ?_⟩
      have S7 := M.1.trans (same_new (o := .lst []) ne0)
      refine ⟨B, e0, vs, rfl, rfl, by rw [upd_ne (ne_of_none M.2 ne0)]; exact M.2, upd_same, _, rfl, ?_⟩
      revert S7
      generalize upd H7 e0 (.lst []) = H8
      intro S7
      have hf8 := S7 _ _ hf6
      have bad : H6 q = some (.lst [.str "bad", .str "deeds", .bl true]) → ∀ H9, Same H6 H9 → tLst (tCons (tC (.str "bad")) (tCons (tC (.str "deeds")) (tCons (tC (.bl true)) tNil))) [] H9 fun v H10 => rEqV K (.ref q) v H10 fun v H11 => Q v H11 := fun hb H9 S9 => ⟨(by show 3 ≤ sizeLine; decide), fun r nr =>
        ⟨1, by decide, .inl ⟨q, r, _, _, rfl, rfl, SqL.of (same_new nr _ _ (S9 _ _ hb)), SqL.of upd_same, .cons (.inl ⟨rfl, rfl⟩) (.cons (.inl ⟨rfl, rfl⟩) (.cons (.inl ⟨rfl, rfl⟩) .nil))⟩, fin _ (S9.trans (same_new nr))⟩⟩
      by_cases hv : vs = []
      · subst hv
        have all := iv.mp rfl
        refine iteNo rfl ?_
        have setup : ∀ f, Called m dF f → (letsOf xw).map (valOf kvs) = ((letsOf xw).map fun l => (Sum.inr (f l) : Key)).map kV := fun f hf => by
          rw [List.map_map]
          refine List.map_congr_left fun l hl => ?_
          have e := (hf l (by rw [eL]; exact hl)).1
          have q := (hdF6 l hl).1
          rw [e] at q
          show valOf kvs l = .str (f l)
          revert q
          generalize valOf kvs l = v
          intro q
          cases q
          rfl
        have nodup : ∀ f, (((letsOf xw).map fun l => (Sum.inr (f l) : Key)).Nodup ↔ Apart m f) := fun f => by
          rw [← eL]
          exact apart_nodup
        obtain ⟨f, hcf, h1, h2⟩ : ∃ f, Called m dF f ∧ (Apart m f → H6 q = some (.lst [.str "told", .str (shownH (m.ren f))])) ∧ (¬ Apart m f → H6 q = some (.lst [.str "bad", .str "deeds", .bl true])) := by
          rcases hq with ⟨f, h1, h2, h3⟩ | ⟨no, hb⟩
          · exact ⟨f, h1, fun _ => h3, fun z => absurd h2 z⟩
          · rcases called_or (m := m) dF with ⟨f, h⟩ | ⟨l, hl, h⟩
            · exact ⟨f, h, fun z => absurd z (no f h), fun _ => hb⟩
            · rw [all l (by rw [← eL]; exact hl)] at h
              cases h
        have es := setup f hcf
        refine ⟨_, rfl, fa, (letsOf xw).map fun l => (Sum.inr (f l) : Key), rfl, SqL.of (by rw [← es]; exact hf8), by rw [List.length_map]; omega, fun sp ks nsp ndk hm le => ?_⟩
        have S9 := S7.trans (same_new (o := KsO P w sp ks) nsp)
        rw [List.length_map] at le
        refine ⟨sp, ks, rfl, upd_same, by omega, _, rfl, fa, _, rfl, .inl (SqL.of (same_new nsp _ _ hf8)), _, _, rfl, rfl, _, rfl, ?_⟩
        have sz := set_size ndk hm
        rw [List.length_map, nodup f] at sz
        by_cases ap : Apart m f
        · refine iteNo (decide_eq_false fun z => ?_) ?_
          · rw [List.length_map] at z
            exact sz.mp (by omega) ap
          · exact ⟨S9, rfl, f, hcf, ap, h1 ap⟩
        · refine iteYes (decide_eq_true ?_) ?_
          · have := sz.mpr ap
            rw [List.length_map]
            omega
          · exact ⟨_, rfl, bad (h2 ap) _ S9⟩
      · refine iteYes (by
          cases vs with
          | nil => exact absurd rfl hv
          | cons _ _ => rfl) ?_
        have hb : H6 q = some (.lst [.str "bad", .str "deeds", .bl true]) := by
          rcases hq with ⟨f, h1, _⟩ | ⟨_, hb⟩
          · refine absurd (iv.mpr fun l hl => ?_) hv
            obtain ⟨e1, e2⟩ := h1 l (by rw [eL]; exact hl)
            rw [e1]
            exact e2
          · exact hb
        exact ⟨_, rfl, bad hb _ S7⟩
    · rintro σ7 H7 ⟨S7, rfl, f, hcf, ap, ht⟩
      have S17 := S15.trans (S6.trans S7)
      have hl : ∀ l ∈ m.deeds.map (·.1), letS (f l) = true := fun l hl => (hcf l hl).2
      have hv : ∀ l ∈ m.deeds.map (·.1), valOf kvs l = .str (f l) ∧ letS (f l) = true := fun l hl' => by
        refine ⟨?_, hl l hl'⟩
        have e := (hcf l hl').1
        have q := (hdF6 l (by rw [← eL]; exact hl')).1
        rw [e] at q
        revert q
        generalize valOf kvs l = v
        intro q
        cases q
        rfl
      refine ⟨_, rfl, _, rfl, _, rfl, wd, c, m, kvs, f, rfl, (hW.same g.s).same S17, hR, hF, S17 _ _ hc, hv, fun H8 v S8 hWv => ?_⟩
      refine ⟨v, m.ren f, rfl, hWv, hR.ren (fun d hd => hl d.1 (List.mem_map.mpr ⟨d, hd, rfl⟩)) ap, hF.ren hR hl, fun H9 y S9 hy => ?_⟩
      refine ⟨y, m.ren f, rfl, hy, hF.ren hR hl, fun H10 S10 => ⟨(by show 2 ≤ sizeLine; decide), fun r nr => ?_⟩⟩
      have S710 := (S8.trans S9).trans S10
      refine ⟨1, by decide, .inl ⟨q, r, _, _, rfl, rfl, SqL.of (same_new nr _ _ (S710 _ _ (S7 _ _ ht))), SqL.of upd_same, .cons (.inl ⟨rfl, rfl⟩) (.cons (.inl ⟨rfl, rfl⟩) .nil)⟩, fin _ ((S7.trans S710).trans (same_new nr))⟩
end
end KL
set_option Elab.async false
set_option linter.all false
set_option maxRecDepth 100000
set_option maxHeartbeats 8000000
namespace KL
open PySem L2 PySem.KX PySem.Spec PyProof.Rows
/-! ### o.m(k=v) -/
def tMthK (C : Addr) (m : Str) (sp : Sp) (gV : List V → List V → List V) (E : XK) (ta : TE) (tk : TA) : TE := fun σ H Q => ta σ H fun x H1 => ∃ a dx fs, x = .ref a ∧ H1 a = some (.ins C dx fs) ∧ fs.lookup m = none ∧ tk σ H1 fun zs H2 => sp (gV [x] zs) H2 Q E
theorem pe_methK0 {X : Cx} {CX : CXT} {k : Nat} {f C : Addr} {fd : FuncData} {ps ks : List Str} {sp : Sp} {E : XK} {o : Expr} {m : Str} {apos pos : Pos} {kws : List Keyword} {ta : TE} {tk : TA} {g : List Value → List Value → List Value} {gV : List V → List V → List V} {pl : Sem Bool}
    (he : PE X o ta) (c : Cls X.K C) (hm : Meth X.K C m f) (F : FnOk X.prog X.w X.K X.mg X.base CX k f fd ps sp) (hr : Room k X.A) (hb : KBinds X.K fd ps ks g gV) (hx : Passes CX X E) (hkw : PK X kws tk)
    (hall : (backToKw pos (keywordEach kws X.env)).all (·.1.isSome) = true := by rfl) (hks : (backToKw pos (keywordEach kws X.env)).filterMap (·.1) = ks := by rfl)
    (hpl : ((backTo pos (starEach [] X.env)).any (·.1) || (backToKw pos (keywordEach kws X.env)).any (·.1.isNone)) = false := by rfl)
    (ht : eval (.Call (.Attribute o m apos) [] kws pos) X.env = (do
      let ov ← eval o X.env
      standAt apos.atName
      let (f, first) ← holding [ov] (getMethod ov m pl)
      callWith pos f first (backTo pos (starEach [] X.env)) (backToKw pos (keywordEach kws X.env))) := by rfl) :
    PE X (.Call (.Attribute o m apos) [] kws pos) (tMthK C m sp gV E ta tk) := by
  refine ⟨fun pins s σ H Q I h => ?_⟩
  refine PySem.W.methodCall_KW (pl := pl) (thn (he.run pins s σ H _ I h) fun u s1 ⟨x, H1, I1, rx, a, dx, fs, ex, ea, l, q⟩ => ?_) ht
  subst ex
  obtain rfl : u = Value.ref a := rx
  refine getmeth_ok I1 ea c hm l ?_
  refine PySem.W.callWith_KW0 (first := [.ref a]) (h₀ := X.base) I.ok.mod.kin hm.kp hall (thn (hkw.run pos pins s1 σ H1 _ I1 q) fun ws s2 ⟨zs, H2, I2, rz, q2⟩ => ⟨I2.kIn, ?_⟩) hpl
  rw [hks]
  exact run_fnk (us := [.ref a]) (vs := [.ref a]) F hr hb hx I2 (.cons rfl .nil) rz q2
/-! ### s[::-1] of a text -/
theorem rev_picked (n : Nat) : Builtin.Str.strSliceIndices none none (-1) n = (List.range n).map fun (k : Nat) => ((n : Int) - 1 + (-1) * (k : Int)).toNat := by
  show sliceRange ((n : Int) - 1) (-1) (-1) = _
  unfold sliceRange
  have e : (if ((-1 : Int) > 0) then (if ((n : Int) - 1 < -1) then (((-1 : Int) - ((n : Int) - 1) + -1 - 1) / -1) else 0) else (if ((n : Int) - 1 > -1) then (((n : Int) - 1 - (-1) - (-1) - 1) / (- -1)) else 0)) = (n : Int) := by
    rw [if_neg (by decide), show (- -1 : Int) = 1 from rfl, Int.ediv_one]
    split <;> omega
  show (List.range (Int.toNat (if ((-1 : Int) > 0) then (if ((n : Int) - 1 < -1) then (((-1 : Int) - ((n : Int) - 1) + -1 - 1) / -1) else 0) else (if ((n : Int) - 1 > -1) then (((n : Int) - 1 - (-1) - (-1) - 1) / (- -1)) else 0)))).map _ = _
  rw [e]
  rfl
theorem rev_mem (z : Str) (c : Nat) : c ∈ (Builtin.Str.strSliceIndices none none (-1) z.length).filterMap (z.cps[·]?) ↔ c ∈ z.cps.toList := by
  have en : z.length = z.cps.size := rfl
  rw [rev_picked, List.mem_filterMap]
  constructor
  · rintro ⟨j, _, h⟩
    rw [Array.mem_toList_iff]
    exact Array.mem_of_getElem? h
  · intro h
    rw [Array.mem_toList_iff] at h
    obtain ⟨j, hj, rfl⟩ := Array.mem_iff_getElem.mp h
    refine ⟨j, List.mem_map.mpr ⟨z.length - 1 - j, by rw [List.mem_range]; omega, ?_⟩, Array.getElem?_eq_getElem hj⟩
    omega
theorem rev_len (z : Str) : ((Builtin.Str.strSliceIndices none none (-1) z.length).filterMap (z.cps[·]?)).length ≤ z.length := by
  refine Nat.le_trans (List.length_filterMap_le _ _) ?_
  rw [rev_picked, List.length_map, List.length_range]
  exact Nat.le_refl _
def tRevS (te : TE) : TE := fun σ H Q => te σ H fun x H1 => ∃ z : Str, x = .str z ∧ z.length ≤ sizeLine ∧ ∀ y : Str, y.length ≤ z.length → (∀ c, c ∈ y.cps.toList ↔ c ∈ z.cps.toList) → Q (.str y) H1
theorem pe_revS {X : Cx} {e : Expr} {te : TE} {k : Nat} {p1 p2 p3 pos : Pos} (he : PE X e te) : PE X (.Subscript e (.Slice none none (some (.UnaryOp .USub (.Constant (.int 1) k p1) p2)) p3) pos) (tRevS te) := by
  refine ⟨fun pins s σ H Q I h => ?_⟩
  refine Subscript_ (thn (he.run pins s σ H _ I h) fun v s1 ⟨x, H1, I1, r1, z, ex, hz, q⟩ => ?_)
  subst ex
  obtain ⟨t, rfl⟩ := r1
  have hst : PO X (some (.UnaryOp .USub (.Constant (.int 1) k p1) p2)) (tPart (tUn (rU fun i => .int (-i)) (tC (.int 1)))) := po_some (pe_un un_neg pe_int)
  refine wpAny_Slice (thn (po_none.run pins s1 σ H1 (fun o H2 => o = none ∧ H2 = H1) I1 ⟨rfl, rfl⟩) fun vl s2 ⟨l, H2, I2, pl, el, e2⟩ => ?_)
  subst el e2
  refine thn (po_none.run pins s2 σ H2 (fun o H3 => o = none ∧ H3 = H2) I2 ⟨rfl, rfl⟩) fun vu s3 ⟨u, H3, I3, pu, eu, e3⟩ => ?_
  subst eu e3
  refine thn (hst.run pins s3 σ H3 (fun o H4 => o = some (-1) ∧ H4 = H3) I3 ⟨1, rfl, -1, rfl, rfl, rfl⟩) fun vs s4 ⟨o, H4, I4, ps, eo, e4⟩ => ?_
  subst eo e4
  have I5 : Inv X pins σ H4 { s4 with heap := s4.heap.push { cls := .type "slice", data := .fields #[vl, vu, vs] } } := I4.kept (t' := s4.toks) fun b ob q => Heap.get?_push_of_some _ q
  cases pl
  cases pu
  cases ps with
  | int i tk =>
    refine tail_any (ops := [.str z t, .ref s4.heap.objs.size]) (typeIs_str _ _ _) (F.slot_str_getitem.lookup) ?_ (by with_unfolding_all rfl)
    refine wpAny_getItem_str_slice (l := none) (u := none) (st := some (-1, tk)) ⟨_, Heap.get?_push_size _ rfl, rfl, rfl⟩ rfl ?_
    have hl := rev_len z
    have hq := q ⟨((Builtin.Str.strSliceIndices none none (-1) z.length).filterMap (z.cps[·]?)).toArray⟩ (by show (List.toArray _).size ≤ _; rw [List.size_toArray]; exact hl) (fun c => by show c ∈ (List.toArray _).toList ↔ _; rw [List.toList_toArray]; exact rev_mem z c)
    show Made.post (Made.str ⟨((Builtin.Str.strSliceIndices none none (-1) z.length).filterMap (z.cps[·]?)).toArray⟩) (EP X pins σ Q) _
    exact ⟨by show (List.toArray _).size ≤ _; rw [List.size_toArray]; omega, .str _, H4, I5.tok _, ⟨_, rfl⟩, hq⟩
end KL
set_option Elab.async false
set_option linter.all false
set_option maxRecDepth 100000
set_option maxHeartbeats 8000000
namespace KL
open PySem L2 PySem.KX PySem.Spec PyProof.Rows
/-! ### what the law's right stands on -/
theorem bar_of {m : HM} {s t : Str} (h : ∀ c, c ∈ s.cps.toList ↔ c ∈ t.cps.toList) : m.bar s = m.bar t := by
  have e : outB s = outB t := funext fun r => by
    unfold outB
    rw [decide_eq_decide.mpr (h _)]
  unfold HM.bar
  rw [e]
theorem app_cps (s t : Str) : (s ++ t).cps.toList = s.cps.toList ++ t.cps.toList := by
  show (s.cps ++ t.cps).toList = _
  simp
theorem bar_bar (m : HM) (s t : Str) : (m.bar s).bar t = m.bar (s ++ t) := by
  have e : ∀ r, (outB s r && outB t r) = outB (s ++ t) r := fun r => by
    unfold outB
    rw [app_cps]
    by_cases h1 : signS r.2.1 ∈ s.cps.toList <;> by_cases h2 : signS r.2.1 ∈ t.cps.toList <;> simp [h1, h2]
  unfold HM.bar
  simp only [List.filter_filter]
  have f : ∀ l : List Row, l.filter (fun a => outB t a && outB s a) = l.filter (outB (s ++ t)) := fun l => by
    refine List.filter_congr fun r _ => ?_
    rw [← e, Bool.and_comm]
  rw [f, f]
theorem bar_nil (m : HM) : m.bar "" = m := by
  have e : ∀ l : List Row, l.filter (outB "") = l := fun l => List.filter_eq_self.mpr fun r _ => rfl
  unfold HM.bar
  rw [e, e]
theorem sameH_self {m : HM} (h : FitH m) : sameH m m = true := by
  have p := h.at
  unfold sameH
  rw [plain_refl _ p.h0.2, plain_refl _ p.h1.2, plain_refl _ p.h2.2, plain_refl _ p.h3.2, plain_refl _ p.h4.2, plain_refl _ p.h5.2, plain_refl _ p.h6.2, plain_refl _ p.h7.2, plain_refl _ p.h8.2]
  rfl
theorem sameH_bar {m : HM} (hR : RightH m) (h : FitH m) (s : Str) : sameH (m.bar s) m = (m.arrows.filter fun r => !outB s r).isEmpty := by
  have p := h.at
  have pb := (h.bar s).at
  cases e : (m.arrows.filter fun r => !outB s r).isEmpty with
  | true =>
    have e : (m.arrows.filter fun r => !outB s r) = [] := List.isEmpty_iff.mp e
    have all : ∀ r ∈ m.arrows, outB s r = true := fun r hr => by
      have := List.filter_eq_nil_iff.mp e r hr
      simpa using this
    have e1 : m.arrows.filter (outB s) = m.arrows := List.filter_eq_self.mpr all
    have e2 : m.tests.filter (outB s) = m.tests := List.filter_eq_self.mpr fun r hr => by
      obtain ⟨_, x, hx, _, l⟩ := hR.ta r hr
      have := all x hx
      unfold outB at this ⊢
      rw [← l]
      exact this
    have : m.bar s = m := by
      unfold HM.bar
      rw [e1, e2]
    rw [this]
    exact sameH_self h
  | false =>
    cases z : sameH (m.bar s) m with
    | false => rfl
    | true =>
      exfalso
      unfold sameH at z
      simp only [Bool.and_eq_true] at z
      have z6 := z.2.2.2.2.2.2.1
      have q := plain_eq _ _ pb.h6.2 p.h6.2 z6
      have q : (m.arrows.filter (outB s)).map rowE = m.arrows.map rowE := by injection q
      have len := congrArg List.length q
      rw [List.length_map, List.length_map] at len
      have all : ∀ r ∈ m.arrows, outB s r = true := List.length_filter_eq_length_iff.mp len
      have : (m.arrows.filter fun r => !outB s r) = [] := List.filter_eq_nil_iff.mpr fun r hr => by rw [all r hr]; decide
      rw [this] at e
      cases e
/-! ### all but the deck -/
def hide (p l : Addr) (H : Hp) : Hp := fun a => if a = p ∨ a = l then none else H a
theorem hide_of {p l a : Addr} {H : Hp} (ap : a ≠ p) (al : a ≠ l) : hide p l H a = H a := if_neg (fun z => z.elim ap al)
theorem DeckAt.hide {H0 H : Hp} {p l : Addr} {t : Int} (D : DeckAt H0 H p l t) : DeckAt (hide p l H) H p l t ∧ Same H0 (KL.hide p l H) := by
  refine ⟨⟨fun b o e => ?_, if_pos (.inl rfl), if_pos (.inr rfl), D.d⟩, fun b o e => ?_⟩
  · unfold KL.hide at e
    by_cases z : b = p ∨ b = l
    · rw [if_pos z] at e
      cases e
    · rw [if_neg z] at e
      exact e
  · have bp : b ≠ p := fun z => by
      rw [z, D.p0] at e
      cases e
    have bl : b ≠ l := fun z => by
      rw [z, D.l0] at e
      cases e
    rw [hide_of bp bl]
    exact D.s _ _ e
/-- what is neither a list nor a dict stays beside the deck -/
theorem DeckAt.kept {H0 H : Hp} {p l a : Addr} {t : Int} {o : HO} (D : DeckAt H0 H p l t) (h : H a = some o) (n1 : ∀ ks, o ≠ .dK ks) (n2 : ∀ xs, o ≠ .lst xs) : KL.hide p l H a = some o := by
  obtain ⟨ns, m, hp, hl, _⟩ := D.d
  rw [hide_of, h]
  · rintro rfl
    rw [hp] at h
    cases h
    exact n1 _ rfl
  · rintro rfl
    rw [hl] at h
    cases h
    exact n2 _ rfl
mutual
theorem Dq.plainKept {H K : Hp} (S : ∀ a xs, H a = some (.tup xs) → K a = some (.tup xs)) : ∀ {d : PyData} {v : V}, plainD d = true → Dq H v d → Dq K v d
  | .int _, _, _, h => by
    cases h
    exact .int _
  | .str _, _, _, h => by
    cases h
    exact .str _
  | .tuple ds, _, p, h => by
    cases h with
    | tup ha q => exact .tup (S _ _ ha) (DqAll.plainKept S (by simpa [plainD] using p) q)
  | .none, _, p, _ => by simp [plainD] at p
  | .bool _, _, p, _ => by simp [plainD] at p
  | .list _, _, p, _ => by simp [plainD] at p
  | .dict _, _, p, _ => by simp [plainD] at p
theorem DqAll.plainKept {H K : Hp} (S : ∀ a xs, H a = some (.tup xs) → K a = some (.tup xs)) : ∀ {ds : List PyData} {vs : List V}, plainAll ds = true → DqAll H vs ds → DqAll K vs ds
  | [], _, _, h => by
    cases h
    exact .nil
  | d :: ds, _, p, h => by
    have p := Bool.and_eq_true_iff.mp (show (plainD d && plainAll ds) = true from by simpa [plainAll] using p)
    cases h with
    | cons a b => exact .cons (Dq.plainKept S p.1 a) (DqAll.plainKept S p.2 b)
end
theorem HsAt.hide {C : Addr} {H0 H : Hp} {p l x : Addr} {t : Int} {m : HM} (D : DeckAt H0 H p l t) (h : HsAt C H x m) (f : FitH m) : HsAt C (KL.hide p l H) x m := by
  obtain ⟨dx, fs, v1, v2, v4, v6, v7, v8, hx, hf, q1, q2, q4, q6, q7, q8⟩ := h
  have S : ∀ a xs, H a = some (.tup xs) → KL.hide p l H a = some (.tup xs) := fun a xs e => D.kept e (fun _ z => nomatch z) (fun _ z => nomatch z)
  have g := f.at
  exact ⟨dx, fs, v1, v2, v4, v6, v7, v8, D.kept hx (fun _ z => nomatch z) (fun _ z => nomatch z), hf, Dq.plainKept S g.h1.2 q1, Dq.plainKept S g.h2.2 q2, Dq.plainKept S g.h4.2 q4, Dq.plainKept S g.h6.2 q6, Dq.plainKept S g.h7.2 q7, Dq.plainKept S g.h8.2 q8⟩
end KL
set_option Elab.async false
set_option linter.all false
set_option maxRecDepth 100000
set_option maxHeartbeats 16000000
namespace KL
open PySem L2 PySem.KX PySem.Spec PyProof.Rows
/-! ### the law's right -/
def gApp : List Value → List Value → List Value
  | [a], [b] => [a, b]
  | _, _ => []
def gAppV : List V → List V → List V
  | [a], [b] => [a, b]
  | _, _ => []
theorem gApp_rel {vs : List V} {us : List Value} {zs : List V} {ws : List Value} (r : Vals vs us) (rz : Vals zs ws) : Vals (gAppV vs zs) (gApp us ws) := by
  cases r with
  | nil => exact .nil
  | cons p q =>
    cases q with
    | cons _ _ =>
      cases rz <;> exact .nil
    | nil =>
      cases rz with
      | nil => exact .nil
      | cons p2 q2 =>
        cases q2 with
        | nil => exact .cons p (.cons p2 .nil)
        | cons _ _ => exact .nil
theorem kb_deeds {K : PySem.W.Frag} {fd : FuncData} (h : ∀ a b : Value, bindArgs fd ⟨[a], [(("deeds" : Str), b)]⟩ = pure [(("self" : Str), a), (("deeds" : Str), b)]) : KBinds K fd ["self", "deeds"] ["deeds"] gApp gAppV :=
  ⟨fun s us ws _ hl => match us, ws, hl with
    | [a], [b], _ => .of_eq (h a b), gApp_rel⟩
theorem strs_inv {H : Hp} : ∀ {ys : List Str} {vs : List V}, DqAll H vs (ys.map PyData.str) → vs = ys.map V.str
  | [], _, h => by
    cases h
    rfl
  | y :: ys, _, h => by
    cases h with
    | cons a b =>
      cases a
      rw [strs_inv b]
      rfl
theorem join_short : ∀ ts : List Str, (∀ x ∈ ts, x.length ≤ 1) → (Str.join "" ts).length ≤ ts.length
  | [], _ => Nat.le_refl _
  | [t], h => h t (by simp)
  | t :: u :: r, h => by
    have ih := join_short (u :: r) fun x hx => h x (by simp at hx ⊢; exact .inr hx)
    have ht := h t (by simp)
    have e : (Str.join "" (t :: u :: r)).length = t.length + 0 + (Str.join "" (u :: r)).length := by
      rw [show Str.join "" (t :: u :: r) = t ++ "" ++ Str.join "" (u :: r) from rfl, strLen_append, strLen_append]
      rfl
    simp only [List.length_cons] at ih ⊢
    omega
theorem sum_short : ∀ ts : List Str, (∀ x ∈ ts, x.length ≤ 1) → (ts.map (·.length)).sum ≤ ts.length
  | [], _ => Nat.le_refl _
  | t :: r, h => by
    have ih := sum_short r fun x hx => h x (List.mem_cons_of_mem _ hx)
    have ht := h t List.mem_cons_self
    simp only [List.map_cons, List.sum_cons, List.length_cons]
    omega
/-- what the law asks of a house of the program -/
structure HFns (P : Program) (w : World) (K : PySem.W.Frag) (mg : Str → Option Value) (base : Heap) (C fB fE : Addr) (dB dE : FuncData) : Prop where
  c : Cls K C
  mC : mg "House" = some (.ref C)
  mB : Meth K C "barred" fB
  B : FnOk P w K mg base CX0 8 fB dB ["self", "deeds"] (spBarred C)
  bB : L2.Binds K dB ["self", "deeds"] []
  kB : KBinds K dB ["self", "deeds"] ["deeds"] gApp gAppV
  E : FnOk P w K mg base CX0 3 fE dE ["self", "other"] (spHEq C)
  sE : PySem.W.findIn K (.ref C) "__eq__" = some (some (.ref fE))
  iE : PySem.W.isFn K (.ref fE) = true
  bE : L2.Binds K dE ["self", "other"] []
  i : C8.InsC K C
def spLRight : Sp := fun vs H Q _ => ∃ (H0 : Hp) (p l wd : Addr) (t : Int) (m : HM) (xw : Str), vs = [.ref p, .ref wd] ∧ DeckAt H0 H p l t ∧ 0 ≤ t ∧ t < 900000 ∧ WAt H0 wd m ∧ RightH m ∧ FitH m ∧ xw ∈ lets5 ∧ m.deeds.map (·.1) = letsOf xw ∧
  ∀ H' t', DeckAt H0 H' p l t' → t ≤ t' → t' ≤ t + 20 → Q (.bl true) H'
section
variable {P : Program} {w : World} {K : PySem.W.Frag} {mg : Str → Option Value} {base : Heap} {C fB fE : Addr} {dB dE : FuncData} {g1 g2 g3 g4 g5 g6 : Addr} {d1 d2 d3 d4 d5 d6 : FuncData}
abbrev nLRig : List Str := ["_law_deck_here", "_law_w", "_law_code_here", "_law_letters", "_law_kept", "_law_some", "_law_more", "_law_due", "_law_told", "_law_letter", "_law_owner", "_law_k", "_law_it"]
theorem scLRig : FnScope nLRig ["_law_deck_here", "_law_w"] (defScope lRight) := ⟨rfl, rfl, rfl, by decide +kernel, rfl, by decide +kernel, by decide +kernel⟩
theorem ok_lright {f : Addr} {fd : FuncData} (F : Fun K "_law_right" "_law_right" lRight f fd) (T : TxtC mg) (TG : TxtG mg) (R : HFns P w K mg base C fB fE dB dE)
    (G1 : FnOk P w K mg base CX0 1 g1 d1 ["_law_deck_here", "_law_below"] spDraw) (c1 : Cal K mg "_law_draw" g1 d1 ["_law_deck_here", "_law_below"])
    (G2 : FnOk P w K mg base CX0 2 g2 d2 ["_law_deck_here", "_law_some"] spPick) (c2 : Cal K mg "_law_pick" g2 d2 ["_law_deck_here", "_law_some"])
    (G3 : FnOk P w K mg base CX0 8 g3 d3 ["_law_w"] (spCode C)) (c3 : Cal K mg "_law_code" g3 d3 ["_law_w"])
    (G4 : FnG P w K mg base CX0 1 g4 d4 ["_law_code_here"] (spShown C)) (c4 : Cal K mg "_law_shown" g4 d4 ["_law_code_here"])
    (G5 : FnOk P w K mg base CX0 1 g5 d5 ["_law_w", "_law_some"] spLBarred) (c5 : Cal K mg "_law_barred" g5 d5 ["_law_w", "_law_some"])
    (G6 : FnG P w K mg base CX0 11 g6 d6 ["_law_deck_here", "_law_w", "_law_code_here", "_law_letters"] (spLNames C)) (c6 : Cal K mg "_law_names_right" g6 d6 ["_law_deck_here", "_law_w", "_law_code_here", "_law_letters"]) :
    FnG P w K mg base CX0 12 f fd ["_law_deck_here", "_law_w"] spLRight := by
  refine fnG0 F scLRig (fun vs H Q E h => ?_) (fun cdv A outer s H vs Q E hG hr h => ?_)
  · obtain ⟨H0, p, l, wd, t, m, xw, rfl, _⟩ := h
    rfl
  · obtain ⟨H0, p, l, wd, t, m, xw, rfl, D, t0, t1, hW, hR, hF, hxw, eL, k⟩ := h
    have nd := scLRig.nd
    have hu := hu_of hr
    have r1 : Room 1 _ := hr.mono (by decide)
    have r2 : Room 2 _ := hr.mono (by decide)
    have r8 : Room 8 _ := hr.mono (by decide)
    let X0 : Cx := (cxOf CX0 P w K mg base nLRig "_law_right" (defScope lRight) f cdv A outer s H E).nox
    refine ⟨_, C8.pss_cut (ps_asg (pe_tup (pa_cons (pe_call G3 r8 (by rfl) c3.m c3.k c3.b .nil pass0 (pa_cons (pv 1) pa_nil)) (pa_cons (pe_lc (own := [("_law_letter", 9), ("_law_owner", 10)]) (g := gTup K 2 (gCons (gName 9) (gCons (gName 10) gNil))) (tt := tYes) rfl nd (pi_tup (pe_dget hu (pv 1) pe_str (fun _ _ => rfl))) (blkOk_by (N := nLRig) (sc := defScope lRight) (by decide +kernel)) (fun _ _ _ _ _ => pg_tup rfl (pgs_cons (pg_name (i := 9) nd rfl (.inl rfl)) (pgs_cons (pg_name (i := 10) nd rfl (.inl rfl)) pgs_nil)))
          (fun _ _ _ _ _ => pts_nil) (fun _ _ _ _ _ => pv 9)) pa_nil))) (pg_tup rfl (pgs_cons (pg_name (i := 2) nd rfl (.inl rfl)) (pgs_cons (pg_name (i := 3) nd rfl (.inr rfl)) pgs_nil))))
      (C8.pss_cut (ps_set (i := 4) nd rfl (.inl rfl) (pe_callG G4 hG r1 (by rfl) c4.m c4.k c4.b pass0 (pa_cons (pv 2) pa_nil)))
      (C8.pss_cut (ps_set (i := 5) nd rfl (.inr rfl) (pe_join pe_str (pe_lc (own := [("_law_k", 11)]) (g := gName 11) (tt := tYes) rfl nd (pi_range1 (by rfl) TG.range (pa_cons (pe_call G1 r1 (by rfl) c1.m c1.k c1.b .nil pass0 (pa_cons (pv 0) (pa_cons pe_int pa_nil))) pa_nil)) (blkOk_by (N := nLRig) (sc := defScope lRight) (by decide +kernel)) (fun _ _ _ _ _ => pg_name (i := 11) nd rfl (.inl rfl)) (fun _ _ _ _ _ => pts_nil) (fun _ _ _ _ _ => pe_call G2 r2 rfl c2.m c2.k c2.b .nil pass0 (pa_cons (pv 0) (pa_cons (pv 3) pa_nil))))))
      (C8.pss_cut (ps_set (i := 6) nd rfl (.inl rfl) (pe_join pe_str (pe_lc (own := [("_law_k", 11)]) (g := gName 11) (tt := tYes) rfl nd (pi_range1 (by rfl) TG.range (pa_cons (pe_call G1 r1 (by rfl) c1.m c1.k c1.b .nil pass0 (pa_cons (pv 0) (pa_cons pe_int pa_nil))) pa_nil)) (blkOk_by (N := nLRig) (sc := defScope lRight) (by decide +kernel)) (fun _ _ _ _ _ => pg_name (i := 11) nd rfl (.inl rfl)) (fun _ _ _ _ _ => pts_nil) (fun _ _ _ _ _ => pe_call G2 r2 rfl c2.m c2.k c2.b .nil pass0 (pa_cons (pv 0) (pa_cons (pv 3) pa_nil))))))
      (C8.pss_cut (ps_set (i := 7) nd rfl (.inl rfl) (pe_callG G4 hG r1 (by rfl) c4.m c4.k c4.b pass0 (pa_cons (pe_call G3 r8 (by rfl) c3.m c3.k c3.b .nil pass0 (pa_cons (pe_call G5 r1 (by rfl) c5.m c5.k c5.b .nil pass0 (pa_cons (pv 1) (pa_cons (pv 5) pa_nil))) pa_nil)) pa_nil)))
      (C8.pss_cut (ps_for PassesOwn.never rfl (pi_tup (pe_tup (pa_cons (pe_meth (pv 2) R.c R.mB R.B r8 R.bB .nil pass0 (pa_cons (pv 5) pa_nil)) (pa_cons (pe_methK0 (pv 2) R.c R.mB R.B r8 R.kB pass0 (pk_cons (pv 5) pk_nil)) (pa_cons (pe_meth (pv 2) R.c R.mB R.B r8 R.bB .nil pass0 (pa_cons (pe_op op_add_str (pe_revS (pv 5)) (pv 5)) pa_nil)) pa_nil))))) (pg_name (i := 8) nd rfl (.inl rfl))
        (pss_one (ps_if (PW.pt (pw_or (pt_not (pt_val (pe_callB (C8.call_isC (X := X0) R.i) (by rfl) T.b.isi (by decide +kernel) (pa_cons (pv 8) (pa_cons (pe_glob (v := .ref C) (by rfl) R.mC rfl) pa_nil))))) (pw_or (pt_cmpR op_ne (pe_callG G4 hG r1 (by rfl) c4.m c4.k c4.b pass0 (pa_cons (pv 8) pa_nil)) (pv 7) (nomark _))
          (pw_or1 (pt_not (pt_cmpR (op_eqOwn (X := X0) R.E R.sE R.iE R.bE (E := E0) pass0 (hr.mono (by decide))) (pv 8) (pe_call G3 r8 (by rfl) c3.m c3.k c3.b .nil pass0 (pa_cons (pe_call G5 r1 (by rfl) c5.m c5.k c5.b .nil pass0 (pa_cons (pv 1) (pa_cons (pv 5) pa_nil))) pa_nil)) (nomark _))))))) (pss_one (ps_ret pe_bl)) pss_nil)))
      (C8.pss_cut (ps_if (PW.pt (pw_or (pt_not (pt_cmpR (op_eqOwn (X := X0) R.E R.sE R.iE R.bE (E := E0) pass0 (hr.mono (by decide))) (pe_meth (pe_meth (pv 2) R.c R.mB R.B r8 R.bB .nil pass0 (pa_cons (pv 5) pa_nil)) R.c R.mB R.B r8 R.bB .nil pass0 (pa_cons (pv 6) pa_nil)) (pe_meth (pv 2) R.c R.mB R.B r8 R.bB .nil pass0 (pa_cons (pe_op op_add_str (pv 5) (pv 6)) pa_nil)) (nomark _)))
          (pw_or1 (pt_not (pt_cmpR (op_eqOwn (X := X0) R.E R.sE R.iE R.bE (E := E0) pass0 (hr.mono (by decide))) (pe_meth (pv 2) R.c R.mB R.B r8 R.bB .nil pass0 (pa_cons pe_str pa_nil)) (pv 2) (nomark _)))))) (pss_one (ps_ret pe_bl)) pss_nil)
      (C8.pss_cut (ps_if (pt_cmpR op_ne (pe_cmpR (op_eqOwn (X := X0) R.E R.sE R.iE R.bE (E := E0) pass0 (hr.mono (by decide))) (pe_meth (pv 2) R.c R.mB R.B r8 R.bB .nil pass0 (pa_cons (pv 5) pa_nil)) (pv 2) (nomark _))
          (pe_cmpR (op_eqNil hr.units) (pe_lc (own := [("_law_it", 12)]) (g := gName 12) (tt := tTest (tOp (fun x y H Q => ∃ (c : Nat) (z : Str), x = .str ⟨#[c]⟩ ∧ y = .str z ∧ Q (.bl (decide (c ∈ z.cps.toList))) H) (tOp (rIxT K) (tVar 12) (tC (.int 1))) (tVar 5))) rfl nd (pi_tup (pe_dget hu (pv 1) pe_str (fun _ _ => rfl))) (blkOk_by (N := nLRig) (sc := defScope lRight) (by decide +kernel)) (fun _ _ _ _ _ => pg_name (i := 12) nd rfl (.inl rfl))
            (fun _ _ _ _ _ => pts_one (pt_cmpR op_in_sign (pe_ix (r := rIxT K) ix_tup (pv 12) pe_int (fun _ _ => rfl)) (pv 5) rfl)) (fun _ _ _ _ _ => pv 12)) (pe_lst pa_nil) (nomark _)) (nomark _)) (pss_one (ps_ret pe_bl)) pss_nil)
      (pss_one (ps_ret (pe_and (pe_callG G6 hG hr (by rfl) c6.m c6.k c6.b pass0 (pa_cons (pv 0) (pa_cons (pv 1) (pa_cons (pv 2) (pa_cons (pv 3) pa_nil))))) (pe_and (pe_cmpR op_eq (pe_callG G4 hG r1 (by rfl) c4.m c4.k c4.b pass0 (pa_cons (pv 2) pa_nil)) (pv 4) (nomark _))
          (pe_one (pe_not (pe_cmpR (op_eqOwn (X := X0) R.E R.sE R.iE R.bE (E := E0) pass0 (hr.mono (by decide))) (pv 2) (pv 4) (nomark _))))))))))))))), ?_⟩
    have ll1 : 1 ≤ (letsOf xw).length ∧ (letsOf xw).length ≤ 3 := by
      rw [lets_len]
      exact (lets_fine hxw).2.2
    -- the house, its letters
    refine ⟨fun σ H' => ∃ K1 x la, σ = [some (.ref p), some (.ref wd), some (.ref x), some (.ref la), none, none, none, none, none, none, none, none, none] ∧ DeckAt K1 H' p l t ∧ Same H0 K1 ∧ HsAt C K1 x m ∧ K1 la = some (.lst ((letsOf xw).map V.str)), ?_, ?_⟩
    · refine ⟨_, rfl, wd, m, rfl, hW.same D.s, hR, hF, fun H1 x S1 hx => ?_⟩
      have D1 := D.mono S1
      obtain ⟨v1, v2, v4, v6, v7, v8, hw, q1, _⟩ := (hW.same D1.s).at
      obtain ⟨a1, xs1, rfl, e1, qa1⟩ := tup_at q1
      have l1 : xs1.length = (letsOf xw).length := by rw [dq_len qa1, List.length_map, ← eL, List.length_map]
      refine ⟨_, rfl, wd, _, rfl, DGet.k (k := Sum.inr "deeds") hw, a1, rfl, ⟨_, SqT.of e1⟩, fun B nB => ?_⟩
      refine lc_tup (K := K) (a := a1) (xs := xs1) (fun i H2 => MadeTo H1 B (((letsOf xw).take i).map V.str) H2) ⟨same_new nB, upd_same⟩ (fun i H2 _ M => SqT.of (M.1 _ _ e1)) ?_ ?_
      · rintro i y H2 hy M
        obtain ⟨d, b, hd, rfl, ec⟩ := deed_at qa1 hy
        have hs' : (letsOf xw)[i]? = some d.1 := by
          rw [← eL, List.getElem?_map, hd]
          rfl
        obtain ⟨h1, M2⟩ := M.more (V.str d.1) nB (Same.refl _)
        refine ⟨b, _, rfl, SqT.of (M.1 _ _ ec), rfl, _, _, rfl, _, _, rfl, rfl, rfl, _, rfl, _, h1, ?_, ?_⟩
        · rw [List.length_map, List.length_take, sizeLine_eq]
          omega
        · rw [take_more hs', List.map_append]
          exact M2
      rintro H2 M
      rw [l1, List.take_length] at M
      refine ⟨(by show 2 ≤ sizeLine; decide), fun tp ntp => ⟨tp, _, rfl, SqT.of upd_same, rfl, _, _, rfl, _, _, rfl, rfl, ?_⟩⟩
      have S3 := M.1.trans (same_new (o := .tup [V.ref x, V.ref B]) ntp)
      have D3 := D1.mono S3
      obtain ⟨bp, bl⟩ := D1.notP nB
      obtain ⟨D4, S4⟩ := D3.hide
      refine ⟨_, x, B, rfl, D4, S4, HsAt.hide D3 (hx.same S3) hF, ?_⟩
      rw [hide_of bp bl, upd_ne (ne_of_none M.2 ntp)]
      exact M.2
    rintro σ1 H1 ⟨K1, x, la, rfl, D, SK, hx, hla⟩
    -- what is shown of it
    refine ⟨fun σ H' => σ = [some (.ref p), some (.ref wd), some (.ref x), some (.ref la), some (.str (shownH m)), none, none, none, none, none, none, none, none] ∧ DeckAt K1 H' p l t, ?_, ?_⟩
    · exact ⟨_, rfl, x, m, rfl, hx.same D.s, hF, fun H2 S2 => ⟨rfl, D.mono S2⟩⟩
    clear D
    rintro σ2 H2 ⟨rfl, D⟩
    -- some deeds
    refine ⟨fun σ H' => ∃ K2 t' so, σ = [some (.ref p), some (.ref wd), some (.ref x), some (.ref la), some (.str (shownH m)), some (.str so), none, none, none, none, none, none, none] ∧ DeckAt K2 H' p l t' ∧ Same K1 K2 ∧ t ≤ t' ∧ t' ≤ t + 6 ∧ so.length ≤ 10, ?_, ?_⟩
    · refine ⟨⟨_, rfl⟩, _, rfl, K1, p, l, t, 5, rfl, D, by omega, by omega, by omega, by omega, fun H2 r g2 r0 r1 => ⟨r, rfl, by omega, by omega, fun B nB => ?_⟩⟩
      refine lc_range (fun i H3 => Making p l B K1 H2 (t + 1) 1 (fun i ds => ∃ ys : List Str, ds = ys.map PyData.str ∧ ys.length = i ∧ ∀ y ∈ ys, y.length ≤ 1) i H3) (Making.start g2.d nB ⟨[], rfl, rfl, fun _ h => nomatch h⟩) ?_ ?_
      · rintro i H3 hi ⟨H02, t2, vs, ds, g3, w3, q3, ys, rfl, ly, h1⟩
        have g3t := g3.t1
        have g3t0 := g3.t0
        have hla3 := g3.s _ _ hla
        obtain ⟨lp, ll⟩ := g3.d.neF hla3
        refine ⟨rfl, _, rfl, _, rfl, H02, p, l, t2, la, _, rfl, g3.d, by omega, by omega, g3.d.s _ _ hla3, lp, ll, by rw [List.length_map]; omega, by rw [List.length_map]; omega, fun H4 j v g4 hv => ?_⟩
        obtain ⟨s', hs', rfl⟩ := map_at hv
        refine Making.turn g3 w3 q3 g4 (.str s') (by rw [List.length_map]; omega) ⟨ys ++ [s'], by rw [List.map_append]; rfl, by simp [ly], fun y hy => ?_⟩
        rcases List.mem_append.mp hy with z | z
        · exact h1 y z
        · rw [List.mem_singleton.mp z]
          exact Nat.le_of_eq (letter_len ((lets_fine hxw).2.1 _ (List.mem_of_getElem? hs')))
      · rintro H3 ⟨H02, t2, vs, ds, g3, w3, q3, ys, rfl, ly, h1⟩
        have g3t := g3.t1
        have g3t0 := g3.t0
        have ev := strs_inv q3
        subst ev
        have sm := sum_short ys h1
        have js := join_short ys h1
        refine ⟨"", B, ys, rfl, rfl, .inl (SqL.of w3.h), ?_, ?_⟩
        · show _ + ys.length * 0 ≤ 16777216
          omega
        · rw [TL.join_eq]
          exact ⟨H02, t2, _, rfl, g3.d, g3.s, by omega, by omega, by omega⟩
    clear D
    rintro σ3 H3 ⟨K1, t', so, rfl, D, S12, ta, tb, lso⟩
    have hx := hx.same S12
    have hla := S12 _ _ hla
    have SK := SK.trans S12
    clear S12
    -- some more of them
    refine ⟨fun σ H' => ∃ K2 t2 mo, σ = [some (.ref p), some (.ref wd), some (.ref x), some (.ref la), some (.str (shownH m)), some (.str so), some (.str mo), none, none, none, none, none, none] ∧ DeckAt K2 H' p l t2 ∧ Same K1 K2 ∧ t ≤ t2 ∧ t2 ≤ t + 12 ∧ mo.length ≤ 10, ?_, ?_⟩
    · refine ⟨⟨_, rfl⟩, _, rfl, K1, p, l, t', 3, rfl, D, by omega, by omega, by omega, by omega, fun H2 r g2 r0 r1 => ⟨r, rfl, by omega, by omega, fun B nB => ?_⟩⟩
      refine lc_range (fun i H3 => Making p l B K1 H2 (t' + 1) 1 (fun i ds => ∃ ys : List Str, ds = ys.map PyData.str ∧ ys.length = i ∧ ∀ y ∈ ys, y.length ≤ 1) i H3) (Making.start g2.d nB ⟨[], rfl, rfl, fun _ h => nomatch h⟩) ?_ ?_
      · rintro i H3 hi ⟨H02, t2, vs, ds, g3, w3, q3, ys, rfl, ly, h1⟩
        have g3t := g3.t1
        have g3t0 := g3.t0
        have hla3 := g3.s _ _ hla
        obtain ⟨lp, ll⟩ := g3.d.neF hla3
        refine ⟨rfl, _, rfl, _, rfl, H02, p, l, t2, la, _, rfl, g3.d, by omega, by omega, g3.d.s _ _ hla3, lp, ll, by rw [List.length_map]; omega, by rw [List.length_map]; omega, fun H4 j v g4 hv => ?_⟩
        obtain ⟨s', hs', rfl⟩ := map_at hv
        refine Making.turn g3 w3 q3 g4 (.str s') (by rw [List.length_map]; omega) ⟨ys ++ [s'], by rw [List.map_append]; rfl, by simp [ly], fun y hy => ?_⟩
        rcases List.mem_append.mp hy with z | z
        · exact h1 y z
        · rw [List.mem_singleton.mp z]
          exact Nat.le_of_eq (letter_len ((lets_fine hxw).2.1 _ (List.mem_of_getElem? hs')))
      · rintro H3 ⟨H02, t2, vs, ds, g3, w3, q3, ys, rfl, ly, h1⟩
        have g3t := g3.t1
        have g3t0 := g3.t0
        have ev := strs_inv q3
        subst ev
        have sm := sum_short ys h1
        have js := join_short ys h1
        refine ⟨"", B, ys, rfl, rfl, .inl (SqL.of w3.h), ?_, ?_⟩
        · show _ + ys.length * 0 ≤ 16777216
          omega
        · rw [TL.join_eq]
          exact ⟨H02, t2, _, rfl, g3.d, g3.s, by omega, by omega, by omega⟩
    clear D ta tb
    rintro σ4 H4 ⟨K1, t2, mo, rfl, D, S12, ta, tb, lmo⟩
    have hx := hx.same S12
    have hla := S12 _ _ hla
    have SK := SK.trans S12
    clear S12
    have hxH := hx.same D.s
    have hWm := (hW.same SK).same D.s
    obtain ⟨dx, fs, w1, w2, w4, w6, w7, w8, exx, hfs, _⟩ := id hxH
    have nof : fs.lookup ("barred" : Str) = none := hfs.2.2.2.2.2.2.2.2.2.1
    have hRb := hR.bar so
    have hFb := hF.bar so
    -- what is due
    refine ⟨fun σ H' => σ = [some (.ref p), some (.ref wd), some (.ref x), some (.ref la), some (.str (shownH m)), some (.str so), some (.str mo), some (.str (shownH (m.bar so))), none, none, none, none, none] ∧ Same H4 H', ?_, ?_⟩
    · exact ⟨_, rfl, _, rfl, wd, so, m, rfl, hWm, hR, hF, fun H5 v S5 hv => ⟨v, m.bar so, rfl, hv, hRb, hFb, fun H6 y S6 hy => ⟨y, m.bar so, rfl, hy, hFb, fun H7 S7 => ⟨rfl, (S5.trans S6).trans S7⟩⟩⟩⟩
    rintro σ5 H5 ⟨rfl, S5⟩
    -- three ways
    refine ⟨fun σ H' => ∃ o8, σ = [some (.ref p), some (.ref wd), some (.ref x), some (.ref la), some (.str (shownH m)), some (.str so), some (.str mo), some (.str (shownH (m.bar so))), o8, none, none, none, none] ∧ Same H4 H', ?_, ?_⟩
    · refine ⟨_, rfl, x, dx, _, rfl, S5 _ _ exx, nof, _, rfl, x, so, m, rfl, hxH.same S5, hR, hF, fun H6 y1 S6 hy1 => ?_⟩
      have S46 := S5.trans S6
      refine ⟨_, rfl, x, dx, _, rfl, S46 _ _ exx, nof, _, rfl, x, so, m, rfl, hxH.same S46, hR, hF, fun H7 y2 S7 hy2 => ?_⟩
      have S47 := S46.trans S7
      refine ⟨_, rfl, x, dx, _, rfl, S47 _ _ exx, nof, _, rfl, so, rfl, by rw [sizeLine_eq]; omega, fun yy ly hyy => ?_⟩
      refine ⟨_, rfl, _, _, rfl, rfl, by rw [sizeLine_eq]; omega, ?_⟩
      refine ⟨x, yy ++ so, m, rfl, hxH.same S47, hR, hF, fun H8 y3 S8 hy3 => ?_⟩
      have eb : m.bar (yy ++ so) = m.bar so := bar_of fun c => by
        rw [app_cps, List.mem_append, hyy c]
        simp
      rw [eb] at hy3
      have S48 := S47.trans S8
      refine ⟨(by show 3 ≤ sizeLine; decide), fun tp ntp => ⟨tp, rfl, ⟨_, SqT.of upd_same⟩, ?_⟩⟩
      have S9 := S48.trans (same_new (o := .tup [V.ref y1, V.ref y2, V.ref y3]) ntp)
      have htp : upd H8 tp (.tup [V.ref y1, V.ref y2, V.ref y3]) tp = some (.tup [V.ref y1, V.ref y2, V.ref y3]) := upd_same
      have a1 := (hy1.same (S7.trans S8)).same (same_new (o := .tup [V.ref y1, V.ref y2, V.ref y3]) ntp)
      have a2 := (hy2.same S8).same (same_new (o := .tup [V.ref y1, V.ref y2, V.ref y3]) ntp)
      have a3 := hy3.same (same_new (o := .tup [V.ref y1, V.ref y2, V.ref y3]) ntp)
      revert S9 htp a1 a2 a3
      generalize upd H8 tp (.tup [V.ref y1, V.ref y2, V.ref y3]) = H9
      intro S9 htp a1 a2 a3
      refine for_tup (K := K) (a := tp) (xs := [V.ref y1, V.ref y2, V.ref y3]) (fun i σ H' => ∃ o8, σ = [some (.ref p), some (.ref wd), some (.ref x), some (.ref la), some (.str (shownH m)), some (.str so), some (.str mo), some (.str (shownH (m.bar so))), o8, none, none, none, none] ∧ Same H9 H') ⟨_, rfl, Same.refl _⟩ (fun i σ H' _ ⟨o, _, S⟩ => SqT.of (S _ _ htp)) ?_ (fun σ H' ⟨o, e, S⟩ => ⟨o, e, S9.trans S⟩)
      rintro i y σ H10 hy ⟨o8, rfl, S10⟩
      obtain ⟨z, rfl, hz⟩ : ∃ z, y = .ref z ∧ HsAt C H9 z (m.bar so) := by
        match i, hy with
        | 0, hy =>
          cases hy
          exact ⟨_, rfl, a1⟩
        | 1, hy =>
          cases hy
          exact ⟨_, rfl, a2⟩
        | 2, hy =>
          cases hy
          exact ⟨_, rfl, a3⟩
        | i + 3, hy => cases hy
      have hz := hz.same S10
      obtain ⟨dz, gs, u1, u2, u4, u6, u7, u8, ezz, _⟩ := id hz
      refine ⟨_, rfl, z, dz, gs, rfl, ezz, _, rfl, ?_⟩
      refine iteNo rfl ?_
      refine ⟨_, rfl, z, m.bar so, rfl, hz, hFb, fun H11 S11 => ⟨_, rfl, rfl, _, rfl, ?_⟩⟩
      refine iteNo (by rw [decide_eq_true rfl]; rfl) ?_
      have S411 := (S9.trans S10).trans S11
      refine ⟨_, rfl, _, rfl, _, rfl, wd, so, m, rfl, hWm.same S411, hR, hF, fun H12 v S12 hv => ⟨v, m.bar so, rfl, hv, hRb, hFb, fun H13 y4 S13 hy4 => ?_⟩⟩
      have S1113 := S12.trans S13
      have hz13 := (hz.same S11).same S1113
      obtain ⟨dz, gs, u1, u2, u4, u6, u7, u8, ezz, _⟩ := id hz13
      obtain ⟨dq, hs, r1', r2', r4', r6', r7', r8', eqq, _⟩ := id hy4
      refine ⟨z, dz, gs, rfl, ezz, other_ins R.i eqq, z, .ref y4, m.bar so, rfl, hz13, hFb, .inr ⟨y4, m.bar so, rfl, hy4, hFb, ?_⟩⟩
      rw [sameH_self hFb]
      refine ⟨true, rfl, _, rfl, ?_⟩
      refine iteNo rfl ?_
      exact ⟨_, rfl, (S10.trans S11).trans S1113⟩
    rintro σ6 H6 ⟨o8, rfl, S6⟩
    -- one behind the other
    refine ⟨fun σ H' => σ = [some (.ref p), some (.ref wd), some (.ref x), some (.ref la), some (.str (shownH m)), some (.str so), some (.str mo), some (.str (shownH (m.bar so))), o8, none, none, none, none] ∧ Same H4 H', ?_, ?_⟩
    · refine ⟨_, rfl, x, dx, _, rfl, S6 _ _ exx, nof, _, rfl, x, so, m, rfl, hxH.same S6, hR, hF, fun H7 y1 S7 hy1 => ?_⟩
      have S47 := S6.trans S7
      obtain ⟨d1', f1', u1, u2, u4, u6, u7, u8, ey1, hf1, _⟩ := id hy1
      refine ⟨y1, d1', _, rfl, ey1, hf1.2.2.2.2.2.2.2.2.2.1, _, rfl, y1, mo, m.bar so, rfl, hy1, hRb, hFb, fun H8 y2 S8 hy2 => ?_⟩
      rw [bar_bar] at hy2
      have S48 := S47.trans S8
      refine ⟨_, rfl, x, dx, _, rfl, S48 _ _ exx, nof, _, rfl, _, rfl, _, _, rfl, rfl, by rw [sizeLine_eq]; omega, x, so ++ mo, m, rfl, hxH.same S48, hR, hF, fun H9 y3 S9 hy3 => ?_⟩
      have S49 := S48.trans S9
      have hF2 := hF.bar (so ++ mo)
      have hy2 := hy2.same S9
      obtain ⟨dz, gs, a1, a2, a4, a6, a7, a8, ezz, _⟩ := id hy2
      obtain ⟨dq, hs, r1', r2', r4', r6', r7', r8', eqq, _⟩ := id hy3
      refine ⟨y2, dz, gs, rfl, ezz, other_ins R.i eqq, y2, .ref y3, m.bar (so ++ mo), rfl, hy2, hF2, .inr ⟨y3, _, rfl, hy3, hF2, ?_⟩⟩
      rw [sameH_self hF2]
      refine ⟨true, rfl, _, rfl, ?_⟩
      refine iteNo rfl ?_
      refine ⟨_, rfl, x, dx, _, rfl, S49 _ _ exx, nof, x, "", m, rfl, hxH.same S49, hR, hF, fun H10 y4 S10 hy4 => ?_⟩
      rw [bar_nil] at hy4
      have S410 := S49.trans S10
      obtain ⟨dq, hs, r1', r2', r4', r6', r7', r8', eqq, _⟩ := id hy4
      refine ⟨_, rfl, y4, dq, hs, rfl, eqq, other_ins R.i (S410 _ _ exx), y4, .ref x, m, rfl, hy4, hF, .inr ⟨x, m, rfl, hxH.same S410, hF, ?_⟩⟩
      rw [sameH_self hF]
      refine ⟨true, rfl, _, rfl, ?_⟩
      exact iteNo rfl ⟨rfl, S410⟩
    clear S6
    rintro σ6 H6 ⟨rfl, S6⟩
    -- just if there is an arrow with one of them
    refine ⟨fun σ H' => σ = [some (.ref p), some (.ref wd), some (.ref x), some (.ref la), some (.str (shownH m)), some (.str so), some (.str mo), some (.str (shownH (m.bar so))), o8, none, none, none, none] ∧ Same H4 H', ?_, ?_⟩
    · refine ⟨_, rfl, x, dx, _, rfl, S6 _ _ exx, nof, _, rfl, x, so, m, rfl, hxH.same S6, hR, hF, fun H7 y1 S7 hy1 => ?_⟩
      have S47 := S6.trans S7
      obtain ⟨d1', f1', u1, u2, u4, u6, u7, u8, ey1, _⟩ := id hy1
      refine ⟨_, rfl, y1, d1', f1', rfl, ey1, other_ins R.i (S47 _ _ exx), y1, .ref x, m.bar so, rfl, hy1, hFb, .inr ⟨x, m, rfl, hxH.same S47, hF, ?_⟩⟩
      rw [sameH_bar hR hF]
      refine ⟨_, rfl, ?_⟩
      obtain ⟨b1, b2, b4, b6, b7, b8, hw, _, _, _, q6, _⟩ := (hWm.same S47).at
      obtain ⟨a6, xs6, rfl, e6, qa6⟩ := tup_at q6
      have few6 := few_of hF.at.h6
      have l6 : xs6.length = m.arrows.length := by rw [dq_len qa6, List.length_map]
      refine ⟨_, rfl, wd, _, rfl, DGet.k (k := Sum.inr "arrows") hw, a6, rfl, ⟨_, SqT.of e6⟩, fun B nB => ?_⟩
      refine lc_tup (K := K) (a := a6) (xs := xs6) (fun i H2 => ∃ vs, MadeTo H7 B vs H2 ∧ vs.length ≤ i ∧ (vs.isEmpty = ((m.arrows.take i).filter fun r => !outB so r).isEmpty)) ⟨[], ⟨same_new nB, upd_same⟩, Nat.le_refl _, rfl⟩ (fun i H2 _ M => by
        obtain ⟨_, M, _⟩ := M
        exact SqT.of (M.1 _ _ e6)) ?_ ?_
      · rintro i y H2 hy ⟨vs, M, lv, iv⟩
        obtain ⟨r, hr', hq, a, z, zs, rfl, ha⟩ := left_rows hR (fun r h => (hR.aa r h).l) qa6 hy
        have hi : i < m.arrows.length := (List.getElem?_eq_some_iff.mp hr').1
        have et : m.arrows.take (i + 1) = m.arrows.take i ++ [r] := by
          rw [List.take_add_one, hr']
          rfl
        refine ⟨rfl, _, rfl, a, _, _, _, rfl, rfl, SqT.of (M.1 _ _ ha), atI_nat (j := 1) rfl, _, rfl, signS r.2.1, so, rfl, rfl, _, rfl, ?_⟩
        have eo : decide (signS r.2.1 ∈ so.cps.toList) = !outB so r := by
          unfold outB
          rw [Bool.not_not]
        rcases bool_ft (outB so r) with o | o
        · refine iteYes (by rw [eo, o]; rfl) ?_
          obtain ⟨h1, M4⟩ := M.more (V.ref a) nB (Same.refl _)
          refine ⟨_, rfl, _, h1, by rw [sizeLine_eq]; omega, _, M4, by simp; omega, ?_⟩
          rw [et, List.filter_append, List.filter_cons_of_pos (by rw [o]; rfl), List.filter_nil]
          generalize (m.arrows.take i).filter (fun r => !outB so r) = L
          have n1 : (vs ++ [V.ref a]).isEmpty = false := by cases vs <;> rfl
          have n2 : (L ++ [r]).isEmpty = false := by cases L <;> rfl
          rw [n1, n2]
        · refine iteNo (by rw [eo, o]; rfl) ⟨vs, M, by omega, ?_⟩
          rw [et, List.filter_append, List.filter_cons_of_neg (by rw [o]; decide), List.filter_nil, List.append_nil]
          exact iv
      rintro H8 ⟨vs, M, lv, iv⟩
      rw [l6, List.take_length] at iv
      refine ⟨(by show 0 ≤ sizeLine; decide), fun e0 ne0 => ?_⟩
      have S8 := M.1.trans (same_new (o := .lst []) ne0)
      refine ⟨B, e0, vs, rfl, rfl, by rw [upd_ne (ne_of_none M.2 ne0)]; exact M.2, upd_same, rfl, _, rfl, ?_⟩
      refine iteNo ?_ ⟨rfl, S47.trans S8⟩
      rw [decide_eq_true (by rw [← iv])]
      rfl
    clear S6
    rintro σ6 H6 ⟨rfl, S6⟩
    have D6 := D.mono S6
    refine ⟨_, rfl, _, rfl, _, rfl, _, rfl, K1, p, l, wd, x, la, t2, m, xw, rfl, D6, by omega, by omega, hW.same SK, hx, hR, hF, hxw, eL, hla, fun K2 H7 t3 g => ?_⟩
    have gt := g.t1
    have gt0 := g.t0
    have hx7 := (hx.same g.s).same g.d.s
    refine ⟨_, rfl, iteYes rfl ?_⟩
    refine ⟨_, rfl, x, m, rfl, hx7, hF, fun H8 S8 => ⟨_, rfl, rfl, _, rfl, ?_⟩⟩
    refine iteYes (decide_eq_true rfl) ?_
    have hx8 := hx7.same S8
    obtain ⟨dz, gs, a1, a2, a4, a6, a7, a8, ezz, _⟩ := id hx8
    refine ⟨_, rfl, _, rfl, x, dz, gs, rfl, ezz, other_data (.str _), x, .str (shownH m), m, rfl, hx8, hF, .inl ⟨.str (shownH m), .str _, ?_⟩⟩
    refine ⟨false, rfl, false, rfl, ?_⟩
    exact k H8 t3 (DeckAt.less (g.d.mono S8) ((SK.trans g.s))) (by omega) (by omega)
end
end KL
set_option Elab.async false
set_option linter.all false
set_option maxRecDepth 100000
set_option maxHeartbeats 4000000
namespace KL
open PySem L2 PySem.KX PySem.Spec PyProof.Rows
/-! ### enumerate of a tuple -/
theorem meets_enum1 {v : Value} {o : Obj} {H : Heap → Prop} (B : Begins v o H) :
    Meets (Builtin.«enumerate.__new__» ⟨[.type "enumerate", v], []⟩) (fun _ R s => H s.heap ∧
      R (.ok (.ret (.ref (s.heap.push o).objs.size))) { s with heap := (s.heap.push o).push { cls := .type "enumerate", data := .fields #[.none, .bool false, .ref s.heap.objs.size, rawInt 0, .none, .none] } }) :=
  .of_wp fun prog w A R s h => by
    obtain ⟨hp, g, d, tk, os⟩ := s; obtain ⟨h1, h⟩ := h
    have hsub := sub_enumerate
    have q1 : ∀ {A' : Around} {E : Value → Shared → Prop} {Q : Value → Shared → Prop}, Q (.ref hp.objs.size) ⟨hp.push o, g, d, tk, os⟩ → wpAny (model prog w) A' (pyIter v) Q E ⟨hp, g, d, tk, os⟩ :=
      fun q => B.iter prog w _ _ ⟨hp, g, d, tk, os⟩ _ h1 q
    wp_walk using q1
    refine wpAny_stack_any fun st => wpAny_pure ?_
    split
    · rename_i c _ _ _ _ _
      cases (c == Value.type "enumerate")
      · wp_walk using q1
        exact ⟨_, rfl, h⟩
      · wp_walk using q1
        exact ⟨_, rfl, h⟩
    · wp_walk using q1
      exact ⟨_, rfl, h⟩
section
variable {prog : Program} {w : World} {A : Around} {E : Value → Shared → Prop} {s : Shared}
theorem enum_begins1 {v : Value} {o : Obj} {H : Heap → Prop} {Q : Value → Shared → Prop} (B : Begins v o H) (h1 : H s.heap)
    (h : ∀ h', IsEnum h' (s.heap.objs.size + 1) s.heap.objs.size 0 .none → h'.get? s.heap.objs.size = some o → h'.objs.size = s.heap.objs.size + 2 →
      (∀ b o, s.heap.get? b = some o → h'.get? b = some o) → Q (.ref (s.heap.objs.size + 1)) { s with heap := h' }) :
    wpAny (model prog w) A (call (.type "enumerate") [v]) Q E s := by
  refine callType_new F.called_enumerate (by decide) (F.typeCall_enumerate_1 _) (F.newCall_enumerate_1 _) (fun obj => F.args_object_init_2 obj _) F.entry_enumerate_new
    (meets_enum1 B) ⟨h1, ?_⟩
  have hz : (s.heap.push o).objs.size = s.heap.objs.size + 1 := Heap.size_push ..
  show _ ∧ _
  rw [hz]
  have he : IsEnum ((s.heap.push o).push { cls := .type "enumerate", data := .fields #[.none, .bool false, .ref s.heap.objs.size, rawInt 0, .none, .none] }) (s.heap.objs.size + 1) s.heap.objs.size 0 .none := by
    have := Heap.get?_push_size (s.heap.push o) (o := { cls := .type "enumerate", data := .fields #[.none, .bool false, .ref s.heap.objs.size, rawInt 0, .none, .none] }) rfl
    rw [hz] at this; exact this
  refine ⟨⟨_, he, rfl⟩, h _ he (Heap.get?_push_of_some _ (Heap.get?_push_size _ B.free)) (by rw [Heap.size_push, hz]) fun b o x => Heap.get?_push_of_some _ (Heap.get?_push_of_some _ x)⟩
end
/-- the tuple at a as it stands, each item in a new pair behind its number -/
def IteT (K : PySem.W.Frag) (a : Addr) : It :=
  ⟨fun i H => ∃ (xs : List V) (x : V), SqT K H a xs ∧ xs[i]? = some x, fun i H v H' => ∃ T x, v = .ref T ∧ H T = none ∧ H' = upd H T (.tup [.int (i : Nat), x]) ∧ ∀ xs, SqT K H a xs → xs[i]? = some x, fun i H => ∃ xs : List V, SqT K H a xs ∧ xs.length ≤ i⟩
theorem turn_enumT {P : Program} {w : World} {K : PySem.W.Frag} {elts : List Expr} {kk : Nat} {tpos : Pos} (a e it : Addr) :
    Turn P w K (.Tuple elts kk tpos) (IteT K a) [e, it] e (fun i h => (∃ old, IsEnum h e it ((i : Nat) : Int) old) ∧ h.IsTupleIter it a i ∧ e ≠ it) where
  mem := by simp
  obj := fun i h st b hb => by
    obtain ⟨⟨old, he⟩, ⟨o, ho, hc, hd⟩, _⟩ := st
    have e' : b = e ∨ b = it := by simpa using hb
    rcases e' with z | z
    · rw [z]; exact ⟨_, he, fun v q => nomatch q⟩
    · rw [z]; exact ⟨o, ho, fun v q => by rw [hd] at q; cases q⟩
  keep := fun i h h' st k => let ⟨⟨old, he⟩, hi, hne⟩ := st; ⟨⟨old, k e (by simp) _ he⟩, hi.at fun o q => k it (by simp) o q, hne⟩
  item := by
    intro X hP hw hK hc i pins s σ H E I hf st hg
    subst hP hw hK
    obtain ⟨⟨old, he⟩, hit, hne⟩ := st
    obtain ⟨xs, x, hq, hx⟩ := hg
    obtain ⟨its, rv, p, hz⟩ := I.tuple hq
    have p : s.heap.IsTuple a its.toArray := p
    obtain ⟨u, hu, ru⟩ := rv.get hx
    have hel : e < s.heap.objs.size := Heap.lt_size he
    have hil : it < s.heap.objs.size := by obtain ⟨_, q, _⟩ := hit; exact Heap.lt_size q
    have hai : a ≠ it := fun z => by
      obtain ⟨o, ho, hc', _⟩ := p
      obtain ⟨o2, ho2, hc2, _⟩ := hit
      rw [z, ho2] at ho
      cases ho
      rw [hc2] at hc'
      injection hc' with z2
      exact absurd z2 (by decide)
    have hea : e ≠ a := fun z => by
      obtain ⟨o, ho, hc', _⟩ := p
      have he' := he
      unfold IsEnum at he'
      rw [z, ho] at he'
      injection he' with z1
      rw [z1] at hc'
      injection hc' with z2
      exact absurd z2 (by decide)
    have ul : its.toArray[i]? = some u := by simpa using hu
    have hlt : i < its.toArray.size := by
      rcases Nat.lt_or_ge i its.toArray.size with h | h
      · exact h
      · rw [Array.getElem?_eq_none h] at ul
        cases ul
    refine wpAny_pyNext_enum_itemC (Draws.tuple (prog := X.prog) (w := X.w) (A := X.A.in1) (I.ok.hd hc) it a hai its.toArray) he ⟨hit, p⟩ hlt hne (by simp [hne, hea]) fun y h' tk hy ho hst hT hsz hk => ?_
    have ey : y = u := by
      have hy : its.toArray[i]? = some y := hy
      rw [ul] at hy
      exact (Option.some.inj hy).symm
    subst ey
    have hit' := hst.1
    refine ⟨_, rfl, wpAny_letOwnedTupleGo_enum (s := { s with heap := h', toks := tk + 1 }) ho fun h'' he' sb => ?_⟩
    have hT2 : h''.get? s.heap.objs.size = some { cls := .type "tuple", data := .seq #[.int ((i : Nat) : Int) tk, y] } := (sb.2 _ (Nat.ne_of_gt hel)).trans hT
    have new : ObjOk X.prog X.w (upd H s.heap.objs.size (.tup [.int ((i : Nat) : Int), x])) h'' s.heap.objs.size (.tup [.int ((i : Nat) : Int), x]) :=
      ⟨by show 2 ≤ sizeLine; decide, [.int ((i : Nat) : Int) tk, y], .cons ⟨_, rfl⟩ (.cons ru .nil), ⟨_, hT2, rfl, _, rfl⟩⟩
    have I1 : Inv X pins σ (upd H s.heap.objs.size (.tup [.int ((i : Nat) : Int), x])) { s with heap := h'', toks := tk + 1 } :=
      I.turnedNew (ch := [e, it]) (fun b ob hb q => (sb.2 b (fun z => hb (by simp [z]))).trans (hk b ob (fun z => hb (by simp [z])) (fun z => hb (by simp [z])) q)) hf (Nat.le_refl _) new
    refine ⟨.ref s.heap.objs.size, _, I1, rfl, ⟨_, x, rfl, I.hok.fresh (Nat.le_refl _), rfl, fun ys hy => by rw [I.tuple_inj hy hq]; exact hx⟩, ⟨⟨y, ?_⟩, hit'.at fun o q => (sb.2 it (Ne.symm hne)).trans q, hne⟩, fun b hb => ?_⟩
    · have e1 : ((i + 1 : Nat) : Int) = (i : Int) + 1 := by omega
      rw [e1]; exact he'
    · have hb' : b < s.heap.objs.size := by
        have e' : b = e ∨ b = it := by simpa using hb
        rcases e' with z | z
        · rw [z]; exact hel
        · rw [z]; exact hil
      rw [upd_ne (Nat.ne_of_lt hb')]
      exact (hf b hb).1
  done := by
    intro X hP hw hK hc i pins s σ H E I hf st hg
    subst hP hw hK
    obtain ⟨⟨old, he⟩, hit, hne⟩ := st
    obtain ⟨xs, hq, hx⟩ := hg
    obtain ⟨its, rv, p, hz⟩ := I.tuple hq
    have p : s.heap.IsTuple a its.toArray := p
    obtain ⟨f0, f1, f2, f3, f4, f5⟩ := hf it (by simp)
    have hl := rv.length
    have hT : s.TypeIs (.ref e) "enumerate" := ⟨_, he, rfl⟩
    unfold pyNext
    refine wpAny_bind (wpAny_attempt (wpAny_callSpecial?_slot (name := Str.ofString "__next__") hT F.slot_enumerate_next
      (wpAny_call_entry F.slot_enumerate_next hT F.entry_enumerate_next ?_ (F.args_enumerate_next_1 _))))
    show wpAny _ _ (field (.ref e) 2 >>= _) _ _ _
    refine wpAny_bind (wpAny_field he rfl (x := .ref it) rfl ?_)
    refine wpAny_bind (wpAny_nextOf_tuple_end (I.ok.hd hc) hit p (by simp; omega) fun h' x eb hx' => ?_)
    obtain ⟨o, ho, hc⟩ := hx'
    refine wpAny_bind (wpAny_isInstance (T := "StopIteration") (b := true) ⟨o, ho, hc⟩ isSubtype_stop ?_)
    exact wpAny_pure ⟨rfl, I.turned (t' := s.toks) (fun b o hb q => eb b o hb q) f0 f1 f3 f4 f5⟩
  self := fun A i s Q E st h => let ⟨⟨_, he⟩, _⟩ := st; wpAny_pyIter_enum he h
def iEnumT (K : PySem.W.Frag) (ta : TA) : TI := fun σ H R => ta σ H fun vs H1 => ∃ a xs, vs = [.ref a] ∧ SqT K H1 a xs ∧ R (IteT K a) H1
theorem pi_enumT {X : Cx} {e : Expr} {ta : TA} {p pos tpos : Pos} {elts : List Expr} {kk : Nat} (hg : Gl X "enumerate") (hm : X.mg "enumerate" = none) (ha : PA X [e] ta) (hs : starEach [e] X.env = [(false, eval e X.env)] := by rfl) :
    PI X (.Tuple elts kk tpos) (.Call (.Name "enumerate" p) [e] [] pos) (iEnumT X.K ta) := by
  refine ⟨fun pins s σ H R I h => ?_⟩
  refine Call_ (ld_blt I hg hm boot_enumerate (PyProof.Rows.callWith_type1 (thn (ha.run pos pins s σ H _ I h) fun us s1 ⟨vs, H1, I1, r1, q1⟩ => ?_) hs rfl))
  obtain ⟨a, xs, ex, hq, q⟩ := q1
  subst ex
  cases r1 with
  | cons r rr =>
    cases rr
    cases r
    obtain ⟨its, rv, p', hz⟩ := I1.tuple hq
    refine enum_begins1 (begins_tuple a its.toArray) p' fun h' he hit hsz hk => wpAny_pyIter_enum he ?_
    have I3 : Inv X pins σ H1 { s1 with heap := h' } := I1.kept (t' := s1.toks) hk
    refine ⟨s1.heap.objs.size + 1, [s1.heap.objs.size + 1, s1.heap.objs.size], _, _, H1, rfl, I3, turn_enumT a (s1.heap.objs.size + 1) s1.heap.objs.size, ⟨⟨.none, he⟩, ⟨_, hit, rfl, rfl⟩, Nat.succ_ne_self _⟩, fun b hb => ?_, q⟩
    have e' : b = s1.heap.objs.size + 1 ∨ b = s1.heap.objs.size := by simpa using hb
    have hle : s1.heap.objs.size ≤ b := by
      rcases e' with z | z
      · rw [z]; exact Nat.le_add_right _ _
      · rw [z]; exact Nat.le_refl _
    exact I1.fpOk hle (I1.hok.fresh hle)
theorem walk_enumT {K : PySem.W.Frag} {a : Addr} {xs : List V} : Walk (IteT K a) xs.length (fun H => SqT K H a xs) (YPair (fun i => some (.int (i : Nat))) (fun i => xs[i]?)) := by
  refine ⟨fun i _ hi q => ⟨xs, xs[i], q, by simp [hi]⟩, fun _ q => ⟨xs, q, Nat.le_refl _⟩, fun i H v H' _ q y => ?_⟩
  obtain ⟨T, x, h1, h2, h3, h4⟩ := y
  exact ⟨T, .int (i : Nat), x, h1, h2, h3, rfl, h4 xs q⟩
/-- the turns of a walk inside a comprehension -/
theorem walk_turns {J : It} {n : Nat} {G : Hp → Prop} {Y : Nat → Hp → V → Hp → Prop} (w : Walk J n G Y) {body : (Hp → Prop) → V → Hp → Prop} {Hs : Hp} {Qd : Hp → Prop} (Pv : Nat → Hp → Prop) (h0 : Pv 0 Hs) (hl : ∀ i H, i ≤ n → Pv i H → G H)
    (hs : ∀ i x H H', i < n → Pv i H → Y i H x H' → body (Pv (i + 1)) x H') (hd : ∀ H, Pv n H → Qd H) :
    ∃ W : Nat → Nat → Hp → Prop, (∃ m, W 0 m Hs) ∧ ∀ i m H, W i m H →
      (J.stop i H ∧ Qd H) ∨ (J.go i H ∧ ∃ Nx : Hp → Prop, (∀ H', Nx H' → ∃ m', m' < m ∧ W (i + 1) m' H') ∧ ∀ x H', J.yld i H x H' → body Nx x H') := by
  refine ⟨fun i m H => m = n - i ∧ i ≤ n ∧ Pv i H, ⟨n, by simp, Nat.zero_le _, h0⟩, ?_⟩
  rintro i m H ⟨rfl, hi, p⟩
  have q := hl i H hi p
  by_cases hlt : i < n
  · exact .inr ⟨w.goes i H hlt q, Pv (i + 1), fun H' p' => ⟨n - (i + 1), by omega, rfl, hlt, p'⟩, fun x H' y => hs i x H H' hlt p (w.yields i H x H' hlt q y)⟩
  · have e : i = n := by omega
    subst e
    exact .inl ⟨w.stops H q, hd H p⟩
end KL
set_option Elab.async false
set_option linter.all false
set_option maxRecDepth 100000
set_option maxHeartbeats 8000000
namespace KL
open PySem L2 PySem.KX PySem.Spec PyProof.Rows
/-! ### words: that they are some texts, and how long at most -/
abbrev sNumW : Stmt := top 37
abbrev sFormW : Stmt := top 41
abbrev sMarksW : Stmt := top 44
/-- a suite that nothing comes to -/
theorem pss_dead {X : Cx} {st : List Stmt} : PSs X st (fun _ _ _ => False) := ⟨fun _ _ _ _ _ _ h => h.elim⟩
/-- some texts so far, each of at most B signs, in the list at D -/
def StrsTo (H0 : Hp) (D : Addr) (B i : Nat) (H : Hp) : Prop := ∃ ys : List Str, MadeTo H0 D (ys.map V.str) H ∧ ys.length ≤ i ∧ ∀ y ∈ ys, y.length ≤ B
theorem StrsTo.start {H0 : Hp} {D : Addr} {B : Nat} (nD : H0 D = none) : StrsTo H0 D B 0 (upd H0 D (.lst [])) := ⟨[], ⟨same_new nD, upd_same⟩, Nat.le_refl _, fun _ h => nomatch h⟩
theorem StrsTo.s {H0 H : Hp} {D : Addr} {B i : Nat} (M : StrsTo H0 D B i H) : Same H0 H := by
  obtain ⟨_, M, _⟩ := M
  exact M.1
theorem StrsTo.more {H0 H H' : Hp} {D : Addr} {B i : Nat} {y : Str} (M : StrsTo H0 D B i H) (nD : H0 D = none) (S : Same H H') (few : i ≤ 1000) (hy : y.length ≤ B) : ∃ acc, H' D = some (.lst acc) ∧ acc.length < sizeLine ∧ StrsTo H0 D B (i + 1) (upd H' D (.lst (acc ++ [.str y]))) := by
  obtain ⟨ys, M, l, b⟩ := M
  obtain ⟨h1, M2⟩ := M.more (.str y) nD S
  refine ⟨_, h1, by rw [List.length_map, sizeLine_eq]; omega, ys ++ [y], by rw [List.map_append]; exact M2, by simp; omega, fun z hz => ?_⟩
  rcases List.mem_append.mp hz with w | w
  · exact b z w
  · rw [List.mem_singleton.mp w]
    exact hy
theorem StrsTo.skip {H0 H H' : Hp} {D : Addr} {B i : Nat} (M : StrsTo H0 D B i H) (S : Same H H') : StrsTo H0 D B (i + 1) H' := by
  obtain ⟨ys, M, l, b⟩ := M
  exact ⟨ys, ⟨M.1.trans S, S _ _ M.2⟩, by omega, b⟩
theorem join_most {y : Str} {m : Nat} (hy : y.length ≤ 1) : ∀ ts : List Str, (∀ x ∈ ts, x.length ≤ m) → (Str.join y ts).length ≤ (m + 1) * ts.length
  | [], _ => Nat.zero_le _
  | [a], h => by
    have := h a (by simp)
    show a.length ≤ (m + 1) * 1
    omega
  | a :: b :: r, h => by
    have ih := join_most hy (b :: r) fun x hx => h x (List.mem_cons_of_mem _ hx)
    have ha := h a (by simp)
    show (a ++ y ++ Str.join y (b :: r)).length ≤ (m + 1) * ((b :: r).length + 1)
    rw [strLen_append, strLen_append, Nat.mul_add, Nat.mul_one]
    omega
theorem sum_most {m : Nat} : ∀ ts : List Str, (∀ x ∈ ts, x.length ≤ m) → (ts.map (·.length)).sum ≤ m * ts.length
  | [], _ => Nat.zero_le _
  | t :: r, h => by
    have ih := sum_most r fun x hx => h x (List.mem_cons_of_mem _ hx)
    have ht := h t List.mem_cons_self
    simp only [List.map_cons, List.sum_cons, List.length_cons, Nat.mul_add, Nat.mul_one]
    omega
/-- numbers that are small enough to be written at once -/
def okI (i : Int) : Prop := i.natAbs.log2 ≤ 20
theorem okI_lt {i : Int} (h : okI i) : i.natAbs < 2 ^ 21 := by
  have : i.natAbs < 2 ^ (i.natAbs.log2 + 1) := Nat.lt_log2_self
  exact Nat.lt_of_lt_of_le this (Nat.pow_le_pow_right (by decide) (by unfold okI at h; omega))
/-- what a def hands back: some text of at most n signs -/
def SomeText (n : Nat) (H : Hp) (Q : VK) : Prop := ∀ H' (y : Str), Same H H' → y.length ≤ n → Q (.str y) H'
def spNumW : Sp := fun vs H Q _ => ∃ i : Int, vs = [.int i] ∧ okI i ∧ SomeText 24 H Q
def IntsD (n : Nat) (d : PyData) : Prop := ∃ ns : List Int, d = .tuple (ns.map .int) ∧ ns.length ≤ n ∧ ∀ i ∈ ns, okI i
def spFormW : Sp := fun vs H Q _ => ∃ (v : V) (d : PyData), vs = [v] ∧ Dq H v d ∧ IntsD 4 d ∧ SomeText 100 H Q
def spMarksW : Sp := fun vs H Q _ => ∃ (v : V) (ms : List Str), vs = [v] ∧ Dq H v (.tuple (ms.map .str)) ∧ ms.length ≤ 4 ∧ (∀ x ∈ ms, x.length ≤ 1) ∧ SomeText 10 H Q
structure TxtW (mg : Str → Option Value) : Prop where
  abs : mg "abs" = none
  str : mg "str" = none
  piece : ∃ t, mg "PIECE" = some (.int (10 ^ 60) t)
  enum : mg "enumerate" = none
section
variable {P : Program} {w : World} {K : PySem.W.Frag} {mg : Str → Option Value} {base : Heap}
abbrev nNumW : List Str := ["number", "rest", "pieces", "piece", "sign"]
theorem scNumW : FnScope nNumW ["number"] (defScope sNumW) := ⟨rfl, rfl, rfl, by decide +kernel, rfl, by decide +kernel, by decide +kernel⟩
theorem ok_numW {f : Addr} {fd : FuncData} (F : Fun K "number_word" "number_word" sNumW f fd) (T : TxtW mg) : FnOk P w K mg base CX0 1 f fd ["number"] spNumW := by
  obtain ⟨t, hM⟩ := T.piece
  refine F.ok scNumW (fun vs H Q E h => ?_) (fun cdv A outer s H vs Q E hr h => ?_)
  · obtain ⟨i, rfl, _⟩ := h
    rfl
  · obtain ⟨i, rfl, hi, k⟩ := h
    have nd := scNumW.nd
    have lt := okI_lt hi
    have ip := Int.natAbs_of_nonneg (a := if i < 0 then -i else i) (by split <;> omega)
    refine ⟨_, pss_cons (ps_set (i := 1) nd rfl (.inl rfl) (pe_callB call_abs (by rfl) T.abs (by decide +kernel) (pa_cons (pv 0) pa_nil)))
      (C8.pss_cut (ps_set (i := 2) nd rfl (.inl rfl) (pe_lst pa_nil))
      (C8.pss_cut (ps_while PassesOwn.never (pt_cmpR op_ge (pv 1) (pe_glob (v := .int (10 ^ 60)) (by rfl) hM ⟨_, rfl⟩) (nomark _)) pss_dead)
      (C8.pss_cut (ps_set (i := 4) nd rfl (.inl rfl) (pe_ifExp (pt_cmpR op_lt (pv 0) pe_int (nomark _)) pe_str pe_str))
      (pss_one (ps_ret (pe_op op_add_str (pe_op op_add_str (pv 4) (pe_callTy call_str_int (by rfl) T.str (by decide +kernel) (pa_cons (pv 1) pa_nil))) (pe_join pe_str (pe_revL (pv 2))))))))), ?_⟩
    refine ⟨_, rfl, i, rfl, ?_⟩
    generalize ej : (if i < 0 then -i else i) = j
    have hj0 : 0 ≤ j := by rw [← ej]; split <;> omega
    have hja : j.natAbs = i.natAbs := by rw [← ej]; split <;> omega
    refine ⟨fun σ H' => ∃ q, σ = [some (.int i), some (.int j), some (.ref q), none, none] ∧ Same H H' ∧ H' q = some (.lst []), ?_, ?_⟩
    · exact ⟨(by show 0 ≤ sizeLine; decide), fun q nq => ⟨q, rfl, same_new nq, upd_same⟩⟩
    rintro σ1 H1 ⟨q, rfl, S1, hq⟩
    refine ⟨fun σ H' => σ = [some (.int i), some (.int j), some (.ref q), none, none] ∧ H' = H1, ?_, ?_⟩
    · refine ⟨fun _ σ H' => σ = [some (.int i), some (.int j), some (.ref q), none, none] ∧ H' = H1, ⟨0, rfl, rfl⟩, fun m σ H' e => ?_⟩
      obtain ⟨rfl, rfl⟩ := e
      refine ⟨_, rfl, _, _, rfl, rfl, _, rfl, iteNo (decide_eq_false fun z => ?_) ⟨rfl, rfl⟩⟩
      have : (2 : Nat) ^ 21 < 10 ^ 60 := by decide +kernel
      omega
    rintro σ2 H2 ⟨rfl, rfl⟩
    refine ⟨fun σ H' => ∃ sg : Str, sg.length ≤ 1 ∧ σ = [some (.int i), some (.int j), some (.ref q), none, some (.str sg)] ∧ H' = H2, ?_, ?_⟩
    · refine ⟨_, rfl, _, _, rfl, rfl, _, rfl, ?_⟩
      by_cases z : i < 0
      · exact iteYes (decide_eq_true z) ⟨"-", by decide +kernel, rfl, rfl⟩
      · exact iteNo (decide_eq_false z) ⟨"", by decide +kernel, rfl, rfl⟩
    rintro σ3 H3 ⟨sg, lsg, rfl, rfl⟩
    have sz := sizeLine_eq
    have lj := len_toString j
    have lg : j.natAbs.log2 ≤ 20 := by
      rw [hja]
      exact hi
    refine ⟨_, rfl, _, rfl, j, rfl, by omega, _, _, rfl, rfl, by omega, ⟨_, rfl⟩, _, rfl, q, [], rfl, SqL.of hq, fun r nr => ?_⟩
    refine ⟨"", r, [], rfl, rfl, .inl (SqL.of upd_same), by decide, _, _, rfl, rfl, ?_, ?_⟩
    · rw [strLen_append]
      show sg.length + (Str.ofString (toString j)).length + 0 ≤ sizeLine
      omega
    · refine k _ _ (S1.trans (same_new nr)) ?_
      rw [strLen_append, strLen_append]
      show sg.length + (Str.ofString (toString j)).length + 0 ≤ 24
      omega
end
end KL
set_option Elab.async false
set_option linter.all false
set_option maxRecDepth 100000
set_option maxHeartbeats 8000000
namespace KL
open PySem L2 PySem.KX PySem.Spec PyProof.Rows
/-! ### the words of forms and marks, lines -/
abbrev sLineN : Stmt := top 49
abbrev sLineA : Stmt := top 50
abbrev sLineT : Stmt := top 51
section
variable {P : Program} {w : World} {K : PySem.W.Frag} {mg : Str → Option Value} {base : Heap} {g1 g2 g3 : Addr} {d1 d2 d3 : FuncData}
abbrev nFormW : List Str := ["form", "number"]
theorem scFormW : FnScope nFormW ["form"] (defScope sFormW) := ⟨rfl, rfl, rfl, by decide +kernel, rfl, by decide +kernel, by decide +kernel⟩
theorem ok_formW {f : Addr} {fd : FuncData} (F : Fun K "form_word" "form_word" sFormW f fd) (G1 : FnOk P w K mg base CX0 1 g1 d1 ["number"] spNumW) (c1 : Cal K mg "number_word" g1 d1 ["number"]) : FnOk P w K mg base CX0 2 f fd ["form"] spFormW := by
  refine F.ok scFormW (fun vs H Q E h => ?_) (fun cdv A outer s H vs Q E hr h => ?_)
  · obtain ⟨v, d, rfl, _⟩ := h
    rfl
  · obtain ⟨v, d, rfl, hd, ⟨ns, rfl, ln, hn⟩, k⟩ := h
    have nd := scFormW.nd
    refine ⟨_, pss_one (ps_ret (pe_join pe_str (pe_lc (own := [("number", 1)]) (g := gName 1) (tt := tYes) rfl nd (pi_tup (pv 0)) (blkOk_by (N := nFormW) (sc := defScope sFormW) (by decide +kernel)) (fun _ _ _ _ _ => pg_name (i := 1) nd rfl (.inl rfl)) (fun _ _ _ _ _ => pts_nil)
        (fun _ _ _ _ _ => pe_call G1 hr (by rfl) c1.m c1.k c1.b .nil pass0 (pa_cons (pv 1) pa_nil))))), ?_⟩
    obtain ⟨a, xs, rfl, ea, qa⟩ := tup_at hd
    have lx : xs.length = ns.length := by rw [dq_len qa, List.length_map]
    refine ⟨⟨_, rfl⟩, _, rfl, a, rfl, ⟨_, SqT.of ea⟩, fun D nD => ?_⟩
    refine lc_tup (K := K) (a := a) (xs := xs) (fun i H2 => StrsTo H D 24 i H2) (.start nD) (fun i H2 _ M => SqT.of (M.s _ _ ea)) ?_ ?_
    · rintro i y H2 hy M
      obtain ⟨d', hd', hq⟩ := DqAll.at qa hy
      have hi : i < xs.length := (List.getElem?_eq_some_iff.mp hy).1
      obtain ⟨n, hn', rfl⟩ : ∃ n, ns[i]? = some n ∧ PyData.int n = d' := by
        rw [List.getElem?_map] at hd'
        cases e : ns[i]? with
        | none =>
          rw [e] at hd'
          cases hd'
        | some n =>
          rw [e] at hd'
          exact ⟨n, rfl, Option.some.inj hd'⟩
      cases hq
      exact ⟨rfl, _, rfl, n, rfl, hn n (List.mem_of_getElem? hn'), fun H3 y S3 ly => M.more nD S3 (by omega) ly⟩
    · rintro H2 ⟨ys, M, l, b⟩
      have sm := sum_most ys b
      have jm := join_most (y := ",") (by decide +kernel) ys b
      refine ⟨",", D, ys, rfl, rfl, .inl (SqL.of M.2), ?_, ?_⟩
      · show _ + ys.length * 1 ≤ 16777216
        omega
      · rw [TL.join_eq]
        exact k _ _ M.1 (by omega)
abbrev nMarksW : List Str := ["marks", "mark"]
theorem scMarksW : FnScope nMarksW ["marks"] (defScope sMarksW) := ⟨rfl, rfl, rfl, by decide +kernel, rfl, by decide +kernel, by decide +kernel⟩
theorem ok_marksW {f : Addr} {fd : FuncData} (F : Fun K "marks_word" "marks_word" sMarksW f fd) : FnOk P w K mg base CX0 1 f fd ["marks"] spMarksW := by
  refine F.ok scMarksW (fun vs H Q E h => ?_) (fun cdv A outer s H vs Q E hr h => ?_)
  · obtain ⟨v, ms, rfl, _⟩ := h
    rfl
  · obtain ⟨v, ms, rfl, hd, lm, hm, k⟩ := h
    have nd := scMarksW.nd
    refine ⟨_, pss_one (ps_ret (pe_ifExp (pt_cmpR (op_neNilT hr.units) (pv 0) (pe_tup pa_nil) (nomark _)) (pe_join pe_str (pe_lc (own := [("mark", 1)]) (g := gName 1) (tt := tYes) rfl nd (pi_tup (pv 0)) (blkOk_by (N := nMarksW) (sc := defScope sMarksW) (by decide +kernel)) (fun _ _ _ _ _ => pg_name (i := 1) nd rfl (.inl rfl)) (fun _ _ _ _ _ => pts_nil)
        (fun _ _ _ _ _ => pe_ifExp (pt_cmpR op_ne (pv 1) pe_str (nomark _)) (pv 1) pe_str))) pe_str)), ?_⟩
    obtain ⟨a, xs, rfl, ea, qa⟩ := tup_at hd
    have ev := strs_inv qa
    subst ev
    refine ⟨_, rfl, (by show 0 ≤ sizeLine; decide), fun e0 ne0 => ⟨a, e0, _, rfl, rfl, SqT.of (same_new ne0 _ _ ea), SqT.of upd_same, _, rfl, ?_⟩⟩
    have S0 := same_new (o := .tup []) ne0
    revert S0
    generalize upd H e0 (.tup []) = H1
    intro S0
    cases e : (ms.map V.str).isEmpty with
    | true =>
      exact iteNo rfl (k _ _ S0 (by decide +kernel))
    | false =>
      refine iteYes rfl ?_
      have ea1 := S0 _ _ ea
      refine ⟨⟨_, rfl⟩, _, rfl, a, rfl, ⟨_, SqT.of ea1⟩, fun D nD => ?_⟩
      refine lc_tup (K := K) (a := a) (xs := ms.map V.str) (fun i H2 => StrsTo H1 D 1 i H2) (.start nD) (fun i H2 _ M => SqT.of (M.s _ _ ea1)) ?_ ?_
      · rintro i y H2 hy M
        obtain ⟨x, hx, rfl⟩ := map_at hy
        have hi : i < ms.length := (List.getElem?_eq_some_iff.mp hx).1
        refine ⟨rfl, _, rfl, rfl, _, rfl, ?_⟩
        by_cases z : x = ""
        · exact iteNo (by rw [z]; rfl) (M.more nD (Same.refl _) (by omega) (by decide +kernel))
        · exact iteYes (by rw [decide_eq_false (fun q => z (by injection q))]; rfl) ⟨_, rfl, M.more nD (Same.refl _) (by omega) (hm x (List.mem_of_getElem? hx))⟩
      · rintro H2 ⟨ys, M, l, b⟩
        rw [List.length_map] at l
        have sm := sum_most ys b
        have jm := join_most (y := "") (by decide +kernel) ys b
        refine ⟨"", D, ys, rfl, rfl, .inl (SqL.of M.2), ?_, ?_⟩
        · show _ + ys.length * 0 ≤ 16777216
          omega
        · rw [TL.join_eq]
          exact k _ _ (S0.trans M.1) (by omega)
/-! ### lines -/
def spLineN : Sp := fun vs H Q _ => ∃ (x : Str) (v : V) (d : PyData), vs = [.str x, v] ∧ x.length ≤ 20 ∧ Dq H v d ∧ IntsD 20 d ∧ SomeText 600 H Q
abbrev nLineN : List Str := ["kind", "numbers", "number"]
theorem scLineN : FnScope nLineN ["kind", "numbers"] (defScope sLineN) := ⟨rfl, rfl, rfl, by decide +kernel, rfl, by decide +kernel, by decide +kernel⟩
theorem ok_lineN {f : Addr} {fd : FuncData} (F : Fun K "line_of_numbers" "line_of_numbers" sLineN f fd) (G1 : FnOk P w K mg base CX0 1 g1 d1 ["number"] spNumW) (c1 : Cal K mg "number_word" g1 d1 ["number"]) : FnOk P w K mg base CX0 2 f fd ["kind", "numbers"] spLineN := by
  refine F.ok scLineN (fun vs H Q E h => ?_) (fun cdv A outer s H vs Q E hr h => ?_)
  · obtain ⟨x, v, d, rfl, _⟩ := h
    rfl
  · obtain ⟨x, v, d, rfl, lx0, hd, ⟨ns, rfl, ln, hn⟩, k⟩ := h
    have nd := scLineN.nd
    refine ⟨_, pss_one (ps_ret (pe_join pe_str (pe_op op_cat (pe_lst (pa_cons (pv 0) pa_nil)) (pe_lc (own := [("number", 2)]) (g := gName 2) (tt := tYes) rfl nd (pi_tup (pv 1)) (blkOk_by (N := nLineN) (sc := defScope sLineN) (by decide +kernel)) (fun _ _ _ _ _ => pg_name (i := 2) nd rfl (.inl rfl)) (fun _ _ _ _ _ => pts_nil)
        (fun _ _ _ _ _ => pe_call G1 hr (by rfl) c1.m c1.k c1.b .nil pass0 (pa_cons (pv 2) pa_nil)))))), ?_⟩
    obtain ⟨a, xs, rfl, ea, qa⟩ := tup_at hd
    have lx : xs.length = ns.length := by rw [dq_len qa, List.length_map]
    refine ⟨⟨_, rfl⟩, _, rfl, (by show 1 ≤ sizeLine; decide), fun b nb => ?_⟩
    have S0 := same_new (o := .lst [.str x]) nb
    have hb : upd H b (.lst [.str x]) b = some (.lst [.str x]) := upd_same
    revert S0 hb
    generalize upd H b (.lst [.str x]) = H1
    intro S0 hb
    have ea1 := S0 _ _ ea
    refine ⟨_, rfl, a, rfl, ⟨_, SqT.of ea1⟩, fun D nD => ?_⟩
    refine lc_tup (K := K) (a := a) (xs := xs) (fun i H2 => StrsTo H1 D 24 i H2) (.start nD) (fun i H2 _ M => SqT.of (M.s _ _ ea1)) ?_ ?_
    · rintro i y H2 hy M
      obtain ⟨d', hd', hq⟩ := DqAll.at qa hy
      have hi : i < xs.length := (List.getElem?_eq_some_iff.mp hy).1
      obtain ⟨n, hn', rfl⟩ : ∃ n, ns[i]? = some n ∧ PyData.int n = d' := by
        rw [List.getElem?_map] at hd'
        cases e : ns[i]? with
        | none =>
          rw [e] at hd'
          cases hd'
        | some n =>
          rw [e] at hd'
          exact ⟨n, rfl, Option.some.inj hd'⟩
      cases hq
      exact ⟨rfl, _, rfl, n, rfl, hn n (List.mem_of_getElem? hn'), fun H3 y S3 ly => M.more nD S3 (by omega) ly⟩
    · rintro H2 ⟨ys, M, l, b'⟩
      have sz := sizeLine_eq
      have all : ∀ z ∈ x :: ys, z.length ≤ 24 := fun z hz => by
        rcases List.mem_cons.mp hz with rfl | hz
        · omega
        · exact b' z hz
      have sm := sum_most (x :: ys) all
      have jm := join_most (y := " ") (by decide +kernel) (x :: ys) all
      rw [List.length_cons] at sm jm
      refine ⟨b, D, _, _, rfl, rfl, M.1 _ _ hb, M.2, by rw [List.length_map, List.length_singleton]; omega, fun r nr => ?_⟩
      refine ⟨" ", r, x :: ys, rfl, rfl, .inl (SqL.of upd_same), ?_, ?_⟩
      · show _ + (ys.length + 1) * 1 ≤ 16777216
        omega
      · rw [TL.join_eq]
        exact k _ _ ((S0.trans M.1).trans (same_new nr)) (by omega)
end
end KL
set_option Elab.async false
set_option linter.all false
set_option maxRecDepth 100000
set_option maxHeartbeats 8000000
namespace KL
open PySem L2 PySem.KX PySem.Spec PyProof.Rows
/-! ### the lines of arrows and tests -/
structure ArrD (r : Row) : Prop where
  i : okI r.1
  l : r.2.1.length ≤ 1
  e : ∃ (t : Int) (fs : List PyData) (ms : List Str), r.2.2 = [.int t, .tuple fs, .tuple (ms.map .str)] ∧ okI t ∧ fs.length ≤ 3 ∧ (∀ f ∈ fs, IntsD 4 f) ∧ ms.length ≤ 4 ∧ ∀ x ∈ ms, x.length ≤ 1
structure TstD (r : Row) : Prop where
  i : okI r.1
  l : r.2.1.length ≤ 1
  e : ∃ (f : PyData) (lo hi : Int), r.2.2 = [f, .int lo, .int hi] ∧ IntsD 4 f ∧ okI lo ∧ okI hi
def spLineA : Sp := fun vs H Q _ => ∃ (v : V) (r : Row), vs = [v] ∧ Dq H v (rowE r) ∧ ArrD r ∧ SomeText 600 H Q
def spLineT : Sp := fun vs H Q _ => ∃ (v : V) (r : Row), vs = [v] ∧ Dq H v (rowE r) ∧ TstD r ∧ SomeText 600 H Q
theorem okI_lg {i : Int} (h : okI i) : i.natAbs.log2 < 1920 := by
  unfold okI at h
  omega
theorem okI_len {i : Int} (h : okI i) : (Str.ofString (toString i)).length ≤ 22 := by
  have := len_toString i
  unfold okI at h
  omega
section
variable {P : Program} {w : World} {K : PySem.W.Frag} {mg : Str → Option Value} {base : Heap} {g1 g2 g3 : Addr} {d1 d2 d3 : FuncData}
abbrev nLineA : List Str := ["arrow", "source", "deed", "target", "forms", "marks", "word", "form"]
theorem scLineA : FnScope nLineA ["arrow"] (defScope sLineA) := ⟨rfl, rfl, rfl, by decide +kernel, rfl, by decide +kernel, by decide +kernel⟩
theorem ok_lineA {f : Addr} {fd : FuncData} (F : Fun K "line_of_arrow" "line_of_arrow" sLineA f fd) (G1 : FnOk P w K mg base CX0 2 g1 d1 ["form"] spFormW) (c1 : Cal K mg "form_word" g1 d1 ["form"]) (G2 : FnOk P w K mg base CX0 1 g2 d2 ["marks"] spMarksW) (c2 : Cal K mg "marks_word" g2 d2 ["marks"]) : FnOk P w K mg base CX0 3 f fd ["arrow"] spLineA := by
  refine F.ok scLineA (fun vs H Q E h => ?_) (fun cdv A outer s H vs Q E hr h => ?_)
  · obtain ⟨v, r, rfl, _⟩ := h
    rfl
  · obtain ⟨v, r, rfl, hd, hr', k⟩ := h
    have nd := scLineA.nd
    have r1 : Room 1 _ := hr.mono (by decide)
    obtain ⟨i, l, rest⟩ := r
    obtain ⟨oi, ol, t, fs, ms, e, ot, lf, hf, lm, hm⟩ := hr'
    have e : rest = [.int t, .tuple fs, .tuple (ms.map .str)] := e
    subst e
    have oi : okI i := oi
    have ol : l.length ≤ 1 := ol
    refine ⟨_, C8.pss_cut (ps_asg (pv 0) (pg_tup rfl (pgs_cons (pg_name (i := 1) nd rfl (.inl rfl)) (pgs_cons (pg_name (i := 2) nd rfl (.inl rfl)) (pgs_cons (pg_name (i := 3) nd rfl (.inl rfl)) (pgs_cons (pg_name (i := 4) nd rfl (.inl rfl)) (pgs_cons (pg_name (i := 5) nd rfl (.inl rfl)) pgs_nil)))))))
      (C8.pss_cut (ps_set (i := 6) nd rfl (.inl rfl) (pe_join pe_str (pe_lc (own := [("form", 7)]) (g := gName 7) (tt := tYes) rfl nd (pi_tup (pv 4)) (blkOk_by (N := nLineA) (sc := defScope sLineA) (by decide +kernel)) (fun _ _ _ _ _ => pg_name (i := 7) nd rfl (.inl rfl)) (fun _ _ _ _ _ => pts_nil)
        (fun _ _ _ _ _ => pe_call G1 hr (by rfl) c1.m c1.k c1.b .nil pass0 (pa_cons (pv 7) pa_nil)))))
      (pss_one (ps_ret (pe_joined (.cons pe_str (.cons (pe_fmt (pv 1)) (.cons pe_str (.cons (pe_fmt (pv 2)) (.cons pe_str (.cons (pe_fmt (pv 3)) (.cons pe_str (.cons (pe_fmt (pv 6)) (.cons pe_str (.cons (pe_fmt (pe_call G2 r1 (by rfl) c2.m c2.k c2.b .nil pass0 (pa_cons (pv 5) pa_nil))) .nil)))))))))))))), ?_⟩
    obtain ⟨a, xs, rfl, ea, qa⟩ := tup_at hd
    cases qa with | cons p0 qa =>
    cases qa with | cons p1 qa =>
    cases qa with | cons p2 qa =>
    cases qa with | @cons u3 _ _ _ p3 qa =>
    cases qa with | @cons u4 _ _ _ p4 qa =>
    cases qa
    cases p0
    cases p1
    cases p2
    refine ⟨fun σ H' => σ = [some (.ref a), some (.int i), some (.str l), some (.int t), some u3, some u4, none, none] ∧ H' = H, ?_, ?_⟩
    · exact ⟨_, rfl, a, _, rfl, SqT.of ea, rfl, _, _, rfl, _, _, rfl, _, _, rfl, _, _, rfl, _, _, rfl, rfl, rfl, rfl⟩
    rintro σ1 H1 ⟨rfl, rfl⟩
    refine ⟨fun σ H' => ∃ wd : Str, wd.length ≤ 310 ∧ σ = [some (.ref a), some (.int i), some (.str l), some (.int t), some u3, some u4, some (.str wd), none] ∧ Same H1 H', ?_, ?_⟩
    · obtain ⟨b, ys, rfl, eb, qb⟩ := tup_at p3
      have ly : ys.length = fs.length := dq_len qb
      refine ⟨⟨_, rfl⟩, _, rfl, b, rfl, ⟨_, SqT.of eb⟩, fun D nD => ?_⟩
      refine lc_tup (K := K) (a := b) (xs := ys) (fun i H2 => StrsTo H1 D 100 i H2) (.start nD) (fun i H2 _ M => SqT.of (M.s _ _ eb)) ?_ ?_
      · rintro j y H2 hy M
        obtain ⟨d', hd', hq⟩ := DqAll.at qb hy
        have hj : j < ys.length := (List.getElem?_eq_some_iff.mp hy).1
        exact ⟨rfl, _, rfl, y, d', rfl, Dq.same M.s _ _ hq, hf d' (List.mem_of_getElem? hd'), fun H3 y S3 ly => M.more nD S3 (by omega) ly⟩
      · rintro H2 ⟨ys, M, ll, b'⟩
        have sm := sum_most ys b'
        have jm := join_most (y := "/") (by decide +kernel) ys b'
        refine ⟨"/", D, ys, rfl, rfl, .inl (SqL.of M.2), ?_, ?_⟩
        · show _ + ys.length * 1 ≤ 16777216
          omega
        · rw [TL.join_eq]
          exact ⟨_, by omega, rfl, M.1⟩
    rintro σ2 H2 ⟨wd, lw, rfl, S2⟩
    have sz := sizeLine_eq
    have c0 : (Str.empty).length = 0 := rfl
    have c1' : ("arrow " : Str).length = 6 := by decide +kernel
    have c2' : (" " : Str).length = 1 := by decide +kernel
    have li := okI_len oi
    have lt := okI_len ot
    refine ⟨_, rfl, by simp only [strLen_append]; omega, _, rfl, .inr ⟨i, rfl, okI_lg oi, _, rfl, by simp only [strLen_append]; omega, ?_⟩⟩
    refine ⟨_, rfl, by simp only [strLen_append]; omega, _, rfl, .inl ⟨l, rfl, by have ol : l.length ≤ 1 := ol; omega, _, rfl, by have ol : l.length ≤ 1 := ol; simp only [strLen_append]; omega, ?_⟩⟩
    have ol : l.length ≤ 1 := ol
    refine ⟨_, rfl, by simp only [strLen_append]; omega, _, rfl, .inr ⟨t, rfl, okI_lg ot, _, rfl, by simp only [strLen_append]; omega, ?_⟩⟩
    refine ⟨_, rfl, by simp only [strLen_append]; omega, _, rfl, .inl ⟨wd, rfl, by omega, _, rfl, by simp only [strLen_append]; omega, ?_⟩⟩
    refine ⟨_, rfl, by simp only [strLen_append]; omega, _, rfl, u4, ms, rfl, Dq.same S2 _ _ p4, lm, hm, fun H3 y S3 ly => .inl ⟨y, rfl, by omega, _, rfl, by simp only [strLen_append]; omega, ?_⟩⟩
    exact k _ _ (S2.trans S3) (by simp only [strLen_append]; omega)
abbrev nLineT : List Str := ["test", "source", "deed", "form", "low", "high"]
theorem scLineT : FnScope nLineT ["test"] (defScope sLineT) := ⟨rfl, rfl, rfl, by decide +kernel, rfl, by decide +kernel, by decide +kernel⟩
theorem ok_lineT {f : Addr} {fd : FuncData} (F : Fun K "line_of_test" "line_of_test" sLineT f fd) (G1 : FnOk P w K mg base CX0 2 g1 d1 ["form"] spFormW) (c1 : Cal K mg "form_word" g1 d1 ["form"]) (G2 : FnOk P w K mg base CX0 1 g2 d2 ["number"] spNumW) (c2 : Cal K mg "number_word" g2 d2 ["number"]) : FnOk P w K mg base CX0 3 f fd ["test"] spLineT := by
  refine F.ok scLineT (fun vs H Q E h => ?_) (fun cdv A outer s H vs Q E hr h => ?_)
  · obtain ⟨v, r, rfl, _⟩ := h
    rfl
  · obtain ⟨v, r, rfl, hd, hr', k⟩ := h
    have nd := scLineT.nd
    have r1 : Room 1 _ := hr.mono (by decide)
    obtain ⟨i, l, rest⟩ := r
    obtain ⟨oi, ol, fo, lo, hi, e, hf, o1, o2⟩ := hr'
    have e : rest = [fo, .int lo, .int hi] := e
    subst e
    have oi : okI i := oi
    have ol : l.length ≤ 1 := ol
    refine ⟨_, C8.pss_cut (ps_asg (pv 0) (pg_tup rfl (pgs_cons (pg_name (i := 1) nd rfl (.inl rfl)) (pgs_cons (pg_name (i := 2) nd rfl (.inl rfl)) (pgs_cons (pg_name (i := 3) nd rfl (.inl rfl)) (pgs_cons (pg_name (i := 4) nd rfl (.inl rfl)) (pgs_cons (pg_name (i := 5) nd rfl (.inl rfl)) pgs_nil)))))))
      (pss_one (ps_ret (pe_joined (.cons pe_str (.cons (pe_fmt (pv 1)) (.cons pe_str (.cons (pe_fmt (pv 2)) (.cons pe_str (.cons (pe_fmt (pe_call G1 hr (by rfl) c1.m c1.k c1.b .nil pass0 (pa_cons (pv 3) pa_nil))) (.cons pe_str (.cons (pe_fmt (pe_call G2 r1 (by rfl) c2.m c2.k c2.b .nil pass0 (pa_cons (pv 4) pa_nil))) (.cons pe_str (.cons (pe_fmt (pe_call G2 r1 (by rfl) c2.m c2.k c2.b .nil pass0 (pa_cons (pv 5) pa_nil))) .nil))))))))))))), ?_⟩
    obtain ⟨a, xs, rfl, ea, qa⟩ := tup_at hd
    cases qa with | cons p0 qa =>
    cases qa with | cons p1 qa =>
    cases qa with | @cons u3 _ _ _ p2 qa =>
    cases qa with | cons p3 qa =>
    cases qa with | cons p4 qa =>
    cases qa
    cases p0
    cases p1
    cases p3
    cases p4
    refine ⟨fun σ H' => σ = [some (.ref a), some (.int i), some (.str l), some u3, some (.int lo), some (.int hi)] ∧ H' = H, ?_, ?_⟩
    · exact ⟨_, rfl, a, _, rfl, SqT.of ea, rfl, _, _, rfl, _, _, rfl, _, _, rfl, _, _, rfl, _, _, rfl, rfl, rfl, rfl⟩
    rintro σ1 H1 ⟨rfl, rfl⟩
    have sz := sizeLine_eq
    have c0 : (Str.empty).length = 0 := rfl
    have c1' : ("test " : Str).length = 5 := by decide +kernel
    have c2' : (" " : Str).length = 1 := by decide +kernel
    have li := okI_len oi
    have ol : l.length ≤ 1 := ol
    refine ⟨_, rfl, by simp only [strLen_append]; omega, _, rfl, .inr ⟨i, rfl, okI_lg oi, _, rfl, by simp only [strLen_append]; omega, ?_⟩⟩
    refine ⟨_, rfl, by simp only [strLen_append]; omega, _, rfl, .inl ⟨l, rfl, by omega, _, rfl, by simp only [strLen_append]; omega, ?_⟩⟩
    refine ⟨_, rfl, by simp only [strLen_append]; omega, _, rfl, u3, fo, rfl, p2, hf, fun H3 y3 S3 ly3 => .inl ⟨y3, rfl, by omega, _, rfl, by simp only [strLen_append]; omega, ?_⟩⟩
    refine ⟨_, rfl, by simp only [strLen_append]; omega, _, rfl, lo, rfl, o1, fun H4 y4 S4 ly4 => .inl ⟨y4, rfl, by omega, _, rfl, by simp only [strLen_append]; omega, ?_⟩⟩
    refine ⟨_, rfl, by simp only [strLen_append]; omega, _, rfl, hi, rfl, o2, fun H5 y5 S5 ly5 => .inl ⟨y5, rfl, by omega, _, rfl, by simp only [strLen_append]; omega, ?_⟩⟩
    exact k _ _ ((S3.trans S4).trans S5) (by simp only [strLen_append]; omega)
end
end KL
set_option Elab.async false
set_option linter.all false
set_option maxRecDepth 100000
set_option maxHeartbeats 16000000
namespace KL
open PySem L2 PySem.KX PySem.Spec PyProof.Rows
/-! ### the lines of looks -/
abbrev sLineL : Stmt := top 52
def LooksD (d : PyData) : Prop := ∃ rows, d = .tuple rows ∧ rows.length ≤ 3 ∧ ∀ row ∈ rows, ∃ cells, row = .tuple cells ∧ cells.length ≤ 3 ∧ ∀ c ∈ cells, ∃ fs, c = .tuple fs ∧ fs.length ≤ 20 ∧ ∀ f ∈ fs, IntsD 4 f
def spLineL : Sp := fun vs H Q _ => ∃ (v : V) (d : PyData), vs = [v] ∧ Dq H v d ∧ LooksD d ∧ ∀ H' q (ys : List Str), Same H H' → H' q = some (.lst (ys.map V.str)) → ys.length ≤ 9 → (∀ y ∈ ys, y.length ≤ 2500) → Q (.ref q) H'
def scopeOfLc : List Stmt → Scope
  | [.Return (some (.ListComp _ _ sc _)) _] => sc
  | _ => defScope sLineL
def tHead : TE := fun σ H Q => tJs [tC (.str "look "), tFmt (tVar 1), tC (.str " "), tFmt (tVar 3)] Str.empty σ H fun out H1 => Q (.str out) H1
def lookSc : Scope := scopeOfLc (defBody sLineL)
theorem pi_enumTB {X : Cx} {e : Expr} {ta : TA} {p pos tpos : Pos} {elts : List Expr} {kk : Nat} (K : PySem.W.Frag) (hK : X.K = K) (hg : Gl X "enumerate") (hm : X.mg "enumerate" = none) (ha : PA X [e] ta) (hs : starEach [e] X.env = [(false, eval e X.env)] := by rfl) :
    PI X (.Tuple elts kk tpos) (.Call (.Name "enumerate" p) [e] [] pos) (iEnumT K ta) := by
  rw [← hK]
  exact pi_enumT hg hm ha hs
def rJoin (K : PySem.W.Frag) : V → List V → Hp → VK → Prop := fun x xs H Q => ∃ a p, ∃ ys : List Str, x = .str a ∧ xs = [.ref p] ∧ (SqL K H p (ys.map V.str) ∨ SqT K H p (ys.map V.str)) ∧ (ys.map (·.length)).sum + ys.length * a.length ≤ 16777216 ∧ Q (.str (Txt.join a ys)) H
theorem pe_joinB {X : Cx} {o e : Expr} {to te : TE} {apos pos : Pos} (K : PySem.W.Frag) (hK : X.K = K) (ho : PE X o to) (he : PE X e te) (hs : starEach [e] X.env = [(false, eval e X.env)] := by rfl) (hbase : attributeBase o "join" X.env (eval o X.env) = eval o X.env := by rfl) (hline : (apos.endLine == pos.line) = true := by rfl) :
    PE X (.Call (.Attribute o "join" apos) [e] [] pos) (tM1 (rJoin K) to te) := by
  rw [← hK]
  exact pe_join ho he hs hbase hline
theorem StrsTo.mono {H0 H H' : Hp} {D : Addr} {B i j : Nat} (M : StrsTo H0 D B i H) (S : Same H H') (e : i ≤ j) : StrsTo H0 D B j H' := by
  obtain ⟨ys, M, l, b⟩ := M
  exact ⟨ys, ⟨M.1.trans S, S _ _ M.2⟩, by omega, b⟩
theorem okI_small {i : Int} (h0 : -1000 ≤ i) (h1 : i ≤ 1000) : okI i := by
  unfold okI
  have : i.natAbs < 2 ^ 10 := by omega
  by_cases z : i.natAbs = 0
  · rw [z]
    decide
  · have := (Nat.log2_lt z).mpr this
    omega
section
variable {P : Program} {w : World} {K : PySem.W.Frag} {mg : Str → Option Value} {base : Heap} {g1 g2 g3 : Addr} {d1 d2 d3 : FuncData}
abbrev nLineL : List Str := ["looks", "person", "row", "place", "forms", "form"]
theorem scLineL : FnScope nLineL ["looks"] (defScope sLineL) := ⟨rfl, rfl, rfl, by decide +kernel, rfl, by decide +kernel, by decide +kernel⟩
theorem ok_lineL {f : Addr} {fd : FuncData} (F : Fun K "lines_of_looks" "lines_of_looks" sLineL f fd) (T : TxtW mg) (G1 : FnOk P w K mg base CX0 2 g1 d1 ["form"] spFormW) (c1 : Cal K mg "form_word" g1 d1 ["form"]) : FnOk P w K mg base CX0 3 f fd ["looks"] spLineL := by
  refine F.ok scLineL (fun vs H Q E h => ?_) (fun cdv A outer s H vs Q E hr h => ?_)
  · obtain ⟨v, d, rfl, _⟩ := h
    rfl
  · obtain ⟨v, d, rfl, hd, hL, k⟩ := h
    have nd := scLineL.nd
    refine ⟨_, pss_one (ps_ret (pe_lc2 (own := [("person", 1), ("row", 2), ("place", 3), ("forms", 4)]) (vs1 := [3, 4]) (g := gTup K 2 (gCons (gName 1) (gCons (gName 2) gNil))) (tt := tYes) (g1 := gTup K 2 (gCons (gName 3) (gCons (gName 4) gNil))) (tt1 := tTest (tOp (rNilT K) (tVar 4) (tTup tNil))) rfl nd (pi_enumT (by rfl) T.enum (pa_cons (pv 0) pa_nil)) (blkOk_by (N := nLineL) (sc := defScope sLineL) (by decide +kernel)) (by decide)
        (fun _ _ _ _ _ => pg_tup rfl (pgs_cons (pg_name (i := 1) nd rfl (.inl rfl)) (pgs_cons (pg_name (i := 2) nd rfl (.inl rfl)) pgs_nil))) (fun _ _ _ _ _ => pts_nil)
        (fun _ _ _ _ _ => pi_enumTB K rfl (by rfl) T.enum (pa_cons (pv 2) pa_nil)) (fun _ _ _ _ _ => pg_tup rfl (pgs_cons (pg_name (i := 3) nd rfl (.inl rfl)) (pgs_cons (pg_name (i := 4) nd rfl (.inl rfl)) pgs_nil)))
        (fun _ _ _ _ _ => pts_one (pt_cmpR (op_neNilT hr.units) (pv 4) (pe_tup pa_nil) (nomark _)))
        (fun _ _ _ _ _ => pe_joinB K rfl pe_str (pe_op op_cat (pe_lst (pa_cons (te := tHead) (pe_joined (.cons pe_str (.cons (pe_fmt (pv 1)) (.cons pe_str (.cons (pe_fmt (pv 3)) .nil))))) pa_nil))
          (pe_lc (own := [("form", 5)]) (g := gName 5) (tt := tYes) rfl nd (pi_tupB K rfl (pv 4)) (blkOk_by (N := nLineL) (sc := lookSc) (by decide +kernel)) (fun _ _ _ _ _ => pg_name (i := 5) nd rfl (.inl rfl)) (fun _ _ _ _ _ => pts_nil)
            (fun _ _ _ _ _ => pe_call G1 hr (by rfl) c1.m c1.k c1.b .nil pass0 (pa_cons (pv 5) pa_nil))))))), ?_⟩
    obtain ⟨rows, rfl, lr, hrow⟩ := hL
    obtain ⟨a, xs, rfl, ea, qa⟩ := tup_at hd
    have lx : xs.length = rows.length := dq_len qa
    have sz := sizeLine_eq
    have c0 : (Str.empty).length = 0 := rfl
    have c1' : ("look " : Str).length = 5 := by decide +kernel
    have c2' : (" " : Str).length = 1 := by decide +kernel
    refine ⟨_, rfl, a, xs, rfl, SqT.of ea, fun D nD => ?_⟩
    refine walk_turns (walk_enumT (K := K) (a := a) (xs := xs)) (fun i H2 => StrsTo H D 2500 (3 * i) H2) (.start nD) (fun i H2 _ M => SqT.of (M.s _ _ ea)) ?_ ?_
    · rintro i y H2 H2' hi M ⟨T1, u1, row, rfl, nT1, rfl, e1, hrw⟩
      cases e1
      obtain ⟨d', hd', hq⟩ := DqAll.at qa hrw
      obtain ⟨cells, rfl, lc, hcell⟩ := hrow d' (List.mem_of_getElem? hd')
      have M := M.mono (same_new (o := .tup [.int (i : Nat), row]) nT1) (Nat.le_refl _)
      have gT : upd H2 T1 (.tup [.int (i : Nat), row]) T1 = some (.tup [.int (i : Nat), row]) := upd_same
      revert M gT
      generalize upd H2 T1 (.tup [.int (i : Nat), row]) = H3
      intro M gT
      refine ⟨T1, _, rfl, SqT.of gT, rfl, _, _, rfl, _, _, rfl, rfl, rfl, ?_⟩
      obtain ⟨b, ys, rfl, eb, qb⟩ := tup_at hq
      have lb : ys.length = cells.length := dq_len qb
      refine ⟨_, rfl, b, ys, rfl, SqT.of (M.s _ _ eb), ?_⟩
      refine walk_turns (walk_enumT (K := K) (a := b) (xs := ys)) (fun j H2 => StrsTo H D 2500 (3 * i + j) H2) M (fun j H2 _ M => SqT.of (M.s _ _ eb)) ?_ (fun H2 M => M.mono (Same.refl _) (by omega))
      rintro j y H4 H4' hj M ⟨T2, u2, cell, rfl, nT2, rfl, e2, hcl⟩
      cases e2
      obtain ⟨d2, hd2, hq2⟩ := DqAll.at qb hcl
      obtain ⟨fs, rfl, lf, hfs⟩ := hcell d2 (List.mem_of_getElem? hd2)
      have M := M.mono (same_new (o := .tup [.int (j : Nat), cell]) nT2) (Nat.le_refl _)
      have gT2 : upd H4 T2 (.tup [.int (j : Nat), cell]) T2 = some (.tup [.int (j : Nat), cell]) := upd_same
      revert M gT2
      generalize upd H4 T2 (.tup [.int (j : Nat), cell]) = H5
      intro M gT2
      obtain ⟨c, zs, rfl, ec, qc⟩ := tup_at hq2
      have lz : zs.length = fs.length := dq_len qc
      refine ⟨T2, _, rfl, SqT.of gT2, rfl, _, _, rfl, _, _, rfl, rfl, rfl, ?_⟩
      refine ⟨_, rfl, (by show 0 ≤ sizeLine; decide), fun e0 ne0 => ⟨c, e0, zs, rfl, rfl, SqT.of (same_new ne0 _ _ (M.s _ _ ec)), SqT.of upd_same, _, rfl, ?_⟩⟩
      have M := M.mono (same_new (o := .tup []) ne0) (Nat.le_refl _)
      revert M
      generalize upd H5 e0 (.tup []) = H6
      intro M
      cases ez : zs.isEmpty with
      | true => exact iteNo rfl (M.mono (Same.refl _) (by omega))
      | false =>
        refine iteYes rfl ?_
        have oi : okI (i : Int) := okI_small (by omega) (by omega)
        have oj : okI (j : Int) := okI_small (by omega) (by omega)
        have li := okI_len oi
        have lj := okI_len oj
        refine ⟨⟨_, rfl⟩, _, rfl, by simp only [strLen_append]; omega, _, rfl, .inr ⟨_, rfl, okI_lg oi, _, rfl, by simp only [strLen_append]; omega, ?_⟩⟩
        refine ⟨_, rfl, by simp only [strLen_append]; omega, _, rfl, .inr ⟨_, rfl, okI_lg oj, _, rfl, by simp only [strLen_append]; omega, ?_⟩⟩
        have hh : (Str.empty ++ ("look " : Str) ++ Str.ofString (toString (i : Int)) ++ (" " : Str) ++ Str.ofString (toString (j : Int))).length ≤ 100 := by simp only [strLen_append]; omega
        refine ⟨(by show 1 ≤ sizeLine; decide), fun r nr => ?_⟩
        have S6 := same_new (o := .lst [.str (Str.empty ++ ("look " : Str) ++ Str.ofString (toString (i : Int)) ++ (" " : Str) ++ Str.ofString (toString (j : Int)))]) nr
        have hr6 : upd H6 r (.lst [.str (Str.empty ++ ("look " : Str) ++ Str.ofString (toString (i : Int)) ++ (" " : Str) ++ Str.ofString (toString (j : Int)))]) r = some (.lst [.str (Str.empty ++ ("look " : Str) ++ Str.ofString (toString (i : Int)) ++ (" " : Str) ++ Str.ofString (toString (j : Int)))]) := upd_same
        have hh := hh
        revert S6 hr6 hh
        generalize (Str.empty ++ ("look " : Str) ++ Str.ofString (toString (i : Int)) ++ (" " : Str) ++ Str.ofString (toString (j : Int))) = hd'
        generalize upd H6 r (.lst [.str hd']) = H7
        intro S6 hr6 hh
        have ec7 := S6 _ _ (M.s _ _ ec)
        refine ⟨_, rfl, c, rfl, ⟨_, SqT.of ec7⟩, fun D2 nD2 => ?_⟩
        refine lc_tup (K := K) (a := c) (xs := zs) (fun i H2 => StrsTo H7 D2 100 i H2) (.start nD2) (fun i H2 _ M => SqT.of (M.s _ _ ec7)) ?_ ?_
        · rintro k' y H8 hy M8
          obtain ⟨d3, hd3, hq3⟩ := DqAll.at qc hy
          have hk' : k' < zs.length := (List.getElem?_eq_some_iff.mp hy).1
          exact ⟨rfl, _, rfl, y, d3, rfl, Dq.same ((M.s.trans S6).trans M8.s) _ _ hq3, hfs d3 (List.mem_of_getElem? hd3), fun H9 y S9 ly => M8.more nD2 S9 (by omega) ly⟩
        · rintro H8 ⟨ws, M8, l8, b8⟩
          have all : ∀ z ∈ hd' :: ws, z.length ≤ 100 := fun z hz => by
            rcases List.mem_cons.mp hz with rfl | hz
            · exact hh
            · exact b8 z hz
          have sm := sum_most (hd' :: ws) all
          have jm := join_most (y := " ") (by decide +kernel) (hd' :: ws) all
          rw [List.length_cons] at sm jm
          refine ⟨r, D2, _, _, rfl, rfl, M8.1 _ _ hr6, M8.2, by rw [List.length_map, List.length_singleton]; omega, fun r2 nr2 => ?_⟩
          refine ⟨" ", r2, hd' :: ws, rfl, rfl, .inl (SqL.of upd_same), ?_, ?_⟩
          · show _ + (ws.length + 1) * 1 ≤ 16777216
            omega
          · rw [TL.join_eq]
            exact M.more nD ((S6.trans M8.1).trans (same_new nr2)) (by omega) (by omega)
    · rintro H2 ⟨ys, M, l, b⟩
      exact k _ _ ys M.1 M.2 (by omega) b
end
end KL
set_option Elab.async false
set_option linter.all false
set_option maxRecDepth 100000
set_option maxHeartbeats 16000000
namespace KL
open PySem L2 PySem.KX PySem.Spec PyProof.Rows
/-! ### the lines of a house, its text -/
abbrev sHouseL : Stmt := top 53
abbrev sHStr : Stmt := inClass (top 69) 2
theorem wd_item {ds : List PyData} {d : PyData} (h : wd (.tuple ds) ≤ 20) (m : d ∈ ds) : wd d ≤ 20 := by
  have h : max ds.length (wdAll ds) ≤ 20 := h
  have := wdAll_mem m
  omega
theorem wd_few {ds : List PyData} (h : wd (.tuple ds) ≤ 20) : ds.length ≤ 20 := by
  have h : max ds.length (wdAll ds) ≤ 20 := h
  omega
theorem wd_intI {i : Int} (h : wd (.int i) ≤ 20) : okI i := h
theorem all_ints : ∀ {ds : List PyData}, (∀ x ∈ ds, ∃ i, x = PyData.int i) → ∃ ns : List Int, ds = ns.map .int
  | [], _ => ⟨[], rfl⟩
  | d :: ds, h => by
    obtain ⟨i, rfl⟩ := h _ List.mem_cons_self
    obtain ⟨ns, rfl⟩ := all_ints fun x hx => h x (List.mem_cons_of_mem _ hx)
    exact ⟨i :: ns, rfl⟩
theorem form_intsD {n : Int} {f : PyData} (h : formD n f = true) (n3 : n ≤ 3) (hw : wd f ≤ 20) : IntsD 4 f := by
  obtain ⟨ds, rfl, hi⟩ := form_ints h
  obtain ⟨ns, rfl⟩ := all_ints hi
  have h1 : decide (((ns.map PyData.int).length : Int) = n + 1) = true := (Bool.and_eq_true_iff.mp h).1
  have h1 := of_decide_eq_true h1
  rw [List.length_map] at h1
  exact ⟨ns, rfl, by omega, fun i hi' => wd_intI (wd_item hw (List.mem_map.mpr ⟨i, hi', rfl⟩))⟩
theorem mark_strs : ∀ {ms : List PyData}, (∀ x ∈ ms, markD x = true) → ∃ ys : List Str, ms = ys.map .str ∧ ∀ y ∈ ys, y.length ≤ 1
  | [], _ => ⟨[], rfl, fun _ h => nomatch h⟩
  | d :: ms, h => by
    have hd := h d List.mem_cons_self
    obtain ⟨x, rfl⟩ := mark_str hd
    obtain ⟨ys, rfl, b⟩ := mark_strs fun z hz => h z (List.mem_cons_of_mem _ hz)
    refine ⟨x :: ys, rfl, fun y hy => ?_⟩
    rcases List.mem_cons.mp hy with rfl | hy
    · have hd : (letS y || ((("" : Str)) == y)) = true := hd
      rcases Bool.or_eq_true_iff.mp hd with z | z
      · exact Nat.le_of_eq (letter_len z)
      · rw [← eq_of_beq z]
        decide +kernel
    · exact b y hy
theorem RightA.arr {m : HM} {r : Row} (hR : RightH m) (h : RightA m r) (hw : wd (rowE r) ≤ 20) : ArrD r := by
  have q3 := hR.q3
  have n3 := hR.n3
  obtain ⟨t, fs, ms, e, t0, t1, fl, fa, ml, ma⟩ := h.e
  have s0 := h.s0
  have s1 := h.s1
  have g2 := hR.g2
  obtain ⟨ys, rfl, hy⟩ := mark_strs ma
  rw [List.length_map] at ml
  refine ⟨okI_small (by omega) (by omega), Nat.le_of_eq (letter_len (hR.letter h.l)), t, fs, ys, e, okI_small (by omega) (by omega), by omega, fun f hf => ?_, by omega, hy⟩
  refine form_intsD (fa f hf) (by omega) (wd_item (ds := fs) (wd_item hw ?_) hf)
  rw [e]
  simp
theorem RightT.tst {m : HM} {r : Row} (hR : RightH m) (hm : r ∈ m.tests) (h : RightT m r) (hw : wd (rowE r) ≤ 20) : TstD r := by
  have q3 := hR.q3
  have n3 := hR.n3
  obtain ⟨f, lo, hi, e, hf, le⟩ := h.e
  obtain ⟨y, hy, e1, e2⟩ := h.a
  have s0 := (hR.aa y hy).s0
  have s1 := (hR.aa y hy).s1
  have mem : ∀ d ∈ r.2.2, wd d ≤ 20 := fun d hd => wd_item hw (List.mem_cons_of_mem _ (List.mem_cons_of_mem _ hd))
  rw [e] at mem
  exact ⟨okI_small (by omega) (by omega), Nat.le_of_eq (letter_len (hR.letter (hR.testL hm))), f, lo, hi, e, form_intsD hf (by omega) (mem _ (by simp)), wd_intI (mem _ (by simp)), wd_intI (mem _ (by simp))⟩
theorem RightH.looksOk {m : HM} (hR : RightH m) (hF : FitH m) : LooksD m.looks := by
  have lk := hR.lk
  have hw : wd m.looks ≤ 20 := hF.at.h8.1.wd
  have p3 := hR.p3
  have q3 := hR.q3
  have n3 := hR.n3
  revert lk hw
  generalize m.looks = d
  intro lk hw
  have lk := Bool.and_eq_true_iff.mp (show (tupD m.people m.people d && (allD (tupD m.places m.places) d && allD (allD (formsD m.kit)) d)) = true from lk)
  obtain ⟨rows, rfl, l1, l2⟩ := tup_of lk.1
  have lk2 := Bool.and_eq_true_iff.mp lk.2
  have a1 := List.all_eq_true.mp (show rows.all (tupD m.places m.places) = true from lk2.1)
  have a2 := List.all_eq_true.mp (show rows.all (allD (formsD m.kit)) = true from lk2.2)
  refine ⟨rows, rfl, by omega, fun row hr => ?_⟩
  obtain ⟨cells, rfl, c1, c2⟩ := tup_of (a1 row hr)
  have a3 := List.all_eq_true.mp (show cells.all (formsD m.kit) = true from a2 _ hr)
  refine ⟨cells, rfl, by omega, fun c hc => ?_⟩
  have f1 := Bool.and_eq_true_iff.mp (show (isTupD c && allD (formD m.kit.n) c) = true from a3 c hc)
  obtain ⟨fs, rfl⟩ := isT_of f1.1
  have wc := wd_item (wd_item hw hr) hc
  refine ⟨fs, rfl, wd_few wc, fun f hf => ?_⟩
  exact form_intsD (List.all_eq_true.mp (show fs.all (formD m.kit.n) = true from f1.2) f hf) (by show (m.start.length : Int) ≤ 3; omega) (wd_item wc hf)
/-- some lines stand in the list at q -/
def Ls (H : Hp) (q : Addr) (n : Nat) : Prop := ∃ ys : List Str, H q = some (.lst (ys.map V.str)) ∧ ys.length ≤ n ∧ ∀ y ∈ ys, y.length ≤ 2500
theorem Ls.same {H H' : Hp} {q : Addr} {n : Nat} (h : Ls H q n) (S : Same H H') : Ls H' q n := by
  obtain ⟨ys, e, l, b⟩ := h
  exact ⟨ys, S _ _ e, l, b⟩
theorem Ls.more {H : Hp} {q : Addr} {n k : Nat} (h : Ls H q n) (e : n ≤ k) : Ls H q k := by
  obtain ⟨ys, e', l, b⟩ := h
  exact ⟨ys, e', by omega, b⟩
theorem cat_ls {H : Hp} {a b : Addr} {n k : Nat} {Q : VK} (ha : Ls H a n) (hb : Ls H b k) (few : n + k ≤ 1000) (q : ∀ H' p, Same H H' → Ls H' p (n + k) → Q (.ref p) H') : rCat (.ref a) (.ref b) H Q := by
  obtain ⟨ys, e1, l1, b1⟩ := ha
  obtain ⟨zs, e2, l2, b2⟩ := hb
  refine ⟨a, b, _, _, rfl, rfl, e1, e2, by rw [List.length_map, List.length_map, sizeLine_eq]; omega, fun p np => q _ p (same_new np) ⟨ys ++ zs, ?_, by rw [List.length_append]; omega, fun y hy => ?_⟩⟩
  · rw [upd_same, List.map_append]
  · rcases List.mem_append.mp hy with z | z
    · exact b1 y z
    · exact b2 y z
def spHouseL (C : Addr) : Sp := fun vs H Q _ => ∃ (x : Addr) (m : HM), vs = [.ref x] ∧ HsAt C H x m ∧ RightH m ∧ FitH m ∧ ∀ H' q, Same H H' → Ls H' q 60 → Q (.ref q) H'
def spHStr (C : Addr) : Sp := fun vs H Q _ => ∃ (x : Addr) (m : HM), vs = [.ref x] ∧ HsAt C H x m ∧ RightH m ∧ FitH m ∧ SomeText 200000 H Q
section
variable {P : Program} {w : World} {K : PySem.W.Frag} {mg : Str → Option Value} {base : Heap} {C g1 g2 g3 g4 : Addr} {d1 d2 d3 d4 : FuncData}
abbrev nHouseL : List Str := ["house", "deeds", "start", "ends", "arrows", "tests", "letter", "owner", "arrow", "test"]
theorem scHouseL : FnScope nHouseL ["house"] (defScope sHouseL) := ⟨rfl, rfl, rfl, by decide +kernel, rfl, by decide +kernel, by decide +kernel⟩
theorem scHStr : FnScope ["self"] ["self"] (defScope sHStr) := ⟨rfl, rfl, rfl, by decide +kernel, rfl, by decide +kernel, by decide +kernel⟩
theorem ok_hstr {f : Addr} {fd : FuncData} (F : Fun K "__str__" "House.__str__" sHStr f fd) (G1 : FnOk P w K mg base CX0 4 g1 d1 ["house"] (spHouseL C)) (c1 : Cal K mg "house_lines" g1 d1 ["house"]) : FnOk P w K mg base CX0 5 f fd ["self"] (spHStr C) := by
  refine F.ok scHStr (fun vs H Q E h => ?_) (fun cdv A outer s H vs Q E hr h => ?_)
  · obtain ⟨x, m, rfl, _⟩ := h
    rfl
  · obtain ⟨x, m, rfl, hx, hR, hF, k⟩ := h
    refine ⟨_, pss_one (ps_ret (pe_join pe_str (pe_call G1 hr (by rfl) c1.m c1.k c1.b .nil pass0 (pa_cons (pv 0) pa_nil)))), ?_⟩
    refine ⟨⟨_, rfl⟩, _, rfl, x, m, rfl, hx, hR, hF, fun H1 q S1 ⟨ys, e, l, b⟩ => ?_⟩
    have sm := sum_most ys b
    have jm := join_most (y := "\n") (by decide +kernel) ys b
    refine ⟨"\n", q, ys, rfl, rfl, .inl (SqL.of e), ?_, ?_⟩
    · show _ + ys.length * 1 ≤ 16777216
      omega
    · rw [TL.join_eq]
      exact k _ _ S1 (by omega)
theorem ok_houseL {f : Addr} {fd : FuncData} (F : Fun K "house_lines" "house_lines" sHouseL f fd) (T : TxtH K C) (G1 : FnOk P w K mg base CX0 2 g1 d1 ["kind", "numbers"] spLineN) (c1 : Cal K mg "line_of_numbers" g1 d1 ["kind", "numbers"]) (G2 : FnOk P w K mg base CX0 3 g2 d2 ["arrow"] spLineA) (c2 : Cal K mg "line_of_arrow" g2 d2 ["arrow"])
    (G3 : FnOk P w K mg base CX0 3 g3 d3 ["test"] spLineT) (c3 : Cal K mg "line_of_test" g3 d3 ["test"]) (G4 : FnOk P w K mg base CX0 3 g4 d4 ["looks"] spLineL) (c4 : Cal K mg "lines_of_looks" g4 d4 ["looks"]) : FnOk P w K mg base CX0 4 f fd ["house"] (spHouseL C) := by
  refine F.ok scHouseL (fun vs H Q E h => ?_) (fun cdv A outer s H vs Q E hr h => ?_)
  · obtain ⟨x, m, rfl, _⟩ := h
    rfl
  · obtain ⟨x, m, rfl, hx, hR, hF, k⟩ := h
    have nd := scHouseL.nd
    have r2 : Room 2 _ := hr.mono (by decide)
    refine ⟨_, C8.pss_cut (ps_setLc (i := 1) (own := [("letter", 6), ("owner", 7)]) (g := gTup K 2 (gCons (gName 6) (gCons (gName 7) gNil))) (tt := tYes) rfl nd rfl rfl (by rfl) (pi_tup (pe_fld (pv 0) (by rfl))) (blkOk_by (N := nHouseL) (sc := defScope sHouseL) (by decide +kernel)) (fun _ _ _ _ _ => pg_tup rfl (pgs_cons (pg_name (i := 6) nd rfl (.inl rfl)) (pgs_cons (pg_name (i := 7) nd rfl (.inl rfl)) pgs_nil)))
        (fun _ _ _ _ _ => pts_nil) (fun _ _ _ _ _ => pe_joined (.cons pe_str (.cons (pe_fmt (pv 6)) (.cons pe_str (.cons (pe_fmt (pv 7)) .nil))))))
      (C8.pss_cut (ps_set (i := 2) nd rfl (.inl rfl) (pe_lst (pa_cons (pe_call G1 r2 (by rfl) c1.m c1.k c1.b .nil pass0 (pa_cons pe_str (pa_cons (pe_fld (pv 0) (by rfl)) pa_nil))) (pa_cons (pe_joined (.cons pe_str (.cons (pe_fmt (pe_fld (pv 0) (by rfl))) .nil))) pa_nil))))
      (C8.pss_cut (ps_set (i := 3) nd rfl (.inl rfl) (pe_lst (pa_cons (pe_call G1 r2 (by rfl) c1.m c1.k c1.b .nil pass0 (pa_cons pe_str (pa_cons (pe_fld (pv 0) (by rfl)) pa_nil))) (pa_cons (pe_joined (.cons pe_str (.cons (pe_fmt (pe_fld (pv 0) (by rfl))) .nil))) pa_nil))))
      (C8.pss_cut (ps_setLc (i := 4) (own := [("arrow", 8)]) (g := gName 8) (tt := tYes) rfl nd rfl rfl (by rfl) (pi_tup (pe_fld (pv 0) (by rfl))) (blkOk_by (N := nHouseL) (sc := defScope sHouseL) (by decide +kernel)) (fun _ _ _ _ _ => pg_name (i := 8) nd rfl (.inl rfl)) (fun _ _ _ _ _ => pts_nil) (fun _ _ _ _ _ => pe_call G2 hr (by rfl) c2.m c2.k c2.b .nil pass0 (pa_cons (pv 8) pa_nil)))
      (C8.pss_cut (ps_setLc (i := 5) (own := [("test", 9)]) (g := gName 9) (tt := tYes) rfl nd rfl rfl (by rfl) (pi_tup (pe_fld (pv 0) (by rfl))) (blkOk_by (N := nHouseL) (sc := defScope sHouseL) (by decide +kernel)) (fun _ _ _ _ _ => pg_name (i := 9) nd rfl (.inl rfl)) (fun _ _ _ _ _ => pts_nil) (fun _ _ _ _ _ => pe_call G3 hr (by rfl) c3.m c3.k c3.b .nil pass0 (pa_cons (pv 9) pa_nil)))
      (pss_one (ps_ret (pe_op op_cat (pe_op op_cat (pe_op op_cat (pe_op op_cat (pe_op op_cat (pe_op op_cat (pe_lst (pa_cons (pe_joined (.cons pe_str (.cons (pe_fmt (pe_fld (pv 0) (by rfl))) .nil))) pa_nil)) (pv 1)) (pv 2)) (pv 3)) (pv 4)) (pv 5)) (pe_call G4 hr (by rfl) c4.m c4.k c4.b .nil pass0 (pa_cons (pe_fld (pv 0) (by rfl)) pa_nil))))))))), ?_⟩
    obtain ⟨dx, fs, v1, v2, v4, v6, v7, v8, hx, hf, q1, q2, q4, q6, q7, q8⟩ := hx
    obtain ⟨f0, f1, f2, f3, f4, f5, f6, f7, f8, fnm⟩ := hf
    have sz := sizeLine_eq
    have c0 : (Str.empty).length = 0 := rfl
    have p1 := hR.p1
    have p3 := hR.p3
    have pl1 := hR.q1
    have pl3 := hR.q3
    have g0 := hR.g0
    have g2' := hR.g2
    have hFp := hF.at
    -- the deeds
    refine ⟨fun σ H' => ∃ b1, σ = [some (.ref x), some (.ref b1), none, none, none, none, none, none, none, none] ∧ Same H H' ∧ Ls H' b1 5, ?_, ?_⟩
    · obtain ⟨a1, xs1, rfl, e1, qa1⟩ := tup_at q1
      have l1 : xs1.length = m.deeds.length := by rw [dq_len qa1, List.length_map]
      have d5 := hR.d5
      have w1 : ("deed " : Str).length = 5 := by decide +kernel
      have w2 : (" " : Str).length = 1 := by decide +kernel
      refine ⟨_, rfl, x, C, dx, _, _, rfl, hx, T.c, T.deeds, f1, a1, rfl, ⟨_, SqT.of e1⟩, fun D nD => ?_⟩
      refine lc_tup (K := K) (a := a1) (xs := xs1) (te := fun σ H Q => tJs [tC (.str "deed "), tFmt (tVar 6), tC (.str " "), tFmt (tVar 7)] Str.empty σ H fun out H1 => Q (.str out) H1) (fun i H2 => StrsTo H D 2500 i H2) (.start nD) (fun i H2 _ M => SqT.of (M.s _ _ e1)) ?_ ?_
      · rintro i y H2 hy M
        obtain ⟨d, c, hd, rfl, ec⟩ := deed_at qa1 hy
        have hi : i < m.deeds.length := (List.getElem?_eq_some_iff.mp hd).1
        obtain ⟨hl, o0, o1⟩ := hR.da d (List.mem_of_getElem? hd)
        have ll := letter_len hl
        have od : okI d.2 := okI_small (by omega) (by omega)
        have lo := okI_len od
        refine ⟨c, _, rfl, SqT.of (M.s _ _ ec), rfl, _, _, rfl, _, _, rfl, rfl, rfl, _, rfl, by simp only [strLen_append]; omega, _, rfl, .inl ⟨d.1, rfl, by omega, _, rfl, by simp only [strLen_append]; omega, _, rfl, by simp only [strLen_append]; omega, _, rfl, .inr ⟨d.2, rfl, okI_lg od, _, rfl, by simp only [strLen_append]; omega, ?_⟩⟩⟩
        exact M.more nD (Same.refl _) (by omega) (by simp only [strLen_append]; omega)
      · rintro H2 ⟨ys, M, l, b⟩
        exact ⟨D, rfl, M.1, ys, M.2, by omega, b⟩
    rintro σ1 H1 ⟨b1, rfl, S1, L1⟩
    -- start, places
    have two : ∀ {H2 : Hp} {y z : Str} (n1 : y.length ≤ 2500) (n2 : z.length ≤ 2500) {q : Addr}, H2 q = none → Ls (upd H2 q (.lst [.str y, .str z])) q 2 := fun n1 n2 _ nq => ⟨[_, _], upd_same, Nat.le_refl _, fun u hu => by
      simp only [List.mem_cons, List.not_mem_nil, or_false] at hu
      rcases hu with rfl | rfl
      · exact n1
      · exact n2⟩
    refine ⟨fun σ H' => ∃ b2, σ = [some (.ref x), some (.ref b1), some (.ref b2), none, none, none, none, none, none, none] ∧ Same H H' ∧ Ls H' b1 5 ∧ Ls H' b2 2, ?_, ?_⟩
    · have o3 : okI m.places := okI_small (by omega) (by omega)
      have l3 := okI_len o3
      have w1 : ("places " : Str).length = 7 := by decide +kernel
      have i2 : IntsD 20 (.tuple (m.start.map .int)) := ⟨m.start, rfl, by have := hR.n3; omega, fun i hi => wd_intI (wd_item hFp.h2.1.wd (List.mem_map.mpr ⟨i, hi, rfl⟩))⟩
      refine ⟨_, rfl, x, C, dx, _, _, rfl, S1 _ _ hx, T.c, T.start, f2, "start", v2, _, rfl, by decide +kernel, Dq.same S1 _ _ q2, i2, fun H2 y S2 ly => ?_⟩
      refine ⟨_, rfl, by simp only [strLen_append]; omega, _, rfl, x, C, dx, _, _, rfl, (S1.trans S2) _ _ hx, T.c, T.places, f3, .inr ⟨m.places, rfl, okI_lg o3, _, rfl, by simp only [strLen_append]; omega, ?_⟩⟩
      refine ⟨(by show 2 ≤ sizeLine; decide), fun q nq => ⟨q, rfl, (S1.trans S2).trans (same_new nq), L1.same (S2.trans (same_new nq)), two (by omega) (by simp only [strLen_append]; omega) nq⟩⟩
    clear S1 L1
    rintro σ2 H2 ⟨b2, rfl, S1, L1, L2'⟩
    -- ends, logs
    refine ⟨fun σ H' => ∃ b3, σ = [some (.ref x), some (.ref b1), some (.ref b2), some (.ref b3), none, none, none, none, none, none] ∧ Same H H' ∧ Ls H' b1 5 ∧ Ls H' b2 2 ∧ Ls H' b3 2, ?_, ?_⟩
    · have o3 : okI m.logs := okI_small (by omega) (by omega)
      have l3 := okI_len o3
      have w1 : ("logs " : Str).length = 5 := by decide +kernel
      have i2 : IntsD 20 (.tuple (m.ends.map .int)) := ⟨m.ends, rfl, by have := wd_few hFp.h4.1.wd; rw [List.length_map] at this; exact this, fun i hi => wd_intI (wd_item hFp.h4.1.wd (List.mem_map.mpr ⟨i, hi, rfl⟩))⟩
      refine ⟨_, rfl, x, C, dx, _, _, rfl, S1 _ _ hx, T.c, T.ends, f4, "ends", v4, _, rfl, by decide +kernel, Dq.same S1 _ _ q4, i2, fun H2 y S2 ly => ?_⟩
      refine ⟨_, rfl, by simp only [strLen_append]; omega, _, rfl, x, C, dx, _, _, rfl, (S1.trans S2) _ _ hx, T.c, T.logs, f5, .inr ⟨m.logs, rfl, okI_lg o3, _, rfl, by simp only [strLen_append]; omega, ?_⟩⟩
      refine ⟨(by show 2 ≤ sizeLine; decide), fun q nq => ⟨q, rfl, (S1.trans S2).trans (same_new nq), L1.same (S2.trans (same_new nq)), L2'.same (S2.trans (same_new nq)), two (by omega) (by simp only [strLen_append]; omega) nq⟩⟩
    clear S1 L1 L2'
    rintro σ3 H3 ⟨b3, rfl, S1, L1, L2', L3⟩
    -- the arrows
    refine ⟨fun σ H' => ∃ b4, σ = [some (.ref x), some (.ref b1), some (.ref b2), some (.ref b3), some (.ref b4), none, none, none, none, none] ∧ Same H3 H' ∧ Ls H' b4 20, ?_, ?_⟩
    · obtain ⟨a6, xs6, rfl, e6, qa6⟩ := tup_at q6
      have l6 : xs6.length = m.arrows.length := by rw [dq_len qa6, List.length_map]
      have few := few_of hFp.h6
      refine ⟨_, rfl, x, C, dx, _, _, rfl, S1 _ _ hx, T.c, T.arrows, f6, a6, rfl, ⟨_, SqT.of (S1 _ _ e6)⟩, fun D nD => ?_⟩
      refine lc_tup (K := K) (a := a6) (xs := xs6) (fun i H2 => StrsTo H3 D 2500 i H2) (.start nD) (fun i H2 _ M => SqT.of (M.s _ _ (S1 _ _ e6))) ?_ ?_
      · rintro i y H4 hy M
        obtain ⟨d', hd', hq⟩ := DqAll.at qa6 hy
        have hi : i < xs6.length := (List.getElem?_eq_some_iff.mp hy).1
        have hmem := List.mem_of_getElem? hd'
        obtain ⟨r, hr', rfl⟩ := List.mem_map.mp hmem
        exact ⟨rfl, _, rfl, y, r, rfl, Dq.same (S1.trans M.s) _ _ hq, (hR.aa r hr').arr hR (wd_item hFp.h6.1.wd hmem), fun H5 y S5 ly => M.more nD S5 (by omega) (by omega)⟩
      · rintro H4 ⟨ys, M, l, b⟩
        exact ⟨D, rfl, M.1, ys, M.2, by omega, b⟩
    rintro σ4 H4 ⟨b4, rfl, S4, L4⟩
    have S14 := S1.trans S4
    have L1 := L1.same S4
    have L2' := L2'.same S4
    have L3 := L3.same S4
    -- the tests
    refine ⟨fun σ H' => ∃ b5, σ = [some (.ref x), some (.ref b1), some (.ref b2), some (.ref b3), some (.ref b4), some (.ref b5), none, none, none, none] ∧ Same H4 H' ∧ Ls H' b5 20, ?_, ?_⟩
    · obtain ⟨a7, xs7, rfl, e7, qa7⟩ := tup_at q7
      have l7 : xs7.length = m.tests.length := by rw [dq_len qa7, List.length_map]
      have few := few_of hFp.h7
      refine ⟨_, rfl, x, C, dx, _, _, rfl, S14 _ _ hx, T.c, T.tests, f7, a7, rfl, ⟨_, SqT.of (S14 _ _ e7)⟩, fun D nD => ?_⟩
      refine lc_tup (K := K) (a := a7) (xs := xs7) (fun i H2 => StrsTo H4 D 2500 i H2) (.start nD) (fun i H2 _ M => SqT.of (M.s _ _ (S14 _ _ e7))) ?_ ?_
      · rintro i y H5 hy M
        obtain ⟨d', hd', hq⟩ := DqAll.at qa7 hy
        have hi : i < xs7.length := (List.getElem?_eq_some_iff.mp hy).1
        have hmem := List.mem_of_getElem? hd'
        obtain ⟨r, hr', rfl⟩ := List.mem_map.mp hmem
        exact ⟨rfl, _, rfl, y, r, rfl, Dq.same (S14.trans M.s) _ _ hq, (hR.ta r hr').tst hR hr' (wd_item hFp.h7.1.wd hmem), fun H5 y S5 ly => M.more nD S5 (by omega) (by omega)⟩
      · rintro H5 ⟨ys, M, l, b⟩
        exact ⟨D, rfl, M.1, ys, M.2, by omega, b⟩
    rintro σ5 H5 ⟨b5, rfl, S5, L5⟩
    have S15 := S14.trans S5
    have L1 := L1.same S5
    have L2' := L2'.same S5
    have L3 := L3.same S5
    have L4 := L4.same S5
    have o0 : okI m.people := okI_small (by omega) (by omega)
    have l0 := okI_len o0
    have w1 : ("people " : Str).length = 7 := by decide +kernel
    refine ⟨_, rfl, by simp only [strLen_append]; omega, _, rfl, x, C, dx, _, _, rfl, S15 _ _ hx, T.c, T.people, f0, .inr ⟨m.people, rfl, okI_lg o0, _, rfl, by simp only [strLen_append]; omega, ?_⟩⟩
    refine ⟨(by show 1 ≤ sizeLine; decide), fun q nq => ?_⟩
    have S6 := same_new (o := .lst [.str (Str.empty ++ ("people " : Str) ++ Str.ofString (toString m.people))]) nq
    have L0 : Ls (upd H5 q (.lst [.str (Str.empty ++ ("people " : Str) ++ Str.ofString (toString m.people))])) q 1 := ⟨[_], upd_same, Nat.le_refl _, fun u hu => by
      rw [List.mem_singleton.mp hu]
      simp only [strLen_append]
      omega⟩
    revert S6 L0
    generalize upd H5 q (.lst [.str (Str.empty ++ ("people " : Str) ++ Str.ofString (toString m.people))]) = H6
    intro S6 L0
    refine ⟨_, rfl, cat_ls L0 (L1.same S6) (by decide) fun H7 r1 S7 M1 => ?_⟩
    have T7 := S6.trans S7
    refine ⟨_, rfl, cat_ls M1 (L2'.same T7) (by decide) fun H8 r2 S8 M2 => ?_⟩
    have T8 := T7.trans S8
    refine ⟨_, rfl, cat_ls M2 (L3.same T8) (by decide) fun H9 r3 S9 M3 => ?_⟩
    have T9 := T8.trans S9
    refine ⟨_, rfl, cat_ls M3 (L4.same T9) (by decide) fun H10 r4 S10 M4 => ?_⟩
    have T10 := T9.trans S10
    refine ⟨_, rfl, cat_ls M4 (L5.same T10) (by decide) fun H11 r5 S11 M5 => ?_⟩
    have T11 := T10.trans S11
    have U := S15.trans T11
    refine ⟨_, rfl, x, C, dx, _, _, rfl, U _ _ hx, T.c, T.looks, f8, v8, m.looks, rfl, Dq.same U _ _ q8, hR.looksOk hF, fun H12 r6 ys S12 e12 l12 b12 => ?_⟩
    refine cat_ls (M5.same S12) ⟨ys, e12, l12, b12⟩ (by decide) fun H13 r7 S13 M7 => ?_
    exact k _ _ ((U.trans S12).trans S13) (M7.more (by decide))
end
end KL
set_option Elab.async false
set_option linter.all false
set_option maxRecDepth 100000
set_option maxHeartbeats 8000000
namespace KL
open PySem L2 PySem.KX PySem.Spec PyProof.Rows
/-! ### str(x); renamed and renamed back -/
section
variable {X : Cx} {pins : List (Addr × Obj)} {σ : L2.St} {H : Hp} {s : Shared} {CX : CXT} {n : Nat} {C f : Addr} {fd : FuncData} {ps : List Str} {sp : Sp} {E : XK}
theorem own_callS (F : FnOk X.prog X.w X.K X.mg X.base CX n f fd ps sp) (hb : L2.Binds X.K fd ps []) (hx : PassesAt CX X σ E) {A : Around} (sb : Sub X n A) (I : Inv X pins σ H s) {us : List Value} {vs : List V} {Q : VK} (r : Vals vs us) (h : sp vs H Q E) :
    wpAny (model X.prog X.w) A (call (.ref f) us) (EP X pins σ Q) X.xe s := by
  have e0 : Env0 X.prog X.w X.K X.mg X.base A X.stack s H := by
    have e := I.env0
    exact ⟨by rw [sb.fr]; exact e.frames, e.mod, e.bs, e.bsz, e.funs, e.frf, e.hok, e.bare⟩
  have hl := F.len _ _ _ _ h
  have b := hb s us I.kIn (by rw [List.append_nil, ← hl]; exact r.length.symm)
  rw [List.append_nil] at b
  refine wpAny_call (codeAny_mono (F.run A X.stack s H ⟨us, []⟩ us vs _ E sb.room e0 b r h) fun r s' hq => ?_)
  cases r with
  | error e => exact hx pins H s e s' I hq
  | ok fl =>
    cases fl with
    | ret w => exact I.after hq
    | next => exact False.elim hq
    | brk => exact False.elim hq
    | cont => exact False.elim hq
theorem cr_strOwn (F : FnOk X.prog X.w X.K X.mg X.base CX n f fd ps sp) (hs : PySem.W.findIn X.K (.ref C) "__str__" = some (some (.ref f))) (hf : PySem.W.isFn X.K (.ref f) = true) (hb : L2.Binds X.K fd ps []) (hx : ∀ σ, PassesAt CX X σ E) (hr : Room (n + 2) X.A) :
    CallR X (.type "str") (fun vs H Q => ∃ a dx fs, vs = [V.ref a] ∧ H a = some (.ins C dx fs) ∧ sp [.ref a] H (fun v H' => ∃ y, v = .str y ∧ Q (.str y) H') E) := by
  intro pins s σ H xs us Q I r h
  obtain ⟨a, dx, fs, rfl, ha, h⟩ := h
  obtain ⟨u, rfl, ru⟩ := vals1 r
  cases ru
  obtain ⟨mA, J, _⟩ := ins_get I.hok ha
  obtain ⟨od, J, _⟩ := J.look
  have hr2 : Room (n + 1) X.A.in1 := hr.in1
  have hr3 : Room n X.A.in1.in1 := hr2.in1
  refine PySem.W.kso_call hr3.units0 I.kIn J hs hf (wpAny_mono (own_callS F hb (hx σ) (A := X.A.in1.in1) ⟨hr3, rfl⟩ I (us := [.ref a]) (vs := [V.ref a]) (.cons (show RelV (V.ref a) (Value.ref a) from rfl) .nil) h) (fun r s' z => ?_) fun _ _ e => e)
  obtain ⟨z, H', I', rz, y, rfl, q⟩ := z
  obtain ⟨t, rfl⟩ := rz
  exact ⟨.str y, H', I', ⟨t, rfl⟩, q⟩
theorem passAtL (σ : L2.St) : PassesAt (L2.CX X.prog X.w) X σ E0 := fun pins H s e s' I c => passL pins σ H s e s' I c
theorem passAt0 (σ : L2.St) : PassesAt CX0 X σ E0 := fun pins H s e s' I c => pass0 pins σ H s e s' I c
end
theorem sLt_asymm {x y : Str} (h : sLt x y) (k : sLt y x) : False := List.lt_irrefl _ (sLt_trans h k)
theorem keyLt_asymm {a b : Row} (h : keyLt a b) (k : keyLt b a) : False := by
  rcases h with h | ⟨h, h'⟩
  · rcases k with k | ⟨k, _⟩ <;> omega
  · rcases k with k | ⟨_, k'⟩
    · omega
    · exact sLt_asymm h' k'
/-- renamed back is the house -/
theorem ren_back {m : HM} (h : RightH m) {f g : Str → Str} (hb : RightH ((m.ren f).ren g)) (e : ∀ l ∈ m.deeds.map (·.1), g (f l) = l) : (m.ren f).ren g = m := by
  have ed : ((m.ren f).ren g).deeds = m.deeds := by
    refine List.Perm.eq_of_pairwise (le := fun a b : Str × Int => sLt a.1 b.1) (fun a b _ _ x y => (sLt_asymm x y).elim) hb.ds h.ds ?_
    have p1 : ((m.ren f).deeds.map (renD g)).Perm ((m.deeds.map (renD f)).map (renD g)) := (sortDs_perm _).map _
    have p2 : (m.deeds.map (renD f)).map (renD g) = m.deeds := by
      rw [List.map_map]
      refine (List.map_congr_left fun d hd => ?_).trans (List.map_id _)
      show (g (f d.1), d.2) = d
      rw [e d.1 (List.mem_map.mpr ⟨d, hd, rfl⟩)]
    rw [p2] at p1
    exact (sortDs_perm _).trans p1
  have rows : ∀ {l l' : List Row}, (∀ r ∈ l, r.2.1 ∈ m.deeds.map (·.1)) → l.Pairwise keyLt → l'.Pairwise keyLt → l' = sortR ((sortR (l.map (renR f))).map (renR g)) → l' = l := fun {l l'} hl s s' el => by
    refine List.Perm.eq_of_pairwise (le := keyLt) (fun a b _ _ x y => (keyLt_asymm x y).elim) s' s ?_
    have p1 : ((sortR (l.map (renR f))).map (renR g)).Perm ((l.map (renR f)).map (renR g)) := (sortR_perm _).map _
    have p2 : (l.map (renR f)).map (renR g) = l := by
      rw [List.map_map]
      refine (List.map_congr_left fun r hr => ?_).trans (List.map_id _)
      show (r.1, g (f r.2.1), r.2.2) = r
      rw [e r.2.1 (hl r hr)]
    rw [p2] at p1
    rw [el]
    exact (sortR_perm _).trans p1
  have ea : ((m.ren f).ren g).arrows = m.arrows := rows (fun r hr => (h.aa r hr).l) h.as hb.as rfl
  have et : ((m.ren f).ren g).tests = m.tests := rows (fun r hr => h.testL hr) h.ts hb.ts rfl
  have z : (m.ren f).ren g = { m with deeds := ((m.ren f).ren g).deeds, arrows := ((m.ren f).ren g).arrows, tests := ((m.ren f).ren g).tests } := rfl
  rw [z, ed, ea, et]
theorem ren_same {m : HM} (h : RightH m) {f : Str → Str} (hb : RightH (m.ren f)) (e : ∀ l ∈ m.deeds.map (·.1), f l = l) : m.ren f = m := by
  have ed : (m.ren f).deeds = m.deeds := by
    refine List.Perm.eq_of_pairwise (le := fun a b : Str × Int => sLt a.1 b.1) (fun a b _ _ x y => (sLt_asymm x y).elim) hb.ds h.ds ?_
    have p2 : m.deeds.map (renD f) = m.deeds := by
      refine (List.map_congr_left fun d hd => ?_).trans (List.map_id _)
      show (f d.1, d.2) = d
      rw [e d.1 (List.mem_map.mpr ⟨d, hd, rfl⟩)]
    have p1 := sortDs_perm (m.deeds.map (renD f))
    rw [p2] at p1
    show (sortDs (m.deeds.map (renD f))).Perm m.deeds
    rw [p2]
    exact p1
  have rows : ∀ {l l' : List Row}, (∀ r ∈ l, r.2.1 ∈ m.deeds.map (·.1)) → l.Pairwise keyLt → l'.Pairwise keyLt → l' = sortR (l.map (renR f)) → l' = l := fun {l l'} hl s s' el => by
    refine List.Perm.eq_of_pairwise (le := keyLt) (fun a b _ _ x y => (keyLt_asymm x y).elim) s' s ?_
    have p2 : l.map (renR f) = l := by
      refine (List.map_congr_left fun r hr => ?_).trans (List.map_id _)
      show (r.1, f r.2.1, r.2.2) = r
      rw [e r.2.1 (hl r hr)]
    rw [el, p2]
    exact sortR_perm _
  have ea : (m.ren f).arrows = m.arrows := rows (fun r hr => (h.aa r hr).l) h.as hb.as rfl
  have et : (m.ren f).tests = m.tests := rows (fun r hr => h.testL hr) h.ts hb.ts rfl
  have z : m.ren f = { m with deeds := (m.ren f).deeds, arrows := (m.ren f).arrows, tests := (m.ren f).tests } := rfl
  rw [z, ed, ea, et]
def sw (l : Str) : Str := if l = "a" then "b" else if l = "b" then "a" else l
theorem sw_sw (l : Str) : sw (sw l) = l := by
  unfold sw
  by_cases h1 : l = "a"
  · subst h1
    decide +kernel
  · rw [if_neg h1]
    by_cases h2 : l = "b"
    · subst h2
      decide +kernel
    · rw [if_neg h2, if_neg h1, if_neg h2]
theorem sw_let {l : Str} (h : letS l = true) : letS (sw l) = true := by
  unfold sw
  split
  · decide +kernel
  · split
    · decide +kernel
    · exact h
theorem sw_ab (l : Str) : valOf (kwV ["a", "b"] [.str "b", .str "a"]) l = .str (sw l) := by
  unfold sw valOf
  by_cases h1 : l = "a"
  · subst h1
    rfl
  · by_cases h2 : l = "b"
    · subst h2
      rfl
    · have n1 : ¬ (Sum.inr "a" : Key) = Sum.inr l := fun z => h1 (Sum.inr.inj z).symm
      have n2 : ¬ (Sum.inr "b" : Key) = Sum.inr l := fun z => h2 (Sum.inr.inj z).symm
      show (valV [((Sum.inr "a" : Key), V.str "b"), ((Sum.inr "b" : Key), V.str "a")] (Sum.inr l)).getD _ = _
      rw [valV_neg n1, valV_neg n2, if_neg h1, if_neg h2]
      rfl
theorem sw_ba (l : Str) : valOf (kwV ["b", "a"] [.str "a", .str "b"]) l = .str (sw l) := by
  rw [swap_ab]
  exact sw_ab l
/-- renamed by letters that are all there -/
theorem ren_call {C CB : Addr} {H : Hp} {x p : Addr} {m : HM} {kvs : List (Key × V)} {e : Str → Str} {Q : VK} {E : XK} (hx : HsAt C H x m) (hR : RightH m) (hF : FitH m) (hp : H p = some (.dK kvs)) (hv : ∀ l ∈ m.deeds.map (·.1), valOf kvs l = .str (e l)) (hl : ∀ l, letS l = true → letS (e l) = true) (inj : ∀ a b, e a = e b → a = b)
    (k : ∀ f, (∀ l ∈ m.deeds.map (·.1), f l = e l) → RightH (m.ren f) → FitH (m.ren f) → ∀ H' y, Same H H' → HsAt C H' y (m.ren f) → Q (.ref y) H') : spRen C CB [.ref x, .ref p] H Q E := by
  have letm : ∀ l ∈ m.deeds.map (·.1), letS (e l) = true := fun l h => hl l (hR.letter h)
  refine ⟨x, p, m, kvs, fun l => .str (e l), rfl, hx, hR, hF, hp, fun l h => ⟨by rw [hv l h]; exact .str _, ?_⟩, fun f hf ap H' y S hy => ?_, fun no => ?_⟩
  · have := letter_len (letm l h)
    show decide ((e l).length ≤ 1000) = true
    rw [decide_eq_true]
    omega
  · have ef : ∀ l ∈ m.deeds.map (·.1), f l = e l := fun l h => by
      have := (hf l h).1
      injection this with z
      exact z.symm
    have lf : ∀ l ∈ m.deeds.map (·.1), letS (f l) = true := fun l h => (hf l h).2
    exact k f ef (hR.ren (fun d hd => lf d.1 (List.mem_map.mpr ⟨d, hd, rfl⟩)) ap) (hF.ren hR lf) H' y S hy
  · exact absurd (show Apart m e from hR.ds.imp fun {a b} h z => sLt_ne h (inj _ _ z)) (no e fun l h => ⟨rfl, letm l h⟩)
end KL
set_option Elab.async false
set_option linter.all false
set_option maxRecDepth 100000
set_option maxHeartbeats 16000000
namespace KL
open PySem L2 PySem.KX PySem.Spec PyProof.Rows
/-! ### the law -/
def spLaw (K : PySem.W.Frag) : Sp := fun vs H Q _ => ∃ (a : Addr) (ns : List Int), vs = [.ref a] ∧ SqL K H a (ns.map V.int) ∧ ns.length ≤ 63 ∧ ∀ H', Q (.bl true) H'
abbrev nLaw : List Str := ["_law_script", "_law_deck_here", "_law_go", "_law_w", "_law_code_here", "_law_letters", "_law_letter", "_law_owner", "_law_it"]
structure LawFns (P : Program) (w : World) (K : PySem.W.Frag) (mg : Str → Option Value) (base : Heap) (C gDeck gHouse gRight gCode fS fR : Addr) (dDeck dHouse dRight dCode dS dR : FuncData) (CB : Addr) : Prop where
  deck : FnOk P w K mg base CX0 1 gDeck dDeck ["_law_script"] (spDeck K)
  cDeck : Cal K mg "_law_deck" gDeck dDeck ["_law_script"]
  house : FnOk P w K mg base CX0 3 gHouse dHouse ["_law_deck_here", "_law_places"] spHouse
  cHouse : Cal K mg "_law_house" gHouse dHouse ["_law_deck_here", "_law_places"]
  right : FnG P w K mg base CX0 12 gRight dRight ["_law_deck_here", "_law_w"] spLRight
  cRight : Cal K mg "_law_right" gRight dRight ["_law_deck_here", "_law_w"]
  code : FnOk P w K mg base CX0 8 gCode dCode ["_law_w"] (spCode C)
  cCode : Cal K mg "_law_code" gCode dCode ["_law_w"]
  S : FnOk P w K mg base CX0 5 fS dS ["self"] (spHStr C)
  sS : PySem.W.findIn K (.ref C) "__str__" = some (some (.ref fS))
  iS : PySem.W.isFn K (.ref fS) = true
  bS : L2.Binds K dS ["self"] []
  ren : FnKw P w K mg base (L2.CX P w) 8 fR dR (spRen C CB)
  tN : TxtN K C fR dR
section
variable {P : Program} {w : World} {K : PySem.W.Frag} {mg : Str → Option Value} {base : Heap} {C CB fB fE : Addr} {dB dE : FuncData} {gDeck gHouse gRight gCode fS fR : Addr} {dDeck dHouse dRight dCode dS dR : FuncData}
theorem scLaw : FnScope nLaw ["_law_script"] (defScope lLaw) := ⟨rfl, rfl, rfl, by decide +kernel, rfl, by decide +kernel, by decide +kernel⟩
theorem ok_law {f : Addr} {fd : FuncData} (F : Fun K "law" "law" lLaw f fd) (T : TxtC mg) (TG : TxtG mg) (R : HFns P w K mg base C fB fE dB dE) (L : LawFns P w K mg base C gDeck gHouse gRight gCode fS fR dDeck dHouse dRight dCode dS dR CB) : FnG P w K mg base CX0 13 f fd ["_law_script"] (spLaw K) := by
  refine fnG0 F scLaw (fun vs H Q E h => ?_) (fun cdv A outer s H vs Q E hG hr h => ?_)
  · obtain ⟨a, ns, rfl, _⟩ := h
    rfl
  · obtain ⟨a, ns, rfl, hS, hlen, fin⟩ := h
    have nd := scLaw.nd
    have hu := hu_of hr
    have r1 : Room 1 _ := hr.mono (by decide)
    have r3 : Room 3 _ := hr.mono (by decide)
    have r8 : Room 8 _ := hr.mono (by decide)
    let X0 : Cx := (cxOf CX0 P w K mg base nLaw "law" (defScope lLaw) f cdv A outer s H E).nox
    refine ⟨_, C8.pss_cut (ps_set (i := 1) nd rfl (.inl rfl) (pe_call L.deck r1 (by rfl) L.cDeck.m L.cDeck.k L.cDeck.b .nil pass0 (pa_cons (pv 0) pa_nil)))
      (C8.pss_cut (ps_for PassesOwn.never rfl (pi_range1 (by rfl) TG.range (pa_cons pe_int pa_nil)) (pg_name (i := 2) nd rfl (.inl rfl))
        (C8.pss_cut (ps_set (i := 3) nd rfl (.inl rfl) (pe_call L.house r3 (by rfl) L.cHouse.m L.cHouse.k L.cHouse.b .nil pass0 (pa_cons (pv 1) (pa_cons pe_int pa_nil))))
        (pss_one (ps_if (pt_not (pt_val (pe_callG L.right hG hr (by rfl) L.cRight.m L.cRight.k L.cRight.b pass0 (pa_cons (pv 1) (pa_cons (pv 3) pa_nil))))) (pss_one (ps_ret pe_bl)) pss_nil))))
      (C8.pss_cut (ps_set (i := 3) nd rfl (.inl rfl) (pe_call L.house r3 (by rfl) L.cHouse.m L.cHouse.k L.cHouse.b .nil pass0 (pa_cons (pv 1) (pa_cons pe_int pa_nil))))
      (C8.pss_cut (ps_asg (pe_tup (pa_cons (pe_call L.code r8 (by rfl) L.cCode.m L.cCode.k L.cCode.b .nil pass0 (pa_cons (pv 3) pa_nil)) (pa_cons (pe_join pe_str (pe_lc (own := [("_law_letter", 6), ("_law_owner", 7)]) (g := gTup K 2 (gCons (gName 6) (gCons (gName 7) gNil))) (tt := tYes) rfl nd (pi_tup (pe_dget hu (pv 3) pe_str (fun _ _ => rfl))) (blkOk_by (N := nLaw) (sc := defScope lLaw) (by decide +kernel)) (fun _ _ _ _ _ => pg_tup rfl (pgs_cons (pg_name (i := 6) nd rfl (.inl rfl)) (pgs_cons (pg_name (i := 7) nd rfl (.inl rfl)) pgs_nil)))
          (fun _ _ _ _ _ => pts_nil) (fun _ _ _ _ _ => pv 6))) pa_nil))) (pg_tup rfl (pgs_cons (pg_name (i := 4) nd rfl (.inr rfl)) (pgs_cons (pg_name (i := 5) nd rfl (.inl rfl)) pgs_nil))))
      (C8.pss_cut (ps_if (pt_cmpR op_in_str pe_str (pv 5) rfl)
        (pss_one (ps_if (PW.pt (pw_or (pt_not (pt_cmpR (op_eqOwn (X := X0) R.E R.sE R.iE R.bE (E := E0) pass0 (hr.mono (by decide))) (pe_methKw (ks := ["b", "a"]) (pe_methKw (ks := ["a", "b"]) (pv 4) L.tN.c L.tN.m L.ren r8 (L.tN.b _ (by decide)) (by decide) (by decide) passAtL (pk_cons pe_str (pk_cons pe_str pk_nil))) L.tN.c L.tN.m L.ren r8 (L.tN.b _ (by decide)) (by decide) (by decide) passAtL (pk_cons pe_str (pk_cons pe_str pk_nil))) (pv 4) (nomark _)))
          (pw_or1 (pt_not (pt_cmpR (op_eqOwn (X := X0) R.E R.sE R.iE R.bE (E := E0) pass0 (hr.mono (by decide))) (pe_methKw0 (pv 4) L.tN.c L.tN.m L.ren r8 (L.tN.b [] (by decide) [] rfl) passAtL) (pv 4) (nomark _)))))) (pss_one (ps_ret pe_bl)) pss_nil)) pss_nil)
      (pss_one (ps_ret (pe_cmpR (op_eqV hr.units) (pe_lc (own := [("_law_it", 8)]) (g := gName 8) (tt := tYes) (te := tOp (rOwn false K C (spHEq C) E0) (tVar 4) (tVar 8)) rfl nd (pi_tup (pe_tup (pa_cons pe_non (pa_cons pe_int (pa_cons pe_str (pa_cons (pe_tup pa_nil) (pa_cons (pe_lst pa_nil) (pa_cons pe_dnewK (pa_cons (pe_callTy (cr_strOwn (X := X0) L.S L.sS L.iS L.bS passAt0 (hr.mono (by decide))) (by rfl) T.b.str (by decide +kernel) (pa_cons (pv 4) pa_nil)) (pa_cons (pe_dget hu (pv 3) pe_str (fun _ _ => rfl)) pa_nil))))))))))
          (blkOk_by (N := nLaw) (sc := defScope lLaw) (by decide +kernel)) (fun _ _ _ _ _ => pg_name (i := 8) nd rfl (.inl rfl)) (fun _ _ _ _ _ => pts_nil) (fun _ _ _ _ _ => pe_cmpR (op_eqOwn R.E R.sE R.iE R.bE (E := E0) pass0 (hr.mono (by decide))) (pv 4) (pv 8) (nomark _))) (pe_op op_rep (pe_lst (pa_cons pe_bl pa_nil)) pe_int) (nomark _)))))))), ?_⟩
    -- the deck
    refine ⟨fun σ H' => ∃ p l, σ = [some (.ref a), some (.ref p), none, none, none, none, none, none, none] ∧ DeckAt H H' p l 0, ?_, ?_⟩
    · exact ⟨_, rfl, a, ns, rfl, hS, hlen, fun H' p l D => ⟨p, l, rfl, D⟩⟩
    rintro σ1 H1 ⟨p, l, rfl, D⟩
    -- four houses
    refine ⟨fun σ H' => ∃ o2 o3 H0 t, σ = [some (.ref a), some (.ref p), o2, o3, none, none, none, none, none] ∧ DeckAt H0 H' p l t ∧ 0 ≤ t ∧ t ≤ 2000, ?_, ?_⟩
    · refine ⟨4, rfl, by decide, by decide, for_range (fun i σ H' => ∃ o2 o3 H0 t, σ = [some (.ref a), some (.ref p), o2, o3, none, none, none, none, none] ∧ DeckAt H0 H' p l t ∧ 0 ≤ t ∧ t ≤ 300 * (i : Int)) ⟨_, _, H, 0, rfl, D, by omega, by omega⟩ ?_ (fun σ H' ⟨o2, o3, H0, t, e, D, t0, t1⟩ => ⟨o2, o3, H0, t, e, D, t0, by
        have : ((4 : Int).toNat : Int) = 4 := rfl
        omega⟩)⟩
      clear D
      rintro i σ H2 hi ⟨o2, o3, H0, t, rfl, D, t0, t1⟩
      have hi4 : i < 4 := hi
      refine ⟨fun σ H' => ∃ wd m H0 t, σ = [some (.ref a), some (.ref p), some (.int (0 + (i : Int))), some (.ref wd), none, none, none, none, none] ∧ DeckAt H0 H' p l t ∧ 0 ≤ t ∧ t ≤ 300 * (i : Int) + 200 ∧ WAt H0 wd m ∧ RightH m ∧ FitH m ∧ ∃ x ∈ lets5, m.deeds.map (·.1) = letsOf x, ?_, ?_⟩
      · refine ⟨_, rfl, H0, p, l, t, 3, rfl, D, t0, by omega, by omega, by omega, fun K1 H3 t' wd vs' m g hw hq hR hF hx => ⟨wd, m, K1, t', rfl, g.d, ?_, ?_, ⟨vs', hw, hq⟩, hR, hF, hx⟩⟩
        · have := g.t0
          omega
        · have := g.t1
          omega
      clear D t0 t1 H0 t
      rintro σ2 H3 ⟨wd, m, H0, t, rfl, D, t0, t1, hW, hR, hF, x, hx, eL⟩
      refine ⟨_, rfl, _, rfl, H0, p, l, wd, t, m, x, rfl, D, t0, by omega, hW, hR, hF, hx, eL, fun H4 t' D' ta tb => ⟨_, rfl, iteNo rfl ⟨_, _, H0, t', rfl, D', by omega, ?_⟩⟩⟩
      have : ((i + 1 : Nat) : Int) = (i : Int) + 1 := by omega
      omega
    clear D
    rintro σ2 H2 ⟨o2, o3, H0, t, rfl, D, t0, t1⟩
    -- one more
    refine ⟨fun σ H' => ∃ wd m, σ = [some (.ref a), some (.ref p), o2, some (.ref wd), none, none, none, none, none] ∧ WAt H' wd m ∧ RightH m ∧ FitH m ∧ ∃ x ∈ lets5, m.deeds.map (·.1) = letsOf x, ?_, ?_⟩
    · exact ⟨_, rfl, H0, p, l, t, 2, rfl, D, t0, by omega, by omega, by omega, fun K1 H3 t' wd vs' m g hw hq hR hF hx => ⟨wd, m, rfl, WAt.same g.d.s ⟨vs', hw, hq⟩, hR, hF, hx⟩⟩
    clear D t0 t1 H0 t H1 H2
    rintro σ3 H3 ⟨wd, m, rfl, hW, hR, hF, xw, hxw, eL⟩
    -- the house of the program
    refine ⟨fun σ H' => ∃ (x : Addr) (ls : Str), σ = [some (.ref a), some (.ref p), o2, some (.ref wd), some (.ref x), some (.str ls), none, none, none] ∧ Same H3 H' ∧ HsAt C H' x m, ?_, ?_⟩
    · refine ⟨_, rfl, wd, m, rfl, hW, hR, hF, fun H4 x S4 hx => ?_⟩
      obtain ⟨v1, v2, v4, v6, v7, v8, hw, q1, _⟩ := (hW.same S4).at
      obtain ⟨a1, xs1, rfl, e1, qa1⟩ := tup_at q1
      have l1 : xs1.length = m.deeds.length := by rw [dq_len qa1, List.length_map]
      have d5 := hR.d5
      refine ⟨⟨_, rfl⟩, _, rfl, wd, _, rfl, DGet.k (k := Sum.inr "deeds") hw, a1, rfl, ⟨_, SqT.of e1⟩, fun B nB => ?_⟩
      refine lc_tup (K := K) (a := a1) (xs := xs1) (fun i H2 => StrsTo H4 B 1 i H2) (.start nB) (fun i H2 _ M => SqT.of (M.s _ _ e1)) ?_ ?_
      · rintro i y H5 hy M
        obtain ⟨d, b, hd, rfl, ec⟩ := deed_at qa1 hy
        have hi : i < m.deeds.length := (List.getElem?_eq_some_iff.mp hd).1
        exact ⟨b, _, rfl, SqT.of (M.s _ _ ec), rfl, _, _, rfl, _, _, rfl, rfl, rfl, _, rfl, M.more nB (Same.refl _) (by omega) (Nat.le_of_eq (letter_len (hR.da d (List.mem_of_getElem? hd)).1))⟩
      rintro H5 ⟨ys, M, ly, by1⟩
      have sm := sum_most ys by1
      refine ⟨"", B, ys, rfl, rfl, .inl (SqL.of M.2), ?_, ?_⟩
      · show _ + ys.length * 0 ≤ 16777216
        omega
      refine ⟨(by show 2 ≤ sizeLine; decide), fun tp ntp => ⟨tp, _, rfl, SqT.of upd_same, rfl, _, _, rfl, _, _, rfl, rfl, ?_⟩⟩
      have S6 := M.1.trans (same_new (o := .tup [V.ref x, V.str (Txt.join "" ys)]) ntp)
      exact ⟨x, _, rfl, S4.trans S6, hx.same S6⟩
    rintro σ4 H4 ⟨x, ls, rfl, S4, hx⟩
    have hW4 := hW.same S4
    obtain ⟨dx, fs, w1, w2, w4, w6, w7, w8, exx, hfs, _⟩ := id hx
    have nofR : ∀ {H' : Hp} {y dy : Addr} {gs : List (Str × V)} {n : HM} {v1 v2 v4 v6 v7 v8 : V}, fsOf (.int n.people) v1 v2 (.int n.places) v4 (.int n.logs) v6 v7 v8 gs → gs.lookup ("renamed" : Str) = none := fun h => h.2.2.2.2.2.2.2.2.2.2
    -- renamed and renamed back
    refine ⟨fun σ H' => σ = [some (.ref a), some (.ref p), o2, some (.ref wd), some (.ref x), some (.str ls), none, none, none] ∧ Same H4 H', ?_, ?_⟩
    · refine ⟨_, rfl, _, _, rfl, rfl, _, rfl, ?_⟩
      cases (!(Builtin.Str.occurrences ls "ab" 0 ls.length 1).isEmpty) with
      | false => exact iteNo rfl ⟨rfl, Same.refl _⟩
      | true =>
        refine iteYes rfl ?_
        have sinj : ∀ a b, sw a = sw b → a = b := fun a b h => by
          rw [← sw_sw a, ← sw_sw b, h]
        refine ⟨_, rfl, x, dx, _, rfl, exx, nofR (H' := H4) (y := x) (dy := dx) hfs, rfl, fun p1 np1 => ?_⟩
        refine ren_call (e := sw) (hx.same (same_new np1)) hR hF upd_same (fun l _ => sw_ab l) (fun l h => sw_let h) sinj fun f1 ef1 hR1 hF1 H5 y S5 hy => ?_
        obtain ⟨dy, gs, u1, u2, u4, u6, u7, u8, eyy, hgs, _⟩ := id hy
        refine ⟨y, dy, _, rfl, eyy, nofR (H' := H5) (y := y) (dy := dy) hgs, rfl, fun p2 np2 => ?_⟩
        refine ren_call (e := sw) (hy.same (same_new np2)) hR1 hF1 upd_same (fun l _ => sw_ba l) (fun l h => sw_let h) sinj fun f2 ef2 hR2 hF2 H6 z S6 hz => ?_
        have back : (m.ren f1).ren f2 = m := ren_back hR hR2 fun l hl => by
          rw [ef2 (f1 l) (ren_letter hl), ef1 l hl, sw_sw]
        rw [back] at hz
        have T6 := (((same_new np1).trans S5).trans (same_new np2)).trans S6
        have hx6 := hx.same T6
        obtain ⟨dz, hs, r1', r2', r4', r6', r7', r8', ezz, _⟩ := id hz
        refine ⟨_, rfl, z, dz, hs, rfl, ezz, other_ins R.i (T6 _ _ exx), z, .ref x, m, rfl, hz, hF, .inr ⟨x, m, rfl, hx6, hF, ?_⟩⟩
        rw [sameH_self hF]
        refine ⟨true, rfl, _, rfl, ?_⟩
        refine iteNo rfl ?_
        refine ⟨_, rfl, x, dx, _, rfl, T6 _ _ exx, nofR (H' := H4) (y := x) (dy := dx) hfs, rfl, fun p3 np3 => ?_⟩
        refine ren_call (e := id) (hx6.same (same_new np3)) hR hF upd_same (fun l _ => rfl) (fun l h => h) (fun _ _ h => h) fun f3 ef3 hR3 hF3 H7 u S7 hu' => ?_
        rw [ren_same hR hR3 ef3] at hu'
        have T7 := (T6.trans (same_new np3)).trans S7
        have hx7 := hx.same T7
        obtain ⟨dz, hs, r1', r2', r4', r6', r7', r8', ezz, _⟩ := id hu'
        refine ⟨_, rfl, u, dz, hs, rfl, ezz, other_ins R.i (T7 _ _ exx), u, .ref x, m, rfl, hu', hF, .inr ⟨x, m, rfl, hx7, hF, ?_⟩⟩
        rw [sameH_self hF]
        refine ⟨true, rfl, _, rfl, ?_⟩
        exact iteNo rfl ⟨rfl, T7⟩
    rintro σ5 H5 ⟨rfl, S5⟩
    have hx5 := hx.same S5
    have hW5 := hW4.same S5
    -- other kinds of values
    refine ⟨(by show 0 ≤ sizeLine; decide), fun q3 n3 => ⟨(by show 0 ≤ sizeLine; decide), fun q4 n4 q5 n5 => ?_⟩⟩
    have D3 : Dq (upd H5 q3 (.tup [])) (.ref q3) (.tuple []) := .tup upd_same .nil
    have S3 := same_new (o := .tup []) n3
    have hx6 := hx5.same S3
    have hW6 := hW5.same S3
    revert D3 hx6 hW6 n4 n5
    generalize upd H5 q3 (.tup []) = H6
    intro n4 n5 D3 hx6 hW6
    have D4 : Dq (upd H6 q4 (.lst [])) (.ref q4) (.list []) := .lst upd_same .nil
    have S4' := same_new (o := .lst []) n4
    have D3 := Dq.same S4' _ _ D3
    have hx7 := hx6.same S4'
    have hW7 := hW6.same S4'
    revert D3 D4 hx7 hW7 n5
    generalize upd H6 q4 (.lst []) = H7
    intro n5 D4 D3 hx7 hW7
    have D5 : Dq (upd H7 q5 (.dK [])) (.ref q5) (.dict []) := .dct0 upd_same
    have S5' := same_new (o := .dK []) n5
    have D3 := Dq.same S5' _ _ D3
    have D4 := Dq.same S5' _ _ D4
    have hx8 := hx7.same S5'
    have hW8 := hW7.same S5'
    revert D3 D4 D5 hx8 hW8
    generalize upd H7 q5 (.dK []) = H8
    intro D5 D3 D4 hx8 hW8
    obtain ⟨dx, fs, w1, w2, w4, w6, w7, w8, exx8, _⟩ := id hx8
    refine ⟨_, rfl, x, dx, _, rfl, exx8, x, m, rfl, hx8, hR, hF, fun H9 y S9 ly => ⟨y, rfl, ?_⟩⟩
    have D3 := Dq.same S9 _ _ D3
    have D4 := Dq.same S9 _ _ D4
    have D5 := Dq.same S9 _ _ D5
    have hx9 := hx8.same S9
    obtain ⟨b1, b2, b4, b6, b7, b8, hw, _, _, _, D7, _⟩ := (hW8.same S9).at
    refine ⟨_, rfl, wd, _, rfl, DGet.k (k := Sum.inr "arrows") hw, ?_⟩
    have all : DqAll H9 [.non, .int 1, .str "", .ref q3, .ref q4, .ref q5, .str y, b6] [.none, .int 1, .str "", .tuple [], .list [], .dict [], .str y, .tuple (m.arrows.map rowE)] := .cons .non (.cons (.int _) (.cons (.str _) (.cons D3 (.cons D4 (.cons D5 (.cons (.str _) (.cons D7 .nil)))))))
    revert all
    generalize ([.none, .int 1, .str "", .tuple [], .list [], .dict [], .str y, .tuple (m.arrows.map rowE)] : List PyData) = ds
    intro all
    refine ⟨(by show 8 ≤ sizeLine; decide), fun tp ntp => ⟨tp, rfl, ⟨_, SqT.of upd_same⟩, fun B nB => ?_⟩⟩
    have S10 := same_new (o := .tup [.non, .int 1, .str "", .ref q3, .ref q4, .ref q5, .str y, b6]) ntp
    have htp : upd H9 tp (.tup [.non, .int 1, .str "", .ref q3, .ref q4, .ref q5, .str y, b6]) tp = some (.tup [.non, .int 1, .str "", .ref q3, .ref q4, .ref q5, .str y, b6]) := upd_same
    have all := DqAll.same S10 _ _ all
    have hx10 := hx9.same S10
    revert nB htp all hx10
    generalize upd H9 tp (.tup [.non, .int 1, .str "", .ref q3, .ref q4, .ref q5, .str y, b6]) = H10
    intro nB htp all hx10
    refine lc_tup (K := K) (a := tp) (xs := [.non, .int 1, .str "", .ref q3, .ref q4, .ref q5, .str y, b6]) (fun i H2 => MadeTo H10 B (List.replicate i (.bl false)) H2) ⟨same_new nB, upd_same⟩ (fun i H2 _ M => SqT.of (M.1 _ _ htp)) ?_ ?_
    · rintro i v H11 hv M
      have hi : i < 8 := (List.getElem?_eq_some_iff.mp hv).1
      obtain ⟨d, hd, hq⟩ := DqAll.at all hv
      have hx11 := hx10.same M.1
      have hq := Dq.same M.1 _ _ hq
      obtain ⟨dz, gs, a1, a2, a4, a6, a7, a8, ezz, _⟩ := id hx11
      refine ⟨rfl, _, rfl, _, rfl, x, dz, gs, rfl, ezz, other_data hq, x, v, m, rfl, hx11, hF, .inl ⟨d, hq, ?_⟩⟩
      obtain ⟨h1, M2⟩ := M.more (.bl false) nB (Same.refl _)
      refine ⟨false, rfl, _, h1, by rw [List.length_replicate, sizeLine_eq]; omega, ?_⟩
      rw [List.replicate_succ']
      exact M2
    rintro H11 M
    have hB : H11 B = some (.lst [.bl false, .bl false, .bl false, .bl false, .bl false, .bl false, .bl false, .bl false]) := M.2
    refine ⟨(by show 1 ≤ sizeLine; decide), fun r nr => ⟨r, 8, _, rfl, rfl, upd_same, by decide, by decide, by decide, fun r2 nr2 => ?_⟩⟩
    have hB2 : upd (upd H11 r (.lst [.bl false])) r2 (.lst [.bl false, .bl false, .bl false, .bl false, .bl false, .bl false, .bl false, .bl false]) B = some (.lst [.bl false, .bl false, .bl false, .bl false, .bl false, .bl false, .bl false, .bl false]) := by
      rw [upd_ne (ne_of_none (by rw [upd_ne (ne_of_none hB nr)]; exact hB) nr2), upd_ne (ne_of_none hB nr)]
      exact hB
    refine ⟨1, by decide, .inl ⟨B, r2, [.bl false, .bl false, .bl false, .bl false, .bl false, .bl false, .bl false, .bl false], [.bl false, .bl false, .bl false, .bl false, .bl false, .bl false, .bl false, .bl false], rfl, rfl, SqL.of hB2, SqL.of upd_same, ?_⟩, fin _⟩
    have e : EqV K (upd (upd H11 r (.lst [.bl false])) r2 (.lst [.bl false, .bl false, .bl false, .bl false, .bl false, .bl false, .bl false, .bl false])) 1 (.bl false) (.bl false) := .inl ⟨rfl, rfl⟩
    exact .cons e (.cons e (.cons e (.cons e (.cons e (.cons e (.cons e (.cons e .nil)))))))
end
end KL
set_option Elab.async false
set_option linter.all false
set_option maxRecDepth 100000
set_option maxHeartbeats 4000000
namespace KL
open PySem L2 PySem.KX PySem.W PyProof.Rows
def chkE (K : Frag) (B C : Addr) : Bool :=
  excInitIn K C excB "Exception.__new__" && (excOver K C excB && (hasDictIn K C && (keepIn K (.ref C) && ((findIn K (.ref C) "__setattr__" == some (some (.builtin "object.__setattr__"))) && ((findIn K (.ref C) "__getattribute__" == some (some (.builtin "BaseException.__getattribute__"))) &&
  ((findIn K (.ref C) "__getattr__" == some none) && ((findIn K (.ref C) "__class__" == some (some (.builtin "object.__class__"))) && ((clsIn K C).any (fun cd => cd.mro == [.ref C, .ref B, .type "Exception", .type "BaseException", .type "object"]) && (typeIn K (.ref C) == some (.type "type"))))))))))
structure ChkE (K : Frag) (B C : Addr) : Prop where
  c1 : excInitIn K C excB "Exception.__new__" = true
  c2 : excOver K C excB = true
  c3 : hasDictIn K C = true
  c4 : keepIn K (.ref C) = true
  c5 : findIn K (.ref C) "__setattr__" = some (some (.builtin "object.__setattr__"))
  c6 : findIn K (.ref C) "__getattribute__" = some (some (.builtin "BaseException.__getattribute__"))
  c7 : findIn K (.ref C) "__getattr__" = some none
  c8 : findIn K (.ref C) "__class__" = some (some (.builtin "object.__class__"))
  c9 : ∃ cd, clsIn K C = some cd ∧ cd.mro = [.ref C, .ref B, .type "Exception", .type "BaseException", .type "object"]
  c10 : typeIn K (.ref C) = some (.type "type")
theorem chk_of {K : Frag} {B C : Addr} (h : chkE K B C = true) : ChkE K B C := by
  unfold chkE at h
  simp only [Bool.and_eq_true, beq_iff_eq] at h
  obtain ⟨h1, h2, h3, h4, h5, h6, h7, h8, h9, h10⟩ := h
  obtain ⟨cd, e, m⟩ := any_some h9
  exact ⟨h1, h2, h3, h4, h5, h6, h7, h8, ⟨cd, e, beq_iff_eq.mp m⟩, h10⟩
section
variable {K : Frag} {B C D : Addr}
theorem ChkE.mro (T : ChkE K B C) (v : Value) : subIn K (.ref C) v = some ([Value.ref C, .ref B, .type "Exception", .type "BaseException", .type "object"].contains v) := by
  obtain ⟨cd, e, m⟩ := T.c9
  show mroIn K C v = _
  unfold mroIn
  rw [e, Option.bind_some, m]
  rfl
theorem ChkE.ec (T : ChkE K B C) (hn : specialIn K (.builtin "object.__class__") "__get__" = some (some (.builtin "getset_descriptor.__get__"))) (ht : takesIn K (.builtin "object.__class__") = some true) : EC K C :=
  ⟨T.c1, T.c5, T.c2, T.c3, T.c4, ⟨T.c6, T.c7, by rw [T.mro]; rfl, T.c3, T.c8, hn, ht, T.mro _⟩⟩
theorem ChkE.ref (T : ChkE K B C) (h1 : (clsIn K D).isSome = true) (h2 : typeIn K (.ref D) = some (.type "type")) (hd : D ≠ C) (hb : D ≠ B) : kitOne K (.ref C) (.ref D) = some false := by
  unfold kitOne
  rw [if_neg (by simp [hd.symm])]
  unfold kitCls
  dsimp only
  rw [h1, h2, if_pos (by simp), T.mro]
  simp [hd, hb]
theorem ChkE.base (T : ChkE K B C) (h1 : (clsIn K B).isSome = true) (h2 : typeIn K (.ref B) = some (.type "type")) : kitOne K (.ref C) (.ref B) = some true := by
  unfold kitOne
  split
  · rfl
  · unfold kitCls
    dsimp only
    rw [h1, h2, if_pos (by simp), T.mro]
    simp
theorem ChkE.self : kitOne K (.ref C) (.ref C) = some true := by
  unfold kitOne
  rw [if_pos (by simp)]
theorem ChkE.typ (T : ChkE K B C) {n : String} {b : Bool} (h : (kitMeta n && ([Value.type "Exception", .type "BaseException", .type "object"].contains (.type n) == b)) = true) : kitOne K (.ref C) (.type n) = some b := by
  simp only [Bool.and_eq_true, beq_iff_eq] at h
  unfold kitOne
  rw [if_neg (by simp)]
  unfold kitCls
  dsimp only
  have z1 : (Value.type n == Value.ref C) = false := beq_eq_false_iff_ne.mpr fun q => nomatch q
  have z2 : (Value.type n == Value.ref B) = false := beq_eq_false_iff_ne.mpr fun q => nomatch q
  rw [h.1, if_pos rfl, T.mro, List.contains_cons, List.contains_cons, h.2, z1, z2]
  rfl
theorem ChkE.exm (T : ChkE K B C) (hs : subIn K (.ref D) (.type "BaseException") = some true) (h : kitCls K (.ref C) (.ref D) = some true) : exmOne K (.ref C) (.ref D) = some true := by
  unfold exmOne
  rw [hs, if_pos (by simp)]
  exact h
theorem ChkE.isSome (T : ChkE K B C) : (clsIn K C).isSome = true := by
  obtain ⟨cd, e, _⟩ := T.c9
  rw [e]
  rfl
end
theorem nodup_at {l : List Addr} (h : l.Nodup) {i j : Nat} (hi : i < l.length) (hj : j < l.length) (e : l.getD i 0 = l.getD j 0) : i = j := by
  rw [List.getD_eq_getElem?_getD, List.getD_eq_getElem?_getD, List.getElem?_eq_getElem hi, List.getElem?_eq_getElem hj, Option.getD_some, Option.getD_some] at e
  have q := List.pairwise_iff_getElem.mp h
  rcases Nat.lt_trichotomy i j with z | z | z
  · exact absurd e (q i j hi hj z)
  · exact z
  · exact absurd e.symm (q j i hj hi z)
end KL
set_option Elab.async false
set_option linter.all false
set_option maxRecDepth 100000
set_option maxHeartbeats 8000000
namespace KL
open PySem L2 PySem.KX PySem.W PyProof.Rows
theorem all_mk {l : PySem.W.OpenLaw} {w : World} {K : Frag} {h : Heap} {mg : Str → Option Value} {fa B0 CB IB C fI fQ fS fB fR : Addr} {gInt gBet gLet gTup gAsc gForm gPeople gPlaces gLogs gDeed gDeeds gStart gEnds gSource gForms gMarks gArrow gTest gLooks gChkA gChkT gNumW gFormW gMarksW gLineN gLineA gLineT gLineL gHouseL gDeck gDraw gPick gLForm gUnit gHouse gCode gShown gBarred gOther gCalled gHeard gLetter gNames gRight gLaw : Addr} {tk0 tk1 tk2 tk3 tk4 tk5 : Tok} (X : K.In h) (G : h.Ns mainGlobals mg) (hfa : mg "law" = some (.ref fa))
    {odE anE : Option Addr} {docE pmE cdvE ctE : Value} {oslE : Array (Option Value)} {paE pbE qaE qbE qcE qdE : Pos}
    {odI anI : Option Addr} {ocI kVI docI pmI cdvI ctI : Value} {oslI : Array (Option Value)}
    {odQ anQ : Option Addr} {ocQ kVQ docQ pmQ cdvQ ctQ : Value} {oslQ : Array (Option Value)}
    {odS anS : Option Addr} {ocS kVS docS pmS cdvS ctS : Value} {oslS : Array (Option Value)}
    {odB anB : Option Addr} {ocB kVB docB pmB cdvB ctB : Value} {oslB : Array (Option Value)}
    {odR anR : Option Addr} {ocR kVR docR pmR cdvR ctR : Value} {oslR : Array (Option Value)}
    {odInt anInt : Option Addr} {ocInt kVInt docInt pmInt cdvInt ctInt : Value} {oslInt : Array (Option Value)}
    {odBet anBet : Option Addr} {ocBet kVBet docBet pmBet cdvBet ctBet : Value} {oslBet : Array (Option Value)}
    {odLet anLet : Option Addr} {ocLet kVLet docLet pmLet cdvLet ctLet : Value} {oslLet : Array (Option Value)}
    {odTup anTup : Option Addr} {ocTup kVTup docTup pmTup cdvTup ctTup : Value} {oslTup : Array (Option Value)}
    {odAsc anAsc : Option Addr} {ocAsc kVAsc docAsc pmAsc cdvAsc ctAsc : Value} {oslAsc : Array (Option Value)}
    {odForm anForm : Option Addr} {ocForm kVForm docForm pmForm cdvForm ctForm : Value} {oslForm : Array (Option Value)}
    {odPeople anPeople : Option Addr} {ocPeople kVPeople docPeople pmPeople cdvPeople ctPeople : Value} {oslPeople : Array (Option Value)}
    {odPlaces anPlaces : Option Addr} {ocPlaces kVPlaces docPlaces pmPlaces cdvPlaces ctPlaces : Value} {oslPlaces : Array (Option Value)}
    {odLogs anLogs : Option Addr} {ocLogs kVLogs docLogs pmLogs cdvLogs ctLogs : Value} {oslLogs : Array (Option Value)}
    {odDeed anDeed : Option Addr} {ocDeed kVDeed docDeed pmDeed cdvDeed ctDeed : Value} {oslDeed : Array (Option Value)}
    {odDeeds anDeeds : Option Addr} {ocDeeds kVDeeds docDeeds pmDeeds cdvDeeds ctDeeds : Value} {oslDeeds : Array (Option Value)}
    {odStart anStart : Option Addr} {ocStart kVStart docStart pmStart cdvStart ctStart : Value} {oslStart : Array (Option Value)}
    {odEnds anEnds : Option Addr} {ocEnds kVEnds docEnds pmEnds cdvEnds ctEnds : Value} {oslEnds : Array (Option Value)}
    {odSource anSource : Option Addr} {ocSource kVSource docSource pmSource cdvSource ctSource : Value} {oslSource : Array (Option Value)}
    {odForms anForms : Option Addr} {ocForms kVForms docForms pmForms cdvForms ctForms : Value} {oslForms : Array (Option Value)}
    {odMarks anMarks : Option Addr} {ocMarks kVMarks docMarks pmMarks cdvMarks ctMarks : Value} {oslMarks : Array (Option Value)}
    {odArrow anArrow : Option Addr} {ocArrow kVArrow docArrow pmArrow cdvArrow ctArrow : Value} {oslArrow : Array (Option Value)}
    {odTest anTest : Option Addr} {ocTest kVTest docTest pmTest cdvTest ctTest : Value} {oslTest : Array (Option Value)}
    {odLooks anLooks : Option Addr} {ocLooks kVLooks docLooks pmLooks cdvLooks ctLooks : Value} {oslLooks : Array (Option Value)}
    {odChkA anChkA : Option Addr} {ocChkA kVChkA docChkA pmChkA cdvChkA ctChkA : Value} {oslChkA : Array (Option Value)}
    {odChkT anChkT : Option Addr} {ocChkT kVChkT docChkT pmChkT cdvChkT ctChkT : Value} {oslChkT : Array (Option Value)}
    {odNumW anNumW : Option Addr} {ocNumW kVNumW docNumW pmNumW cdvNumW ctNumW : Value} {oslNumW : Array (Option Value)}
    {odFormW anFormW : Option Addr} {ocFormW kVFormW docFormW pmFormW cdvFormW ctFormW : Value} {oslFormW : Array (Option Value)}
    {odMarksW anMarksW : Option Addr} {ocMarksW kVMarksW docMarksW pmMarksW cdvMarksW ctMarksW : Value} {oslMarksW : Array (Option Value)}
    {odLineN anLineN : Option Addr} {ocLineN kVLineN docLineN pmLineN cdvLineN ctLineN : Value} {oslLineN : Array (Option Value)}
    {odLineA anLineA : Option Addr} {ocLineA kVLineA docLineA pmLineA cdvLineA ctLineA : Value} {oslLineA : Array (Option Value)}
    {odLineT anLineT : Option Addr} {ocLineT kVLineT docLineT pmLineT cdvLineT ctLineT : Value} {oslLineT : Array (Option Value)}
    {odLineL anLineL : Option Addr} {ocLineL kVLineL docLineL pmLineL cdvLineL ctLineL : Value} {oslLineL : Array (Option Value)}
    {odHouseL anHouseL : Option Addr} {ocHouseL kVHouseL docHouseL pmHouseL cdvHouseL ctHouseL : Value} {oslHouseL : Array (Option Value)}
    {odDeck anDeck : Option Addr} {ocDeck kVDeck docDeck pmDeck cdvDeck ctDeck : Value} {oslDeck : Array (Option Value)}
    {odDraw anDraw : Option Addr} {ocDraw kVDraw docDraw pmDraw cdvDraw ctDraw : Value} {oslDraw : Array (Option Value)}
    {odPick anPick : Option Addr} {ocPick kVPick docPick pmPick cdvPick ctPick : Value} {oslPick : Array (Option Value)}
    {odLForm anLForm : Option Addr} {ocLForm kVLForm docLForm pmLForm cdvLForm ctLForm : Value} {oslLForm : Array (Option Value)}
    {odUnit anUnit : Option Addr} {ocUnit kVUnit docUnit pmUnit cdvUnit ctUnit : Value} {oslUnit : Array (Option Value)}
    {odHouse anHouse : Option Addr} {ocHouse kVHouse docHouse pmHouse cdvHouse ctHouse : Value} {oslHouse : Array (Option Value)}
    {odCode anCode : Option Addr} {ocCode kVCode docCode pmCode cdvCode ctCode : Value} {oslCode : Array (Option Value)}
    {odShown anShown : Option Addr} {ocShown kVShown docShown pmShown cdvShown ctShown : Value} {oslShown : Array (Option Value)}
    {odBarred anBarred : Option Addr} {ocBarred kVBarred docBarred pmBarred cdvBarred ctBarred : Value} {oslBarred : Array (Option Value)}
    {odOther anOther : Option Addr} {ocOther kVOther docOther pmOther cdvOther ctOther : Value} {oslOther : Array (Option Value)}
    {odCalled anCalled : Option Addr} {ocCalled kVCalled docCalled pmCalled cdvCalled ctCalled : Value} {oslCalled : Array (Option Value)}
    {odHeard anHeard : Option Addr} {ocHeard kVHeard docHeard pmHeard cdvHeard ctHeard : Value} {oslHeard : Array (Option Value)}
    {odLetter anLetter : Option Addr} {ocLetter kVLetter docLetter pmLetter cdvLetter ctLetter : Value} {oslLetter : Array (Option Value)}
    {odNames anNames : Option Addr} {ocNames kVNames docNames pmNames cdvNames ctNames : Value} {oslNames : Array (Option Value)}
    {odRight anRight : Option Addr} {ocRight kVRight docRight pmRight cdvRight ctRight : Value} {oslRight : Array (Option Value)}
    {odLaw anLaw : Option Addr} {ocLaw kVLaw docLaw pmLaw cdvLaw ctLaw : Value} {oslLaw : Array (Option Value)}
    (aB0 : nsIn K mainGlobals "HouseError" = some (some (.ref B0)))
    (aE : nsIn K mainGlobals "BadHouse" = some (some (.ref CB)))
    (nE : findIn K (.ref CB) "part" = some none)
    (jE : findIn K (.ref CB) "__init__" = some (some (.ref IB)))
    (lE : K.lookup IB = some ⟨.type "function", odE, .func (fnOf "__init__" "BadHouse.__init__" (iA "part" paE pbE) (iB "part" qaE qbE qcE qdE) (iS "part") .none .none docE pmE anE cdvE ctE), oslE⟩)
    (dE : codeIn K cdvE "BadHouse.__init__" = true)
    (aC : nsIn K mainGlobals "House" = some (some (.ref C)))
    (jI : findIn K (.ref C) "__init__" = some (some (.ref fI)))
    (iI : isFn K (.ref fI) = true)
    (jQ : findIn K (.ref C) "__eq__" = some (some (.ref fQ)))
    (iQ : isFn K (.ref fQ) = true)
    (jS : findIn K (.ref C) "__str__" = some (some (.ref fS)))
    (iS : isFn K (.ref fS) = true)
    (jB : findIn K (.ref C) "barred" = some (some (.ref fB)))
    (iB : isFn K (.ref fB) = true)
    (jR : findIn K (.ref C) "renamed" = some (some (.ref fR)))
    (iR : isFn K (.ref fR) = true)
    (lk_I : K.lookup fI = some ⟨ocI, odI, .func (fnOf "__init__" "House.__init__" (defArgs sInit) (defBody sInit) (defScope sInit) .none kVI docI pmI anI cdvI ctI), oslI⟩)
    (cI : codeIn K cdvI "House.__init__" = true)
    (kI : keepIn K (.ref fI) = true)
    (lk_Q : K.lookup fQ = some ⟨ocQ, odQ, .func (fnOf "__eq__" "House.__eq__" (defArgs sHEq) (defBody sHEq) (defScope sHEq) .none kVQ docQ pmQ anQ cdvQ ctQ), oslQ⟩)
    (cQ : codeIn K cdvQ "House.__eq__" = true)
    (kQ : keepIn K (.ref fQ) = true)
    (lk_S : K.lookup fS = some ⟨ocS, odS, .func (fnOf "__str__" "House.__str__" (defArgs sHStr) (defBody sHStr) (defScope sHStr) .none kVS docS pmS anS cdvS ctS), oslS⟩)
    (cS : codeIn K cdvS "House.__str__" = true)
    (kS : keepIn K (.ref fS) = true)
    (lk_B : K.lookup fB = some ⟨ocB, odB, .func (fnOf "barred" "House.barred" (defArgs sBarred) (defBody sBarred) (defScope sBarred) .none kVB docB pmB anB cdvB ctB), oslB⟩)
    (cB : codeIn K cdvB "House.barred" = true)
    (kB : keepIn K (.ref fB) = true)
    (lk_R : K.lookup fR = some ⟨ocR, odR, .func (fnOf "renamed" "House.renamed" (defArgs sRenamed) (defBody sRenamed) (defScope sRenamed) .none kVR docR pmR anR cdvR ctR), oslR⟩)
    (cR : codeIn K cdvR "House.renamed" = true)
    (kR : keepIn K (.ref fR) = true)
    (pg : plainGet K C Str.empty = true)
    (hd : hasDictIn K C = true)
    (po : plainOver K C = true)
    (sa : findIn K (.ref C) "__setattr__" = some (some (.builtin "object.__setattr__")))
    (mk : makesIn K C = true)
    (kc : keepIn K (.ref C) = true)
    (hac : findIn K (.ref C) "__class__" = some (some (.builtin "object.__class__")))
    (hmc : mroIn K C (.type "object") = some true)
    (hcl : ((clsIn K C).isSome && (typeIn K (.ref C) == some (.type "type"))) = true)
    (n_people : findIn K (.ref C) "people" = some none)
    (n_deeds : findIn K (.ref C) "deeds" = some none)
    (n_start : findIn K (.ref C) "start" = some none)
    (n_places : findIn K (.ref C) "places" = some none)
    (n_ends : findIn K (.ref C) "ends" = some none)
    (n_logs : findIn K (.ref C) "logs" = some none)
    (n_arrows : findIn K (.ref C) "arrows" = some none)
    (n_tests : findIn K (.ref C) "tests" = some none)
    (n_looks : findIn K (.ref C) "looks" = some none)
    (m0 : nsIn K mainGlobals "MOST_PEOPLE" = some (some (.int 3 tk0)))
    (m1 : nsIn K mainGlobals "MOST_DEEDS" = some (some (.int 5 tk1)))
    (m2 : nsIn K mainGlobals "MOST_COUNT" = some (some (.int 3 tk2)))
    (m3 : nsIn K mainGlobals "MOST_PLACES" = some (some (.int 3 tk3)))
    (m4 : nsIn K mainGlobals "MOST_LOGS" = some (some (.int 2 tk4)))
    (m5 : nsIn K mainGlobals "PIECE" = some (some (.int 1000000000000000000000000000000000000000000000000000000000000 tk5)))
    (aInt : nsIn K mainGlobals "is_int" = some (some (.ref gInt)))
    (lk_Int : K.lookup gInt = some ⟨ocInt, odInt, .func (fnOf "is_int" "is_int" (defArgs sIsInt) (defBody sIsInt) (defScope sIsInt) .none kVInt docInt pmInt anInt cdvInt ctInt), oslInt⟩)
    (cInt : codeIn K cdvInt "is_int" = true)
    (kInt : keepIn K (.ref gInt) = true)
    (aBet : nsIn K mainGlobals "is_between" = some (some (.ref gBet)))
    (lk_Bet : K.lookup gBet = some ⟨ocBet, odBet, .func (fnOf "is_between" "is_between" (defArgs sIsBet) (defBody sIsBet) (defScope sIsBet) .none kVBet docBet pmBet anBet cdvBet ctBet), oslBet⟩)
    (cBet : codeIn K cdvBet "is_between" = true)
    (kBet : keepIn K (.ref gBet) = true)
    (aLet : nsIn K mainGlobals "is_letter" = some (some (.ref gLet)))
    (lk_Let : K.lookup gLet = some ⟨ocLet, odLet, .func (fnOf "is_letter" "is_letter" (defArgs sIsLet) (defBody sIsLet) (defScope sIsLet) .none kVLet docLet pmLet anLet cdvLet ctLet), oslLet⟩)
    (cLet : codeIn K cdvLet "is_letter" = true)
    (kLet : keepIn K (.ref gLet) = true)
    (aTup : nsIn K mainGlobals "is_tuple_of" = some (some (.ref gTup)))
    (lk_Tup : K.lookup gTup = some ⟨ocTup, odTup, .func (fnOf "is_tuple_of" "is_tuple_of" (defArgs sIsTup) (defBody sIsTup) (defScope sIsTup) .none kVTup docTup pmTup anTup cdvTup ctTup), oslTup⟩)
    (cTup : codeIn K cdvTup "is_tuple_of" = true)
    (kTup : keepIn K (.ref gTup) = true)
    (aAsc : nsIn K mainGlobals "is_ascending" = some (some (.ref gAsc)))
    (lk_Asc : K.lookup gAsc = some ⟨ocAsc, odAsc, .func (fnOf "is_ascending" "is_ascending" (defArgs sIsAsc) (defBody sIsAsc) (defScope sIsAsc) .none kVAsc docAsc pmAsc anAsc cdvAsc ctAsc), oslAsc⟩)
    (cAsc : codeIn K cdvAsc "is_ascending" = true)
    (kAsc : keepIn K (.ref gAsc) = true)
    (aForm : nsIn K mainGlobals "is_form" = some (some (.ref gForm)))
    (lk_Form : K.lookup gForm = some ⟨ocForm, odForm, .func (fnOf "is_form" "is_form" (defArgs sIsForm) (defBody sIsForm) (defScope sIsForm) .none kVForm docForm pmForm anForm cdvForm ctForm), oslForm⟩)
    (cForm : codeIn K cdvForm "is_form" = true)
    (kForm : keepIn K (.ref gForm) = true)
    (aPeople : nsIn K mainGlobals "is_people" = some (some (.ref gPeople)))
    (lk_People : K.lookup gPeople = some ⟨ocPeople, odPeople, .func (fnOf "is_people" "is_people" (defArgs sIsPeople) (defBody sIsPeople) (defScope sIsPeople) .none kVPeople docPeople pmPeople anPeople cdvPeople ctPeople), oslPeople⟩)
    (cPeople : codeIn K cdvPeople "is_people" = true)
    (kPeople : keepIn K (.ref gPeople) = true)
    (aPlaces : nsIn K mainGlobals "is_places" = some (some (.ref gPlaces)))
    (lk_Places : K.lookup gPlaces = some ⟨ocPlaces, odPlaces, .func (fnOf "is_places" "is_places" (defArgs sIsPlaces) (defBody sIsPlaces) (defScope sIsPlaces) .none kVPlaces docPlaces pmPlaces anPlaces cdvPlaces ctPlaces), oslPlaces⟩)
    (cPlaces : codeIn K cdvPlaces "is_places" = true)
    (kPlaces : keepIn K (.ref gPlaces) = true)
    (aLogs : nsIn K mainGlobals "is_logs" = some (some (.ref gLogs)))
    (lk_Logs : K.lookup gLogs = some ⟨ocLogs, odLogs, .func (fnOf "is_logs" "is_logs" (defArgs sIsLogs) (defBody sIsLogs) (defScope sIsLogs) .none kVLogs docLogs pmLogs anLogs cdvLogs ctLogs), oslLogs⟩)
    (cLogs : codeIn K cdvLogs "is_logs" = true)
    (kLogs : keepIn K (.ref gLogs) = true)
    (aDeed : nsIn K mainGlobals "is_deed" = some (some (.ref gDeed)))
    (lk_Deed : K.lookup gDeed = some ⟨ocDeed, odDeed, .func (fnOf "is_deed" "is_deed" (defArgs sIsDeed) (defBody sIsDeed) (defScope sIsDeed) .none kVDeed docDeed pmDeed anDeed cdvDeed ctDeed), oslDeed⟩)
    (cDeed : codeIn K cdvDeed "is_deed" = true)
    (kDeed : keepIn K (.ref gDeed) = true)
    (aDeeds : nsIn K mainGlobals "are_deeds" = some (some (.ref gDeeds)))
    (lk_Deeds : K.lookup gDeeds = some ⟨ocDeeds, odDeeds, .func (fnOf "are_deeds" "are_deeds" (defArgs sAreDeeds) (defBody sAreDeeds) (defScope sAreDeeds) .none kVDeeds docDeeds pmDeeds anDeeds cdvDeeds ctDeeds), oslDeeds⟩)
    (cDeeds : codeIn K cdvDeeds "are_deeds" = true)
    (kDeeds : keepIn K (.ref gDeeds) = true)
    (aStart : nsIn K mainGlobals "is_start" = some (some (.ref gStart)))
    (lk_Start : K.lookup gStart = some ⟨ocStart, odStart, .func (fnOf "is_start" "is_start" (defArgs sIsStart) (defBody sIsStart) (defScope sIsStart) .none kVStart docStart pmStart anStart cdvStart ctStart), oslStart⟩)
    (cStart : codeIn K cdvStart "is_start" = true)
    (kStart : keepIn K (.ref gStart) = true)
    (aEnds : nsIn K mainGlobals "are_ends" = some (some (.ref gEnds)))
    (lk_Ends : K.lookup gEnds = some ⟨ocEnds, odEnds, .func (fnOf "are_ends" "are_ends" (defArgs sAreEnds) (defBody sAreEnds) (defScope sAreEnds) .none kVEnds docEnds pmEnds anEnds cdvEnds ctEnds), oslEnds⟩)
    (cEnds : codeIn K cdvEnds "are_ends" = true)
    (kEnds : keepIn K (.ref gEnds) = true)
    (aSource : nsIn K mainGlobals "is_source_and_deed" = some (some (.ref gSource)))
    (lk_Source : K.lookup gSource = some ⟨ocSource, odSource, .func (fnOf "is_source_and_deed" "is_source_and_deed" (defArgs sIsSource) (defBody sIsSource) (defScope sIsSource) .none kVSource docSource pmSource anSource cdvSource ctSource), oslSource⟩)
    (cSource : codeIn K cdvSource "is_source_and_deed" = true)
    (kSource : keepIn K (.ref gSource) = true)
    (aForms : nsIn K mainGlobals "are_forms" = some (some (.ref gForms)))
    (lk_Forms : K.lookup gForms = some ⟨ocForms, odForms, .func (fnOf "are_forms" "are_forms" (defArgs sAreForms) (defBody sAreForms) (defScope sAreForms) .none kVForms docForms pmForms anForms cdvForms ctForms), oslForms⟩)
    (cForms : codeIn K cdvForms "are_forms" = true)
    (kForms : keepIn K (.ref gForms) = true)
    (aMarks : nsIn K mainGlobals "are_marks" = some (some (.ref gMarks)))
    (lk_Marks : K.lookup gMarks = some ⟨ocMarks, odMarks, .func (fnOf "are_marks" "are_marks" (defArgs sAreMarks) (defBody sAreMarks) (defScope sAreMarks) .none kVMarks docMarks pmMarks anMarks cdvMarks ctMarks), oslMarks⟩)
    (cMarks : codeIn K cdvMarks "are_marks" = true)
    (kMarks : keepIn K (.ref gMarks) = true)
    (aArrow : nsIn K mainGlobals "is_arrow" = some (some (.ref gArrow)))
    (lk_Arrow : K.lookup gArrow = some ⟨ocArrow, odArrow, .func (fnOf "is_arrow" "is_arrow" (defArgs sIsArrow) (defBody sIsArrow) (defScope sIsArrow) .none kVArrow docArrow pmArrow anArrow cdvArrow ctArrow), oslArrow⟩)
    (cArrow : codeIn K cdvArrow "is_arrow" = true)
    (kArrow : keepIn K (.ref gArrow) = true)
    (aTest : nsIn K mainGlobals "is_test" = some (some (.ref gTest)))
    (lk_Test : K.lookup gTest = some ⟨ocTest, odTest, .func (fnOf "is_test" "is_test" (defArgs sIsTest) (defBody sIsTest) (defScope sIsTest) .none kVTest docTest pmTest anTest cdvTest ctTest), oslTest⟩)
    (cTest : codeIn K cdvTest "is_test" = true)
    (kTest : keepIn K (.ref gTest) = true)
    (aLooks : nsIn K mainGlobals "are_looks" = some (some (.ref gLooks)))
    (lk_Looks : K.lookup gLooks = some ⟨ocLooks, odLooks, .func (fnOf "are_looks" "are_looks" (defArgs sAreLooks) (defBody sAreLooks) (defScope sAreLooks) .none kVLooks docLooks pmLooks anLooks cdvLooks ctLooks), oslLooks⟩)
    (cLooks : codeIn K cdvLooks "are_looks" = true)
    (kLooks : keepIn K (.ref gLooks) = true)
    (aChkA : nsIn K mainGlobals "check_arrows" = some (some (.ref gChkA)))
    (lk_ChkA : K.lookup gChkA = some ⟨ocChkA, odChkA, .func (fnOf "check_arrows" "check_arrows" (defArgs sChkArrows) (defBody sChkArrows) (defScope sChkArrows) .none kVChkA docChkA pmChkA anChkA cdvChkA ctChkA), oslChkA⟩)
    (cChkA : codeIn K cdvChkA "check_arrows" = true)
    (kChkA : keepIn K (.ref gChkA) = true)
    (aChkT : nsIn K mainGlobals "check_tests" = some (some (.ref gChkT)))
    (lk_ChkT : K.lookup gChkT = some ⟨ocChkT, odChkT, .func (fnOf "check_tests" "check_tests" (defArgs sChkTests) (defBody sChkTests) (defScope sChkTests) .none kVChkT docChkT pmChkT anChkT cdvChkT ctChkT), oslChkT⟩)
    (cChkT : codeIn K cdvChkT "check_tests" = true)
    (kChkT : keepIn K (.ref gChkT) = true)
    (aNumW : nsIn K mainGlobals "number_word" = some (some (.ref gNumW)))
    (lk_NumW : K.lookup gNumW = some ⟨ocNumW, odNumW, .func (fnOf "number_word" "number_word" (defArgs sNumW) (defBody sNumW) (defScope sNumW) .none kVNumW docNumW pmNumW anNumW cdvNumW ctNumW), oslNumW⟩)
    (cNumW : codeIn K cdvNumW "number_word" = true)
    (kNumW : keepIn K (.ref gNumW) = true)
    (aFormW : nsIn K mainGlobals "form_word" = some (some (.ref gFormW)))
    (lk_FormW : K.lookup gFormW = some ⟨ocFormW, odFormW, .func (fnOf "form_word" "form_word" (defArgs sFormW) (defBody sFormW) (defScope sFormW) .none kVFormW docFormW pmFormW anFormW cdvFormW ctFormW), oslFormW⟩)
    (cFormW : codeIn K cdvFormW "form_word" = true)
    (kFormW : keepIn K (.ref gFormW) = true)
    (aMarksW : nsIn K mainGlobals "marks_word" = some (some (.ref gMarksW)))
    (lk_MarksW : K.lookup gMarksW = some ⟨ocMarksW, odMarksW, .func (fnOf "marks_word" "marks_word" (defArgs sMarksW) (defBody sMarksW) (defScope sMarksW) .none kVMarksW docMarksW pmMarksW anMarksW cdvMarksW ctMarksW), oslMarksW⟩)
    (cMarksW : codeIn K cdvMarksW "marks_word" = true)
    (kMarksW : keepIn K (.ref gMarksW) = true)
    (aLineN : nsIn K mainGlobals "line_of_numbers" = some (some (.ref gLineN)))
    (lk_LineN : K.lookup gLineN = some ⟨ocLineN, odLineN, .func (fnOf "line_of_numbers" "line_of_numbers" (defArgs sLineN) (defBody sLineN) (defScope sLineN) .none kVLineN docLineN pmLineN anLineN cdvLineN ctLineN), oslLineN⟩)
    (cLineN : codeIn K cdvLineN "line_of_numbers" = true)
    (kLineN : keepIn K (.ref gLineN) = true)
    (aLineA : nsIn K mainGlobals "line_of_arrow" = some (some (.ref gLineA)))
    (lk_LineA : K.lookup gLineA = some ⟨ocLineA, odLineA, .func (fnOf "line_of_arrow" "line_of_arrow" (defArgs sLineA) (defBody sLineA) (defScope sLineA) .none kVLineA docLineA pmLineA anLineA cdvLineA ctLineA), oslLineA⟩)
    (cLineA : codeIn K cdvLineA "line_of_arrow" = true)
    (kLineA : keepIn K (.ref gLineA) = true)
    (aLineT : nsIn K mainGlobals "line_of_test" = some (some (.ref gLineT)))
    (lk_LineT : K.lookup gLineT = some ⟨ocLineT, odLineT, .func (fnOf "line_of_test" "line_of_test" (defArgs sLineT) (defBody sLineT) (defScope sLineT) .none kVLineT docLineT pmLineT anLineT cdvLineT ctLineT), oslLineT⟩)
    (cLineT : codeIn K cdvLineT "line_of_test" = true)
    (kLineT : keepIn K (.ref gLineT) = true)
    (aLineL : nsIn K mainGlobals "lines_of_looks" = some (some (.ref gLineL)))
    (lk_LineL : K.lookup gLineL = some ⟨ocLineL, odLineL, .func (fnOf "lines_of_looks" "lines_of_looks" (defArgs sLineL) (defBody sLineL) (defScope sLineL) .none kVLineL docLineL pmLineL anLineL cdvLineL ctLineL), oslLineL⟩)
    (cLineL : codeIn K cdvLineL "lines_of_looks" = true)
    (kLineL : keepIn K (.ref gLineL) = true)
    (aHouseL : nsIn K mainGlobals "house_lines" = some (some (.ref gHouseL)))
    (lk_HouseL : K.lookup gHouseL = some ⟨ocHouseL, odHouseL, .func (fnOf "house_lines" "house_lines" (defArgs sHouseL) (defBody sHouseL) (defScope sHouseL) .none kVHouseL docHouseL pmHouseL anHouseL cdvHouseL ctHouseL), oslHouseL⟩)
    (cHouseL : codeIn K cdvHouseL "house_lines" = true)
    (kHouseL : keepIn K (.ref gHouseL) = true)
    (aDeck : nsIn K mainGlobals "_law_deck" = some (some (.ref gDeck)))
    (lk_Deck : K.lookup gDeck = some ⟨ocDeck, odDeck, .func (fnOf "_law_deck" "_law_deck" (defArgs lDeck) (defBody lDeck) (defScope lDeck) .none kVDeck docDeck pmDeck anDeck cdvDeck ctDeck), oslDeck⟩)
    (cDeck : codeIn K cdvDeck "_law_deck" = true)
    (kDeck : keepIn K (.ref gDeck) = true)
    (aDraw : nsIn K mainGlobals "_law_draw" = some (some (.ref gDraw)))
    (lk_Draw : K.lookup gDraw = some ⟨ocDraw, odDraw, .func (fnOf "_law_draw" "_law_draw" (defArgs lDraw) (defBody lDraw) (defScope lDraw) .none kVDraw docDraw pmDraw anDraw cdvDraw ctDraw), oslDraw⟩)
    (cDraw : codeIn K cdvDraw "_law_draw" = true)
    (kDraw : keepIn K (.ref gDraw) = true)
    (aPick : nsIn K mainGlobals "_law_pick" = some (some (.ref gPick)))
    (lk_Pick : K.lookup gPick = some ⟨ocPick, odPick, .func (fnOf "_law_pick" "_law_pick" (defArgs lPick) (defBody lPick) (defScope lPick) .none kVPick docPick pmPick anPick cdvPick ctPick), oslPick⟩)
    (cPick : codeIn K cdvPick "_law_pick" = true)
    (kPick : keepIn K (.ref gPick) = true)
    (aLForm : nsIn K mainGlobals "_law_form" = some (some (.ref gLForm)))
    (lk_LForm : K.lookup gLForm = some ⟨ocLForm, odLForm, .func (fnOf "_law_form" "_law_form" (defArgs lForm) (defBody lForm) (defScope lForm) .none kVLForm docLForm pmLForm anLForm cdvLForm ctLForm), oslLForm⟩)
    (cLForm : codeIn K cdvLForm "_law_form" = true)
    (kLForm : keepIn K (.ref gLForm) = true)
    (aUnit : nsIn K mainGlobals "_law_unit" = some (some (.ref gUnit)))
    (lk_Unit : K.lookup gUnit = some ⟨ocUnit, odUnit, .func (fnOf "_law_unit" "_law_unit" (defArgs lUnit) (defBody lUnit) (defScope lUnit) .none kVUnit docUnit pmUnit anUnit cdvUnit ctUnit), oslUnit⟩)
    (cUnit : codeIn K cdvUnit "_law_unit" = true)
    (kUnit : keepIn K (.ref gUnit) = true)
    (aHouse : nsIn K mainGlobals "_law_house" = some (some (.ref gHouse)))
    (lk_House : K.lookup gHouse = some ⟨ocHouse, odHouse, .func (fnOf "_law_house" "_law_house" (defArgs lHouse) (defBody lHouse) (defScope lHouse) .none kVHouse docHouse pmHouse anHouse cdvHouse ctHouse), oslHouse⟩)
    (cHouse : codeIn K cdvHouse "_law_house" = true)
    (kHouse : keepIn K (.ref gHouse) = true)
    (aCode : nsIn K mainGlobals "_law_code" = some (some (.ref gCode)))
    (lk_Code : K.lookup gCode = some ⟨ocCode, odCode, .func (fnOf "_law_code" "_law_code" (defArgs lCode) (defBody lCode) (defScope lCode) .none kVCode docCode pmCode anCode cdvCode ctCode), oslCode⟩)
    (cCode : codeIn K cdvCode "_law_code" = true)
    (kCode : keepIn K (.ref gCode) = true)
    (aShown : nsIn K mainGlobals "_law_shown" = some (some (.ref gShown)))
    (lk_Shown : K.lookup gShown = some ⟨ocShown, odShown, .func (fnOf "_law_shown" "_law_shown" (defArgs lShown) (defBody lShown) (defScope lShown) .none kVShown docShown pmShown anShown cdvShown ctShown), oslShown⟩)
    (cShown : codeIn K cdvShown "_law_shown" = true)
    (kShown : keepIn K (.ref gShown) = true)
    (aBarred : nsIn K mainGlobals "_law_barred" = some (some (.ref gBarred)))
    (lk_Barred : K.lookup gBarred = some ⟨ocBarred, odBarred, .func (fnOf "_law_barred" "_law_barred" (defArgs lBarred) (defBody lBarred) (defScope lBarred) .none kVBarred docBarred pmBarred anBarred cdvBarred ctBarred), oslBarred⟩)
    (cBarred : codeIn K cdvBarred "_law_barred" = true)
    (kBarred : keepIn K (.ref gBarred) = true)
    (aOther : nsIn K mainGlobals "_law_other" = some (some (.ref gOther)))
    (lk_Other : K.lookup gOther = some ⟨ocOther, odOther, .func (fnOf "_law_other" "_law_other" (defArgs lOther) (defBody lOther) (defScope lOther) .none kVOther docOther pmOther anOther cdvOther ctOther), oslOther⟩)
    (cOther : codeIn K cdvOther "_law_other" = true)
    (kOther : keepIn K (.ref gOther) = true)
    (aCalled : nsIn K mainGlobals "_law_called" = some (some (.ref gCalled)))
    (lk_Called : K.lookup gCalled = some ⟨ocCalled, odCalled, .func (fnOf "_law_called" "_law_called" (defArgs lCalled) (defBody lCalled) (defScope lCalled) .none kVCalled docCalled pmCalled anCalled cdvCalled ctCalled), oslCalled⟩)
    (cCalled : codeIn K cdvCalled "_law_called" = true)
    (kCalled : keepIn K (.ref gCalled) = true)
    (aHeard : nsIn K mainGlobals "_law_heard" = some (some (.ref gHeard)))
    (lk_Heard : K.lookup gHeard = some ⟨ocHeard, odHeard, .func (fnOf "_law_heard" "_law_heard" (defArgs lHeard) (defBody lHeard) (defScope lHeard) .none kVHeard docHeard pmHeard anHeard cdvHeard ctHeard), oslHeard⟩)
    (cHeard : codeIn K cdvHeard "_law_heard" = true)
    (kHeard : keepIn K (.ref gHeard) = true)
    (aLetter : nsIn K mainGlobals "_law_is_letter" = some (some (.ref gLetter)))
    (lk_Letter : K.lookup gLetter = some ⟨ocLetter, odLetter, .func (fnOf "_law_is_letter" "_law_is_letter" (defArgs lLetter) (defBody lLetter) (defScope lLetter) .none kVLetter docLetter pmLetter anLetter cdvLetter ctLetter), oslLetter⟩)
    (cLetter : codeIn K cdvLetter "_law_is_letter" = true)
    (kLetter : keepIn K (.ref gLetter) = true)
    (aNames : nsIn K mainGlobals "_law_names_right" = some (some (.ref gNames)))
    (lk_Names : K.lookup gNames = some ⟨ocNames, odNames, .func (fnOf "_law_names_right" "_law_names_right" (defArgs lNames) (defBody lNames) (defScope lNames) .none kVNames docNames pmNames anNames cdvNames ctNames), oslNames⟩)
    (cNames : codeIn K cdvNames "_law_names_right" = true)
    (kNames : keepIn K (.ref gNames) = true)
    (aRight : nsIn K mainGlobals "_law_right" = some (some (.ref gRight)))
    (lk_Right : K.lookup gRight = some ⟨ocRight, odRight, .func (fnOf "_law_right" "_law_right" (defArgs lRight) (defBody lRight) (defScope lRight) .none kVRight docRight pmRight anRight cdvRight ctRight), oslRight⟩)
    (cRight : codeIn K cdvRight "_law_right" = true)
    (kRight : keepIn K (.ref gRight) = true)
    (aLaw : nsIn K mainGlobals "law" = some (some (.ref gLaw)))
    (lk_Law : K.lookup gLaw = some ⟨ocLaw, odLaw, .func (fnOf "law" "law" (defArgs lLaw) (defBody lLaw) (defScope lLaw) .none kVLaw docLaw pmLaw anLaw cdvLaw ctLaw), oslLaw⟩)
    (cLaw : codeIn K cdvLaw "law" = true)
    (kLaw : keepIn K (.ref gLaw) = true)
    (zisinstance : nsIn K mainGlobals "isinstance" = some none)
    (zint : nsIn K mainGlobals "int" = some none)
    (zbool : nsIn K mainGlobals "bool" = some none)
    (zstr : nsIn K mainGlobals "str" = some none)
    (ztuple : nsIn K mainGlobals "tuple" = some none)
    (zlen : nsIn K mainGlobals "len" = some none)
    (zall : nsIn K mainGlobals "all" = some none)
    (zzip : nsIn K mainGlobals "zip" = some none)
    (zrange : nsIn K mainGlobals "range" = some none)
    (zlist : nsIn K mainGlobals "list" = some none)
    (zrepr : nsIn K mainGlobals "repr" = some none)
    (zsorted : nsIn K mainGlobals "sorted" = some none)
    (zdict : nsIn K mainGlobals "dict" = some none)
    (zset : nsIn K mainGlobals "set" = some none)
    (zabs : nsIn K mainGlobals "abs" = some none)
    (zenumerate : nsIn K mainGlobals "enumerate" = some none)
    (sp : specialIn K (.builtin "object.__class__") "__get__" = some (some (.builtin "getset_descriptor.__get__")))
    (tk : takesIn K (.builtin "object.__class__") = some true)
    (hB0 : ((clsIn K B0).isSome && (typeIn K (.ref B0) == some (.type "type"))) = true)
    (chk : chkE K B0 CB = true)
    : ∃ fd : FuncData, (∀ (s : Shared) (u : Value), BindsTo s fd ⟨[u], []⟩ [("_law_script", u)]) ∧ ∀ base : Heap, K.In base → base.Ns mainGlobals mg → FnG l.prog w K mg base CX0 13 fa fd ["_law_script"] (spLaw K) := by
  have e := hfa.symm.trans (mg_of X G aLaw)
  cases e
  have ck := chk_of chk
  have hB' : (clsIn K B0).isSome = true ∧ typeIn K (.ref B0) = some (.type "type") := by
    simpa using hB0
  have T : TxtB mg := ⟨mg_none_of X G zisinstance, mg_none_of X G zint, mg_none_of X G zbool, mg_none_of X G zstr, mg_none_of X G ztuple, mg_none_of X G zlen, mg_none_of X G zall, mg_none_of X G zzip⟩
  have TC : TxtC mg := ⟨T, mg_none_of X G zdict, mg_none_of X G zlist, mg_none_of X G zrepr, mg_none_of X G zsorted, mg_none_of X G zset⟩
  have TD : TxtD mg := ⟨TC.list, T.int, T.len⟩
  have TG : TxtG mg := ⟨TD, mg_none_of X G zrange, T.tuple⟩
  have mP : mg "PIECE" = some (.int (10 ^ 60) tk5) := by
    rw [show ((10 : Int) ^ 60) = 1000000000000000000000000000000000000000000000000000000000000 from by decide +kernel]
    exact mg_of X G m5
  have TW : TxtW mg := ⟨mg_none_of X G zabs, T.str, ⟨_, mP⟩, mg_none_of X G zenumerate⟩
  have M : TxtM mg := ⟨⟨_, mg_of X G m0⟩, ⟨_, mg_of X G m1⟩, ⟨_, mg_of X G m2⟩, ⟨_, mg_of X G m3⟩, ⟨_, mg_of X G m4⟩⟩
  have cls : Cls K C := ⟨pg, hd, po, sa⟩
  have TH : TxtH K C := ⟨cls, n_people, n_deeds, n_start, n_places, n_ends, n_logs, n_arrows, n_tests, n_looks⟩
  have TE : TxtE K mg CB IB := ⟨{ c := ck.ec sp tk, fls := by unfold IsFl; simp, nf := nE, iC := jE, fn := ⟨_, _, _, _, _, _, _, _, _, _, _, _, _, lE, dE⟩ }, ck.c10, mg_of X G aE⟩
  have mC := mg_of X G aC
  have mH := mg_of X G aB0
  have IC : C8.InsC K C := ⟨cls, hac, sp, tk, hmc, by unfold kitOne; rw [if_pos (by simp)]⟩
  have TQ : TxtQ K C := ⟨IC, hcl⟩
  have exm : exmOne K (.ref CB) (.ref CB) = some true := ck.exm (by rw [ck.mro]; rfl) (by
      unfold kitCls
      dsimp only
      rw [ck.isSome, ck.c10, if_pos (by simp), ck.mro]
      simp)
  have TX : TxtX K mg CB IB B0 := ⟨TE, exm, mH, ck.base hB'.1 hB'.2⟩
  have FI := fun_mk (st := sInit) lk_I cI kI
  have bI := FI.binds (ps := pInit9) fun _ _ _ _ _ _ us hl => match us, hl with | [_, _, _, _, _, _, _, _, _, _], _ => rfl
  have FQ := fun_mk (st := sHEq) lk_Q cQ kQ
  have bQ := FQ.binds (ps := ["self", "other"]) fun _ _ _ _ _ _ us hl => match us, hl with | [_, _], _ => rfl
  have FS := fun_mk (st := sHStr) lk_S cS kS
  have bS := FS.binds (ps := ["self"]) fun _ _ _ _ _ _ us hl => match us, hl with | [_], _ => rfl
  have FB := fun_mk (st := sBarred) lk_B cB kB
  have bB := FB.binds (ps := ["self", "deeds"]) fun _ _ _ _ _ _ us hl => match us, hl with | [_, _], _ => rfl
  have FR := fun_mk (st := sRenamed) lk_R cR kR
  have FInt := fun_mk (st := sIsInt) lk_Int cInt kInt
  have bInt := FInt.binds (ps := ["thing"]) fun _ _ _ _ _ _ us hl => match us, hl with | [_], _ => rfl
  have FBet := fun_mk (st := sIsBet) lk_Bet cBet kBet
  have bBet := FBet.binds (ps := ["thing", "low", "high"]) fun _ _ _ _ _ _ us hl => match us, hl with | [_, _, _], _ => rfl
  have FLet := fun_mk (st := sIsLet) lk_Let cLet kLet
  have bLet := FLet.binds (ps := ["thing"]) fun _ _ _ _ _ _ us hl => match us, hl with | [_], _ => rfl
  have FTup := fun_mk (st := sIsTup) lk_Tup cTup kTup
  have bTup := FTup.binds (ps := ["thing", "low", "high"]) fun _ _ _ _ _ _ us hl => match us, hl with | [_, _, _], _ => rfl
  have FAsc := fun_mk (st := sIsAsc) lk_Asc cAsc kAsc
  have bAsc := FAsc.binds (ps := ["items"]) fun _ _ _ _ _ _ us hl => match us, hl with | [_], _ => rfl
  have FForm := fun_mk (st := sIsForm) lk_Form cForm kForm
  have bForm := FForm.binds (ps := ["count", "thing"]) fun _ _ _ _ _ _ us hl => match us, hl with | [_, _], _ => rfl
  have FPeople := fun_mk (st := sIsPeople) lk_People cPeople kPeople
  have bPeople := FPeople.binds (ps := ["thing"]) fun _ _ _ _ _ _ us hl => match us, hl with | [_], _ => rfl
  have FPlaces := fun_mk (st := sIsPlaces) lk_Places cPlaces kPlaces
  have bPlaces := FPlaces.binds (ps := ["thing"]) fun _ _ _ _ _ _ us hl => match us, hl with | [_], _ => rfl
  have FLogs := fun_mk (st := sIsLogs) lk_Logs cLogs kLogs
  have bLogs := FLogs.binds (ps := ["thing"]) fun _ _ _ _ _ _ us hl => match us, hl with | [_], _ => rfl
  have FDeed := fun_mk (st := sIsDeed) lk_Deed cDeed kDeed
  have bDeed := FDeed.binds (ps := ["thing", "people"]) fun _ _ _ _ _ _ us hl => match us, hl with | [_, _], _ => rfl
  have FDeeds := fun_mk (st := sAreDeeds) lk_Deeds cDeeds kDeeds
  have bDeeds := FDeeds.binds (ps := ["thing", "people"]) fun _ _ _ _ _ _ us hl => match us, hl with | [_, _], _ => rfl
  have FStart := fun_mk (st := sIsStart) lk_Start cStart kStart
  have bStart := FStart.binds (ps := ["thing"]) fun _ _ _ _ _ _ us hl => match us, hl with | [_], _ => rfl
  have FEnds := fun_mk (st := sAreEnds) lk_Ends cEnds kEnds
  have bEnds := FEnds.binds (ps := ["thing", "places"]) fun _ _ _ _ _ _ us hl => match us, hl with | [_, _], _ => rfl
  have FSource := fun_mk (st := sIsSource) lk_Source cSource kSource
  have bSource := FSource.binds (ps := ["house", "source", "deed"]) fun _ _ _ _ _ _ us hl => match us, hl with | [_, _, _], _ => rfl
  have FForms := fun_mk (st := sAreForms) lk_Forms cForms kForms
  have bForms := FForms.binds (ps := ["house", "thing"]) fun _ _ _ _ _ _ us hl => match us, hl with | [_, _], _ => rfl
  have FMarks := fun_mk (st := sAreMarks) lk_Marks cMarks kMarks
  have bMarks := FMarks.binds (ps := ["house", "thing"]) fun _ _ _ _ _ _ us hl => match us, hl with | [_, _], _ => rfl
  have FArrow := fun_mk (st := sIsArrow) lk_Arrow cArrow kArrow
  have bArrow := FArrow.binds (ps := ["house", "thing"]) fun _ _ _ _ _ _ us hl => match us, hl with | [_, _], _ => rfl
  have FTest := fun_mk (st := sIsTest) lk_Test cTest kTest
  have bTest := FTest.binds (ps := ["house", "thing"]) fun _ _ _ _ _ _ us hl => match us, hl with | [_, _], _ => rfl
  have FLooks := fun_mk (st := sAreLooks) lk_Looks cLooks kLooks
  have bLooks := FLooks.binds (ps := ["house", "thing"]) fun _ _ _ _ _ _ us hl => match us, hl with | [_, _], _ => rfl
  have FChkA := fun_mk (st := sChkArrows) lk_ChkA cChkA kChkA
  have bChkA := FChkA.binds (ps := ["house", "arrows"]) fun _ _ _ _ _ _ us hl => match us, hl with | [_, _], _ => rfl
  have FChkT := fun_mk (st := sChkTests) lk_ChkT cChkT kChkT
  have bChkT := FChkT.binds (ps := ["house", "tests"]) fun _ _ _ _ _ _ us hl => match us, hl with | [_, _], _ => rfl
  have FNumW := fun_mk (st := sNumW) lk_NumW cNumW kNumW
  have bNumW := FNumW.binds (ps := ["number"]) fun _ _ _ _ _ _ us hl => match us, hl with | [_], _ => rfl
  have FFormW := fun_mk (st := sFormW) lk_FormW cFormW kFormW
  have bFormW := FFormW.binds (ps := ["form"]) fun _ _ _ _ _ _ us hl => match us, hl with | [_], _ => rfl
  have FMarksW := fun_mk (st := sMarksW) lk_MarksW cMarksW kMarksW
  have bMarksW := FMarksW.binds (ps := ["marks"]) fun _ _ _ _ _ _ us hl => match us, hl with | [_], _ => rfl
  have FLineN := fun_mk (st := sLineN) lk_LineN cLineN kLineN
  have bLineN := FLineN.binds (ps := ["kind", "numbers"]) fun _ _ _ _ _ _ us hl => match us, hl with | [_, _], _ => rfl
  have FLineA := fun_mk (st := sLineA) lk_LineA cLineA kLineA
  have bLineA := FLineA.binds (ps := ["arrow"]) fun _ _ _ _ _ _ us hl => match us, hl with | [_], _ => rfl
  have FLineT := fun_mk (st := sLineT) lk_LineT cLineT kLineT
  have bLineT := FLineT.binds (ps := ["test"]) fun _ _ _ _ _ _ us hl => match us, hl with | [_], _ => rfl
  have FLineL := fun_mk (st := sLineL) lk_LineL cLineL kLineL
  have bLineL := FLineL.binds (ps := ["looks"]) fun _ _ _ _ _ _ us hl => match us, hl with | [_], _ => rfl
  have FHouseL := fun_mk (st := sHouseL) lk_HouseL cHouseL kHouseL
  have bHouseL := FHouseL.binds (ps := ["house"]) fun _ _ _ _ _ _ us hl => match us, hl with | [_], _ => rfl
  have FDeck := fun_mk (st := lDeck) lk_Deck cDeck kDeck
  have bDeck := FDeck.binds (ps := ["_law_script"]) fun _ _ _ _ _ _ us hl => match us, hl with | [_], _ => rfl
  have FDraw := fun_mk (st := lDraw) lk_Draw cDraw kDraw
  have bDraw := FDraw.binds (ps := ["_law_deck_here", "_law_below"]) fun _ _ _ _ _ _ us hl => match us, hl with | [_, _], _ => rfl
  have FPick := fun_mk (st := lPick) lk_Pick cPick kPick
  have bPick := FPick.binds (ps := ["_law_deck_here", "_law_some"]) fun _ _ _ _ _ _ us hl => match us, hl with | [_, _], _ => rfl
  have FLForm := fun_mk (st := lForm) lk_LForm cLForm kLForm
  have bLForm := FLForm.binds (ps := ["_law_deck_here", "_law_size", "_law_top"]) fun _ _ _ _ _ _ us hl => match us, hl with | [_, _, _], _ => rfl
  have FUnit := fun_mk (st := lUnit) lk_Unit cUnit kUnit
  have bUnit := FUnit.binds (ps := ["_law_size", "_law_k", "_law_base", "_law_factor"]) fun _ _ _ _ _ _ us hl => match us, hl with | [_, _, _, _], _ => rfl
  have FHouse := fun_mk (st := lHouse) lk_House cHouse kHouse
  have bHouse := FHouse.binds (ps := ["_law_deck_here", "_law_places"]) fun _ _ _ _ _ _ us hl => match us, hl with | [_, _], _ => rfl
  have FCode := fun_mk (st := lCode) lk_Code cCode kCode
  have bCode := FCode.binds (ps := ["_law_w"]) fun _ _ _ _ _ _ us hl => match us, hl with | [_], _ => rfl
  have FShown := fun_mk (st := lShown) lk_Shown cShown kShown
  have bShown := FShown.binds (ps := ["_law_code_here"]) fun _ _ _ _ _ _ us hl => match us, hl with | [_], _ => rfl
  have FBarred := fun_mk (st := lBarred) lk_Barred cBarred kBarred
  have bBarred := FBarred.binds (ps := ["_law_w", "_law_some"]) fun _ _ _ _ _ _ us hl => match us, hl with | [_, _], _ => rfl
  have FOther := fun_mk (st := lOther) lk_Other cOther kOther
  have bOther := FOther.binds (ps := ["_law_w", "_law_called_here"]) fun _ _ _ _ _ _ us hl => match us, hl with | [_, _], _ => rfl
  have FCalled := fun_mk (st := lCalled) lk_Called cCalled kCalled
  have bCalled := FCalled.binds (ps := ["_law_code_here", "_law_called_here"]) fun _ _ _ _ _ _ us hl => match us, hl with | [_, _], _ => rfl
  have FHeard := fun_mk (st := lHeard) lk_Heard cHeard kHeard
  have bHeard := FHeard.binds (ps := ["_law_code_here", "_law_called_here"]) fun _ _ _ _ _ _ us hl => match us, hl with | [_, _], _ => rfl
  have FLetter := fun_mk (st := lLetter) lk_Letter cLetter kLetter
  have bLetter := FLetter.binds (ps := ["_law_it"]) fun _ _ _ _ _ _ us hl => match us, hl with | [_], _ => rfl
  have FNames := fun_mk (st := lNames) lk_Names cNames kNames
  have bNames := FNames.binds (ps := ["_law_deck_here", "_law_w", "_law_code_here", "_law_letters"]) fun _ _ _ _ _ _ us hl => match us, hl with | [_, _, _, _], _ => rfl
  have FRight := fun_mk (st := lRight) lk_Right cRight kRight
  have bRight := FRight.binds (ps := ["_law_deck_here", "_law_w"]) fun _ _ _ _ _ _ us hl => match us, hl with | [_, _], _ => rfl
  have FLaw := fun_mk (st := lLaw) lk_Law cLaw kLaw
  have bLaw := FLaw.binds (ps := ["_law_script"]) fun _ _ _ _ _ _ us hl => match us, hl with | [_], _ => rfl
  have kbB : KBinds K (fnOf "barred" "House.barred" (defArgs sBarred) (defBody sBarred) (defScope sBarred) .none kVB docB pmB anB cdvB ctB) ["self", "deeds"] ["deeds"] gApp gAppV := kb_deeds fun _ _ => rfl
  have MK : Mk K C fI := ⟨mk, jI, iI, kc⟩
  have MB : Meth K C "barred" fB := ⟨jB, iB, kB⟩
  have TN : TxtN K C fR (fnOf "renamed" "House.renamed" (defArgs sRenamed) (defBody sRenamed) (defScope sRenamed) .none kVR docR pmR anR cdvR ctR) := ⟨cls, ⟨jR, iR, kR⟩, fun ks hk ws hl => bind_ren hk ws hl⟩
  refine ⟨_, fun s u => .of_eq (fd := fnOf "law" "law" (defArgs lLaw) (defBody lLaw) (defScope lLaw) .none kVLaw docLaw pmLaw anLaw cdvLaw ctLaw) rfl, fun base _ _ => ?_⟩
  have CInt : Cal K mg "is_int" gInt _ ["thing"] := ⟨mg_of X G aInt, kInt, bInt⟩
  have CBet : Cal K mg "is_between" gBet _ ["thing", "low", "high"] := ⟨mg_of X G aBet, kBet, bBet⟩
  have CLet : Cal K mg "is_letter" gLet _ ["thing"] := ⟨mg_of X G aLet, kLet, bLet⟩
  have CTup : Cal K mg "is_tuple_of" gTup _ ["thing", "low", "high"] := ⟨mg_of X G aTup, kTup, bTup⟩
  have CAsc : Cal K mg "is_ascending" gAsc _ ["items"] := ⟨mg_of X G aAsc, kAsc, bAsc⟩
  have CForm : Cal K mg "is_form" gForm _ ["count", "thing"] := ⟨mg_of X G aForm, kForm, bForm⟩
  have CPeople : Cal K mg "is_people" gPeople _ ["thing"] := ⟨mg_of X G aPeople, kPeople, bPeople⟩
  have CPlaces : Cal K mg "is_places" gPlaces _ ["thing"] := ⟨mg_of X G aPlaces, kPlaces, bPlaces⟩
  have CLogs : Cal K mg "is_logs" gLogs _ ["thing"] := ⟨mg_of X G aLogs, kLogs, bLogs⟩
  have CDeed : Cal K mg "is_deed" gDeed _ ["thing", "people"] := ⟨mg_of X G aDeed, kDeed, bDeed⟩
  have CDeeds : Cal K mg "are_deeds" gDeeds _ ["thing", "people"] := ⟨mg_of X G aDeeds, kDeeds, bDeeds⟩
  have CStart : Cal K mg "is_start" gStart _ ["thing"] := ⟨mg_of X G aStart, kStart, bStart⟩
  have CEnds : Cal K mg "are_ends" gEnds _ ["thing", "places"] := ⟨mg_of X G aEnds, kEnds, bEnds⟩
  have CSource : Cal K mg "is_source_and_deed" gSource _ ["house", "source", "deed"] := ⟨mg_of X G aSource, kSource, bSource⟩
  have CForms : Cal K mg "are_forms" gForms _ ["house", "thing"] := ⟨mg_of X G aForms, kForms, bForms⟩
  have CMarks : Cal K mg "are_marks" gMarks _ ["house", "thing"] := ⟨mg_of X G aMarks, kMarks, bMarks⟩
  have CArrow : Cal K mg "is_arrow" gArrow _ ["house", "thing"] := ⟨mg_of X G aArrow, kArrow, bArrow⟩
  have CTest : Cal K mg "is_test" gTest _ ["house", "thing"] := ⟨mg_of X G aTest, kTest, bTest⟩
  have CLooks : Cal K mg "are_looks" gLooks _ ["house", "thing"] := ⟨mg_of X G aLooks, kLooks, bLooks⟩
  have CChkA : Cal K mg "check_arrows" gChkA _ ["house", "arrows"] := ⟨mg_of X G aChkA, kChkA, bChkA⟩
  have CChkT : Cal K mg "check_tests" gChkT _ ["house", "tests"] := ⟨mg_of X G aChkT, kChkT, bChkT⟩
  have CNumW : Cal K mg "number_word" gNumW _ ["number"] := ⟨mg_of X G aNumW, kNumW, bNumW⟩
  have CFormW : Cal K mg "form_word" gFormW _ ["form"] := ⟨mg_of X G aFormW, kFormW, bFormW⟩
  have CMarksW : Cal K mg "marks_word" gMarksW _ ["marks"] := ⟨mg_of X G aMarksW, kMarksW, bMarksW⟩
  have CLineN : Cal K mg "line_of_numbers" gLineN _ ["kind", "numbers"] := ⟨mg_of X G aLineN, kLineN, bLineN⟩
  have CLineA : Cal K mg "line_of_arrow" gLineA _ ["arrow"] := ⟨mg_of X G aLineA, kLineA, bLineA⟩
  have CLineT : Cal K mg "line_of_test" gLineT _ ["test"] := ⟨mg_of X G aLineT, kLineT, bLineT⟩
  have CLineL : Cal K mg "lines_of_looks" gLineL _ ["looks"] := ⟨mg_of X G aLineL, kLineL, bLineL⟩
  have CHouseL : Cal K mg "house_lines" gHouseL _ ["house"] := ⟨mg_of X G aHouseL, kHouseL, bHouseL⟩
  have CDeck : Cal K mg "_law_deck" gDeck _ ["_law_script"] := ⟨mg_of X G aDeck, kDeck, bDeck⟩
  have CDraw : Cal K mg "_law_draw" gDraw _ ["_law_deck_here", "_law_below"] := ⟨mg_of X G aDraw, kDraw, bDraw⟩
  have CPick : Cal K mg "_law_pick" gPick _ ["_law_deck_here", "_law_some"] := ⟨mg_of X G aPick, kPick, bPick⟩
  have CLForm : Cal K mg "_law_form" gLForm _ ["_law_deck_here", "_law_size", "_law_top"] := ⟨mg_of X G aLForm, kLForm, bLForm⟩
  have CUnit : Cal K mg "_law_unit" gUnit _ ["_law_size", "_law_k", "_law_base", "_law_factor"] := ⟨mg_of X G aUnit, kUnit, bUnit⟩
  have CHouse : Cal K mg "_law_house" gHouse _ ["_law_deck_here", "_law_places"] := ⟨mg_of X G aHouse, kHouse, bHouse⟩
  have CCode : Cal K mg "_law_code" gCode _ ["_law_w"] := ⟨mg_of X G aCode, kCode, bCode⟩
  have CShown : Cal K mg "_law_shown" gShown _ ["_law_code_here"] := ⟨mg_of X G aShown, kShown, bShown⟩
  have CBarred : Cal K mg "_law_barred" gBarred _ ["_law_w", "_law_some"] := ⟨mg_of X G aBarred, kBarred, bBarred⟩
  have COther : Cal K mg "_law_other" gOther _ ["_law_w", "_law_called_here"] := ⟨mg_of X G aOther, kOther, bOther⟩
  have CCalled : Cal K mg "_law_called" gCalled _ ["_law_code_here", "_law_called_here"] := ⟨mg_of X G aCalled, kCalled, bCalled⟩
  have CHeard : Cal K mg "_law_heard" gHeard _ ["_law_code_here", "_law_called_here"] := ⟨mg_of X G aHeard, kHeard, bHeard⟩
  have CLetter : Cal K mg "_law_is_letter" gLetter _ ["_law_it"] := ⟨mg_of X G aLetter, kLetter, bLetter⟩
  have CNames : Cal K mg "_law_names_right" gNames _ ["_law_deck_here", "_law_w", "_law_code_here", "_law_letters"] := ⟨mg_of X G aNames, kNames, bNames⟩
  have CRight : Cal K mg "_law_right" gRight _ ["_law_deck_here", "_law_w"] := ⟨mg_of X G aRight, kRight, bRight⟩
  have GInt := ok_int (P := l.prog) (w := w) (mg := mg) (base := base) FInt T
  have GBet := ok_bet (P := l.prog) (w := w) (mg := mg) (base := base) FBet T GInt CInt
  have GLet := ok_let (P := l.prog) (w := w) (mg := mg) (base := base) FLet T
  have GTup := ok_tup (P := l.prog) (w := w) (mg := mg) (base := base) FTup T
  have GAsc := ok_asc (P := l.prog) (w := w) (mg := mg) (base := base) FAsc T
  have GForm := ok_form (P := l.prog) (w := w) (mg := mg) (base := base) FForm T GInt CInt GTup CTup
  have GPeople := ok_people (P := l.prog) (w := w) (mg := mg) (base := base) FPeople M GBet CBet
  have GPlaces := ok_places (P := l.prog) (w := w) (mg := mg) (base := base) FPlaces M GBet CBet
  have GLogs := ok_logs (P := l.prog) (w := w) (mg := mg) (base := base) FLogs M GBet CBet
  have GDeed := ok_deed (P := l.prog) (w := w) (mg := mg) (base := base) FDeed GTup CTup GLet CLet GBet CBet
  have GDeeds := ok_deeds (P := l.prog) (w := w) (mg := mg) (base := base) FDeeds T M GTup CTup GDeed CDeed GAsc CAsc
  have GStart := ok_start (P := l.prog) (w := w) (mg := mg) (base := base) FStart T M GInt CInt GTup CTup
  have GEnds := ok_ends (P := l.prog) (w := w) (mg := mg) (base := base) FEnds T GBet CBet GAsc CAsc
  have GSource := ok_source (P := l.prog) (w := w) (mg := mg) (base := base) FSource TH GBet CBet
  have GForms := ok_forms (P := l.prog) (w := w) (mg := mg) (base := base) FForms T TH GForm CForm
  have GMarks := ok_marks (P := l.prog) (w := w) (mg := mg) (base := base) FMarks T TH GTup CTup GLet CLet
  have GArrow := ok_arrow (P := l.prog) (w := w) (mg := mg) (base := base) FArrow T TH GTup CTup GSource CSource GBet CBet GForms CForms GMarks CMarks
  have GTest := ok_test (P := l.prog) (w := w) (mg := mg) (base := base) FTest T TH GTup CTup GSource CSource GForm CForm GInt CInt
  have GLooks := ok_looks (P := l.prog) (w := w) (mg := mg) (base := base) FLooks T TH GTup CTup GForms CForms
  have GChkA := ok_chkA (P := l.prog) (w := w) (mg := mg) (base := base) FChkA T TE GArrow CArrow GAsc CAsc
  have GChkT := ok_chkT (P := l.prog) (w := w) (mg := mg) (base := base) FChkT T TH TE GTest CTest GAsc CAsc
  have GNumW := ok_numW (P := l.prog) (w := w) (mg := mg) (base := base) FNumW TW
  have GFormW := ok_formW (P := l.prog) (w := w) (mg := mg) (base := base) FFormW GNumW CNumW
  have GMarksW := ok_marksW (P := l.prog) (w := w) (mg := mg) (base := base) FMarksW
  have GLineN := ok_lineN (P := l.prog) (w := w) (mg := mg) (base := base) FLineN GNumW CNumW
  have GLineA := ok_lineA (P := l.prog) (w := w) (mg := mg) (base := base) FLineA GFormW CFormW GMarksW CMarksW
  have GLineT := ok_lineT (P := l.prog) (w := w) (mg := mg) (base := base) FLineT GFormW CFormW GNumW CNumW
  have GLineL := ok_lineL (P := l.prog) (w := w) (mg := mg) (base := base) FLineL TW GFormW CFormW
  have GHouseL := ok_houseL (P := l.prog) (w := w) (mg := mg) (base := base) FHouseL TH GLineN CLineN GLineA CLineA GLineT CLineT GLineL CLineL
  have GInit := ok_init (P := l.prog) (w := w) (mg := mg) (base := base) FI TH TE GPeople CPeople GDeeds CDeeds GStart CStart GPlaces CPlaces GEnds CEnds GLogs CLogs GChkA CChkA GChkT CChkT GLooks CLooks
  have GQ := ok_heq (P := l.prog) (w := w) (mg := mg) (base := base) FQ TH TQ T mC
  have GS := ok_hstr (P := l.prog) (w := w) (mg := mg) (base := base) FS GHouseL CHouseL
  have GB := ok_barred (P := l.prog) (w := w) (mg := mg) (base := base) FB TH T.tuple mC GInit MK bI
  have GR := ok_ren (P := l.prog) (w := w) (mg := mg) (base := base) FR TH T TE TC.sorted mC GInit MK bI GLet CLet
  have RF : HFns l.prog w K mg base C fB fQ _ _ := ⟨cls, mC, MB, GB, bB, kbB, GQ, jQ, iQ, bQ, IC⟩
  have GDeck := ok_deck (P := l.prog) (w := w) (mg := mg) (base := base) FDeck TD
  have GDraw := ok_draw (P := l.prog) (w := w) (mg := mg) (base := base) FDraw TD
  have GPick := ok_pick (P := l.prog) (w := w) (mg := mg) (base := base) FPick TD GDraw CDraw
  have GLForm := ok_formG (P := l.prog) (w := w) (mg := mg) (base := base) FLForm TG GDraw CDraw
  have GUnit := ok_unit (P := l.prog) (w := w) (mg := mg) (base := base) FUnit TG
  have GHouse := ok_house (P := l.prog) (w := w) (mg := mg) (base := base) FHouse TG GDraw CDraw GPick CPick GLForm CLForm GUnit CUnit
  have GCode := ok_code (P := l.prog) (w := w) (mg := mg) (base := base) FCode mC GInit MK bI
  have GShown := ok_shown (P := l.prog) (w := w) (mg := mg) (base := base) FShown TH TC.repr
  have GBarred := ok_lbarred (P := l.prog) (w := w) (mg := mg) (base := base) FBarred TC
  have GOther := ok_lother (P := l.prog) (w := w) (mg := mg) (base := base) FOther TC
  have GCalled := ok_lcalled (P := l.prog) (w := w) (mg := mg) (base := base) FCalled TN GR
  have GHeard := ok_lheard (P := l.prog) (w := w) (mg := mg) (base := base) FHeard TX TC GCalled CCalled GShown CShown
  have GLetter := ok_lletter (P := l.prog) (w := w) (mg := mg) (base := base) FLetter T
  have GNames := ok_lnames (P := l.prog) (w := w) (mg := mg) (base := base) FNames TC GDraw CDraw GPick CPick GHeard CHeard GLetter CLetter GShown CShown GCode CCode GOther COther
  have GRight := ok_lright (P := l.prog) (w := w) (mg := mg) (base := base) FRight TC TG RF GDraw CDraw GPick CPick GCode CCode GShown CShown GBarred CBarred GNames CNames
  have LF : LawFns l.prog w K mg base C gDeck gHouse gRight gCode fS fR _ _ _ _ _ _ CB := ⟨GDeck, CDeck, GHouse, CHouse, GRight, CRight, GCode, CCode, GS, jS, iS, bS, GR, TN⟩
  exact ok_law FLaw TC TG RF LF
theorem walk {l : PySem.W.OpenLaw} {q : Program} {loose : List Str} {XP : (Str → Option Value) → Heap → Prop} {YP : World → Heap → Prop} {d : DefRec} {K : Params → Frag} (hn : l.most = some 63) (hdf : d.params.defaults = []) (hY : ∀ (w : World) (h : Heap), YP w h → (K w.params).In h)
    (F : ∀ (w : World) (mg : Str → Option Value) (fa : Addr) (h : Heap), (K w.params).In h → h.Ns mainGlobals mg → mg d.name = some (.ref fa) →
      ∃ fd : FuncData, (∀ (s : Shared) (u : Value), BindsTo s fd ⟨[u], []⟩ [("_law_script", u)]) ∧ ∀ base : Heap, (K w.params).In base → base.Ns mainGlobals mg → FnG l.prog w (K w.params) mg base CX0 13 fa fd ["_law_script"] (spLaw (K w.params))) : WalkO q loose XP YP l.row.toRowW d [] (fun f vs => PySem.call f vs) :=
  walkG (n := 63) (k := 13) (x := "_law_script") (CX := fun _ => CX0) (sp := fun w => spLaw (K w.params)) hn (by decide) hdf ⟨rfl, by decide, by decide⟩ hY F (fun _ _ a ns hl _ hS => ⟨a, ns, rfl, hS, hl, fun _ => rfl⟩) fun _ _ _ _ _ z => z
end KL
set_option Elab.async false
open PySem PySem.W PyProof.Rows in
set_option maxRecDepth 100000 in
set_option maxHeartbeats 0 in
theorem PySem.Challenge.cw_loghouse_k05_houses_barred_and_renamed_holds : PySem.Challenge.rw_loghouse_k05_houses_barred_and_renamed.Holds := by
  w_on; o_law; k_head; (case hw => w_witness2)
  k_fill
  refine KL.walk (l := PySem.Challenge.rw_loghouse_k05_houses_barred_and_renamed) rfl rfl (fun w h Y => PySem.W.kIn_of Y) ?F
  case F =>
    intro w mg fa h KX G hmg
    refine' KL.all_mk KX G hmg ?aB0 ?aE ?nE ?jE ?lE ?dE ?aC ?jI ?iI ?jQ ?iQ ?jS ?iS ?jB ?iB ?jR ?iR ?lk_I ?cI ?kI ?lk_Q ?cQ ?kQ ?lk_S ?cS ?kS ?lk_B ?cB ?kB ?lk_R ?cR ?kR ?pg ?hd ?po ?sa ?mk ?kc ?hac ?hmc ?hcl ?n_people ?n_deeds ?n_start ?n_places ?n_ends ?n_logs ?n_arrows ?n_tests ?n_looks ?m0 ?m1 ?m2 ?m3 ?m4 ?m5 ?aInt ?lk_Int ?cInt ?kInt ?aBet ?lk_Bet ?cBet ?kBet ?aLet ?lk_Let ?cLet ?kLet ?aTup ?lk_Tup ?cTup ?kTup ?aAsc ?lk_Asc ?cAsc ?kAsc ?aForm ?lk_Form ?cForm ?kForm ?aPeople ?lk_People ?cPeople ?kPeople ?aPlaces ?lk_Places ?cPlaces ?kPlaces ?aLogs ?lk_Logs ?cLogs ?kLogs ?aDeed ?lk_Deed ?cDeed ?kDeed ?aDeeds ?lk_Deeds ?cDeeds ?kDeeds ?aStart ?lk_Start ?cStart ?kStart ?aEnds ?lk_Ends ?cEnds ?kEnds ?aSource ?lk_Source ?cSource ?kSource ?aForms ?lk_Forms ?cForms ?kForms ?aMarks ?lk_Marks ?cMarks ?kMarks ?aArrow ?lk_Arrow ?cArrow ?kArrow ?aTest ?lk_Test ?cTest ?kTest ?aLooks ?lk_Looks ?cLooks ?kLooks ?aChkA ?lk_ChkA ?cChkA ?kChkA ?aChkT ?lk_ChkT ?cChkT ?kChkT ?aNumW ?lk_NumW ?cNumW ?kNumW ?aFormW ?lk_FormW ?cFormW ?kFormW ?aMarksW ?lk_MarksW ?cMarksW ?kMarksW ?aLineN ?lk_LineN ?cLineN ?kLineN ?aLineA ?lk_LineA ?cLineA ?kLineA ?aLineT ?lk_LineT ?cLineT ?kLineT ?aLineL ?lk_LineL ?cLineL ?kLineL ?aHouseL ?lk_HouseL ?cHouseL ?kHouseL ?aDeck ?lk_Deck ?cDeck ?kDeck ?aDraw ?lk_Draw ?cDraw ?kDraw ?aPick ?lk_Pick ?cPick ?kPick ?aLForm ?lk_LForm ?cLForm ?kLForm ?aUnit ?lk_Unit ?cUnit ?kUnit ?aHouse ?lk_House ?cHouse ?kHouse ?aCode ?lk_Code ?cCode ?kCode ?aShown ?lk_Shown ?cShown ?kShown ?aBarred ?lk_Barred ?cBarred ?kBarred ?aOther ?lk_Other ?cOther ?kOther ?aCalled ?lk_Called ?cCalled ?kCalled ?aHeard ?lk_Heard ?cHeard ?kHeard ?aLetter ?lk_Letter ?cLetter ?kLetter ?aNames ?lk_Names ?cNames ?kNames ?aRight ?lk_Right ?cRight ?kRight ?aLaw ?lk_Law ?cLaw ?kLaw ?zisinstance ?zint ?zbool ?zstr ?ztuple ?zlen ?zall ?zzip ?zrange ?zlist ?zrepr ?zsorted ?zdict ?zset ?zabs ?zenumerate ?sp ?tk ?hB0 ?chk
    (case aB0 => k_is)
    (case aE => k_is)
    (case nE => k_is)
    (case jE => k_is)
    (case lE => k_is)
    (case dE => k_is)
    (case aC => k_is)
    (case jI => k_is)
    (case iI => k_is)
    (case jQ => k_is)
    (case iQ => k_is)
    (case jS => k_is)
    (case iS => k_is)
    (case jB => k_is)
    (case iB => k_is)
    (case jR => k_is)
    (case iR => k_is)
    (case lk_I => k_is)
    (case cI => k_is)
    (case kI => k_is)
    (case lk_Q => k_is)
    (case cQ => k_is)
    (case kQ => k_is)
    (case lk_S => k_is)
    (case cS => k_is)
    (case kS => k_is)
    (case lk_B => k_is)
    (case cB => k_is)
    (case kB => k_is)
    (case lk_R => k_is)
    (case cR => k_is)
    (case kR => k_is)
    (case pg => k_is)
    (case hd => k_is)
    (case po => k_is)
    (case sa => k_is)
    (case mk => k_is)
    (case kc => k_is)
    (case hac => k_is)
    (case hmc => k_is)
    (case hcl => kernel_rfl)
    (case n_people => k_is)
    (case n_deeds => k_is)
    (case n_start => k_is)
    (case n_places => k_is)
    (case n_ends => k_is)
    (case n_logs => k_is)
    (case n_arrows => k_is)
    (case n_tests => k_is)
    (case n_looks => k_is)
    (case m0 => k_is)
    (case m1 => k_is)
    (case m2 => k_is)
    (case m3 => k_is)
    (case m4 => k_is)
    (case m5 => k_is)
    (case aInt => k_is)
    (case lk_Int => k_is)
    (case cInt => k_is)
    (case kInt => k_is)
    (case aBet => k_is)
    (case lk_Bet => k_is)
    (case cBet => k_is)
    (case kBet => k_is)
    (case aLet => k_is)
    (case lk_Let => k_is)
    (case cLet => k_is)
    (case kLet => k_is)
    (case aTup => k_is)
    (case lk_Tup => k_is)
    (case cTup => k_is)
    (case kTup => k_is)
    (case aAsc => k_is)
    (case lk_Asc => k_is)
    (case cAsc => k_is)
    (case kAsc => k_is)
    (case aForm => k_is)
    (case lk_Form => k_is)
    (case cForm => k_is)
    (case kForm => k_is)
    (case aPeople => k_is)
    (case lk_People => k_is)
    (case cPeople => k_is)
    (case kPeople => k_is)
    (case aPlaces => k_is)
    (case lk_Places => k_is)
    (case cPlaces => k_is)
    (case kPlaces => k_is)
    (case aLogs => k_is)
    (case lk_Logs => k_is)
    (case cLogs => k_is)
    (case kLogs => k_is)
    (case aDeed => k_is)
    (case lk_Deed => k_is)
    (case cDeed => k_is)
    (case kDeed => k_is)
    (case aDeeds => k_is)
    (case lk_Deeds => k_is)
    (case cDeeds => k_is)
    (case kDeeds => k_is)
    (case aStart => k_is)
    (case lk_Start => k_is)
    (case cStart => k_is)
    (case kStart => k_is)
    (case aEnds => k_is)
    (case lk_Ends => k_is)
    (case cEnds => k_is)
    (case kEnds => k_is)
    (case aSource => k_is)
    (case lk_Source => k_is)
    (case cSource => k_is)
    (case kSource => k_is)
    (case aForms => k_is)
    (case lk_Forms => k_is)
    (case cForms => k_is)
    (case kForms => k_is)
    (case aMarks => k_is)
    (case lk_Marks => k_is)
    (case cMarks => k_is)
    (case kMarks => k_is)
    (case aArrow => k_is)
    (case lk_Arrow => k_is)
    (case cArrow => k_is)
    (case kArrow => k_is)
    (case aTest => k_is)
    (case lk_Test => k_is)
    (case cTest => k_is)
    (case kTest => k_is)
    (case aLooks => k_is)
    (case lk_Looks => k_is)
    (case cLooks => k_is)
    (case kLooks => k_is)
    (case aChkA => k_is)
    (case lk_ChkA => k_is)
    (case cChkA => k_is)
    (case kChkA => k_is)
    (case aChkT => k_is)
    (case lk_ChkT => k_is)
    (case cChkT => k_is)
    (case kChkT => k_is)
    (case aNumW => k_is)
    (case lk_NumW => k_is)
    (case cNumW => k_is)
    (case kNumW => k_is)
    (case aFormW => k_is)
    (case lk_FormW => k_is)
    (case cFormW => k_is)
    (case kFormW => k_is)
    (case aMarksW => k_is)
    (case lk_MarksW => k_is)
    (case cMarksW => k_is)
    (case kMarksW => k_is)
    (case aLineN => k_is)
    (case lk_LineN => k_is)
    (case cLineN => k_is)
    (case kLineN => k_is)
    (case aLineA => k_is)
    (case lk_LineA => k_is)
    (case cLineA => k_is)
    (case kLineA => k_is)
    (case aLineT => k_is)
    (case lk_LineT => k_is)
    (case cLineT => k_is)
    (case kLineT => k_is)
    (case aLineL => k_is)
    (case lk_LineL => k_is)
    (case cLineL => k_is)
    (case kLineL => k_is)
    (case aHouseL => k_is)
    (case lk_HouseL => k_is)
    (case cHouseL => k_is)
    (case kHouseL => k_is)
    (case aDeck => k_is)
    (case lk_Deck => k_is)
    (case cDeck => k_is)
    (case kDeck => k_is)
    (case aDraw => k_is)
    (case lk_Draw => k_is)
    (case cDraw => k_is)
    (case kDraw => k_is)
    (case aPick => k_is)
    (case lk_Pick => k_is)
    (case cPick => k_is)
    (case kPick => k_is)
    (case aLForm => k_is)
    (case lk_LForm => k_is)
    (case cLForm => k_is)
    (case kLForm => k_is)
    (case aUnit => k_is)
    (case lk_Unit => k_is)
    (case cUnit => k_is)
    (case kUnit => k_is)
    (case aHouse => k_is)
    (case lk_House => k_is)
    (case cHouse => k_is)
    (case kHouse => k_is)
    (case aCode => k_is)
    (case lk_Code => k_is)
    (case cCode => k_is)
    (case kCode => k_is)
    (case aShown => k_is)
    (case lk_Shown => k_is)
    (case cShown => k_is)
    (case kShown => k_is)
    (case aBarred => k_is)
    (case lk_Barred => k_is)
    (case cBarred => k_is)
    (case kBarred => k_is)
    (case aOther => k_is)
    (case lk_Other => k_is)
    (case cOther => k_is)
    (case kOther => k_is)
    (case aCalled => k_is)
    (case lk_Called => k_is)
    (case cCalled => k_is)
    (case kCalled => k_is)
    (case aHeard => k_is)
    (case lk_Heard => k_is)
    (case cHeard => k_is)
    (case kHeard => k_is)
    (case aLetter => k_is)
    (case lk_Letter => k_is)
    (case cLetter => k_is)
    (case kLetter => k_is)
    (case aNames => k_is)
    (case lk_Names => k_is)
    (case cNames => k_is)
    (case kNames => k_is)
    (case aRight => k_is)
    (case lk_Right => k_is)
    (case cRight => k_is)
    (case kRight => k_is)
    (case aLaw => k_is)
    (case lk_Law => k_is)
    (case cLaw => k_is)
    (case kLaw => k_is)
    (case zisinstance => k_is)
    (case zint => k_is)
    (case zbool => k_is)
    (case zstr => k_is)
    (case ztuple => k_is)
    (case zlen => k_is)
    (case zall => k_is)
    (case zzip => k_is)
    (case zrange => k_is)
    (case zlist => k_is)
    (case zrepr => k_is)
    (case zsorted => k_is)
    (case zdict => k_is)
    (case zset => k_is)
    (case zabs => k_is)
    (case zenumerate => k_is)
    (case sp => k_is)
    (case tk => k_is)
    (case hB0 => kernel_rfl)
    (case chk => kernel_rfl)
