import PyProof.Rows.All
import Wide.All
import OpenK.AllK
import Wide.FinOn
import HandS.ForMost
import HandS.ForExc
import HandS.Style
import HandS.IsInst
import HandS.TupLe
import HandS.Zip
import PyProof.ReprRoads
import PyProof.EqAt
import PyProof.EqKinds
import HandS.Walk
import HandS.TupAny
import PyProof.NeKinds
import HandS.DictComp
import HandS.ExcInit
import HandS.ExcIs
import KE.KExcInit
import PyProof.ExcBaseAll.Exception
import PyProof.InstStoreFacts
import HandS.MakeKwOnly
import HandS.ExcValue
import HandS.ExcField
import KE.KExcIs
import HandS.Ends
import HandS.ExcOwn
import PyProof.StrLawsRepr
import PyProof.FitsInt
import HandS.TupMul
import PyProof.ListMulRoad
import PyProof.FactsAll.tuple_2
import HandS.Conv
import HandS.SortInts
import KE.SortData
import HandS.OwnEq
import PyProof.InstNe
import HandS.Codes
import HandS.Text
import PyProof.Rows.IntBool
import KE.KIntText
import HandS.WordsExc
import KE.GoesMore
import KE.KDictPairs
import HandS.SetKeys
import HandS.SetFor
import HandS.TupSets
import KE.KeyNested
import KE.KEqDict
import HandS.Small
import KE.GoesEnumKw
import PySem.Challenge.RW_loghouse_k06_looked_at_and_led_back
set_option Elab.async false
set_option linter.all false
set_option maxRecDepth 100000
set_option maxHeartbeats 2000000
namespace KL
open PySem L2 PySem.Spec PyProof.Rows
/-! ### data, dicts among them -/
mutual
inductive Dq (H : Hp) : V → PyData → Prop
  | non : Dq H .non .none
  | bl (b : Bool) : Dq H (.bl b) (.bool b)
  | int (i : Int) : Dq H (.int i) (.int i)
  | str (x : Str) : Dq H (.str x) (.str x)
  | lst {a : Addr} {xs : List V} {ds : List PyData} : H a = some (.lst xs) → DqAll H xs ds → Dq H (.ref a) (.list ds)
  | tup {a : Addr} {xs : List V} {ds : List PyData} : H a = some (.tup xs) → DqAll H xs ds → Dq H (.ref a) (.tuple ds)
  | dct0 {a : Addr} : H a = some (.dK []) → Dq H (.ref a) (.dict [])
  | dct1 {a : Addr} {x : Str} {i : Int} : H a = some (.dK [(Sum.inr x, V.int i)]) → Dq H (.ref a) (.dict [(.str x, .int i)])
inductive DqAll (H : Hp) : List V → List PyData → Prop
  | nil : DqAll H [] []
  | cons {v : V} {vs : List V} {d : PyData} {ds : List PyData} : Dq H v d → DqAll H vs ds → DqAll H (v :: vs) (d :: ds)
end
mutual
theorem Dq.same {H H' : Hp} (e : Same H H') : ∀ (d : PyData) (v : V), Dq H v d → Dq H' v d
  | .none, _, h => by
    cases h
    exact .non
  | .bool _, _, h => by
    cases h
    exact .bl _
  | .int _, _, h => by
    cases h
    exact .int _
  | .str _, _, h => by
    cases h
    exact .str _
  | .list ds, _, h => by
    cases h with
    | lst q r => exact .lst (e _ _ q) (DqAll.same e ds _ r)
  | .tuple ds, _, h => by
    cases h with
    | tup q r => exact .tup (e _ _ q) (DqAll.same e ds _ r)
  | .dict kvs, _, h => by
    cases h with
    | dct0 q => exact .dct0 (e _ _ q)
    | dct1 q => exact .dct1 (e _ _ q)
theorem DqAll.same {H H' : Hp} (e : Same H H') : ∀ (ds : List PyData) (vs : List V), DqAll H vs ds → DqAll H' vs ds
  | [], _, h => by
    cases h
    exact .nil
  | d :: ds, _, h => by
    cases h with
    | cons q r => exact .cons (Dq.same e d _ q) (DqAll.same e ds _ r)
end
theorem same_new {H : Hp} {p : Addr} {o : HO} (h : H p = none) : Same H (upd H p o) := fun b u e => by
  rw [upd_ne (ne_of_none e h)]
  exact e
theorem DqAll.get {H : Hp} : ∀ (ds : List PyData) (vs : List V) (i : Nat) (v : V), DqAll H vs ds → vs[i]? = some v → ∃ d, d ∈ ds ∧ Dq H v d
  | _, _, i, v, .nil, e => by simp at e
  | _, _, 0, v, .cons (d := d) h _, e => by
    simp at e
    subst e
    exact ⟨d, by simp, h⟩
  | _, _, i + 1, v, .cons _ r, e => by
    obtain ⟨d, hd, h⟩ := DqAll.get _ _ i v r (by simpa using e)
    exact ⟨d, by simp [hd], h⟩

theorem iteNo {b : Bool} {A B : Prop} (hb : b = false) (h : B) : if b = true then A else B := by
  subst hb
  exact iteF h
theorem iteYes {b : Bool} {A B : Prop} (hb : b = true) (h : A) : if b = true then A else B := by
  subst hb
  exact iteT h
/-! ### kinds -/
def tyName : PyData → String
  | .none => "NoneType"
  | .bool _ => "bool"
  | .int _ => "int"
  | .str _ => "str"
  | .list _ => "list"
  | .tuple _ => "tuple"
  | .dict _ => "dict"
theorem Dq.ty {K : PySem.W.Frag} {H : Hp} {v : V} {d : PyData} (h : Dq H v d) : TyX K H v (.type (tyName d)) := by
  cases h with
  | non => exact .base .non
  | bl b => exact .base (.bl b)
  | int i => exact .base (.int i)
  | str x => exact .base (.str x)
  | lst e _ => exact .base (.lst e)
  | tup e _ => exact .base (.tup e)
  | dct0 e => exact .base (.dK e)
  | dct1 e => exact .base (.dK e)
/-- isinstance of data, by the name of a built-in class -/
def isA (T : String) (d : PyData) : Bool := (kitB (tyName d) T).getD false
def kinds4 : List String := ["int", "bool", "str", "tuple", "list", "dict"]
theorem kit_data {K : PySem.W.Frag} {T : String} (hT : T ∈ kinds4) (d : PyData) : PySem.W.kitOne K (.type (tyName d)) (.type T) = some (isA T d) := by
  have z : (kinds4.all fun T => ["NoneType", "bool", "int", "str", "list", "tuple", "dict"].all fun n => (kitB n T).isSome) = true := by decide +kernel
  have y := List.all_eq_true.mp z T hT
  have n : tyName d ∈ ["NoneType", "bool", "int", "str", "list", "tuple", "dict"] := by cases d <;> simp [tyName]
  have x := List.all_eq_true.mp y _ n
  obtain ⟨b, hb⟩ := Option.isSome_iff_exists.mp x
  rw [kit_ty hb]
  unfold isA
  rw [hb]
  rfl
def rIsD : List V → Hp → VK → Prop := fun xs H Q => ∃ (v : V) (d : PyData) (T : String), xs = [v, .ty T] ∧ T ∈ kinds4 ∧ Dq H v d ∧ Q (.bl (isA T d)) H
theorem call_isD {X : Cx} : CallR X (.builtin "isinstance") rIsD := fun pins s σ H xs us Q I r h => by
  obtain ⟨v, d, T, rfl, hT, hd, q⟩ := h
  exact call_isi pins s σ H _ us Q I r ⟨v, .ty T, _, _, _, rfl, .ty T, hd.ty, kit_data hT d, q⟩
end KL
set_option Elab.async false
set_option linter.all false
set_option maxRecDepth 100000
set_option maxHeartbeats 2000000
namespace KL
open PySem L2 PySem.Spec PyProof.Rows
def top (i : Nat) : Stmt := PySem.Challenge.pw_loghouse_k06_looked_at_and_led_back.main.body.getD i (.Pass ⟨0, 0, 0, 0⟩)
abbrev sIsInt : Stmt := top 7
abbrev sIsBet : Stmt := top 8
abbrev sIsLet : Stmt := top 9
abbrev sIsTup : Stmt := top 10
abbrev sIsAsc : Stmt := top 11
abbrev sIsForm : Stmt := top 13
/-! ### the mirror -/
def intD : PyData → Bool
  | .int _ => true
  | _ => false
def betD (lo hi : Int) : PyData → Bool
  | .int i => decide (lo ≤ i) && decide (i ≤ hi)
  | _ => false
def letS (x : Str) : Bool := decide (x.length = 1) && (!decide (x.cps.toList < ("a" : Str).cps.toList) && !decide (("z" : Str).cps.toList < x.cps.toList))
def letD : PyData → Bool
  | .str x => letS x
  | _ => false
def tupD (lo hi : Int) : PyData → Bool
  | .tuple ds => decide (lo ≤ (ds.length : Int)) && decide ((ds.length : Int) ≤ hi)
  | _ => false
mutual
/-- sizes that nothing here comes near to -/
def smB : PyData → Bool
  | .none => true
  | .bool _ => true
  | .int i => decide (i.natAbs.log2 < 1900)
  | .str x => decide (x.length ≤ 1000)
  | .list ds => decide (ds.length ≤ 1000) && smAll ds
  | .tuple ds => decide (ds.length ≤ 1000) && smAll ds
  | .dict kvs => decide (kvs.length ≤ 1)
def smAll : List PyData → Bool
  | [] => true
  | d :: r => smB d && smAll r
end
/-- a test of one thing -/
def spTest (f : PyData → Bool) : Sp := fun vs H Q _ => ∃ (v : V) (d : PyData), vs = [v] ∧ Dq H v d ∧ smB d = true ∧ ∀ H', Same H H' → Q (.bl (f d)) H'
/-- a test of one thing with two numbers -/
def spTest2 (f : Int → Int → PyData → Bool) : Sp := fun vs H Q _ => ∃ (v : V) (d : PyData) (lo hi : Int), vs = [v, .int lo, .int hi] ∧ Dq H v d ∧ smB d = true ∧ ∀ H', Same H H' → Q (.bl (f lo hi d)) H'
structure TxtB (mg : Str → Option Value) : Prop where
  isi : mg "isinstance" = none
  int : mg "int" = none
  bool : mg "bool" = none
  str : mg "str" = none
  tuple : mg "tuple" = none
  len : mg "len" = none
  all : mg "all" = none
  zip : mg "zip" = none
/-- a def of the module, called by its name -/
structure Cal (K : PySem.W.Frag) (mg : Str → Option Value) (x : Str) (f : Addr) (fd : FuncData) (ps : List Str) : Prop where
  m : mg x = some (.ref f)
  k : PySem.W.keepIn K (.ref f) = true
  b : L2.Binds K fd ps []
section
variable {P : Program} {w : World} {K : PySem.W.Frag} {mg : Str → Option Value} {base : Heap}
theorem scIsInt : FnScope ["thing"] ["thing"] (defScope sIsInt) := ⟨rfl, rfl, rfl, by decide +kernel, rfl, by decide +kernel, by decide +kernel⟩
theorem ok_int {f : Addr} {fd : FuncData} (F : Fun K "is_int" "is_int" sIsInt f fd) (T : TxtB mg) : FnOk P w K mg base CX0 1 f fd ["thing"] (spTest intD) := by
  refine F.ok scIsInt (fun vs H Q E h => ?_) (fun cdv A outer s H vs Q E hr h => ?_)
  · obtain ⟨v, d, rfl, _⟩ := h
    rfl
  · obtain ⟨v, d, rfl, hd, _, k⟩ := h
    refine ⟨_, pss_one (ps_ret (pe_and (pe_callB call_isD (by rfl) T.isi (by decide +kernel) (pa_cons (pv 0) (pa_cons (pe_bltn (v := .ty "int") (by rfl) T.int (by decide +kernel) rfl) pa_nil)))
      (pe_one (pe_not (pe_callB call_isD (by rfl) T.isi (by decide +kernel) (pa_cons (pv 0) (pa_cons (pe_bltn (v := .ty "bool") (by rfl) T.bool (by decide +kernel) rfl) pa_nil))))))), ?_⟩
    have q := k H (Same.refl H)
    refine ⟨_, rfl, v, d, "int", rfl, by decide, hd, _, rfl, ?_⟩
    cases d <;> first | exact q | exact ⟨_, rfl, v, _, "bool", rfl, by decide, hd, _, rfl, q⟩
theorem scIsBet : FnScope ["thing", "low", "high"] ["thing", "low", "high"] (defScope sIsBet) := ⟨rfl, rfl, rfl, by decide +kernel, rfl, by decide +kernel, by decide +kernel⟩
theorem ok_bet {f g : Addr} {fd gd : FuncData} (F : Fun K "is_between" "is_between" sIsBet f fd) (T : TxtB mg) (G : FnOk P w K mg base CX0 1 g gd ["thing"] (spTest intD)) (c : Cal K mg "is_int" g gd ["thing"]) : FnOk P w K mg base CX0 2 f fd ["thing", "low", "high"] (spTest2 betD) := by
  refine F.ok scIsBet (fun vs H Q E h => ?_) (fun cdv A outer s H vs Q E hr h => ?_)
  · obtain ⟨v, d, lo, hi, rfl, _⟩ := h
    rfl
  · obtain ⟨v, d, lo, hi, rfl, hd, sm, k⟩ := h
    refine ⟨_, pss_one (ps_ret (pe_and (pe_call G hr (by rfl) c.m c.k c.b .nil pass0 (pa_cons (pv 0) pa_nil)) (pe_one (pe_chain op_le op_le (pv 1) (pv 0) (pv 2))))), ?_⟩
    refine ⟨_, rfl, v, d, rfl, hd, sm, fun H1 S1 => ⟨_, rfl, ?_⟩⟩
    have q := k H1 S1
    cases hd with
    | int i =>
      refine ⟨_, rfl, _, rfl, _, _, rfl, rfl, _, rfl, ?_⟩
      by_cases h1 : lo ≤ i
      · refine iteYes (decide_eq_true h1) ⟨_, rfl, _, _, rfl, rfl, ?_⟩
        have e : betD lo hi (.int i) = decide (i ≤ hi) := by simp [betD, h1]
        rw [e] at q
        exact q
      · refine iteNo (decide_eq_false h1) ?_
        have e : betD lo hi (.int i) = false := by simp [betD, h1]
        rw [e] at q
        exact q
    | non => exact q
    | bl _ => exact q
    | str _ => exact q
    | lst _ _ => exact q
    | tup _ _ => exact q
    | dct0 _ => exact q
    | dct1 _ => exact q
theorem scIsLet : FnScope ["thing"] ["thing"] (defScope sIsLet) := ⟨rfl, rfl, rfl, by decide +kernel, rfl, by decide +kernel, by decide +kernel⟩
theorem ok_let {f : Addr} {fd : FuncData} (F : Fun K "is_letter" "is_letter" sIsLet f fd) (T : TxtB mg) : FnOk P w K mg base CX0 1 f fd ["thing"] (spTest letD) := by
  refine F.ok scIsLet (fun vs H Q E h => ?_) (fun cdv A outer s H vs Q E hr h => ?_)
  · obtain ⟨v, d, rfl, _⟩ := h
    rfl
  · obtain ⟨v, d, rfl, hd, sm, k⟩ := h
    refine ⟨_, pss_one (ps_ret (pe_and (pe_callB call_isD (by rfl) T.isi (by decide +kernel) (pa_cons (pv 0) (pa_cons (pe_bltn (v := .ty "str") (by rfl) T.str (by decide +kernel) rfl) pa_nil)))
      (pe_and (pe_cmpR op_eq (pe_callB call_len_str (by rfl) T.len PySem.boot_len (pa_cons (pv 0) pa_nil)) pe_int (nomark _)) (pe_one (pe_chain op_le_str op_le_str pe_str (pv 0) pe_str))))), ?_⟩
    have q := k H (Same.refl H)
    refine ⟨_, rfl, v, d, "str", rfl, by decide, hd, _, rfl, ?_⟩
    cases hd with
    | str x =>
      have hx : x.length ≤ 1000 := of_decide_eq_true sm
      refine ⟨_, rfl, x, rfl, Nat.le_trans hx (by rw [sizeLine_eq]; omega), rfl, _, rfl, ?_⟩
      by_cases h1 : x.length = 1
      · refine iteYes (decide_eq_true (by rw [h1]; rfl)) ⟨_, rfl, _, _, rfl, rfl, _, rfl, ?_⟩
        by_cases h2 : x.cps.toList < ("a" : Str).cps.toList
        · refine iteNo (by rw [decide_eq_true h2]; rfl) ?_
          have e : letD (.str x) = false := by simp [letD, letS, h2]
          rw [e] at q
          exact q
        · refine iteYes (by rw [decide_eq_false h2]; rfl) ⟨_, _, rfl, rfl, ?_⟩
          have e : letD (.str x) = !decide (("z" : Str).cps.toList < x.cps.toList) := by
            show (decide (x.length = 1) && (!decide (x.cps.toList < ("a" : Str).cps.toList) && !decide (("z" : Str).cps.toList < x.cps.toList))) = _
            rw [decide_eq_true h1, decide_eq_false h2]
            rfl
          rw [e] at q
          exact q
      · refine iteNo (decide_eq_false fun z => ?_) ?_
        · injection z with z
          omega
        · have e : letD (.str x) = false := by simp [letD, letS, h1]
          rw [e] at q
          exact q
    | non => exact q
    | bl _ => exact q
    | int _ => exact q
    | lst _ _ => exact q
    | tup _ _ => exact q
    | dct0 _ => exact q
    | dct1 _ => exact q
theorem scIsTup : FnScope ["thing", "low", "high"] ["thing", "low", "high"] (defScope sIsTup) := ⟨rfl, rfl, rfl, by decide +kernel, rfl, by decide +kernel, by decide +kernel⟩
theorem ok_tup {f : Addr} {fd : FuncData} (F : Fun K "is_tuple_of" "is_tuple_of" sIsTup f fd) (T : TxtB mg) : FnOk P w K mg base CX0 1 f fd ["thing", "low", "high"] (spTest2 tupD) := by
  refine F.ok scIsTup (fun vs H Q E h => ?_) (fun cdv A outer s H vs Q E hr h => ?_)
  · obtain ⟨v, d, lo, hi, rfl, _⟩ := h
    rfl
  · obtain ⟨v, d, lo, hi, rfl, hd, sm, k⟩ := h
    refine ⟨_, pss_one (ps_ret (pe_and (pe_callB call_isD (by rfl) T.isi (by decide +kernel) (pa_cons (pv 0) (pa_cons (pe_bltn (v := .ty "tuple") (by rfl) T.tuple (by decide +kernel) rfl) pa_nil)))
      (pe_one (pe_chain op_le op_le (pv 1) (pe_callB call_len_seq (by rfl) T.len PySem.boot_len (pa_cons (pv 0) pa_nil)) (pv 2))))), ?_⟩
    have q := k H (Same.refl H)
    refine ⟨_, rfl, v, d, "tuple", rfl, by decide, hd, _, rfl, ?_⟩
    cases hd with
    | tup e ha =>
      rename_i a xs ds
      have el : xs.length = ds.length := by
        clear q k sm e
        induction ds generalizing xs with
        | nil => cases ha; rfl
        | cons _ _ ih =>
          cases ha with
          | cons _ r => exact congrArg (· + 1) (ih r)
      refine ⟨_, rfl, _, rfl, a, xs, rfl, .inr (SqT.of e), _, _, rfl, rfl, _, rfl, ?_⟩
      rw [el]
      by_cases h1 : lo ≤ (ds.length : Int)
      · refine iteYes (decide_eq_true h1) ⟨_, rfl, _, _, rfl, rfl, ?_⟩
        have e : tupD lo hi (.tuple ds) = decide ((ds.length : Int) ≤ hi) := by simp [tupD, h1]
        rw [e] at q
        exact q
      · refine iteNo (decide_eq_false h1) ?_
        have e : tupD lo hi (.tuple ds) = false := by simp [tupD, h1]
        rw [e] at q
        exact q
    | non => exact q
    | bl _ => exact q
    | int _ => exact q
    | str _ => exact q
    | lst _ _ => exact q
    | dct0 _ => exact q
    | dct1 _ => exact q
end
end KL
set_option Elab.async false
set_option linter.all false
set_option maxRecDepth 100000
set_option maxHeartbeats 2000000
namespace KL
open PySem L2 PySem.Spec PyProof.Rows
theorem DqAll.len {H : Hp} : ∀ {ds : List PyData} {xs : List V}, DqAll H xs ds → xs.length = ds.length
  | [], _, h => by
    cases h
    rfl
  | _ :: _, _, h => by
    cases h with
    | cons _ r => exact congrArg (· + 1) (DqAll.len r)
theorem DqAll.at {H : Hp} : ∀ {ds : List PyData} {xs : List V} {i : Nat} {x : V}, DqAll H xs ds → xs[i]? = some x → ∃ d, ds[i]? = some d ∧ Dq H x d
  | [], _, i, x, h, e => by
    cases h
    simp at e
  | d :: ds, _, 0, x, h, e => by
    cases h with
    | cons q _ =>
      simp at e
      subst e
      exact ⟨d, rfl, q⟩
  | d :: ds, _, i + 1, x, h, e => by
    cases h with
    | cons _ r =>
      obtain ⟨d', h1, h2⟩ := DqAll.at r (by simpa using e)
      exact ⟨d', by simpa using h1, h2⟩
theorem sm_at : ∀ {ds : List PyData} {i : Nat} {d : PyData}, smAll ds = true → ds[i]? = some d → smB d = true
  | [], i, d, _, e => by simp at e
  | d :: ds, 0, d', h, e => by
    simp at e
    subst e
    exact (Bool.and_eq_true_iff.mp h).1
  | d :: ds, i + 1, d', h, e => sm_at (Bool.and_eq_true_iff.mp h).2 (by simpa using e)
/-- what a comprehension over data has made so far -/
def MadeTo (H0 : Hp) (D : Addr) (bs : List V) (H : Hp) : Prop := Same H0 H ∧ H D = some (.lst bs)
theorem MadeTo.more {H0 H H' : Hp} {D : Addr} {bs : List V} (b : V) (hD : H0 D = none) (M : MadeTo H0 D bs H) (S : Same H H') : H' D = some (.lst bs) ∧ MadeTo H0 D (bs ++ [b]) (upd H' D (.lst (bs ++ [b]))) := by
  refine ⟨S _ _ M.2, fun x o e => ?_, upd_same⟩
  have nx : x ≠ D := fun z => by
    rw [z, hD] at e
    cases e
  rw [upd_ne nx]
  exact S _ _ (M.1 _ _ e)
theorem take_map {β : Type} {g : PyData → β} {ds : List PyData} {i : Nat} {d : PyData} (h : ds[i]? = some d) : (ds.take (i + 1)).map g = (ds.take i).map g ++ [g d] := by
  rw [List.take_add_one, h, List.map_append]
  rfl
theorem sm_len {ds : List PyData} (h : smB (.tuple ds) = true) : ds.length ≤ 1000 := of_decide_eq_true (Bool.and_eq_true_iff.mp h).1
theorem sm_all {ds : List PyData} (h : smB (.tuple ds) = true) : smAll ds = true := (Bool.and_eq_true_iff.mp h).2
theorem take_size {β : Type} {g : PyData → β} {j : β → V} {ds : List PyData} (i : Nat) (h : ds.length ≤ 1000) : (((ds.take i).map g).map j).length < sizeLine := by
  rw [List.length_map, List.length_map, List.length_take]
  exact Nat.lt_of_le_of_lt (Nat.le_trans (Nat.min_le_right _ _) h) (by rw [sizeLine_eq]; omega)
/-- one more turn of a comprehension over data that makes truth values -/
theorem MadeTo.turn {H0 H H' : Hp} {D : Addr} {g : PyData → Bool} {ds : List PyData} {i : Nat} {d : PyData} (hD : H0 D = none) (M : MadeTo H0 D (((ds.take i).map g).map V.bl) H) (S : Same H H') (hl : ds.length ≤ 1000) (h : ds[i]? = some d) :
    ∃ acc, H' D = some (.lst acc) ∧ acc.length < sizeLine ∧ MadeTo H0 D (((ds.take (i + 1)).map g).map V.bl) (upd H' D (.lst (acc ++ [.bl (g d)]))) := by
  have m := M.more (.bl (g d)) hD S
  refine ⟨_, m.1, take_size i hl, ?_⟩
  rw [take_map h, List.map_append]
  exact m.2
def formD (n : Int) : PyData → Bool
  | .tuple ds => decide ((ds.length : Int) = n + 1) && ds.all intD
  | _ => false
def spForm : Sp := fun vs H Q _ => ∃ (v : V) (d : PyData) (n : Int), vs = [.int n, v] ∧ Dq H v d ∧ smB d = true ∧ ∀ H', Same H H' → Q (.bl (formD n d)) H'
section
variable {P : Program} {w : World} {K : PySem.W.Frag} {mg : Str → Option Value} {base : Heap}
theorem scIsForm : FnScope ["count", "thing", "item"] ["count", "thing"] (defScope sIsForm) := ⟨rfl, rfl, rfl, by decide +kernel, rfl, by decide +kernel, by decide +kernel⟩
theorem ok_form {f g1 g2 : Addr} {fd gd1 gd2 : FuncData} (F : Fun K "is_form" "is_form" sIsForm f fd) (T : TxtB mg) (G1 : FnOk P w K mg base CX0 1 g1 gd1 ["thing"] (spTest intD)) (c1 : Cal K mg "is_int" g1 gd1 ["thing"])
    (G2 : FnOk P w K mg base CX0 1 g2 gd2 ["thing", "low", "high"] (spTest2 tupD)) (c2 : Cal K mg "is_tuple_of" g2 gd2 ["thing", "low", "high"]) : FnOk P w K mg base CX0 2 f fd ["count", "thing"] spForm := by
  refine F.ok scIsForm (fun vs H Q E h => ?_) (fun cdv A outer s H vs Q E hr h => ?_)
  · obtain ⟨v, d, n, rfl, _⟩ := h
    rfl
  · obtain ⟨v, d, n, rfl, hd, sm, k⟩ := h
    refine ⟨_, pss_one (ps_ret (pe_and (pe_call G2 hr (by rfl) c2.m c2.k c2.b .nil pass0 (pa_cons (pv 1) (pa_cons (pe_op op_add (pv 0) pe_int) (pa_cons (pe_op op_add (pv 0) pe_int) pa_nil))))
      (pe_one (pe_callB (cr_all rfl) (by rfl) T.all (by decide +kernel) (pa_cons (pe_lc (own := [("item", 2)]) (g := gName 2) (tt := tYes) rfl scIsForm.nd (pi_tup (pv 1)) (blkOk_by (N := ["count", "thing", "item"]) (sc := defScope sIsForm) (by decide +kernel)) (fun _ _ _ _ _ => pg_name (i := 2) scIsForm.nd rfl (.inl rfl)) (fun _ _ _ _ _ => pts_nil)
        (fun _ _ _ _ _ => pe_call G1 hr (by rfl) c1.m c1.k c1.b .nil pass0 (pa_cons (pv 2) pa_nil))) pa_nil))))), ?_⟩
    refine ⟨_, rfl, _, rfl, _, _, rfl, rfl, _, rfl, _, _, rfl, rfl, v, d, _, _, rfl, hd, sm, fun H1 S1 => ⟨_, rfl, ?_⟩⟩
    have hd1 := Dq.same S1 d v hd
    have q := k H1 S1
    cases hd with
    | tup e ha =>
      rename_i a xs ds
      have smA : smAll ds = true := (Bool.and_eq_true_iff.mp sm).2
      have len := ha.len
      by_cases hn : (ds.length : Int) = n + 1
      · refine iteYes (by simp [tupD, hn]) ?_
        refine ⟨_, rfl, a, rfl, ⟨_, SqT.of (S1 _ _ e)⟩, fun D nD => ?_⟩
        refine lc_tup (K := K) (a := a) (xs := xs) (fun i H2 => MadeTo H1 D (((ds.take i).map intD).map V.bl) H2) ⟨same_new nD, upd_same⟩ (fun i H2 _ M => SqT.of (M.1 _ _ (S1 _ _ e))) ?_ ?_
        · rintro i x H2 hx M
          obtain ⟨d', hd', hq⟩ := DqAll.at ha hx
          refine ⟨rfl, ?_⟩
          refine ⟨_, rfl, x, d', rfl, Dq.same (S1.trans M.1) d' x hq, sm_at smA hd', fun H3 S3 => ?_⟩
          exact M.turn nD S3 (sm_len sm) hd'
        · rintro H2 M
          rw [len, List.take_length] at M
          refine ⟨D, _, rfl, SqL.of M.2, ?_⟩
          have e : formD n (.tuple ds) = (ds.map intD).all id := by simp [formD, hn, List.all_map]
          have q := k H2 (S1.trans M.1)
          rw [e] at q
          exact q
      · refine iteNo (by simp [tupD]; omega) ?_
        have e : formD n (.tuple ds) = false := by simp [formD, hn]
        rw [e] at q
        exact q
    | non => exact q
    | bl _ => exact q
    | int _ => exact q
    | str _ => exact q
    | lst _ _ => exact q
    | dct0 _ => exact q
    | dct1 _ => exact q
end
end KL
set_option Elab.async false
set_option linter.all false
set_option maxRecDepth 100000
set_option maxHeartbeats 2000000
namespace KL
open PySem L2 PySem.Spec PyProof.Rows
mutual
/-- x < y of two things of one shape -/
def ltD : PyData → PyData → Bool
  | .int i, .int j => decide (i < j)
  | .str x, .str y => decide (x.cps.toList < y.cps.toList)
  | .tuple xs, .tuple ys => ltAll xs ys
  | _, _ => false
def ltAll : List PyData → List PyData → Bool
  | [], [] => false
  | [], _ :: _ => true
  | _ :: _, [] => false
  | x :: xs, y :: ys => if PyData.eqv x y = true then ltAll xs ys else ltD x y
end
mutual
/-- whether they can be compared -/
def cmpD : PyData → PyData → Bool
  | .int _, .int _ => true
  | .str _, .str _ => true
  | .tuple xs, .tuple ys => cmpAll xs ys
  | _, _ => false
def cmpAll : List PyData → List PyData → Bool
  | x :: xs, y :: ys => cmpD x y && cmpAll xs ys
  | _, _ => true
end
theorem lexAt_shift (e r : Nat → Bool) (z : Bool) : ∀ (k i : Nat), Ob.lexAt e r z (i + 1) k = Ob.lexAt (fun j => e (j + 1)) (fun j => r (j + 1)) z i k
  | 0, _ => rfl
  | k + 1, i => by
    rw [Ob.lexAt_succ, Ob.lexAt_succ, lexAt_shift e r z k (i + 1)]
def peq (xs ys : List PyData) (j : Nat) : Bool := PyData.eqv (xs.getD j .none) (ys.getD j .none)
theorem lex_all : ∀ (xs ys : List PyData), Ob.lexAt (peq xs ys) (fun j => ltD (xs.getD j .none) (ys.getD j .none)) (decide (xs.length < ys.length)) 0 (min xs.length ys.length) = ltAll xs ys
  | [], [] => rfl
  | [], _ :: _ => by simp [Ob.lexAt_zero, ltAll]
  | _ :: _, [] => by simp [Ob.lexAt_zero, ltAll]
  | x :: xs, y :: ys => by
    have m : min (x :: xs).length (y :: ys).length = min xs.length ys.length + 1 := by
      rw [List.length_cons, List.length_cons]
      omega
    rw [m, Ob.lexAt_succ, lexAt_shift]
    have z : decide ((x :: xs).length < (y :: ys).length) = decide (xs.length < ys.length) := by
      rw [List.length_cons, List.length_cons]
      by_cases q : xs.length < ys.length
      · rw [decide_eq_true q, decide_eq_true (by omega)]
      · rw [decide_eq_false q, decide_eq_false (by omega)]
    rw [z]
    show (if PyData.eqv x y = true then Ob.lexAt (peq xs ys) (fun j => ltD (xs.getD j .none) (ys.getD j .none)) (decide (xs.length < ys.length)) 0 (min xs.length ys.length) else ltD x y) = ltAll (x :: xs) (y :: ys)
    rw [lex_all xs ys, ltAll]
theorem reads_at {h : Heap} : ∀ {us : List Value} {ds : List PyData} {as : List Addr}, ReadsAll h us ds as → ∀ (j : Nat) (hj : j < us.length), ∃ bs, Reads h us[j] (ds.getD j .none) bs
  | _, _, _, .nil, j, hj => absurd hj (Nat.not_lt_zero _)
  | _, _, _, .cons r _, 0, _ => ⟨_, r⟩
  | _, _, _, .cons _ rs, j + 1, hj => reads_at rs j (Nat.lt_of_succ_lt_succ hj)
theorem reads_len {h : Heap} : ∀ {us : List Value} {ds : List PyData} {as : List Addr}, ReadsAll h us ds as → us.length = ds.length
  | _, _, _, .nil => rfl
  | _, _, _, .cons _ rs => congrArg (· + 1) (reads_len rs)
theorem lay_at : ∀ {ds : List PyData} (j : Nat), PyData.canLayAll0 ds = true → (ds.getD j .none).canLay0 = true
  | [], j, _ => by simp [PyData.canLay0]
  | d :: ds, 0, h => (Bool.and_eq_true_iff.mp h).1
  | d :: ds, j + 1, h => lay_at (ds := ds) j (Bool.and_eq_true_iff.mp h).2
theorem cmp_at : ∀ {xs ys : List PyData} (j : Nat), cmpAll xs ys = true → j < xs.length → j < ys.length → cmpD (xs.getD j .none) (ys.getD j .none) = true
  | [], _, _, _, h, _ => absurd h (Nat.not_lt_zero _)
  | _ :: _, [], _, _, _, h => absurd h (Nat.not_lt_zero _)
  | x :: xs, y :: ys, 0, h, _, _ => (Bool.and_eq_true_iff.mp (show (cmpD x y && cmpAll xs ys) = true from h)).1
  | x :: xs, y :: ys, j + 1, h, h1, h2 => cmp_at (xs := xs) (ys := ys) j (Bool.and_eq_true_iff.mp (show (cmpD x y && cmpAll xs ys) = true from h)).2 (Nat.lt_of_succ_lt_succ h1) (Nat.lt_of_succ_lt_succ h2)
theorem depth_at : ∀ {ds : List PyData} (j : Nat), (ds.getD j .none).depth ≤ PyData.depthAll ds
  | [], j => by simp [PyData.depth]
  | d :: ds, 0 => by
    show d.depth ≤ max d.depth (PyData.depthAll ds)
    omega
  | d :: ds, j + 1 => by
    have := depth_at (ds := ds) j
    show (ds.getD j .none).depth ≤ max d.depth (PyData.depthAll ds)
    omega
/-- x < y of two things that can be compared -/
theorem lt_data : ∀ (n : Nat) (d e : PyData) (A : Around) (s : Shared) (a b : Value) (as bs : List Addr), d.depth ≤ n → Reads s.heap a d as → Reads s.heap b e bs → d.canLay0 = true → e.canLay0 = true → cmpD d e = true → A.units + n < cLine → Ob.RcOp .Lt A s a b (ltD d e)
  | n, .int i, e, A, s, a, b, as, bs, hn, ra, rb, la, lb, c, hu => by
    cases ra
    cases rb <;> first | exact Ob.RcOp.lt_int _ _ _ _ | (exfalso; simp [cmpD] at c)
  | n, .str x, e, A, s, a, b, as, bs, hn, ra, rb, la, lb, c, hu => by
    cases ra
    cases rb with
    | str y t => exact fun _ _ _ _ h => lt_str h
    | _ => exfalso; simp [cmpD] at c
  | n + 1, .tuple xs, .tuple ys, A, s, _, _, _, _, hn, .tuple (a := l) (vs := us) h1 h2 h3 h4, .tuple (a := l') (vs := ws) k1 k2 k3 k4, la, lb, c, hu => by
    have hd : PyData.depthAll xs ≤ n := by
      have : PyData.depthAll xs + 1 ≤ n + 1 := hn
      omega
    have R := Ob.RcOp.tuples_lt (A := A) (s := s) (e := peq xs ys) (r := fun j => ltD (xs.getD j .none) (ys.getD j .none)) (l := l) (b := l') (items := us) (items2 := ws) ⟨_, h1, h2, _, h3⟩ ⟨_, k1, k2, _, k3⟩ (by omega)
      (fun j j1 j2 => by
        obtain ⟨_, q1⟩ := reads_at h4 j (by simpa using j1)
        obtain ⟨_, q2⟩ := reads_at k4 j (by simpa using j2)
        have q := SeqAt.eqAt_reads _ _ A.in1 s _ _ _ _ q1 q2 (lay_at j la) (lay_at j lb) (by
          have := depth_at (ds := xs) j
          show A.units + 1 + _ < _
          omega)
        simpa [peq] using q)
      (fun j j1 j2 _ => by
        obtain ⟨_, q1⟩ := reads_at h4 j (by simpa using j1)
        obtain ⟨_, q2⟩ := reads_at k4 j (by simpa using j2)
        have l1 : us.size = xs.length := by rw [← reads_len h4]; simp
        have l2 : ws.size = ys.length := by rw [← reads_len k4]; simp
        have q := lt_data n _ _ A.in1 s _ _ _ _ (Nat.le_trans (depth_at j) hd) q1 q2 (lay_at j la) (lay_at j lb) (cmp_at j c (by omega) (by omega)) (by show A.units + 1 + n < cLine; omega)
        simpa using q)
    have l1 : us.size = xs.length := by rw [← reads_len h4]; simp
    have l2 : ws.size = ys.length := by rw [← reads_len k4]; simp
    rw [l1, l2, lex_all] at R
    exact R
  | _, .none, _, _, _, _, _, _, _, _, _, _, _, _, c, _ => by simp [cmpD] at c
  | _, .bool _, _, _, _, _, _, _, _, _, _, _, _, _, c, _ => by simp [cmpD] at c
  | _, .list _, _, _, _, _, _, _, _, _, _, _, _, _, c, _ => by simp [cmpD] at c
  | _, .dict _, _, _, _, _, _, _, _, _, _, _, _, _, c, _ => by simp [cmpD] at c
  | 0, .tuple xs, _, _, _, _, _, _, _, hn, _, _, _, _, _, _ => by
    have : PyData.depthAll xs + 1 ≤ 0 := hn
    omega
  | _ + 1, .tuple _, .none, _, _, _, _, _, _, _, _, _, _, _, c, _ => by simp [cmpD] at c
  | _ + 1, .tuple _, .bool _, _, _, _, _, _, _, _, _, _, _, _, c, _ => by simp [cmpD] at c
  | _ + 1, .tuple _, .int _, _, _, _, _, _, _, _, _, _, _, _, c, _ => by simp [cmpD] at c
  | _ + 1, .tuple _, .str _, _, _, _, _, _, _, _, _, _, _, _, c, _ => by simp [cmpD] at c
  | _ + 1, .tuple _, .list _, _, _, _, _, _, _, _, _, _, _, _, c, _ => by simp [cmpD] at c
  | _ + 1, .tuple _, .dict _, _, _, _, _, _, _, _, _, _, _, _, c, _ => by simp [cmpD] at c
end KL
set_option Elab.async false
set_option linter.all false
set_option maxRecDepth 100000
set_option maxHeartbeats 2000000
namespace KL
open PySem L2 PySem.Spec PyProof.Rows
section
variable {X : Cx} {pins : List (Addr × Obj)} {σ : L2.St} {H : Hp} {s : Shared}
mutual
theorem Dq.reads0 (I : Inv X pins σ H s) : ∀ (d : PyData) (v : V) (u : Value), Dq H v d → d.canLay0 = true → RelV v u → ∃ as, Reads s.heap u d as
  | .none, _, _, h, _, r => by
    cases h
    cases r
    exact ⟨_, .none⟩
  | .bool b, _, _, h, _, r => by
    cases h
    cases r
    exact ⟨_, .bool b⟩
  | .int i, _, _, h, _, r => by
    cases h
    obtain ⟨t, rfl⟩ := r
    exact ⟨_, .int i t⟩
  | .str x, _, _, h, _, r => by
    cases h
    obtain ⟨t, rfl⟩ := r
    exact ⟨_, .str x t⟩
  | .list ds, _, _, h, l, r => by
    cases h with
    | lst q ha =>
      cases r
      obtain ⟨_, its, n, rv, ho⟩ := I.hok _ _ q
      obtain ⟨as, hr⟩ := DqAll.reads0 I ds _ its ha l rv
      exact ⟨_, .list ho rfl rfl hr⟩
  | .tuple ds, _, _, h, l, r => by
    cases h with
    | tup q ha =>
      cases r
      obtain ⟨_, its, rv, o, h1, h2, n, h3⟩ := I.hok _ _ q
      obtain ⟨as, hr⟩ := DqAll.reads0 I ds _ its ha l rv
      exact ⟨_, .tuple h1 h2 h3 hr⟩
  | .dict _, _, _, _, l, _ => by simp [PyData.canLay0] at l
theorem DqAll.reads0 (I : Inv X pins σ H s) : ∀ (ds : List PyData) (vs : List V) (us : List Value), DqAll H vs ds → PyData.canLayAll0 ds = true → Vals vs us → ∃ as, ReadsAll s.heap us ds as
  | [], _, _, h, _, r => by
    cases h
    cases r
    exact ⟨_, .nil⟩
  | d :: ds, _, _, h, l, r => by
    cases h with
    | cons h1 h2 =>
      cases r with
      | cons r1 r2 =>
        have l' := Bool.and_eq_true_iff.mp (show (d.canLay0 && PyData.canLayAll0 ds) = true from l)
        obtain ⟨as, q1⟩ := Dq.reads0 I d _ _ h1 l'.1 r1
        obtain ⟨bs, q2⟩ := DqAll.reads0 I ds _ _ h2 l'.2 r2
        exact ⟨_, .cons q1 q2⟩
end
end
/-- x < y of data -/
def rLtD : R2 := fun x y H Q => ∃ d e, Dq H x d ∧ Dq H y e ∧ d.canLay0 = true ∧ e.canLay0 = true ∧ cmpD d e = true ∧ d.depth ≤ 20 ∧ Q (.bl (ltD d e)) H
theorem op_ltD {X : Cx} (hu : X.A.units + 64 < cLine) : OpR X (compareOp .Lt) rLtD := by
  intro pins s σ H x y v u Q I rx ry h
  obtain ⟨d, e, hd, he, ld, le, c, hn, q⟩ := h
  obtain ⟨as, r1⟩ := Dq.reads0 I d x v hd ld rx
  obtain ⟨bs, r2⟩ := Dq.reads0 I e y u he le ry
  exact lt_data 20 d e X.A s v u as bs hn r1 r2 ld le c (by omega) _ _ _ _ ⟨.bl (ltD d e), H, I, rfl, q⟩
theorem walk_zipT {K : PySem.W.Frag} {a b : Addr} {xs ys : List V} {n : Nat} (hn : n = min xs.length ys.length) : Walk (RZ.ItzT K a b) n (fun H => SqT K H a xs ∧ SqT K H b ys) (YPair (fun i => xs[i]?) (fun i => ys[i]?)) := by
  subst hn
  refine ⟨fun i _ hi q => ?_, fun _ q => ⟨xs, ys, q.1, q.2, by omega⟩, fun i H v H' _ q y => ?_⟩
  · have h1 : i < xs.length := by omega
    have h2 : i < ys.length := by omega
    exact ⟨xs, ys, xs[i], ys[i], q.1, q.2, by simp [h1], by simp [h2]⟩
  · obtain ⟨T, x, z, h1, h2, h3, h4, h5⟩ := y
    exact ⟨T, x, z, h1, h2, h3, h4 xs q.1, h5 ys q.2⟩
def ascTo (ds : List PyData) (j : Nat) : List Bool := (List.range j).map fun i => ltD (ds.getD i .none) (ds.getD (i + 1) .none)
def ascD (ds : List PyData) : Bool := (ascTo ds (ds.length - 1)).all id
/-- a slice of a list or of a tuple -/
def rSlX (K : PySem.W.Frag) : V → Option Int → Option Int → Hp → VK → Prop := fun x lo hi H Q => rSlL K x lo hi H Q ∨ rSlA K x lo hi H Q
theorem sl_any {X : Cx} : SlR X (rSlX X.K) := by
  intro pins s σ H x v vl vu lo hi sl Q I rx hs pl pu h
  rcases h with h | h
  · exact sl_list pins s σ H x v vl vu lo hi sl Q I rx hs pl pu h
  · exact sl_tupA pins s σ H x v vl vu lo hi sl Q I rx hs pl pu h
def spAsc : Sp := fun vs H Q _ => ∃ (a : Addr) (xs : List V) (ds : List PyData), vs = [.ref a] ∧ (H a = some (.lst xs) ∨ H a = some (.tup xs)) ∧ DqAll H xs ds ∧ ds.length ≤ 1000 ∧ PyData.canLayAll0 ds = true ∧ PyData.depthAll ds ≤ 20 ∧
  (∀ i, i + 1 < ds.length → cmpD (ds.getD i .none) (ds.getD (i + 1) .none) = true) ∧ ∀ H', Same H H' → Q (.bl (ascD ds)) H'
theorem getD_of {ds : List PyData} {i : Nat} {d : PyData} (h : ds[i]? = some d) : ds.getD i .none = d := by
  rw [List.getD_eq_getElem?_getD, h, Option.getD_some]
theorem six_one (n : Nat) : HT.sIx n 0 (some 1) = min 1 n := HT.sIx_nat n 0 1
theorem cut_tail (xs : List V) : cutV xs (some 1) none = xs.drop 1 := by
  unfold cutV
  rw [six_one, HT.sIx_none]
  cases xs with
  | nil => rfl
  | cons x r =>
    have e : min 1 (x :: r).length = 1 := by
      rw [List.length_cons]
      omega
    rw [e]
    exact List.take_of_length_le (by rw [List.length_drop]; omega)
section
variable {P : Program} {w : World} {K : PySem.W.Frag} {mg : Str → Option Value} {base : Heap}
theorem scIsAsc : FnScope ["items", "ahead", "behind"] ["items"] (defScope sIsAsc) := ⟨rfl, rfl, rfl, by decide +kernel, rfl, by decide +kernel, by decide +kernel⟩
theorem ok_asc {f : Addr} {fd : FuncData} (F : Fun K "is_ascending" "is_ascending" sIsAsc f fd) (T : TxtB mg) : FnOk P w K mg base CX0 1 f fd ["items"] spAsc := by
  refine F.ok scIsAsc (fun vs H Q E h => ?_) (fun cdv A outer s H vs Q E hr h => ?_)
  · obtain ⟨a, xs, ds, rfl, _⟩ := h
    rfl
  · obtain ⟨a, xs, ds, rfl, hx, ha, hl, lay, dp, hc, k⟩ := h
    refine ⟨_, pss_one (ps_ret (pe_callB (cr_all rfl) (by rfl) T.all (by decide +kernel) (pa_cons (pe_lc (own := [("ahead", 1), ("behind", 2)]) (g := gTup K 2 (gCons (gName 1) (gCons (gName 2) gNil))) (tt := tYes) rfl scIsAsc.nd (RZ.pi_zipA (by rfl) T.zip (pa_cons (pv 0) (pa_cons (pe_slice sl_any (pv 0) (po_some pe_int) po_none) pa_nil)))
      (blkOk_by (N := ["items", "ahead", "behind"]) (sc := defScope sIsAsc) (by decide +kernel)) (fun _ _ _ _ _ => pg_tup rfl (pgs_cons (pg_name (i := 1) scIsAsc.nd rfl (.inl rfl)) (pgs_cons (pg_name (i := 2) scIsAsc.nd rfl (.inl rfl)) pgs_nil))) (fun _ _ _ _ _ => pts_nil)
      (fun _ _ _ _ _ => pe_cmpR (op_ltD hr.units) (pv 1) (pv 2) (nomark _))) pa_nil))), ?_⟩
    have len := ha.len
    have fin : ∀ (D : Addr) (H1 : Hp), Same H H1 → H1 D = none → ∀ (n : Nat), n = ds.length - 1 → ∀ H2, MadeTo H1 D ((ascTo ds n).map V.bl) H2 → ∃ (a : Addr) (bs : List Bool), [V.ref D] = [V.ref a] ∧ SqL K H2 a (bs.map V.bl) ∧ Q (.bl (bs.all id)) H2 := fun D H1 S1 nD n hn H2 M => by
      refine ⟨D, ascTo ds n, rfl, SqL.of M.2, ?_⟩
      have q := k H2 (S1.trans M.1)
      subst hn
      exact q
    rcases hx with hx | hx
    · refine ⟨_, rfl, _, rfl, _, rfl, .inl ⟨a, xs, rfl, SqL.of hx, fun b nb => ?_⟩⟩
      have S1 := same_new (o := .lst (cutV xs (some 1) none)) nb
      revert S1
      have hb : (upd H b (.lst (cutV xs (some 1) none))) b = some (.lst (xs.drop 1)) := by rw [upd_same, cut_tail]
      revert hb
      generalize upd H b (.lst (cutV xs (some 1) none)) = H1
      intro hb S1
      refine ⟨a, b, xs, xs.drop 1, rfl, .inl ⟨SqL.of (S1 _ _ hx), SqL.of hb, fun D nD => ?_⟩⟩
      have en : ds.length - 1 = min xs.length (xs.drop 1).length := by
        rw [List.length_drop]
        omega
      refine lc_it (walk_zip (K := K) (a := a) (b := b) en) (fun i H2 => MadeTo H1 D ((ascTo ds i).map V.bl) H2) ⟨same_new nD, upd_same⟩ (fun i H2 _ M => ⟨SqL.of (M.1 _ _ (S1 _ _ hx)), SqL.of (M.1 _ _ hb)⟩) ?_ (fun H2 M => fin D H1 S1 nD _ rfl H2 M)
      rintro i _ H2 _ hi M ⟨T, y, z, rfl, nT, rfl, ey, ez⟩
      obtain ⟨d1, e1, q1⟩ := DqAll.at ha ey
      have ez : xs[i + 1]? = some z := by
        have ez : (xs.drop 1)[i]? = some z := ez
        rw [List.getElem?_drop, Nat.add_comm] at ez
        exact ez
      obtain ⟨d2, e2, q2⟩ := DqAll.at ha ez
      have S2 := same_new (o := .tup [y, z]) nT
      have S := S1.trans (M.1.trans S2)
      have c := hc i (by omega)
      rw [getD_of e1, getD_of e2] at c
      have l1 := lay_at i lay
      have l2 := lay_at (i + 1) lay
      have p1 := Nat.le_trans (depth_at (ds := ds) i) dp
      rw [getD_of e1] at l1 p1
      rw [getD_of e2] at l2
      refine ⟨T, [y, z], rfl, SqT.of upd_same, rfl, y, [z], rfl, z, [], rfl, rfl, rfl, ?_⟩
      refine ⟨_, rfl, _, rfl, d1, d2, Dq.same S d1 y q1, Dq.same S d2 z q2, l1, l2, c, p1, ?_⟩
      have m := M.more (.bl (ltD d1 d2)) nD S2
      refine ⟨_, m.1, ?_, ?_⟩
      · rw [List.length_map, ascTo, List.length_map, List.length_range]
        exact Nat.lt_of_lt_of_le hi (Nat.le_trans (Nat.sub_le _ _) (Nat.le_trans hl (by rw [sizeLine_eq]; omega)))
      · have ea : ascTo ds (i + 1) = ascTo ds i ++ [ltD d1 d2] := by
          rw [ascTo, ascTo, List.range_succ, List.map_append, List.map_singleton, getD_of e1, getD_of e2]
        rw [ea, List.map_append]
        exact m.2
    · refine ⟨_, rfl, _, rfl, _, rfl, .inr ⟨a, xs, rfl, SqT.of hx, ?_, ?_⟩⟩
      · rintro ⟨w1, w2⟩
        have x0 : xs = [] := by
          rw [six_one] at w1
          cases xs with
          | nil => rfl
          | cons x r =>
            rw [List.length_cons] at w1
            omega
        subst x0
        have d0 : ds.length = 0 := len.symm
        refine ⟨a, a, [], [], rfl, .inr ⟨SqT.of hx, SqT.of hx, fun D nD => ?_⟩⟩
        refine lc_it (walk_zipT (K := K) (a := a) (b := a) (xs := []) (ys := []) (n := ds.length - 1) (by rw [d0]; rfl)) (fun i H2 => MadeTo H D ((ascTo ds i).map V.bl) H2) ⟨same_new nD, upd_same⟩ (fun i H2 _ M => ⟨SqT.of (M.1 _ _ hx), SqT.of (M.1 _ _ hx)⟩) ?_ (fun H2 M => fin D H (Same.refl H) nD _ rfl H2 M)
        intro i x H2 H3 hi
        omega
      · intro _ b nb
        have S1 := same_new (o := .tup (cutV xs (some 1) none)) nb
        revert S1
        have hb : (upd H b (.tup (cutV xs (some 1) none))) b = some (.tup (xs.drop 1)) := by rw [upd_same, cut_tail]
        revert hb
        generalize upd H b (.tup (cutV xs (some 1) none)) = H1
        intro hb S1
        refine ⟨a, b, xs, xs.drop 1, rfl, .inr ⟨SqT.of (S1 _ _ hx), SqT.of hb, fun D nD => ?_⟩⟩
        have en : ds.length - 1 = min xs.length (xs.drop 1).length := by
          rw [List.length_drop]
          omega
        refine lc_it (walk_zipT (K := K) (a := a) (b := b) en) (fun i H2 => MadeTo H1 D ((ascTo ds i).map V.bl) H2) ⟨same_new nD, upd_same⟩ (fun i H2 _ M => ⟨SqT.of (M.1 _ _ (S1 _ _ hx)), SqT.of (M.1 _ _ hb)⟩) ?_ (fun H2 M => fin D H1 S1 nD _ rfl H2 M)
        rintro i _ H2 _ hi M ⟨T, y, z, rfl, nT, rfl, ey, ez⟩
        obtain ⟨d1, e1, q1⟩ := DqAll.at ha ey
        have ez : xs[i + 1]? = some z := by
          have ez : (xs.drop 1)[i]? = some z := ez
          rw [List.getElem?_drop, Nat.add_comm] at ez
          exact ez
        obtain ⟨d2, e2, q2⟩ := DqAll.at ha ez
        have S2 := same_new (o := .tup [y, z]) nT
        have S := S1.trans (M.1.trans S2)
        have c := hc i (by omega)
        rw [getD_of e1, getD_of e2] at c
        have l1 := lay_at i lay
        have l2 := lay_at (i + 1) lay
        have p1 := Nat.le_trans (depth_at (ds := ds) i) dp
        rw [getD_of e1] at l1 p1
        rw [getD_of e2] at l2
        refine ⟨T, [y, z], rfl, SqT.of upd_same, rfl, y, [z], rfl, z, [], rfl, rfl, rfl, ?_⟩
        refine ⟨_, rfl, _, rfl, d1, d2, Dq.same S d1 y q1, Dq.same S d2 z q2, l1, l2, c, p1, ?_⟩
        have m := M.more (.bl (ltD d1 d2)) nD S2
        refine ⟨_, m.1, ?_, ?_⟩
        · rw [List.length_map, ascTo, List.length_map, List.length_range]
          exact Nat.lt_of_lt_of_le hi (Nat.le_trans (Nat.sub_le _ _) (Nat.le_trans hl (by rw [sizeLine_eq]; omega)))
        · have ea : ascTo ds (i + 1) = ascTo ds i ++ [ltD d1 d2] := by
            rw [ascTo, ascTo, List.range_succ, List.map_append, List.map_singleton, getD_of e1, getD_of e2]
          rw [ea, List.map_append]
          exact m.2
end
end KL
set_option Elab.async false
set_option linter.all false
set_option maxRecDepth 100000
set_option maxHeartbeats 2000000
namespace KL
open PySem L2 PySem.Spec PyProof.Rows
abbrev sIsPeople : Stmt := top 35
abbrev sIsPlaces : Stmt := top 36
abbrev sIsLogs : Stmt := top 37
abbrev sIsDeed : Stmt := top 38
abbrev sAreDeeds : Stmt := top 39
abbrev sIsStart : Stmt := top 40
abbrev sAreEnds : Stmt := top 41
/-- the numbers of the file parts -/
structure TxtM (mg : Str → Option Value) : Prop where
  people : ∃ t, mg "MOST_PEOPLE" = some (.int 3 t)
  deeds : ∃ t, mg "MOST_DEEDS" = some (.int 5 t)
  count : ∃ t, mg "MOST_COUNT" = some (.int 3 t)
  places : ∃ t, mg "MOST_PLACES" = some (.int 3 t)
  logs : ∃ t, mg "MOST_LOGS" = some (.int 2 t)
def itemD (i : Nat) : PyData → PyData
  | .tuple ds => ds.getD i .none
  | _ => .none
def deedD (people : Int) (d : PyData) : Bool := tupD 2 2 d && (letD (itemD 0 d) && betD 0 (people - 1) (itemD 1 d))
def allD (f : PyData → Bool) : PyData → Bool
  | .tuple ds => ds.all f
  | _ => true
def itemsD : PyData → List PyData
  | .tuple ds => ds
  | _ => []
def deedsD (people : Int) (d : PyData) : Bool := tupD 1 5 d && (allD (deedD people) d && ascD ((itemsD d).map (itemD 0)))
def startD (d : PyData) : Bool := tupD 1 3 d && allD intD d
def isTupD : PyData → Bool
  | .tuple _ => true
  | _ => false
def endsD (places : Int) (d : PyData) : Bool := isTupD d && (allD (betD 0 (places - 1)) d && ascD (itemsD d))
/-- a test of one thing with a number -/
def spTest1 (f : Int → PyData → Bool) : Sp := fun vs H Q _ => ∃ (v : V) (d : PyData) (n : Int), vs = [v, .int n] ∧ Dq H v d ∧ smB d = true ∧ ∀ H', Same H H' → Q (.bl (f n d)) H'
section
variable {P : Program} {w : World} {K : PySem.W.Frag} {mg : Str → Option Value} {base : Heap}
theorem scPeople : FnScope ["thing"] ["thing"] (defScope sIsPeople) := ⟨rfl, rfl, rfl, by decide +kernel, rfl, by decide +kernel, by decide +kernel⟩
theorem scPlaces : FnScope ["thing"] ["thing"] (defScope sIsPlaces) := ⟨rfl, rfl, rfl, by decide +kernel, rfl, by decide +kernel, by decide +kernel⟩
theorem scLogs : FnScope ["thing"] ["thing"] (defScope sIsLogs) := ⟨rfl, rfl, rfl, by decide +kernel, rfl, by decide +kernel, by decide +kernel⟩
theorem ok_people {f g : Addr} {fd gd : FuncData} (F : Fun K "is_people" "is_people" sIsPeople f fd) (M : TxtM mg) (G : FnOk P w K mg base CX0 2 g gd ["thing", "low", "high"] (spTest2 betD)) (c : Cal K mg "is_between" g gd ["thing", "low", "high"]) : FnOk P w K mg base CX0 3 f fd ["thing"] (spTest (betD 1 3)) := by
  obtain ⟨t, hm⟩ := M.people
  refine F.ok scPeople (fun vs H Q E h => ?_) (fun cdv A outer s H vs Q E hr h => ?_)
  · obtain ⟨v, d, rfl, _⟩ := h
    rfl
  · obtain ⟨v, d, rfl, hd, sm, k⟩ := h
    refine ⟨_, pss_one (ps_ret (pe_call G hr (by rfl) c.m c.k c.b .nil pass0 (pa_cons (pv 0) (pa_cons pe_int (pa_cons (pe_glob (v := .int 3) (by rfl) hm ⟨_, rfl⟩) pa_nil))))), ?_⟩
    exact ⟨_, rfl, v, d, 1, 3, rfl, hd, sm, k⟩
theorem ok_places {f g : Addr} {fd gd : FuncData} (F : Fun K "is_places" "is_places" sIsPlaces f fd) (M : TxtM mg) (G : FnOk P w K mg base CX0 2 g gd ["thing", "low", "high"] (spTest2 betD)) (c : Cal K mg "is_between" g gd ["thing", "low", "high"]) : FnOk P w K mg base CX0 3 f fd ["thing"] (spTest (betD 1 3)) := by
  obtain ⟨t, hm⟩ := M.places
  refine F.ok scPlaces (fun vs H Q E h => ?_) (fun cdv A outer s H vs Q E hr h => ?_)
  · obtain ⟨v, d, rfl, _⟩ := h
    rfl
  · obtain ⟨v, d, rfl, hd, sm, k⟩ := h
    refine ⟨_, pss_one (ps_ret (pe_call G hr (by rfl) c.m c.k c.b .nil pass0 (pa_cons (pv 0) (pa_cons pe_int (pa_cons (pe_glob (v := .int 3) (by rfl) hm ⟨_, rfl⟩) pa_nil))))), ?_⟩
    exact ⟨_, rfl, v, d, 1, 3, rfl, hd, sm, k⟩
theorem ok_logs {f g : Addr} {fd gd : FuncData} (F : Fun K "is_logs" "is_logs" sIsLogs f fd) (M : TxtM mg) (G : FnOk P w K mg base CX0 2 g gd ["thing", "low", "high"] (spTest2 betD)) (c : Cal K mg "is_between" g gd ["thing", "low", "high"]) : FnOk P w K mg base CX0 3 f fd ["thing"] (spTest (betD 0 2)) := by
  obtain ⟨t, hm⟩ := M.logs
  refine F.ok scLogs (fun vs H Q E h => ?_) (fun cdv A outer s H vs Q E hr h => ?_)
  · obtain ⟨v, d, rfl, _⟩ := h
    rfl
  · obtain ⟨v, d, rfl, hd, sm, k⟩ := h
    refine ⟨_, pss_one (ps_ret (pe_call G hr (by rfl) c.m c.k c.b .nil pass0 (pa_cons (pv 0) (pa_cons pe_int (pa_cons (pe_glob (v := .int 2) (by rfl) hm ⟨_, rfl⟩) pa_nil))))), ?_⟩
    exact ⟨_, rfl, v, d, 0, 2, rfl, hd, sm, k⟩
theorem tup_of {lo hi : Int} {d : PyData} (h : tupD lo hi d = true) : ∃ ds, d = .tuple ds ∧ lo ≤ (ds.length : Int) ∧ (ds.length : Int) ≤ hi := by
  cases d with
  | tuple ds =>
    have q := Bool.and_eq_true_iff.mp h
    exact ⟨ds, rfl, of_decide_eq_true q.1, of_decide_eq_true q.2⟩
  | _ => cases h
theorem at_some {ds : List PyData} {xs : List V} {H : Hp} (ha : DqAll H xs ds) {i : Nat} (hi : i < ds.length) : ∃ x, xs[i]? = some x ∧ ds[i]? = some (ds.getD i .none) ∧ Dq H x (ds.getD i .none) := by
  have h1 : i < xs.length := by rw [ha.len]; exact hi
  have e : xs[i]? = some xs[i] := List.getElem?_eq_getElem h1
  obtain ⟨d, hd, q⟩ := DqAll.at ha e
  rw [getD_of hd]
  exact ⟨_, e, hd, q⟩
theorem scDeed : FnScope ["thing", "people"] ["thing", "people"] (defScope sIsDeed) := ⟨rfl, rfl, rfl, by decide +kernel, rfl, by decide +kernel, by decide +kernel⟩
theorem ok_deed {f g1 g2 g3 : Addr} {fd gd1 gd2 gd3 : FuncData} (F : Fun K "is_deed" "is_deed" sIsDeed f fd) (G1 : FnOk P w K mg base CX0 1 g1 gd1 ["thing", "low", "high"] (spTest2 tupD)) (c1 : Cal K mg "is_tuple_of" g1 gd1 ["thing", "low", "high"])
    (G2 : FnOk P w K mg base CX0 1 g2 gd2 ["thing"] (spTest letD)) (c2 : Cal K mg "is_letter" g2 gd2 ["thing"]) (G3 : FnOk P w K mg base CX0 2 g3 gd3 ["thing", "low", "high"] (spTest2 betD)) (c3 : Cal K mg "is_between" g3 gd3 ["thing", "low", "high"]) :
    FnOk P w K mg base CX0 3 f fd ["thing", "people"] (spTest1 deedD) := by
  refine F.ok scDeed (fun vs H Q E h => ?_) (fun cdv A outer s H vs Q E hr h => ?_)
  · obtain ⟨v, d, n, rfl, _⟩ := h
    rfl
  · obtain ⟨v, d, n, rfl, hd, sm, k⟩ := h
    have hr1 : Room 1 _ := hr.mono (by decide)
    refine ⟨_, pss_one (ps_ret (pe_and (pe_call G1 hr1 (by rfl) c1.m c1.k c1.b .nil pass0 (pa_cons (pv 0) (pa_cons pe_int (pa_cons pe_int pa_nil))))
      (pe_and (pe_call G2 hr1 (by rfl) c2.m c2.k c2.b .nil pass0 (pa_cons (pe_ix ix_tup (pv 0) pe_int (fun _ _ => rfl)) pa_nil))
      (pe_one (pe_call G3 hr (by rfl) c3.m c3.k c3.b .nil pass0 (pa_cons (pe_ix ix_tup (pv 0) pe_int (fun _ _ => rfl)) (pa_cons pe_int (pa_cons (pe_op op_sub (pv 1) pe_int) pa_nil)))))))), ?_⟩
    refine ⟨_, rfl, v, d, 2, 2, rfl, hd, sm, fun H1 S1 => ⟨_, rfl, ?_⟩⟩
    by_cases h1 : tupD 2 2 d = true
    · refine iteYes h1 ?_
      obtain ⟨ds, rfl, l1, l2⟩ := tup_of h1
      cases hd with
      | tup e ha =>
        rename_i a xs
        obtain ⟨x0, e0, f0, q0⟩ := at_some ha (i := 0) (by omega)
        obtain ⟨x1, e1, f1, q1⟩ := at_some ha (i := 1) (by omega)
        refine ⟨_, rfl, a, xs, 0, x0, rfl, rfl, SqT.of (S1 _ _ e), atI_nat e0, x0, _, rfl, Dq.same S1 _ x0 q0, sm_at (sm_all sm) f0, fun H2 S2 => ⟨_, rfl, ?_⟩⟩
        by_cases h2 : letD (ds.getD 0 .none) = true
        · refine iteYes h2 ?_
          refine ⟨_, rfl, a, xs, 1, x1, rfl, rfl, SqT.of (S2 _ _ (S1 _ _ e)), atI_nat e1, _, rfl, _, _, rfl, rfl, x1, _, 0, n - 1, rfl, Dq.same (S1.trans S2) _ x1 q1, sm_at (sm_all sm) f1, fun H3 S3 => ?_⟩
          have q := k H3 (S1.trans (S2.trans S3))
          have e : deedD n (.tuple ds) = betD 0 (n - 1) (ds.getD 1 .none) := by simp only [deedD, h1, itemD, h2, Bool.true_and]
          rw [e] at q
          exact q
        · refine iteNo (by simpa using h2) ?_
          have q := k H2 (S1.trans S2)
          have e : deedD n (.tuple ds) = false := by simp only [deedD, h1, itemD, h2, Bool.true_and, Bool.false_and]
          rw [e] at q
          exact q
    · refine iteNo (by simpa using h1) ?_
      have q := k H1 S1
      have e : deedD n d = false := by simp only [deedD, h1, Bool.false_and]
      rw [e] at q
      exact q
end
end KL
set_option Elab.async false
set_option linter.all false
set_option maxRecDepth 100000
set_option maxHeartbeats 2000000
namespace KL
open PySem L2 PySem.Spec PyProof.Rows
theorem allD_map (f : PyData → Bool) (ds : List PyData) : (ds.map f).all id = allD f (.tuple ds) := by
  show (ds.map f).all id = ds.all f
  rw [List.all_map]
  rfl
theorem getD_map {f : PyData → PyData} {ds : List PyData} {i : Nat} (hi : i < ds.length) : (ds.map f).getD i .none = f (ds.getD i .none) := by
  rw [List.getD_eq_getElem?_getD, List.getElem?_map, List.getElem?_eq_getElem hi, List.getD_eq_getElem?_getD, List.getElem?_eq_getElem hi]
  rfl
theorem all_at {f : PyData → Bool} {ds : List PyData} (h : ds.all f = true) {i : Nat} (hi : i < ds.length) : f (ds.getD i .none) = true := by
  rw [List.getD_eq_getElem?_getD, List.getElem?_eq_getElem hi]
  exact List.all_eq_true.mp h _ (List.getElem_mem hi)
theorem let_of {d : PyData} (h : letD d = true) : ∃ x, d = .str x := by
  cases d with
  | str x => exact ⟨x, rfl⟩
  | _ => cases h
theorem bet_of {lo hi : Int} {d : PyData} (h : betD lo hi d = true) : ∃ i, d = .int i ∧ lo ≤ i ∧ i ≤ hi := by
  cases d with
  | int i =>
    have q := Bool.and_eq_true_iff.mp h
    exact ⟨i, rfl, of_decide_eq_true q.1, of_decide_eq_true q.2⟩
  | _ => cases h
theorem lay_of : ∀ {ds : List PyData}, (∀ i, i < ds.length → ∃ j, ds.getD i .none = PyData.int j) → PyData.canLayAll0 ds = true
  | [], _ => rfl
  | d :: ds, h => by
    obtain ⟨j, e⟩ := h 0 (Nat.succ_pos _)
    have e : d = .int j := e
    subst e
    show (true && PyData.canLayAll0 ds) = true
    rw [lay_of (ds := ds) fun i hi => h (i + 1) (Nat.succ_lt_succ hi)]
    rfl
theorem depth_of : ∀ {ds : List PyData}, (∀ i, i < ds.length → ∃ j, ds.getD i .none = PyData.int j) → PyData.depthAll ds ≤ 20
  | [], _ => Nat.zero_le _
  | d :: ds, h => by
    obtain ⟨j, e⟩ := h 0 (Nat.succ_pos _)
    have e : d = .int j := e
    subst e
    have q := depth_of (ds := ds) fun i hi => h (i + 1) (Nat.succ_lt_succ hi)
    show max 0 (PyData.depthAll ds) ≤ 20
    omega
section
variable {P : Program} {w : World} {K : PySem.W.Frag} {mg : Str → Option Value} {base : Heap}
theorem scStart : FnScope ["thing", "item"] ["thing"] (defScope sIsStart) := ⟨rfl, rfl, rfl, by decide +kernel, rfl, by decide +kernel, by decide +kernel⟩
theorem ok_start {f g1 g2 : Addr} {fd gd1 gd2 : FuncData} (F : Fun K "is_start" "is_start" sIsStart f fd) (T : TxtB mg) (M : TxtM mg) (G1 : FnOk P w K mg base CX0 1 g1 gd1 ["thing"] (spTest intD)) (c1 : Cal K mg "is_int" g1 gd1 ["thing"])
    (G2 : FnOk P w K mg base CX0 1 g2 gd2 ["thing", "low", "high"] (spTest2 tupD)) (c2 : Cal K mg "is_tuple_of" g2 gd2 ["thing", "low", "high"]) : FnOk P w K mg base CX0 2 f fd ["thing"] (spTest startD) := by
  obtain ⟨t, hm⟩ := M.count
  refine F.ok scStart (fun vs H Q E h => ?_) (fun cdv A outer s H vs Q E hr h => ?_)
  · obtain ⟨v, d, rfl, _⟩ := h
    rfl
  · obtain ⟨v, d, rfl, hd, sm, k⟩ := h
    refine ⟨_, pss_one (ps_ret (pe_and (pe_call G2 hr (by rfl) c2.m c2.k c2.b .nil pass0 (pa_cons (pv 0) (pa_cons pe_int (pa_cons (pe_glob (v := .int 3) (by rfl) hm ⟨_, rfl⟩) pa_nil))))
      (pe_one (pe_callB (cr_all rfl) (by rfl) T.all (by decide +kernel) (pa_cons (pe_lc (own := [("item", 1)]) (g := gName 1) (tt := tYes) rfl scStart.nd (pi_tup (pv 0)) (blkOk_by (N := ["thing", "item"]) (sc := defScope sIsStart) (by decide +kernel)) (fun _ _ _ _ _ => pg_name (i := 1) scStart.nd rfl (.inl rfl)) (fun _ _ _ _ _ => pts_nil)
        (fun _ _ _ _ _ => pe_call G1 hr (by rfl) c1.m c1.k c1.b .nil pass0 (pa_cons (pv 1) pa_nil))) pa_nil))))), ?_⟩
    refine ⟨_, rfl, v, d, 1, 3, rfl, hd, sm, fun H1 S1 => ⟨_, rfl, ?_⟩⟩
    by_cases h1 : tupD 1 3 d = true
    · refine iteYes h1 ?_
      obtain ⟨ds, rfl, l1, l2⟩ := tup_of h1
      cases hd with
      | tup e ha =>
        rename_i a xs
        refine ⟨_, rfl, a, rfl, ⟨_, SqT.of (S1 _ _ e)⟩, fun D nD => ?_⟩
        refine lc_tup (K := K) (a := a) (xs := xs) (fun i H2 => MadeTo H1 D (((ds.take i).map intD).map V.bl) H2) ⟨same_new nD, upd_same⟩ (fun i H2 _ M => SqT.of (M.1 _ _ (S1 _ _ e))) ?_ ?_
        · rintro i x H2 hx M
          obtain ⟨d', hd', hq⟩ := DqAll.at ha hx
          exact ⟨rfl, _, rfl, x, d', rfl, Dq.same (S1.trans M.1) d' x hq, sm_at (sm_all sm) hd', fun H3 S3 => M.turn nD S3 (sm_len sm) hd'⟩
        · rintro H2 M
          rw [ha.len, List.take_length] at M
          refine ⟨D, _, rfl, SqL.of M.2, ?_⟩
          have e : startD (.tuple ds) = (ds.map intD).all id := by rw [startD, h1, Bool.true_and, allD_map]
          have q := k H2 (S1.trans M.1)
          rw [e] at q
          exact q
    · refine iteNo (by simpa using h1) ?_
      have q := k H1 S1
      have e : startD d = false := by simp only [startD, h1, Bool.false_and]
      rw [e] at q
      exact q
theorem scEnds : FnScope ["thing", "places", "item"] ["thing", "places"] (defScope sAreEnds) := ⟨rfl, rfl, rfl, by decide +kernel, rfl, by decide +kernel, by decide +kernel⟩
theorem ok_ends {f g1 g2 : Addr} {fd gd1 gd2 : FuncData} (F : Fun K "are_ends" "are_ends" sAreEnds f fd) (T : TxtB mg) (G1 : FnOk P w K mg base CX0 2 g1 gd1 ["thing", "low", "high"] (spTest2 betD)) (c1 : Cal K mg "is_between" g1 gd1 ["thing", "low", "high"])
    (G2 : FnOk P w K mg base CX0 1 g2 gd2 ["items"] spAsc) (c2 : Cal K mg "is_ascending" g2 gd2 ["items"]) : FnOk P w K mg base CX0 3 f fd ["thing", "places"] (spTest1 endsD) := by
  refine F.ok scEnds (fun vs H Q E h => ?_) (fun cdv A outer s H vs Q E hr h => ?_)
  · obtain ⟨v, d, n, rfl, _⟩ := h
    rfl
  · obtain ⟨v, d, n, rfl, hd, sm, k⟩ := h
    have hr1 : Room 1 _ := hr.mono (by decide)
    refine ⟨_, pss_cons (ps_if (PW.pt (pw_or (pt_not (pt_val (pe_callB call_isD (by rfl) T.isi (by decide +kernel) (pa_cons (pv 0) (pa_cons (pe_bltn (v := .ty "tuple") (by rfl) T.tuple (by decide +kernel) rfl) pa_nil))))) (pw_or1 (pt_not (pt_val (pe_callB (cr_all rfl) (by rfl) T.all (by decide +kernel) (pa_cons (pe_lc (own := [("item", 2)]) (g := gName 2) (tt := tYes) rfl scEnds.nd (pi_tup (pv 0)) (blkOk_by (N := ["thing", "places", "item"]) (sc := defScope sAreEnds) (by decide +kernel)) (fun _ _ _ _ _ => pg_name (i := 2) scEnds.nd rfl (.inl rfl)) (fun _ _ _ _ _ => pts_nil)
        (fun _ _ _ _ _ => pe_call G1 hr (by rfl) c1.m c1.k c1.b .nil pass0 (pa_cons (pv 2) (pa_cons pe_int (pa_cons (pe_op op_sub (pv 1) pe_int) pa_nil))))) pa_nil))))))) (pss_one (ps_ret pe_bl)) pss_nil)
      (pss_one (ps_ret (pe_call G2 hr1 (by rfl) c2.m c2.k c2.b .nil pass0 (pa_cons (pv 0) pa_nil)))), ?_⟩
    refine ⟨_, rfl, v, d, "tuple", rfl, by decide, hd, _, rfl, ?_⟩
    cases hd with
    | tup e ha =>
      rename_i a xs ds
      refine iteNo rfl ?_
      refine ⟨_, rfl, a, rfl, ⟨_, SqT.of e⟩, fun D nD => ?_⟩
      refine lc_tup (K := K) (a := a) (xs := xs) (fun i H2 => MadeTo H D (((ds.take i).map (betD 0 (n - 1))).map V.bl) H2) ⟨same_new nD, upd_same⟩ (fun i H2 _ M => SqT.of (M.1 _ _ e)) ?_ ?_
      · rintro i x H2 hx M
        obtain ⟨d', hd', hq⟩ := DqAll.at ha hx
        exact ⟨rfl, _, rfl, _, rfl, _, _, rfl, rfl, x, d', 0, n - 1, rfl, Dq.same M.1 d' x hq, sm_at (sm_all sm) hd', fun H3 S3 => M.turn nD S3 (sm_len sm) hd'⟩
      · rintro H2 M
        rw [ha.len, List.take_length] at M
        refine ⟨D, _, rfl, SqL.of M.2, _, rfl, ?_⟩
        rw [allD_map]
        by_cases h1 : allD (betD 0 (n - 1)) (.tuple ds) = true
        · refine iteNo (by rw [h1]; rfl) ?_
          have hi : ∀ i, i < ds.length → ∃ j, ds.getD i .none = .int j := fun i hi => by
            obtain ⟨j, e, _⟩ := bet_of (all_at (f := betD 0 (n - 1)) h1 hi)
            exact ⟨j, e⟩
          refine ⟨_, rfl, a, xs, ds, rfl, .inr (M.1 _ _ e), DqAll.same M.1 ds xs ha, sm_len sm, lay_of hi, depth_of hi, fun i hi' => ?_, fun H3 S3 => ?_⟩
          · obtain ⟨x, ex⟩ := hi i (by omega)
            obtain ⟨y, ey⟩ := hi (i + 1) hi'
            rw [ex, ey]
            rfl
          · have q := k H3 (M.1.trans S3)
            have e : endsD n (.tuple ds) = ascD ds := by simp only [endsD, isTupD, h1, itemsD, Bool.true_and]
            rw [e] at q
            exact q
        · refine iteYes (by simpa using h1) ?_
          have q := k H2 M.1
          have e : endsD n (.tuple ds) = false := by simp only [endsD, isTupD, h1, Bool.true_and, Bool.false_and]
          rw [e] at q
          exact q
    | non => exact iteYes rfl (k H (Same.refl H))
    | bl _ => exact iteYes rfl (k H (Same.refl H))
    | int _ => exact iteYes rfl (k H (Same.refl H))
    | str _ => exact iteYes rfl (k H (Same.refl H))
    | lst _ _ => exact iteYes rfl (k H (Same.refl H))
    | dct0 _ => exact iteYes rfl (k H (Same.refl H))
    | dct1 _ => exact iteYes rfl (k H (Same.refl H))
end
end KL
set_option Elab.async false
set_option linter.all false
set_option maxRecDepth 100000
set_option maxHeartbeats 2000000
namespace KL
open PySem L2 PySem.Spec PyProof.Rows
theorem letS_ok {x : Str} (h : letS x = true) : PyData.strOk x = true ∧ x.length = 1 := by
  simp only [letS, Bool.and_eq_true, decide_eq_true_eq, Bool.not_eq_true', decide_eq_false_iff_not] at h
  obtain ⟨h1, h2, h3⟩ := h
  refine ⟨?_, h1⟩
  obtain ⟨⟨l⟩⟩ := x
  have hl : l.length = 1 := h1
  match l, hl with
  | [c], _ =>
    have z : ¬ ([122] < [c]) := h3
    have hc : c ≤ 122 := by
      rcases Nat.lt_or_ge 122 c with q | q
      · exact absurd (List.cons_lt_cons_iff.mpr (.inl q)) z
      · exact q
    show (#[c]).all (· < 0x110000) = true
    simp
    omega
theorem DqAll.snoc {H : Hp} : ∀ {es : List PyData} {ys : List V} {y : V} {e : PyData}, DqAll H ys es → Dq H y e → DqAll H (ys ++ [y]) (es ++ [e])
  | [], _, _, _, h, q => by
    cases h
    exact .cons q .nil
  | _ :: _, _, _, _, h, q => by
    cases h with
    | cons h1 h2 => exact .cons h1 (DqAll.snoc h2 q)
/-- a comprehension that has made these data so far -/
def MadeQ (H0 : Hp) (D : Addr) (es : List PyData) (H : Hp) : Prop := Same H0 H ∧ ∃ ys, H D = some (.lst ys) ∧ DqAll H0 ys es
theorem MadeQ.start {H0 : Hp} {D : Addr} (nD : H0 D = none) : MadeQ H0 D [] (upd H0 D (.lst [])) := ⟨same_new nD, [], upd_same, .nil⟩
theorem MadeQ.turn {H0 H H' : Hp} {D : Addr} {g : PyData → PyData} {ds : List PyData} {i : Nat} {d : PyData} {y : V} (hD : H0 D = none) (M : MadeQ H0 D ((ds.take i).map g) H) (S : Same H H') (hl : ds.length ≤ 1000) (h : ds[i]? = some d) (q : Dq H0 y (g d)) :
    ∃ acc, H' D = some (.lst acc) ∧ acc.length < sizeLine ∧ MadeQ H0 D ((ds.take (i + 1)).map g) (upd H' D (.lst (acc ++ [y]))) := by
  obtain ⟨S0, ys, hy, hq⟩ := M
  refine ⟨ys, S _ _ hy, ?_, fun x o e => ?_, ys ++ [y], upd_same, ?_⟩
  · rw [hq.len, List.length_map, List.length_take]
    exact Nat.lt_of_le_of_lt (Nat.le_trans (Nat.min_le_right _ _) hl) (by rw [sizeLine_eq]; omega)
  · have nx : x ≠ D := fun z => by
      rw [z, hD] at e
      cases e
    rw [upd_ne nx]
    exact S _ _ (S0 _ _ e)
  · rw [take_map h]
    exact hq.snoc q
theorem deed_of {n : Int} {d : PyData} (h : deedD n d = true) : ∃ x i, d = .tuple [.str x, .int i] ∧ letS x = true ∧ 0 ≤ i ∧ i ≤ n - 1 := by
  simp only [deedD, Bool.and_eq_true] at h
  obtain ⟨h1, h2, h3⟩ := h
  obtain ⟨ds, rfl, l1, l2⟩ := tup_of h1
  match ds, l1, l2 with
  | [a, b], _, _ =>
    obtain ⟨x, rfl⟩ : ∃ x, a = .str x := let_of h2
    obtain ⟨i, rfl, i1, i2⟩ : ∃ i, b = .int i ∧ 0 ≤ i ∧ i ≤ n - 1 := bet_of h3
    exact ⟨x, i, rfl, h2, i1, i2⟩
  | [], l1, _ => exact absurd l1 (by decide)
  | [_], l1, _ => simp at l1
  | _ :: _ :: _ :: _, _, l2 => simp at l2; omega
theorem lay_str : ∀ {ds : List PyData}, (∀ i, i < ds.length → ∃ x, ds.getD i .none = PyData.str x ∧ letS x = true) → PyData.canLayAll0 ds = true
  | [], _ => rfl
  | d :: ds, h => by
    obtain ⟨x, e, hx⟩ := h 0 (Nat.succ_pos _)
    have e : d = .str x := e
    subst e
    show (PyData.strOk x && PyData.canLayAll0 ds) = true
    rw [lay_str (ds := ds) fun i hi => h (i + 1) (Nat.succ_lt_succ hi), (letS_ok hx).1]
    rfl
theorem depth_str : ∀ {ds : List PyData}, (∀ i, i < ds.length → ∃ x, ds.getD i .none = PyData.str x ∧ letS x = true) → PyData.depthAll ds ≤ 20
  | [], _ => Nat.zero_le _
  | d :: ds, h => by
    obtain ⟨x, e, hx⟩ := h 0 (Nat.succ_pos _)
    have e : d = .str x := e
    subst e
    have q := depth_str (ds := ds) fun i hi => h (i + 1) (Nat.succ_lt_succ hi)
    show max 0 (PyData.depthAll ds) ≤ 20
    omega
section
variable {P : Program} {w : World} {K : PySem.W.Frag} {mg : Str → Option Value} {base : Heap}
theorem scDeeds : FnScope ["thing", "people", "item", "letter", "owner"] ["thing", "people"] (defScope sAreDeeds) := ⟨rfl, rfl, rfl, by decide +kernel, rfl, by decide +kernel, by decide +kernel⟩
theorem ok_deeds {f g1 g2 g3 : Addr} {fd gd1 gd2 gd3 : FuncData} (F : Fun K "are_deeds" "are_deeds" sAreDeeds f fd) (T : TxtB mg) (M : TxtM mg) (G1 : FnOk P w K mg base CX0 1 g1 gd1 ["thing", "low", "high"] (spTest2 tupD)) (c1 : Cal K mg "is_tuple_of" g1 gd1 ["thing", "low", "high"])
    (G2 : FnOk P w K mg base CX0 3 g2 gd2 ["thing", "people"] (spTest1 deedD)) (c2 : Cal K mg "is_deed" g2 gd2 ["thing", "people"]) (G3 : FnOk P w K mg base CX0 1 g3 gd3 ["items"] spAsc) (c3 : Cal K mg "is_ascending" g3 gd3 ["items"]) :
    FnOk P w K mg base CX0 4 f fd ["thing", "people"] (spTest1 deedsD) := by
  obtain ⟨t, hm⟩ := M.deeds
  refine F.ok scDeeds (fun vs H Q E h => ?_) (fun cdv A outer s H vs Q E hr h => ?_)
  · obtain ⟨v, d, n, rfl, _⟩ := h
    rfl
  · obtain ⟨v, d, n, rfl, hd, sm, k⟩ := h
    have hr1 : Room 1 _ := hr.mono (by decide)
    refine ⟨_, pss_cons (ps_if (PW.pt (pw_or (pt_not (pt_val (pe_call G1 hr1 (by rfl) c1.m c1.k c1.b .nil pass0 (pa_cons (pv 0) (pa_cons pe_int (pa_cons (pe_glob (v := .int 5) (by rfl) hm ⟨_, rfl⟩) pa_nil)))))) (pw_or1 (pt_not (pt_val (pe_callB (cr_all rfl) (by rfl) T.all (by decide +kernel) (pa_cons (pe_lc (own := [("item", 2)]) (g := gName 2) (tt := tYes) rfl scDeeds.nd (pi_tup (pv 0)) (blkOk_by (N := ["thing", "people", "item", "letter", "owner"]) (sc := defScope sAreDeeds) (by decide +kernel)) (fun _ _ _ _ _ => pg_name (i := 2) scDeeds.nd rfl (.inl rfl)) (fun _ _ _ _ _ => pts_nil)
        (fun _ _ _ _ _ => pe_call G2 hr (by rfl) c2.m c2.k c2.b .nil pass0 (pa_cons (pv 2) (pa_cons (pv 1) pa_nil)))) pa_nil))))))) (pss_one (ps_ret pe_bl)) pss_nil)
      (pss_one (ps_ret (pe_call G3 hr1 (by rfl) c3.m c3.k c3.b .nil pass0 (pa_cons (pe_lc (own := [("letter", 3), ("owner", 4)]) (g := gTup K 2 (gCons (gName 3) (gCons (gName 4) gNil))) (tt := tYes) rfl scDeeds.nd (pi_tup (pv 0)) (blkOk_by (N := ["thing", "people", "item", "letter", "owner"]) (sc := defScope sAreDeeds) (by decide +kernel)) (fun _ _ _ _ _ => pg_tup rfl (pgs_cons (pg_name (i := 3) scDeeds.nd rfl (.inl rfl)) (pgs_cons (pg_name (i := 4) scDeeds.nd rfl (.inl rfl)) pgs_nil))) (fun _ _ _ _ _ => pts_nil)
        (fun _ _ _ _ _ => pv 3)) pa_nil)))), ?_⟩
    refine ⟨_, rfl, v, d, 1, 5, rfl, hd, sm, fun H1 S1 => ⟨_, rfl, ?_⟩⟩
    by_cases h1 : tupD 1 5 d = true
    · refine iteNo (by rw [h1]; rfl) ?_
      obtain ⟨ds, rfl, l1, l2⟩ := tup_of h1
      cases hd with
      | tup e ha =>
        rename_i a xs
        refine ⟨_, rfl, a, rfl, ⟨_, SqT.of (S1 _ _ e)⟩, fun D nD => ?_⟩
        refine lc_tup (K := K) (a := a) (xs := xs) (fun i H2 => MadeTo H1 D (((ds.take i).map (deedD n)).map V.bl) H2) ⟨same_new nD, upd_same⟩ (fun i H2 _ M => SqT.of (M.1 _ _ (S1 _ _ e))) ?_ ?_
        · rintro i x H2 hx M
          obtain ⟨d', hd', hq⟩ := DqAll.at ha hx
          exact ⟨rfl, _, rfl, _, rfl, x, d', n, rfl, Dq.same (S1.trans M.1) d' x hq, sm_at (sm_all sm) hd', fun H3 S3 => M.turn nD S3 (sm_len sm) hd'⟩
        · rintro H2 M
          rw [ha.len, List.take_length] at M
          refine ⟨D, _, rfl, SqL.of M.2, _, rfl, ?_⟩
          rw [allD_map]
          by_cases h2 : allD (deedD n) (.tuple ds) = true
          · refine iteNo (by rw [h2]; rfl) ?_
            have S2 : Same H H2 := S1.trans M.1
            refine ⟨_, rfl, a, rfl, ⟨_, SqT.of (S2 _ _ e)⟩, fun B nB => ?_⟩
            refine lc_tup (K := K) (a := a) (xs := xs) (fun i H3 => MadeQ H2 B ((ds.take i).map (itemD 0)) H3) (MadeQ.start nB) (fun i H3 _ M => SqT.of (M.1 _ _ (S2 _ _ e))) ?_ ?_
            · rintro i x H3 hx M3
              obtain ⟨d', hd', hq⟩ := DqAll.at ha hx
              have hi : i < ds.length := (List.getElem?_eq_some_iff.mp hd').1
              have hdd := all_at (f := deedD n) h2 hi
              rw [getD_of hd'] at hdd
              obtain ⟨lt, ow, rfl, _, _, _⟩ := deed_of hdd
              cases hq with
              | tup e' ha' =>
                cases ha' with
                | cons q1 r1 =>
                  cases r1 with
                  | cons q2 r2 =>
                    cases r2
                    rename_i b y0 y1
                    refine ⟨b, _, rfl, SqT.of (M3.1 _ _ (S2 _ _ e')), rfl, y0, _, rfl, y1, _, rfl, rfl, rfl, ?_⟩
                    refine ⟨_, rfl, ?_⟩
                    exact M3.turn nB (Same.refl _) (sm_len sm) hd' (Dq.same S2 _ y0 q1)
            · rintro H3 M3
              rw [ha.len, List.take_length] at M3
              obtain ⟨S3, ys, hy, hq⟩ := M3
              have str_at : ∀ i, i < ds.length → ∃ x, (ds.map (itemD 0)).getD i .none = .str x ∧ letS x = true := fun i hi => by
                obtain ⟨lt, ow, e, h, _⟩ := deed_of (all_at (f := deedD n) h2 hi)
                rw [getD_map hi, e]
                exact ⟨lt, rfl, h⟩
              have hstr : ∀ i, i < (ds.map (itemD 0)).length → ∃ x, (ds.map (itemD 0)).getD i .none = .str x ∧ letS x = true := fun i hi => str_at i (by rwa [List.length_map] at hi)
              refine ⟨B, ys, ds.map (itemD 0), rfl, .inl hy, DqAll.same S3 _ ys hq, by rw [List.length_map]; exact sm_len sm, lay_str hstr, depth_str hstr, fun i hi => ?_, fun H4 S4 => ?_⟩
              · obtain ⟨x, ex, _⟩ := hstr i (by omega)
                obtain ⟨y, ey, _⟩ := hstr (i + 1) hi
                rw [ex, ey]
                rfl
              · have q := k H4 (S2.trans (S3.trans S4))
                have e : deedsD n (.tuple ds) = ascD (ds.map (itemD 0)) := by simp only [deedsD, h1, h2, itemsD, Bool.true_and]
                rw [e] at q
                exact q
          · refine iteYes (by simpa using h2) ?_
            have q := k H2 (S1.trans M.1)
            have e : deedsD n (.tuple ds) = false := by simp only [deedsD, h1, h2, Bool.true_and, Bool.false_and]
            rw [e] at q
            exact q
    · refine iteYes (by simpa using h1) ?_
      have q := k H1 S1
      have e : deedsD n d = false := by simp only [deedsD, h1, Bool.false_and]
      rw [e] at q
      exact q
end
end KL
set_option Elab.async false
set_option linter.all false
set_option maxRecDepth 100000
set_option maxHeartbeats 2000000
namespace PySem
namespace SeqAt
open AutoSeq1 (wpAny_loadPart')
open MeetsSeq
theorem str_eq_dict (b : Str) (u : Tok) (l : Addr) (c : Value) (es : Array DictEntry) (n : Nat) (dd : Option Addr) (sl : Array (Option Value)) :
    Meets (Builtin.«str.__eq__» ⟨[.str b u, .ref l], []⟩) (fun _ R s => s.heap.get? l = some { cls := c, dict := dd, data := .dict es n, slots := sl } ∧ R (.ok (.ret .notImplemented)) s) :=
  .of_wp fun prog w A R s h => by obtain ⟨hp, g, d, tk, os⟩ := s; obtain ⟨hl, h⟩ := h; wp_walk using wpAny_loadPart' hl, wpAny_load hl; exact ⟨_, rfl, h⟩
theorem str_ne_dict (b : Str) (u : Tok) (l : Addr) (c : Value) (es : Array DictEntry) (n : Nat) (dd : Option Addr) (sl : Array (Option Value)) :
    Meets (Builtin.«str.__ne__» ⟨[.str b u, .ref l], []⟩) (fun _ R s => s.heap.get? l = some { cls := c, dict := dd, data := .dict es n, slots := sl } ∧ R (.ok (.ret .notImplemented)) s) :=
  .of_wp fun prog w A R s h => by obtain ⟨hp, g, d, tk, os⟩ := s; obtain ⟨hl, h⟩ := h; wp_walk using wpAny_loadPart' hl, wpAny_load hl; exact ⟨_, rfl, h⟩
section
variable {A : Around} {s : Shared}
theorem dict_eq_str {prog : Program} {w : World} {E : Value → Shared → Prop} {l : Addr} {o : Obj} {es : Array DictEntry} {n : Nat} (b : Str) (u : Tok) (ho : s.heap.get? l = some o) (hc : o.cls = .type "dict") (Q' : Value → Shared → Prop) (h : Q' .notImplemented s) :
    wpAny (model prog w) A (call (.builtin "dict.__eq__") [.ref l, .str b u]) Q' E s := by
  have ht : s.TypeIs (.ref l) "dict" := ⟨o, ho, hc⟩
  refine wpAny_call_entry PySem.F.slot_dict_eq ht PySem.F.entry_dict_eq ?_ (PySem.F.args_dict_eq_2 _ _)
  show wpAny _ _ (Builtin.Dict.dictSlotArgs "__eq__" ⟨[.ref l, .str b u], []⟩ >>= _) _ _ s
  refine wpAny_bind ?_
  unfold Builtin.Dict.dictSlotArgs
  refine wpAny_bind (wpAny_notOrdered_dict ht ?_)
  show wpAny _ _ (pure (Value.ref l, Value.str b u)) _ _ s
  refine wpAny_pure ?_
  refine wpAny_bind (wpAny_isInstance (T := "str") (typeIs_str s b u) PySem.F.sub_str_dict ?_)
  simp only [Bool.not_false, if_true]
  exact wpAny_bind (wpAny_rule (wpAny_bind (wpAny_pure (wpAny_pure ⟨_, rfl, h⟩))))
theorem dict_ne_str {prog : Program} {w : World} {E : Value → Shared → Prop} {l : Addr} {o : Obj} {es : Array DictEntry} {n : Nat} (b : Str) (u : Tok) (ho : s.heap.get? l = some o) (hc : o.cls = .type "dict") (Q' : Value → Shared → Prop) (h : Q' .notImplemented s) :
    wpAny (model prog w) A (call (.builtin "dict.__ne__") [.ref l, .str b u]) Q' E s := by
  have ht : s.TypeIs (.ref l) "dict" := ⟨o, ho, hc⟩
  refine wpAny_call_entry PySem.F.slot_dict_ne ht PySem.F.entry_dict_ne ?_ (PySem.F.args_dict_ne_2 _ _)
  show wpAny _ _ (Builtin.Dict.dictSlotArgs "__ne__" ⟨[.ref l, .str b u], []⟩ >>= _) _ _ s
  refine wpAny_bind ?_
  unfold Builtin.Dict.dictSlotArgs
  refine wpAny_bind (wpAny_notOrdered_dict ht ?_)
  show wpAny _ _ (pure (Value.ref l, Value.str b u)) _ _ s
  refine wpAny_pure ?_
  refine wpAny_bind (wpAny_isInstance (T := "str") (typeIs_str s b u) PySem.F.sub_str_dict ?_)
  simp only [Bool.not_false, if_true]
  exact wpAny_bind (wpAny_rule (wpAny_bind (wpAny_pure (wpAny_pure ⟨_, rfl, h⟩))))
theorem RcAt.str_dict {l : Addr} {cl : Value} {dd : Option Addr} {es : Array DictEntry} {n : Nat} {sl : Array (Option Value)} (b : Str) (u : Tok) (ho : s.heap.get? l = some ⟨.type "dict", dd, .dict es n, sl⟩) (hu : A.units < cLine) : RcAt A s (.str b u) (.ref l) false := fun prog w E Q h =>
  rc_eq_decline_or (k := false) (typeIs_str s b u) ⟨_, ho, rfl⟩ (by decide) F.sub_dict_str F.slot_str_eq F.slot_dict_eq_refl
    (fun _ hq => call_meets F.slot_str_eq (typeIs_str s b u) F.entry_str_eq (F.args_str_eq_2 _ _) (str_eq_dict b u l (.type "dict") es n dd sl) ⟨ho, hq⟩)
    (fun _ hq => dict_eq_str (es := es) (n := n) b u ho rfl _ hq)
    (fun _ hq => wpAny_of_eq (rfl : isSame (.str b u) (.ref l) = pure false) hq) (.inr hu) h
theorem EqAt.str_dict {l : Addr} {dd : Option Addr} {es : Array DictEntry} {n : Nat} {sl : Array (Option Value)} (b : Str) (u : Tok) (ho : s.heap.get? l = some ⟨.type "dict", dd, .dict es n, sl⟩) (hu : A.units < cLine) : EqAt A s (.str b u) (.ref l) false := fun prog w E Q h => by
  unfold eqBool
  refine wpAny_holding ?_
  refine wpAny_ite_split (fun hab => absurd (eq_of_beq hab) nofun) (fun _ => ?_)
  exact wpAny_bind (RcAt.str_dict (cl := .none) b u ho hu prog w E _ (wpAny_truthy_bool h))
theorem RcAt.dict_str {l : Addr} {dd : Option Addr} {es : Array DictEntry} {n : Nat} {sl : Array (Option Value)} (b : Str) (u : Tok) (ho : s.heap.get? l = some ⟨.type "dict", dd, .dict es n, sl⟩) (hu : A.units < cLine) : RcAt A s (.ref l) (.str b u) false := fun prog w E Q h =>
  rc_eq_decline_or (k := false) ⟨_, ho, rfl⟩ (typeIs_str s b u) (by decide) F.sub_str_dict F.slot_dict_eq F.slot_str_eq_refl
    (fun _ hq => dict_eq_str (es := es) (n := n) b u ho rfl _ hq)
    (fun _ hq => call_meets F.slot_str_eq_refl (typeIs_str s b u) F.entry_str_eq (F.args_str_eq_2 _ _) (str_eq_dict b u l (.type "dict") es n dd sl) ⟨ho, hq⟩)
    (fun _ hq => wpAny_of_eq (rfl : isSame (.ref l) (.str b u) = pure false) hq) (.inr hu) h
theorem RcNeAt.dict_str {l : Addr} {dd : Option Addr} {es : Array DictEntry} {n : Nat} {sl : Array (Option Value)} (b : Str) (u : Tok) (ho : s.heap.get? l = some ⟨.type "dict", dd, .dict es n, sl⟩) (hu : A.units < cLine) : RcNeAt A s (.ref l) (.str b u) true := fun prog w E Q h =>
  rc_ne_decline_or (k := false) ⟨_, ho, rfl⟩ (typeIs_str s b u) (by decide) F.sub_str_dict F.slot_dict_ne F.slot_str_ne_refl
    (fun _ hq => dict_ne_str (es := es) (n := n) b u ho rfl _ hq)
    (fun _ hq => call_meets F.slot_str_ne_refl (typeIs_str s b u) F.entry_str_ne (F.args_str_ne_2 _ _) (str_ne_dict b u l (.type "dict") es n dd sl) ⟨ho, hq⟩)
    (fun _ hq => wpAny_of_eq (rfl : isSame (.ref l) (.str b u) = pure false) hq) (.inr hu) h
end
end SeqAt
end PySem
namespace KL
open PySem L2 PySem.Spec PyProof.Rows
/-- whether a thing is this text -/
def isStrD (x : Str) : PyData → Bool
  | .str y => x == y
  | _ => false
section
variable {A : Around} {s : Shared}
theorem eqAt_str {v : Value} {d : PyData} {as : List Addr} (b : Str) (u : Tok) (r : Reads s.heap v d as) (hu : A.units < cLine) : SeqAt.EqAt A s (.str b u) v (isStrD b d) := by
  cases r with
  | none => exact .str_none b u
  | bool k => exact .str_bool b u k
  | int i t => exact .str_int b u i t
  | str x t => exact .str_str b u x t
  | list k1 k2 k3 k4 => exact .str_list b u ⟨_, k1, k2, _, k3⟩ hu
  | tuple k1 k2 k3 k4 => exact .str_tuple b u ⟨_, k1, k2, _, k3⟩ hu
  | dict k1 k2 k3 k4 k5 =>
    rename_i o _ _ _ _ _
    obtain ⟨cl, dd, dt, sl⟩ := o

    subst k2 k3
    exact .str_dict b u k1 hu
theorem rcAt_str {v : Value} {d : PyData} {as : List Addr} (b : Str) (u : Tok) (r : Reads s.heap v d as) (hu : A.units < cLine) : SeqAt.RcAt A s v (.str b u) (isStrD b d) := by
  cases r with
  | none => exact .none_str b u
  | bool k => exact .bool_str k b u
  | int i t => exact .int_str i t b u
  | str x t =>
    have q := SeqAt.RcAt.str_str (A := A) (s := s) x t b u
    have e : (x == b) = isStrD b (.str x) := by
      show (x == b) = (b == x)
      exact Bool.beq_comm
    rwa [e] at q
  | list k1 k2 k3 k4 => exact .list_str b u ⟨_, k1, k2, _, k3⟩ hu
  | tuple k1 k2 k3 k4 => exact .tuple_str b u ⟨_, k1, k2, _, k3⟩ hu
  | dict k1 k2 k3 k4 k5 =>
    rename_i o _ _ _ _ _
    obtain ⟨cl, dd, dt, sl⟩ := o

    subst k2 k3
    exact .dict_str b u k1 hu
theorem rcNeAt_str {v : Value} {d : PyData} {as : List Addr} (b : Str) (u : Tok) (r : Reads s.heap v d as) (hu : A.units < cLine) : SeqAt.RcNeAt A s v (.str b u) (!isStrD b d) := by
  cases r with
  | none => exact .none_str b u
  | bool k => exact .bool_str k b u
  | int i t => exact .int_str i t b u
  | str x t =>
    have q := SeqAt.RcNeAt.str_str (A := A) (s := s) x t b u
    have e : (x == b) = isStrD b (.str x) := by
      show (x == b) = (b == x)
      exact Bool.beq_comm
    rwa [e] at q
  | list k1 k2 k3 k4 => exact .list_str b u ⟨_, k1, k2, _, k3⟩ hu
  | tuple k1 k2 k3 k4 => exact .tuple_str b u ⟨_, k1, k2, _, k3⟩ hu
  | dict k1 k2 k3 k4 k5 =>
    rename_i o _ _ _ _ _
    obtain ⟨cl, dd, dt, sl⟩ := o

    subst k2 k3
    exact .dict_str b u k1 hu
end
end KL
set_option Elab.async false
set_option linter.all false
set_option maxRecDepth 100000
set_option maxHeartbeats 2000000
namespace KL
open PySem L2 PySem.Spec PyProof.Rows
def isTop : PyData → Bool
  | .dict _ => true
  | _ => false
section
variable {X : Cx} {pins : List (Addr × Obj)} {σ : L2.St} {H : Hp} {s : Shared}
mutual
theorem Dq.reads (I : Inv X pins σ H s) : ∀ (d : PyData) (v : V) (u : Value), Dq H v d → RelV v u → ∃ as, Reads s.heap u d as ∧ (isTop d = true → sysModules ∉ as)
  | .none, _, _, h, r => by
    cases h
    cases r
    exact ⟨_, .none, fun z => by cases z⟩
  | .bool b, _, _, h, r => by
    cases h
    cases r
    exact ⟨_, .bool b, fun z => by cases z⟩
  | .int i, _, _, h, r => by
    cases h
    obtain ⟨t, rfl⟩ := r
    exact ⟨_, .int i t, fun z => by cases z⟩
  | .str x, _, _, h, r => by
    cases h
    obtain ⟨t, rfl⟩ := r
    exact ⟨_, .str x t, fun z => by cases z⟩
  | .list ds, _, _, h, r => by
    cases h with
    | lst q ha =>
      cases r
      obtain ⟨_, its, n, rv, ho⟩ := I.hok _ _ q
      obtain ⟨as, hr⟩ := DqAll.reads I ds _ its ha rv
      exact ⟨_, .list ho rfl rfl hr, fun z => by cases z⟩
  | .tuple ds, _, _, h, r => by
    cases h with
    | tup q ha =>
      cases r
      obtain ⟨_, its, rv, o, h1, h2, n, h3⟩ := I.hok _ _ q
      obtain ⟨as, hr⟩ := DqAll.reads I ds _ its ha rv
      exact ⟨_, .tuple h1 h2 h3 hr, fun z => by cases z⟩
  | .dict kvs, _, _, h, r => by
    cases h with
    | dct0 q =>
      cases r
      obtain ⟨_, ns, vs, rv, o, es, ep, h1, h2, h3, _, h5, _⟩ := I.hok _ _ q
      cases rv
      have e0 : es.toList = [] := by
        cases e : es.toList with
        | nil => rfl
        | cons x y =>
          rw [e] at h5
          cases h5
      refine ⟨_, .dict h1 h2.1 h3 (as := []) (bs := []) (by rw [e0]; exact .nil) (by rw [e0]; exact .nil), fun _ z => ?_⟩
      simp at z
      rw [← z] at ns
      simp at ns
    | @dct1 a0 x0 i0 q =>
      cases r
      obtain ⟨_, ns, vs, rv, o, es, ep, h1, h2, h3, _, h5, _⟩ := I.hok _ _ q
      cases rv with
      | cons r1 r2 =>
        cases r2
        obtain ⟨r1, t, r3⟩ := r1
        have e1 : ∃ (e : DictEntry) (tk : Tok), es.toList = [e] ∧ e.key = .str x0 tk ∧ e.val = .int i0 t := by
          generalize es.toList = L at h5
          cases h5 with
          | cons k1 k2 k3 =>
            rename_i e es'
            cases k3
            have k1 : keyIs _ _ = true := k1
            rw [← r1] at k1
            rcases keyIs_shape k1 with ⟨_, _, z, _⟩ | ⟨y, tk, z, z2⟩
            · cases z
            · cases z
              exact ⟨e, tk, rfl, z2, k2.trans r3⟩
        obtain ⟨e, tk, e1, e2, e3⟩ := e1
        refine ⟨_, .dict h1 h2.1 h3 (as := [] ++ []) (bs := [] ++ []) ?_ ?_, fun _ z => ?_⟩
        · rw [e1, List.map_cons, e2]
          exact .cons (.str _ tk) .nil
        · rw [e1, List.map_cons, e3]
          exact .cons (.int _ t) .nil
        · simp at z
          rw [← z] at ns
          simp at ns
theorem DqAll.reads (I : Inv X pins σ H s) : ∀ (ds : List PyData) (vs : List V) (us : List Value), DqAll H vs ds → Vals vs us → ∃ as, ReadsAll s.heap us ds as
  | [], _, _, h, r => by
    cases h
    cases r
    exact ⟨_, .nil⟩
  | d :: ds, _, _, h, r => by
    cases h with
    | cons h1 h2 =>
      cases r with
      | cons r1 r2 =>
        obtain ⟨as, q1, _⟩ := Dq.reads I d _ _ h1 r1
        obtain ⟨bs, q2⟩ := DqAll.reads I ds _ _ h2 r2
        exact ⟨_, .cons q1 q2⟩
end
end
/-- x == y, y a text -/
def rEqStr (y0 : Bool) : R2 := fun x y H Q => ∃ d t, Dq H x d ∧ y = .str t ∧ Q (.bl (if y0 = true then isStrD t d else !isStrD t d)) H
section
variable {X : Cx}
theorem op_eqStr (hu : X.A.units + 64 < cLine) : OpR X (compareOp .Eq) (rEqStr true) := by
  intro pins s σ H x y v u Q I rx ry h
  obtain ⟨d, t, hd, rfl, q⟩ := h
  obtain ⟨as, r, _⟩ := Dq.reads I d x v hd rx
  obtain ⟨tk, rfl⟩ := ry
  exact rcAt_str t tk r (by omega) _ _ _ _ ⟨.bl _, H, I, rfl, q⟩
theorem op_neStr (hu : X.A.units + 64 < cLine) : OpR X (compareOp .NotEq) (rEqStr false) := by
  intro pins s σ H x y v u Q I rx ry h
  obtain ⟨d, t, hd, rfl, q⟩ := h
  obtain ⟨as, r, _⟩ := Dq.reads I d x v hd rx
  obtain ⟨tk, rfl⟩ := ry
  exact rcNeAt_str t tk r (by omega) _ _ _ _ ⟨.bl _, H, I, rfl, q⟩
end
/-- a text among texts -/
def strIs : PyData → PyData → Bool
  | .str x, d => isStrD x d
  | _, _ => false
def inD (es : List PyData) (d : PyData) : Bool := es.any fun e => strIs e d
def strB : PyData → Bool
  | .str _ => true
  | _ => false
def allStr (es : List PyData) : Bool := es.all strB
def vStr (d : PyData) : Value → Bool
  | .str x _ => isStrD x d
  | _ => false
theorem any_str {H : Hp} {d : PyData} : ∀ {es : List PyData} {ys : List V} {us : List Value}, DqAll H ys es → Vals ys us → allStr es = true → us.any (vStr d) = inD es d ∧ ∀ u ∈ us, ∃ x t, u = .str x t
  | [], _, _, h, r, _ => by
    cases h
    cases r
    exact ⟨rfl, fun u hu => by simp at hu⟩
  | e :: es, _, _, h, r, a => by
    cases h with
    | cons h1 h2 =>
      cases r with
      | cons r1 r2 =>
        rename_i u us
        have a' := Bool.and_eq_true_iff.mp (show (strB e && allStr es) = true from a)
        obtain ⟨q1, q2⟩ := any_str (d := d) h2 r2 a'.2
        cases h1 with
        | str x =>
          obtain ⟨t, rfl⟩ := r1
          refine ⟨?_, fun u' hu => ?_⟩
          · show (vStr d (.str x t) || us.any (vStr d)) = _
            rw [q1]
            rfl
          · rcases List.mem_cons.mp hu with rfl | hu
            · exact ⟨x, t, rfl⟩
            · exact q2 u' hu
        | _ => exact absurd a'.1 (by simp [strB])
def rInStr (neg : Bool) : R2 := fun x y H Q => ∃ d p ys es, Dq H x d ∧ y = .ref p ∧ H p = some (.lst ys) ∧ DqAll H ys es ∧ allStr es = true ∧ Q (.bl (if neg = true then !inD es d else inD es d)) H
section
variable {X : Cx}
theorem op_inStr (hu : X.A.units + 64 < cLine) : OpR X (compareOp .In) (rInStr false) := by
  intro pins s σ H x y v u Q I rx ry h
  obtain ⟨d, p, ys, es, hd, rfl, hp, he, ha, q⟩ := h
  obtain ⟨as, r, _⟩ := Dq.reads I d x v hd rx
  cases (show u = Value.ref p from ry)
  obtain ⟨_, its, n, rv, ho⟩ := I.hok _ _ hp
  obtain ⟨q1, q2⟩ := any_str (d := d) he rv ha
  refine SeqAt.in_listAt (vStr d) ⟨_, ho, rfl, n, rfl⟩ (fun y hy => ?_) ⟨.bl _, H, I, rfl, ?_⟩
  · obtain ⟨z, t, rfl⟩ := q2 y (by simpa using hy)
    exact eqAt_str z t r (by show X.A.units + 1 < cLine; omega)
  · rw [List.any_toArray, q1]
    exact q
theorem op_notInStr (hu : X.A.units + 64 < cLine) : OpR X (compareOp .NotIn) (rInStr true) := by
  intro pins s σ H x y v u Q I rx ry h
  obtain ⟨d, p, ys, es, hd, rfl, hp, he, ha, q⟩ := h
  obtain ⟨as, r, _⟩ := Dq.reads I d x v hd rx
  cases (show u = Value.ref p from ry)
  obtain ⟨_, its, n, rv, ho⟩ := I.hok _ _ hp
  obtain ⟨q1, q2⟩ := any_str (d := d) he rv ha
  refine SeqAt.notIn_listAt (vStr d) ⟨_, ho, rfl, n, rfl⟩ (fun y hy => ?_) ⟨.bl _, H, I, rfl, ?_⟩
  · obtain ⟨z, t, rfl⟩ := q2 y (by simpa using hy)
    exact eqAt_str z t r (by show X.A.units + 1 < cLine; omega)
  · rw [List.any_toArray, q1]
    exact q
end
end KL
set_option Elab.async false
set_option linter.all false
set_option maxRecDepth 100000
set_option maxHeartbeats 2000000
namespace KL
open PySem L2 PySem.Spec PyProof.Rows
abbrev sIsSource : Stmt := top 42
abbrev sAreForms : Stmt := top 43
abbrev sAreMarks : Stmt := top 44
abbrev sIsArrow : Stmt := top 45
abbrev sIsTest : Stmt := top 46
abbrev sChkArrows : Stmt := top 47
abbrev sChkTests : Stmt := top 48
abbrev sAreLooks : Stmt := top 49
/-- what stands of a house so far -/
structure Kit where
  pe : Int
  pl : Int
  lo : Int
  dd : List PyData
  n : Nat
structure Hs (H : Hp) (v : V) (C : Addr) (k : Kit) : Prop where
  ex : ∃ a dx fs, v = .ref a ∧ H a = some (.ins C dx fs) ∧ fs.lookup ("people" : Str) = some (.int k.pe) ∧ fs.lookup ("places" : Str) = some (.int k.pl) ∧ fs.lookup ("logs" : Str) = some (.int k.lo) ∧
    (∃ q xs, fs.lookup ("deeds" : Str) = some (.ref q) ∧ H q = some (.tup xs) ∧ DqAll H xs k.dd) ∧ ∃ q xs, fs.lookup ("start" : Str) = some (.ref q) ∧ H q = some (.tup xs) ∧ xs.length = k.n
  dd : deedsD k.pe (.tuple k.dd) = true
  n1 : 1 ≤ k.n
  n3 : k.n ≤ 3
theorem Hs.same {H H' : Hp} {v : V} {C : Addr} {k : Kit} (h : Hs H v C k) (S : Same H H') : Hs H' v C k := by
  obtain ⟨⟨a, dx, fs, e, ha, h1, h2, h3, ⟨q, xs, h4, h5, h6⟩, q', xs', h7, h8, h9⟩, h10, h11, h12⟩ := h
  exact ⟨⟨a, dx, fs, e, S _ _ ha, h1, h2, h3, ⟨q, xs, h4, S _ _ h5, DqAll.same S _ _ h6⟩, q', xs', h7, S _ _ h8, h9⟩, h10, h11, h12⟩
structure TxtH (K : PySem.W.Frag) (C : Addr) : Prop where
  c : Cls K C
  people : NoAttr K C "people"
  deeds : NoAttr K C "deeds"
  start : NoAttr K C "start"
  places : NoAttr K C "places"
  ends : NoAttr K C "ends"
  logs : NoAttr K C "logs"
  arrows : NoAttr K C "arrows"
  tests : NoAttr K C "tests"
  looks : NoAttr K C "looks"
def spHs (C : Addr) (f : Kit → PyData → Bool) : Sp := fun vs H Q _ => ∃ (hv v : V) (d : PyData) (kt : Kit), vs = [hv, v] ∧ Hs H hv C kt ∧ Dq H v d ∧ smB d = true ∧ ∀ H', Same H H' → Q (.bl (f kt d)) H'
def spHs2 (C : Addr) (f : Kit → PyData → PyData → Bool) : Sp := fun vs H Q _ => ∃ (hv v v2 : V) (d d2 : PyData) (kt : Kit), vs = [hv, v, v2] ∧ Hs H hv C kt ∧ Dq H v d ∧ Dq H v2 d2 ∧ smB d = true ∧ smB d2 = true ∧ ∀ H', Same H H' → Q (.bl (f kt d d2)) H'
def srcD (k : Kit) (s d : PyData) : Bool := betD 0 (k.pl - 1) s && inD (k.dd.map (itemD 0)) d
def formsD (k : Kit) (d : PyData) : Bool := isTupD d && allD (formD k.n) d
def markD (d : PyData) : Bool := letD d || isStrD "" d
def marksD (k : Kit) (d : PyData) : Bool := tupD k.lo k.lo d && allD markD d
section
variable {P : Program} {w : World} {K : PySem.W.Frag} {mg : Str → Option Value} {base : Heap} {C : Addr}
theorem deeds_str {n : Int} {ds : List PyData} (h : deedsD n (.tuple ds) = true) : allStr (ds.map (itemD 0)) = true := by
  simp only [deedsD, Bool.and_eq_true] at h
  obtain ⟨h1, h2, h3⟩ := h
  have h2 : ds.all (deedD n) = true := h2
  show (ds.map (itemD 0)).all strB = true
  rw [List.all_map, List.all_eq_true]
  intro d hd
  obtain ⟨x, i, rfl, _⟩ := deed_of (List.all_eq_true.mp h2 d hd)
  rfl
theorem deeds_len {n : Int} {ds : List PyData} (h : deedsD n (.tuple ds) = true) : ds.length ≤ 5 := by
  simp only [deedsD, Bool.and_eq_true] at h
  obtain ⟨_, e, _, l2⟩ := tup_of h.1
  cases e
  omega
theorem scSource : FnScope ["house", "source", "deed", "letter", "owner"] ["house", "source", "deed"] (defScope sIsSource) := ⟨rfl, rfl, rfl, by decide +kernel, rfl, by decide +kernel, by decide +kernel⟩
theorem ok_source {f g : Addr} {fd gd : FuncData} (F : Fun K "is_source_and_deed" "is_source_and_deed" sIsSource f fd) (TH : TxtH K C) (G : FnOk P w K mg base CX0 2 g gd ["thing", "low", "high"] (spTest2 betD)) (c : Cal K mg "is_between" g gd ["thing", "low", "high"]) :
    FnOk P w K mg base CX0 3 f fd ["house", "source", "deed"] (spHs2 C srcD) := by
  refine F.ok scSource (fun vs H Q E h => ?_) (fun cdv A outer s H vs Q E hr h => ?_)
  · obtain ⟨hv, v, v2, d, d2, kt, rfl, _⟩ := h
    rfl
  · obtain ⟨hv, v, v2, d, d2, kt, rfl, hh, hd, hd2, sm, sm2, k⟩ := h
    refine ⟨_, pss_one (ps_ret (pe_and (pe_call G hr (by rfl) c.m c.k c.b .nil pass0 (pa_cons (pv 1) (pa_cons pe_int (pa_cons (pe_op op_sub (pe_fld (pv 0) (by rfl)) pe_int) pa_nil))))
      (pe_one (pe_cmpR (op_inStr hr.units) (pv 2) (pe_lc (own := [("letter", 3), ("owner", 4)]) (g := gTup K 2 (gCons (gName 3) (gCons (gName 4) gNil))) (tt := tYes) rfl scSource.nd (pi_tup (pe_fld (pv 0) (by rfl))) (blkOk_by (N := ["house", "source", "deed", "letter", "owner"]) (sc := defScope sIsSource) (by decide +kernel)) (fun _ _ _ _ _ => pg_tup rfl (pgs_cons (pg_name (i := 3) scSource.nd rfl (.inl rfl)) (pgs_cons (pg_name (i := 4) scSource.nd rfl (.inl rfl)) pgs_nil))) (fun _ _ _ _ _ => pts_nil)
        (fun _ _ _ _ _ => pv 3)) (by rfl))))), ?_⟩
    obtain ⟨a, dx, fs, rfl, ha, h1, h2, h3, ⟨q, xs, h4, h5, h6⟩, _⟩ := hh.ex
    refine ⟨_, rfl, _, rfl, a, C, dx, fs, _, rfl, ha, TH.c, TH.places, h2, _, _, rfl, rfl, v, d, 0, kt.pl - 1, rfl, hd, sm, fun H1 S1 => ⟨_, rfl, ?_⟩⟩
    by_cases hb : betD 0 (kt.pl - 1) d = true
    · refine iteYes hb ?_
      refine ⟨_, rfl, _, rfl, a, C, dx, fs, _, rfl, S1 _ _ ha, TH.c, TH.deeds, h4, q, rfl, ⟨_, SqT.of (S1 _ _ h5)⟩, fun B nB => ?_⟩
      refine lc_tup (K := K) (a := q) (xs := xs) (fun i H3 => MadeQ H1 B ((kt.dd.take i).map (itemD 0)) H3) (MadeQ.start nB) (fun i H3 _ M => SqT.of (M.1 _ _ (S1 _ _ h5))) ?_ ?_
      · rintro i x H3 hx M3
        obtain ⟨d', hd', hq⟩ := DqAll.at h6 hx
        have hi : i < kt.dd.length := (List.getElem?_eq_some_iff.mp hd').1
        have hdd := hh.dd
        simp only [deedsD, Bool.and_eq_true] at hdd
        have hdd := all_at (f := deedD kt.pe) hdd.2.1 hi
        rw [getD_of hd'] at hdd
        obtain ⟨lt, ow, rfl, _, _, _⟩ := deed_of hdd
        cases hq with
        | tup e' ha' =>
          cases ha' with
          | cons q1 r1 =>
            cases r1 with
            | cons q2 r2 =>
              cases r2
              rename_i b y0 y1
              refine ⟨b, _, rfl, SqT.of (M3.1 _ _ (S1 _ _ e')), rfl, y0, _, rfl, y1, _, rfl, rfl, rfl, ?_⟩
              refine ⟨_, rfl, ?_⟩
              exact M3.turn nB (Same.refl _) (Nat.le_trans (deeds_len hh.dd) (by decide)) hd' (Dq.same S1 _ y0 q1)
      · rintro H3 M3
        rw [h6.len, List.take_length] at M3
        obtain ⟨S3, ys, hy, hq⟩ := M3
        refine ⟨d2, B, ys, kt.dd.map (itemD 0), Dq.same (S1.trans S3) d2 v2 hd2, rfl, hy, DqAll.same S3 _ ys hq, deeds_str hh.dd, ?_⟩
        have q := k H3 (S1.trans S3)
        have e : srcD kt d d2 = inD (kt.dd.map (itemD 0)) d2 := by simp only [srcD, hb, Bool.true_and]
        rw [e] at q
        exact q
    · refine iteNo (by simpa using hb) ?_
      have q := k H1 S1
      have e : srcD kt d d2 = false := by simp only [srcD, hb, Bool.false_and]
      rw [e] at q
      exact q
theorem scForms : FnScope ["house", "thing", "count", "item"] ["house", "thing"] (defScope sAreForms) := ⟨rfl, rfl, rfl, by decide +kernel, rfl, by decide +kernel, by decide +kernel⟩
theorem ok_forms {f g : Addr} {fd gd : FuncData} (F : Fun K "are_forms" "are_forms" sAreForms f fd) (T : TxtB mg) (TH : TxtH K C) (G : FnOk P w K mg base CX0 2 g gd ["count", "thing"] spForm) (c : Cal K mg "is_form" g gd ["count", "thing"]) :
    FnOk P w K mg base CX0 3 f fd ["house", "thing"] (spHs C formsD) := by
  refine F.ok scForms (fun vs H Q E h => ?_) (fun cdv A outer s H vs Q E hr h => ?_)
  · obtain ⟨hv, v, d, kt, rfl, _⟩ := h
    rfl
  · obtain ⟨hv, v, d, kt, rfl, hh, hd, sm, k⟩ := h
    refine ⟨_, pss_cons (ps_set (i := 2) scForms.nd rfl (.inr rfl) (pe_callB call_len_seq (by rfl) T.len PySem.boot_len (pa_cons (pe_fld (pv 0) (by rfl)) pa_nil)))
      (pss_one (ps_ret (pe_and (pe_callB call_isD (by rfl) T.isi (by decide +kernel) (pa_cons (pv 1) (pa_cons (pe_bltn (v := .ty "tuple") (by rfl) T.tuple (by decide +kernel) rfl) pa_nil)))
        (pe_one (pe_callB (cr_all rfl) (by rfl) T.all (by decide +kernel) (pa_cons (pe_lc (own := [("item", 3)]) (g := gName 3) (tt := tYes) rfl scForms.nd (pi_tup (pv 1)) (blkOk_by (N := ["house", "thing", "count", "item"]) (sc := defScope sAreForms) (by decide +kernel)) (fun _ _ _ _ _ => pg_name (i := 3) scForms.nd rfl (.inl rfl)) (fun _ _ _ _ _ => pts_nil)
          (fun _ _ _ _ _ => pe_call G hr (by rfl) c.m c.k c.b .nil pass0 (pa_cons (pv 2) (pa_cons (pv 3) pa_nil)))) pa_nil)))))), ?_⟩
    obtain ⟨a, dx, fs, rfl, ha, h1, h2, h3, _, q, xs, h4, h5, h6⟩ := hh.ex
    refine ⟨_, rfl, a, C, dx, fs, _, rfl, ha, TH.c, TH.start, h4, q, xs, rfl, .inr (SqT.of h5), ?_⟩
    refine ⟨_, rfl, v, d, "tuple", rfl, by decide, hd, _, rfl, ?_⟩
    rw [h6]
    cases hd with
    | tup e hda =>
      rename_i b ys ds
      refine iteYes rfl ?_
      refine ⟨_, rfl, b, rfl, ⟨_, SqT.of e⟩, fun D nD => ?_⟩
      refine lc_tup (K := K) (a := b) (xs := ys) (fun i H2 => MadeTo H D (((ds.take i).map (formD kt.n)).map V.bl) H2) ⟨same_new nD, upd_same⟩ (fun i H2 _ M => SqT.of (M.1 _ _ e)) ?_ ?_
      · rintro i x H2 hx M
        obtain ⟨d', hd', hq⟩ := DqAll.at hda hx
        exact ⟨rfl, _, rfl, _, rfl, x, d', kt.n, rfl, Dq.same M.1 d' x hq, sm_at (sm_all sm) hd', fun H3 S3 => M.turn nD S3 (sm_len sm) hd'⟩
      · rintro H2 M
        rw [hda.len, List.take_length] at M
        refine ⟨D, _, rfl, SqL.of M.2, ?_⟩
        have q := k H2 M.1
        have e : formsD kt (.tuple ds) = (ds.map (formD kt.n)).all id := by simp only [formsD, isTupD, Bool.true_and, allD_map]
        rw [e] at q
        exact q
    | non => exact iteNo rfl (k H (Same.refl H))
    | bl _ => exact iteNo rfl (k H (Same.refl H))
    | int _ => exact iteNo rfl (k H (Same.refl H))
    | str _ => exact iteNo rfl (k H (Same.refl H))
    | lst _ _ => exact iteNo rfl (k H (Same.refl H))
    | dct0 _ => exact iteNo rfl (k H (Same.refl H))
    | dct1 _ => exact iteNo rfl (k H (Same.refl H))
theorem scMarks : FnScope ["house", "thing", "item"] ["house", "thing"] (defScope sAreMarks) := ⟨rfl, rfl, rfl, by decide +kernel, rfl, by decide +kernel, by decide +kernel⟩
theorem ok_marks {f g1 g2 : Addr} {fd gd1 gd2 : FuncData} (F : Fun K "are_marks" "are_marks" sAreMarks f fd) (T : TxtB mg) (TH : TxtH K C) (G1 : FnOk P w K mg base CX0 1 g1 gd1 ["thing", "low", "high"] (spTest2 tupD)) (c1 : Cal K mg "is_tuple_of" g1 gd1 ["thing", "low", "high"])
    (G2 : FnOk P w K mg base CX0 1 g2 gd2 ["thing"] (spTest letD)) (c2 : Cal K mg "is_letter" g2 gd2 ["thing"]) : FnOk P w K mg base CX0 2 f fd ["house", "thing"] (spHs C marksD) := by
  refine F.ok scMarks (fun vs H Q E h => ?_) (fun cdv A outer s H vs Q E hr h => ?_)
  · obtain ⟨hv, v, d, kt, rfl, _⟩ := h
    rfl
  · obtain ⟨hv, v, d, kt, rfl, hh, hd, sm, k⟩ := h
    refine ⟨_, pss_cons (ps_if (pt_not (pt_val (pe_call G1 hr (by rfl) c1.m c1.k c1.b .nil pass0 (pa_cons (pv 1) (pa_cons (pe_fld (pv 0) (by rfl)) (pa_cons (pe_fld (pv 0) (by rfl)) pa_nil)))))) (pss_one (ps_ret pe_bl)) pss_nil)
      (pss_one (ps_ret (pe_callB (cr_all rfl) (by rfl) T.all (by decide +kernel) (pa_cons (pe_lc (own := [("item", 2)]) (g := gName 2) (tt := tYes) rfl scMarks.nd (pi_tup (pv 1)) (blkOk_by (N := ["house", "thing", "item"]) (sc := defScope sAreMarks) (by decide +kernel)) (fun _ _ _ _ _ => pg_name (i := 2) scMarks.nd rfl (.inl rfl)) (fun _ _ _ _ _ => pts_nil)
          (fun _ _ _ _ _ => pe_or (pe_call G2 hr (by rfl) c2.m c2.k c2.b .nil pass0 (pa_cons (pv 2) pa_nil)) (pe_one (pe_cmpR (op_eqStr hr.units) (pv 2) pe_str (nomark _))))) pa_nil)))), ?_⟩
    obtain ⟨a, dx, fs, rfl, ha, h1, h2, h3, _⟩ := hh.ex
    refine ⟨_, rfl, _, rfl, a, C, dx, fs, _, rfl, ha, TH.c, TH.logs, h3, _, rfl, a, C, dx, fs, _, rfl, ha, TH.c, TH.logs, h3, v, d, kt.lo, kt.lo, rfl, hd, sm, fun H1 S1 => ⟨_, rfl, ?_⟩⟩
    by_cases hb : tupD kt.lo kt.lo d = true
    · refine iteNo (by rw [hb]; rfl) ?_
      obtain ⟨ds, rfl, l1, l2⟩ := tup_of hb
      cases hd with
      | tup e hda =>
        rename_i b ys
        refine ⟨_, rfl, b, rfl, ⟨_, SqT.of (S1 _ _ e)⟩, fun D nD => ?_⟩
        refine lc_tup (K := K) (a := b) (xs := ys) (fun i H2 => MadeTo H1 D (((ds.take i).map markD).map V.bl) H2) ⟨same_new nD, upd_same⟩ (fun i H2 _ M => SqT.of (M.1 _ _ (S1 _ _ e))) ?_ ?_
        · rintro i x H2 hx M
          obtain ⟨d', hd', hq⟩ := DqAll.at hda hx
          refine ⟨rfl, _, rfl, x, d', rfl, Dq.same (S1.trans M.1) d' x hq, sm_at (sm_all sm) hd', fun H3 S3 => ⟨_, rfl, ?_⟩⟩
          by_cases hl : letD d' = true
          · refine iteYes hl ?_
            have e : markD d' = true := by simp only [markD, hl, Bool.true_or]
            have q := M.turn (g := markD) nD S3 (sm_len sm) hd'
            rw [e] at q
            exact q
          · refine iteNo (by simpa using hl) ?_
            refine ⟨_, rfl, d', "", Dq.same (S1.trans (M.1.trans S3)) d' x hq, rfl, ?_⟩
            have e : markD d' = isStrD "" d' := by simp only [markD, hl, Bool.false_or]
            have q := M.turn (g := markD) nD S3 (sm_len sm) hd'
            rw [e] at q
            exact q
        · rintro H2 M
          rw [hda.len, List.take_length] at M
          refine ⟨D, _, rfl, SqL.of M.2, ?_⟩
          have q := k H2 (S1.trans M.1)
          have e : marksD kt (.tuple ds) = (ds.map markD).all id := by simp only [marksD, hb, Bool.true_and, allD_map]
          rw [e] at q
          exact q
    · refine iteYes (by simpa using hb) ?_
      have q := k H1 S1
      have e : marksD kt d = false := by simp only [marksD, hb, Bool.false_and]
      rw [e] at q
      exact q
end
end KL
set_option Elab.async false
set_option linter.all false
set_option maxRecDepth 100000
set_option maxHeartbeats 2000000
namespace KL
open PySem L2 PySem.Spec PyProof.Rows
def lenIs (n : Nat) (d : PyData) : Bool := decide ((itemsD d).length = n)
def arrowD (k : Kit) (d : PyData) : Bool := tupD 5 5 d && (srcD k (itemD 0 d) (itemD 1 d) && (betD 0 (k.pl - 1) (itemD 2 d) && (formsD k (itemD 3 d) && (lenIs k.n (itemD 3 d) && marksD k (itemD 4 d)))))
def leD : PyData → PyData → Bool
  | .int i, .int j => decide (i ≤ j)
  | _, _ => false
def testD (k : Kit) (d : PyData) : Bool := tupD 5 5 d && (srcD k (itemD 0 d) (itemD 1 d) && (formD k.n (itemD 2 d) && (intD (itemD 3 d) && (intD (itemD 4 d) && leD (itemD 3 d) (itemD 4 d)))))
def looksD (k : Kit) (d : PyData) : Bool := tupD k.pe k.pe d && (allD (tupD k.pl k.pl) d && allD (allD (formsD k)) d)
theorem five {ds : List PyData} (h1 : (5 : Int) ≤ (ds.length : Int)) (h2 : (ds.length : Int) ≤ 5) : ∃ a b c d e, ds = [a, b, c, d, e] := by
  match ds, h1, h2 with
  | [a, b, c, d, e], _, _ => exact ⟨a, b, c, d, e, rfl⟩
  | [], h, _ => simp at h
  | [_], h, _ => simp at h
  | [_, _], h, _ => simp at h
  | [_, _, _], h, _ => simp at h
  | [_, _, _, _], h, _ => simp at h
  | _ :: _ :: _ :: _ :: _ :: _ :: _, _, h =>
    simp at h
    omega
theorem isT_of {d : PyData} (h : isTupD d = true) : ∃ ds, d = .tuple ds := by
  cases d with
  | tuple ds => exact ⟨ds, rfl⟩
  | _ => cases h
theorem int_of {d : PyData} (h : intD d = true) : ∃ i, d = .int i := by
  cases d with
  | int i => exact ⟨i, rfl⟩
  | _ => cases h
section
variable {P : Program} {w : World} {K : PySem.W.Frag} {mg : Str → Option Value} {base : Heap} {C : Addr}
theorem scArrow : FnScope ["house", "thing", "source", "deed", "target", "forms", "marks"] ["house", "thing"] (defScope sIsArrow) := ⟨rfl, rfl, rfl, by decide +kernel, rfl, by decide +kernel, by decide +kernel⟩
theorem ok_arrow {f g1 g2 g3 g4 g5 : Addr} {fd gd1 gd2 gd3 gd4 gd5 : FuncData} (F : Fun K "is_arrow" "is_arrow" sIsArrow f fd) (T : TxtB mg) (TH : TxtH K C) (G1 : FnOk P w K mg base CX0 1 g1 gd1 ["thing", "low", "high"] (spTest2 tupD)) (c1 : Cal K mg "is_tuple_of" g1 gd1 ["thing", "low", "high"])
    (G2 : FnOk P w K mg base CX0 3 g2 gd2 ["house", "source", "deed"] (spHs2 C srcD)) (c2 : Cal K mg "is_source_and_deed" g2 gd2 ["house", "source", "deed"]) (G3 : FnOk P w K mg base CX0 2 g3 gd3 ["thing", "low", "high"] (spTest2 betD)) (c3 : Cal K mg "is_between" g3 gd3 ["thing", "low", "high"])
    (G4 : FnOk P w K mg base CX0 3 g4 gd4 ["house", "thing"] (spHs C formsD)) (c4 : Cal K mg "are_forms" g4 gd4 ["house", "thing"]) (G5 : FnOk P w K mg base CX0 2 g5 gd5 ["house", "thing"] (spHs C marksD)) (c5 : Cal K mg "are_marks" g5 gd5 ["house", "thing"]) :
    FnOk P w K mg base CX0 4 f fd ["house", "thing"] (spHs C arrowD) := by
  refine F.ok scArrow (fun vs H Q E h => ?_) (fun cdv A outer s H vs Q E hr h => ?_)
  · obtain ⟨hv, v, d, kt, rfl, _⟩ := h
    rfl
  · obtain ⟨hv, v, d, kt, rfl, hh, hd, sm, k⟩ := h
    have hr1 : Room 1 _ := hr.mono (by decide)
    have hr2 : Room 2 _ := hr.mono (by decide)
    have hr3 : Room 3 _ := hr.mono (by decide)
    refine ⟨_, pss_cons (ps_if (pt_not (pt_val (pe_call G1 hr1 (by rfl) c1.m c1.k c1.b .nil pass0 (pa_cons (pv 1) (pa_cons pe_int (pa_cons pe_int pa_nil)))))) (pss_one (ps_ret pe_bl)) pss_nil)
      (pss_cons (ps_asg (pv 1) (g := gTup K 5 (gCons (gName 2) (gCons (gName 3) (gCons (gName 4) (gCons (gName 5) (gCons (gName 6) gNil)))))) (pg_tup rfl (pgs_cons (pg_name (i := 2) scArrow.nd rfl (.inl rfl)) (pgs_cons (pg_name (i := 3) scArrow.nd rfl (.inl rfl)) (pgs_cons (pg_name (i := 4) scArrow.nd rfl (.inl rfl)) (pgs_cons (pg_name (i := 5) scArrow.nd rfl (.inl rfl)) (pgs_cons (pg_name (i := 6) scArrow.nd rfl (.inl rfl)) pgs_nil)))))))
      (pss_cons (ps_if (PW.pt (pw_or (pt_not (pt_val (pe_call G2 hr3 (by rfl) c2.m c2.k c2.b .nil pass0 (pa_cons (pv 0) (pa_cons (pv 2) (pa_cons (pv 3) pa_nil)))))) (pw_or1 (pt_not (pt_val (pe_call G3 hr2 (by rfl) c3.m c3.k c3.b .nil pass0 (pa_cons (pv 4) (pa_cons pe_int (pa_cons (pe_op op_sub (pe_fld (pv 0) (by rfl)) pe_int) pa_nil))))))))) (pss_one (ps_ret pe_bl)) pss_nil)
      (pss_one (ps_ret (pe_and (pe_call G4 hr3 (by rfl) c4.m c4.k c4.b .nil pass0 (pa_cons (pv 0) (pa_cons (pv 5) pa_nil)))
        (pe_and (pe_cmpR op_eq (pe_callB call_len_seq (by rfl) T.len PySem.boot_len (pa_cons (pv 5) pa_nil)) (pe_callB call_len_seq (by rfl) T.len PySem.boot_len (pa_cons (pe_fld (pv 0) (by rfl)) pa_nil)) (by rfl))
        (pe_one (pe_call G5 hr2 (by rfl) c5.m c5.k c5.b .nil pass0 (pa_cons (pv 0) (pa_cons (pv 6) pa_nil)))))))))), ?_⟩
    refine ⟨_, rfl, v, d, 5, 5, rfl, hd, sm, fun H1 S1 => ⟨_, rfl, ?_⟩⟩
    by_cases hb : tupD 5 5 d = true
    · refine iteNo (by rw [hb]; rfl) ?_
      obtain ⟨ds, rfl, l1, l2⟩ := tup_of hb
      obtain ⟨d0, d1, d2, d3, d4, rfl⟩ := five l1 l2
      cases hd with
      | @tup b xs _ e hda =>
        cases hda with
        | @cons y0 _ _ _ q0 hda =>
        cases hda with
        | @cons y1 _ _ _ q1 hda =>
        cases hda with
        | @cons y2 _ _ _ q2 hda =>
        cases hda with
        | @cons y3 _ _ _ q3 hda =>
        cases hda with
        | @cons y4 _ _ _ q4 hda =>
        cases hda
        have sA := sm_all sm
        have s0 : smB d0 = true := sm_at (i := 0) sA rfl
        have s1 : smB d1 = true := sm_at (i := 1) sA rfl
        have s2 : smB d2 = true := sm_at (i := 2) sA rfl
        have s3 : smB d3 = true := sm_at (i := 3) sA rfl
        have s4 : smB d4 = true := sm_at (i := 4) sA rfl
        refine ⟨_, rfl, b, _, rfl, SqT.of (S1 _ _ e), rfl, y0, _, rfl, y1, _, rfl, y2, _, rfl, y3, _, rfl, y4, _, rfl, rfl, ?_⟩
        refine ⟨_, rfl, y0, rfl, y1, rfl, hv, y0, y1, d0, d1, kt, rfl, hh.same S1, Dq.same S1 _ _ q0, Dq.same S1 _ _ q1, s0, s1, fun H2 S2 => ⟨_, rfl, ?_⟩⟩
        have S12 := S1.trans S2
        by_cases h1 : srcD kt d0 d1 = true
        · refine iteNo (by rw [h1]; rfl) ?_
          obtain ⟨a, dx, fs, rfl, ha, _, hpl, _, _, sq, sx, hst, hsq, hsn⟩ := (hh.same S12).ex
          refine ⟨_, rfl, _, rfl, a, C, dx, fs, _, rfl, ha, TH.c, TH.places, hpl, _, _, rfl, rfl, y2, d2, 0, kt.pl - 1, rfl, Dq.same S12 _ _ q2, s2, fun H3 S3 => ⟨_, rfl, ?_⟩⟩
          have S13 := S12.trans S3
          by_cases h2 : betD 0 (kt.pl - 1) d2 = true
          · refine iteNo (by rw [h2]; rfl) ?_
            refine ⟨_, rfl, y3, rfl, V.ref a, y3, d3, kt, rfl, hh.same S13, Dq.same S13 _ _ q3, s3, fun H4 S4 => ⟨_, rfl, ?_⟩⟩
            have S14 := S13.trans S4
            by_cases h3 : formsD kt d3 = true
            · refine iteYes h3 ?_
              obtain ⟨fds, rfl⟩ := isT_of (Bool.and_eq_true_iff.mp h3).1
              cases q3 with
              | @tup fb fxs _ fe fda =>
                refine ⟨_, rfl, fb, fxs, rfl, .inr (SqT.of (S14 _ _ fe)), _, rfl, a, C, dx, fs, _, rfl, (S3.trans S4) _ _ ha, TH.c, TH.start, hst, sq, sx, rfl, .inr (SqT.of ((S3.trans S4) _ _ hsq)), rfl, _, rfl, ?_⟩
                rw [hsn, fda.len]
                by_cases h4 : fds.length = kt.n
                · refine iteYes (decide_eq_true (by rw [h4])) ?_
                  refine ⟨_, rfl, y4, rfl, V.ref a, y4, d4, kt, rfl, hh.same S14, Dq.same S14 _ _ q4, s4, fun H5 S5 => ?_⟩
                  have q := k H5 (S14.trans S5)
                  have e : arrowD kt (.tuple [d0, d1, d2, .tuple fds, d4]) = marksD kt d4 := by
                    show (tupD 5 5 _ && (srcD kt d0 d1 && (betD 0 (kt.pl - 1) d2 && (formsD kt (.tuple fds) && (decide (fds.length = kt.n) && marksD kt d4))))) = _
                    rw [hb, h1, h2, h3, decide_eq_true h4]
                    rfl
                  rw [e] at q
                  exact q
                · refine iteNo (decide_eq_false fun z => h4 ?_) ?_
                  · injection z with z
                    omega
                  · have q := k H4 S14
                    have e : arrowD kt (.tuple [d0, d1, d2, .tuple fds, d4]) = false := by
                      show (tupD 5 5 _ && (srcD kt d0 d1 && (betD 0 (kt.pl - 1) d2 && (formsD kt (.tuple fds) && (decide (fds.length = kt.n) && marksD kt d4))))) = _
                      rw [hb, h1, h2, h3, decide_eq_false h4]
                      rfl
                    rw [e] at q
                    exact q
            · have h3 : formsD kt d3 = false := by simpa using h3
              refine iteNo h3 ?_
              have q := k H4 S14
              have e : arrowD kt (.tuple [d0, d1, d2, d3, d4]) = false := by
                show (tupD 5 5 _ && (srcD kt d0 d1 && (betD 0 (kt.pl - 1) d2 && (formsD kt d3 && (lenIs kt.n d3 && marksD kt d4))))) = _
                rw [hb, h1, h2, h3]
                rfl
              rw [e] at q
              exact q
          · have h2 : betD 0 (kt.pl - 1) d2 = false := by simpa using h2
            refine iteYes (by rw [h2]; rfl) ?_
            have q := k H3 S13
            have e : arrowD kt (.tuple [d0, d1, d2, d3, d4]) = false := by
              show (tupD 5 5 _ && (srcD kt d0 d1 && (betD 0 (kt.pl - 1) d2 && (formsD kt d3 && (lenIs kt.n d3 && marksD kt d4))))) = _
              rw [hb, h1, h2]
              rfl
            rw [e] at q
            exact q
        · have h1 : srcD kt d0 d1 = false := by simpa using h1
          refine iteYes (by rw [h1]; rfl) (iteYes rfl ?_)
          have q := k H2 S12
          have e : arrowD kt (.tuple [d0, d1, d2, d3, d4]) = false := by
            show (tupD 5 5 _ && (srcD kt d0 d1 && (betD 0 (kt.pl - 1) d2 && (formsD kt d3 && (lenIs kt.n d3 && marksD kt d4))))) = _
            rw [hb, h1]
            rfl
          rw [e] at q
          exact q
    · have hb : tupD 5 5 d = false := by simpa using hb
      refine iteYes (by rw [hb]; rfl) ?_
      have q := k H1 S1
      have e : arrowD kt d = false := by simp only [arrowD, hb, Bool.false_and]
      rw [e] at q
      exact q
end
end KL
set_option Elab.async false
set_option linter.all false
set_option maxRecDepth 100000
set_option maxHeartbeats 2000000
namespace KL
open PySem L2 PySem.Spec PyProof.Rows
section
variable {P : Program} {w : World} {K : PySem.W.Frag} {mg : Str → Option Value} {base : Heap} {C : Addr}
theorem scTest : FnScope ["house", "thing", "source", "deed", "form", "low", "high"] ["house", "thing"] (defScope sIsTest) := ⟨rfl, rfl, rfl, by decide +kernel, rfl, by decide +kernel, by decide +kernel⟩
theorem ok_test {f g1 g2 g3 g4 : Addr} {fd gd1 gd2 gd3 gd4 : FuncData} (F : Fun K "is_test" "is_test" sIsTest f fd) (T : TxtB mg) (TH : TxtH K C) (G1 : FnOk P w K mg base CX0 1 g1 gd1 ["thing", "low", "high"] (spTest2 tupD)) (c1 : Cal K mg "is_tuple_of" g1 gd1 ["thing", "low", "high"])
    (G2 : FnOk P w K mg base CX0 3 g2 gd2 ["house", "source", "deed"] (spHs2 C srcD)) (c2 : Cal K mg "is_source_and_deed" g2 gd2 ["house", "source", "deed"]) (G3 : FnOk P w K mg base CX0 2 g3 gd3 ["count", "thing"] spForm) (c3 : Cal K mg "is_form" g3 gd3 ["count", "thing"])
    (G4 : FnOk P w K mg base CX0 1 g4 gd4 ["thing"] (spTest intD)) (c4 : Cal K mg "is_int" g4 gd4 ["thing"]) :
    FnOk P w K mg base CX0 4 f fd ["house", "thing"] (spHs C testD) := by
  refine F.ok scTest (fun vs H Q E h => ?_) (fun cdv A outer s H vs Q E hr h => ?_)
  · obtain ⟨hv, v, d, kt, rfl, _⟩ := h
    rfl
  · obtain ⟨hv, v, d, kt, rfl, hh, hd, sm, k⟩ := h
    have hr1 : Room 1 _ := hr.mono (by decide)
    have hr2 : Room 2 _ := hr.mono (by decide)
    have hr3 : Room 3 _ := hr.mono (by decide)
    refine ⟨_, pss_cons (ps_if (pt_not (pt_val (pe_call G1 hr1 (by rfl) c1.m c1.k c1.b .nil pass0 (pa_cons (pv 1) (pa_cons pe_int (pa_cons pe_int pa_nil)))))) (pss_one (ps_ret pe_bl)) pss_nil)
      (pss_cons (ps_asg (pv 1) (g := gTup K 5 (gCons (gName 2) (gCons (gName 3) (gCons (gName 4) (gCons (gName 5) (gCons (gName 6) gNil)))))) (pg_tup rfl (pgs_cons (pg_name (i := 2) scTest.nd rfl (.inl rfl)) (pgs_cons (pg_name (i := 3) scTest.nd rfl (.inl rfl)) (pgs_cons (pg_name (i := 4) scTest.nd rfl (.inl rfl)) (pgs_cons (pg_name (i := 5) scTest.nd rfl (.inl rfl)) (pgs_cons (pg_name (i := 6) scTest.nd rfl (.inl rfl)) pgs_nil)))))))
      (pss_cons (ps_if (PW.pt (pw_or (pt_not (pt_val (pe_call G2 hr3 (by rfl) c2.m c2.k c2.b .nil pass0 (pa_cons (pv 0) (pa_cons (pv 2) (pa_cons (pv 3) pa_nil)))))) (pw_or1 (pt_not (pt_val (pe_call G3 hr2 (by rfl) c3.m c3.k c3.b .nil pass0 (pa_cons (pe_callB call_len_seq (by rfl) T.len PySem.boot_len (pa_cons (pe_fld (pv 0) (by rfl)) pa_nil)) (pa_cons (pv 4) pa_nil)))))))) (pss_one (ps_ret pe_bl)) pss_nil)
      (pss_one (ps_ret (pe_and (pe_call G4 hr1 (by rfl) c4.m c4.k c4.b .nil pass0 (pa_cons (pv 5) pa_nil))
        (pe_and (pe_call G4 hr1 (by rfl) c4.m c4.k c4.b .nil pass0 (pa_cons (pv 6) pa_nil))
        (pe_one (pe_cmpR op_le (pv 5) (pv 6) (nomark _))))))))), ?_⟩
    refine ⟨_, rfl, v, d, 5, 5, rfl, hd, sm, fun H1 S1 => ⟨_, rfl, ?_⟩⟩
    by_cases hb : tupD 5 5 d = true
    · refine iteNo (by rw [hb]; rfl) ?_
      obtain ⟨ds, rfl, l1, l2⟩ := tup_of hb
      obtain ⟨d0, d1, d2, d3, d4, rfl⟩ := five l1 l2
      have key : testD kt (.tuple [d0, d1, d2, d3, d4]) = (srcD kt d0 d1 && (formD kt.n d2 && (intD d3 && (intD d4 && leD d3 d4)))) := by
        show (tupD 5 5 _ && (srcD kt d0 d1 && (formD kt.n d2 && (intD d3 && (intD d4 && leD d3 d4))))) = _
        rw [hb]
        rfl
      cases hd with
      | @tup b xs _ e hda =>
        cases hda with
        | @cons y0 _ _ _ q0 hda =>
        cases hda with
        | @cons y1 _ _ _ q1 hda =>
        cases hda with
        | @cons y2 _ _ _ q2 hda =>
        cases hda with
        | @cons y3 _ _ _ q3 hda =>
        cases hda with
        | @cons y4 _ _ _ q4 hda =>
        cases hda
        have sA := sm_all sm
        have s0 : smB d0 = true := sm_at (i := 0) sA rfl
        have s1 : smB d1 = true := sm_at (i := 1) sA rfl
        have s2 : smB d2 = true := sm_at (i := 2) sA rfl
        have s3 : smB d3 = true := sm_at (i := 3) sA rfl
        have s4 : smB d4 = true := sm_at (i := 4) sA rfl
        refine ⟨_, rfl, b, _, rfl, SqT.of (S1 _ _ e), rfl, y0, _, rfl, y1, _, rfl, y2, _, rfl, y3, _, rfl, y4, _, rfl, rfl, ?_⟩
        refine ⟨_, rfl, y0, rfl, y1, rfl, hv, y0, y1, d0, d1, kt, rfl, hh.same S1, Dq.same S1 _ _ q0, Dq.same S1 _ _ q1, s0, s1, fun H2 S2 => ⟨_, rfl, ?_⟩⟩
        have S12 := S1.trans S2
        by_cases h1 : srcD kt d0 d1 = true
        · rw [h1] at key
          refine iteNo (by rw [h1]; rfl) ?_
          obtain ⟨a, dx, fs, rfl, ha, _, hpl, _, _, sq, sx, hst, hsq, hsn⟩ := (hh.same S12).ex
          refine ⟨_, rfl, a, C, dx, fs, _, rfl, ha, TH.c, TH.start, hst, sq, sx, rfl, .inr (SqT.of hsq), y2, rfl, y2, d2, kt.n, (by rw [hsn]; rfl), Dq.same S12 _ _ q2, s2, fun H3 S3 => ⟨_, rfl, ?_⟩⟩
          have S13 := S12.trans S3
          by_cases h2 : formD kt.n d2 = true
          · rw [h2] at key
            refine iteNo (by rw [h2]; rfl) ?_
            refine ⟨_, rfl, y3, d3, rfl, Dq.same S13 _ _ q3, s3, fun H4 S4 => ⟨_, rfl, ?_⟩⟩
            have S14 := S13.trans S4
            by_cases h3 : intD d3 = true
            · rw [h3] at key
              refine iteYes h3 ?_
              refine ⟨_, rfl, y4, d4, rfl, Dq.same S14 _ _ q4, s4, fun H5 S5 => ⟨_, rfl, ?_⟩⟩
              have S15 := S14.trans S5
              have q := k H5 S15
              rw [key] at q
              by_cases h4 : intD d4 = true
              · rw [h4] at q
                refine iteYes h4 ?_
                obtain ⟨i, rfl⟩ := int_of h3
                obtain ⟨j, rfl⟩ := int_of h4
                cases q3
                cases q4
                exact ⟨_, rfl, _, rfl, i, j, rfl, rfl, q⟩
              · have h4 : intD d4 = false := by simpa using h4
                rw [h4] at q
                exact iteNo h4 q
            · have h3 : intD d3 = false := by simpa using h3
              have q := k H4 S14
              rw [key, h3] at q
              exact iteNo h3 q
          · have h2 : formD kt.n d2 = false := by simpa using h2
            have q := k H3 S13
            rw [key, h2] at q
            exact iteYes (by rw [h2]; rfl) q
        · have h1 : srcD kt d0 d1 = false := by simpa using h1
          have q := k H2 S12
          rw [key, h1] at q
          exact iteYes (by rw [h1]; rfl) (iteYes rfl q)
    · have hb : tupD 5 5 d = false := by simpa using hb
      refine iteYes (by rw [hb]; rfl) ?_
      have q := k H1 S1
      have e : testD kt d = false := by simp only [testD, hb, Bool.false_and]
      rw [e] at q
      exact q
/-! ### looks -/
theorem pe_fldB {X : Cx} {e : Expr} {f : Str} {pos : Pos} {ta : TE} (K : PySem.W.Frag) (hK : X.K = K) (he : PE X e ta) (hb : attributeBase e f X.env (eval e X.env) = eval e X.env) : PE X (.Attribute e f pos) (tFld K ta f) := by
  rw [← hK]
  exact pe_fld he hb
theorem pi_tupB {X : Cx} {tg l : Expr} {tl : TE} (K : PySem.W.Frag) (hK : X.K = K) (he : PE X l tl) : PI X tg l (iTup K tl) := by
  rw [← hK]
  exact pi_tup he
theorem tup_turns {K : PySem.W.Frag} {a : Addr} {xs : List V} {body : (Hp → Prop) → V → Hp → Prop} {Hs : Hp} {Qd : Hp → Prop} (Pv : Nat → Hp → Prop) (h0 : Pv 0 Hs) (hl : ∀ i H, i ≤ xs.length → Pv i H → SqT K H a xs)
    (hs : ∀ i x H, xs[i]? = some x → Pv i H → body (Pv (i + 1)) x H) (hd : ∀ H, Pv xs.length H → Qd H) :
    ∃ W : Nat → Nat → Hp → Prop, (∃ m, W 0 m Hs) ∧ ∀ i m H, W i m H →
      ((Itt K a).stop i H ∧ Qd H) ∨ ((Itt K a).go i H ∧ ∃ Nx : Hp → Prop, (∀ H', Nx H' → ∃ m', m' < m ∧ W (i + 1) m' H') ∧ ∀ x H', (Itt K a).yld i H x H' → body Nx x H') := by
  refine ⟨fun i m H => m = xs.length - i ∧ i ≤ xs.length ∧ Pv i H, ⟨xs.length, by simp, Nat.zero_le _, h0⟩, ?_⟩
  rintro i m H ⟨rfl, hi, p⟩
  have q := hl i H hi p
  by_cases hlt : i < xs.length
  · refine .inr ⟨⟨xs, xs[i], q, by simp [hlt]⟩, Pv (i + 1), fun H' p' => ⟨xs.length - (i + 1), by omega, rfl, hlt, p'⟩, fun x H' y => ?_⟩
    obtain ⟨e, y⟩ := y
    subst e
    exact hs i x _ (y xs q) p
  · have e : i = xs.length := by omega
    subst e
    exact .inl ⟨⟨xs, q, Nat.le_refl _⟩, hd H p⟩
def rowB (k : Kit) (d : PyData) : List Bool := (itemsD d).map (formsD k)
theorem rows_len {k : Kit} : ∀ {ds : List PyData}, smAll ds = true → (ds.flatMap (rowB k)).length ≤ 1000 * ds.length
  | [], _ => Nat.le_refl _
  | d :: ds, h => by
    have h' := Bool.and_eq_true_iff.mp (show (smB d && smAll ds) = true from h)
    rw [List.flatMap_cons, List.length_append, List.length_cons]
    have q := rows_len (k := k) h'.2
    have r : (rowB k d).length ≤ 1000 := by
      unfold rowB
      rw [List.length_map]
      cases d with
      | tuple es => exact sm_len h'.1
      | _ => exact Nat.zero_le _
    omega
theorem sm_take : ∀ {ds : List PyData} (i : Nat), smAll ds = true → smAll (ds.take i) = true
  | [], _, _ => by
    rw [List.take_nil]
    rfl
  | _ :: _, 0, _ => rfl
  | d :: ds, i + 1, h => by
    have h' := Bool.and_eq_true_iff.mp (show (smB d && smAll ds) = true from h)
    show (smB d && smAll (ds.take i)) = true
    rw [h'.1, sm_take i h'.2]
    rfl
theorem rows_all {k : Kit} : ∀ {ds : List PyData}, ds.all isTupD = true → (ds.flatMap (rowB k)).all id = ds.all (allD (formsD k))
  | [], _ => rfl
  | d :: ds, h => by
    have h' := Bool.and_eq_true_iff.mp (show (isTupD d && ds.all isTupD) = true from h)
    obtain ⟨es, rfl⟩ := isT_of h'.1
    rw [List.flatMap_cons, List.all_append, rows_all h'.2, List.all_cons]
    show ((es.map (formsD k)).all id && _) = (es.all (formsD k) && _)
    rw [List.all_map]
    rfl
theorem scLooks : FnScope ["house", "thing", "row", "forms"] ["house", "thing"] (defScope sAreLooks) := ⟨rfl, rfl, rfl, by decide +kernel, rfl, by decide +kernel, by decide +kernel⟩
theorem ok_looks {f g1 g2 : Addr} {fd gd1 gd2 : FuncData} (F : Fun K "are_looks" "are_looks" sAreLooks f fd) (T : TxtB mg) (TH : TxtH K C) (G1 : FnOk P w K mg base CX0 1 g1 gd1 ["thing", "low", "high"] (spTest2 tupD)) (c1 : Cal K mg "is_tuple_of" g1 gd1 ["thing", "low", "high"])
    (G2 : FnOk P w K mg base CX0 3 g2 gd2 ["house", "thing"] (spHs C formsD)) (c2 : Cal K mg "are_forms" g2 gd2 ["house", "thing"]) : FnOk P w K mg base CX0 4 f fd ["house", "thing"] (spHs C looksD) := by
  refine F.ok scLooks (fun vs H Q E h => ?_) (fun cdv A outer s H vs Q E hr h => ?_)
  · obtain ⟨hv, v, d, kt, rfl, _⟩ := h
    rfl
  · obtain ⟨hv, v, d, kt, rfl, hh, hd, sm, k⟩ := h
    have hr1 : Room 1 _ := hr.mono (by decide)
    refine ⟨_, pss_cons (ps_if (pt_not (pt_val (pe_call G1 hr1 (by rfl) c1.m c1.k c1.b .nil pass0 (pa_cons (pv 1) (pa_cons (pe_fld (pv 0) (by rfl)) (pa_cons (pe_fld (pv 0) (by rfl)) pa_nil)))))) (pss_one (ps_ret pe_bl)) pss_nil)
      (pss_cons (ps_if (pt_not (pt_val (pe_callB (cr_all rfl) (by rfl) T.all (by decide +kernel) (pa_cons (pe_lc (own := [("row", 2)]) (g := gName 2) (tt := tYes) rfl scLooks.nd (pi_tup (pv 1)) (blkOk_by (N := ["house", "thing", "row", "forms"]) (sc := defScope sAreLooks) (by decide +kernel)) (fun _ _ _ _ _ => pg_name (i := 2) scLooks.nd rfl (.inl rfl)) (fun _ _ _ _ _ => pts_nil)
          (fun _ _ _ _ _ => pe_call G1 hr1 (by rfl) c1.m c1.k c1.b .nil pass0 (pa_cons (pv 2) (pa_cons (pe_fldB K rfl (pv 0) (by rfl)) (pa_cons (pe_fldB K rfl (pv 0) (by rfl)) pa_nil))))) pa_nil)))) (pss_one (ps_ret pe_bl)) pss_nil)
      (pss_one (ps_ret (pe_callB (cr_all rfl) (by rfl) T.all (by decide +kernel) (pa_cons (pe_lc2 (own := [("row", 2), ("forms", 3)]) (vs1 := [3]) (g := gName 2) (tt := tYes) (g1 := gName 3) (tt1 := tYes) rfl scLooks.nd (pi_tup (pv 1)) (blkOk_by (N := ["house", "thing", "row", "forms"]) (sc := defScope sAreLooks) (by decide +kernel)) (by decide) (fun _ _ _ _ _ => pg_name (i := 2) scLooks.nd rfl (.inl rfl)) (fun _ _ _ _ _ => pts_nil)
          (fun _ _ _ _ _ => pi_tupB K rfl (pv 2)) (fun _ _ _ _ _ => pg_name (i := 3) scLooks.nd rfl (.inl rfl)) (fun _ _ _ _ _ => pts_nil)
          (fun _ _ _ _ _ => pe_call G2 hr (by rfl) c2.m c2.k c2.b .nil pass0 (pa_cons (pv 0) (pa_cons (pv 3) pa_nil)))) pa_nil))))), ?_⟩
    obtain ⟨a, dx, fs, rfl, ha, hpe, hpl, _⟩ := hh.ex
    refine ⟨_, rfl, _, rfl, a, C, dx, fs, _, rfl, ha, TH.c, TH.people, hpe, _, rfl, a, C, dx, fs, _, rfl, ha, TH.c, TH.people, hpe, v, d, kt.pe, kt.pe, rfl, hd, sm, fun H1 S1 => ⟨_, rfl, ?_⟩⟩
    by_cases hb : tupD kt.pe kt.pe d = true
    · refine iteNo (by rw [hb]; rfl) ?_
      obtain ⟨ds, rfl, l1, l2⟩ := tup_of hb
      cases hd with
      | @tup b ys _ e hda =>
        refine ⟨_, rfl, b, rfl, ⟨_, SqT.of (S1 _ _ e)⟩, fun D nD => ?_⟩
        refine lc_tup (K := K) (a := b) (xs := ys) (fun i H2 => MadeTo H1 D (((ds.take i).map (tupD kt.pl kt.pl)).map V.bl) H2) ⟨same_new nD, upd_same⟩ (fun i H2 _ M => SqT.of (M.1 _ _ (S1 _ _ e))) ?_ ?_
        · rintro i x H2 hx M
          obtain ⟨d', hd', hq⟩ := DqAll.at hda hx
          have S2 := S1.trans M.1
          exact ⟨rfl, _, rfl, _, rfl, a, C, dx, fs, _, rfl, S2 _ _ ha, TH.c, TH.places, hpl, _, rfl, a, C, dx, fs, _, rfl, S2 _ _ ha, TH.c, TH.places, hpl, x, d', kt.pl, kt.pl, rfl, Dq.same S2 d' x hq, sm_at (sm_all sm) hd', fun H3 S3 => M.turn nD S3 (sm_len sm) hd'⟩
        · rintro H2 M
          rw [hda.len, List.take_length] at M
          refine ⟨D, _, rfl, SqL.of M.2, _, rfl, ?_⟩
          rw [allD_map]
          have S2 := S1.trans M.1
          by_cases h1 : allD (tupD kt.pl kt.pl) (.tuple ds) = true
          · refine iteNo (by rw [h1]; rfl) ?_
            have hT : ds.all isTupD = true := by
              rw [List.all_eq_true]
              intro d' hd'
              obtain ⟨es, rfl, _⟩ := tup_of (List.all_eq_true.mp (show ds.all (tupD kt.pl kt.pl) = true from h1) d' hd')
              rfl
            refine ⟨_, rfl, b, rfl, ⟨_, SqT.of (S2 _ _ e)⟩, fun B nB => ?_⟩
            refine tup_turns (K := K) (a := b) (xs := ys) (fun i H3 => MadeTo H2 B (((ds.take i).flatMap (rowB kt)).map V.bl) H3) ⟨same_new nB, upd_same⟩ (fun i H3 _ M3 => SqT.of (M3.1 _ _ (S2 _ _ e))) ?_ ?_
            · rintro i x H3 hx M3
              obtain ⟨d', hd', hq⟩ := DqAll.at hda hx
              have hi : i < ds.length := (List.getElem?_eq_some_iff.mp hd').1
              obtain ⟨es, rfl⟩ := isT_of (List.all_eq_true.mp hT d' (List.mem_of_getElem? hd'))
              cases hq with
              | @tup rb rxs _ re rda =>
                refine ⟨rfl, _, rfl, rb, rfl, ⟨_, SqT.of (M3.1 _ _ (S2 _ _ re))⟩, ?_⟩
                have hsm : smB (.tuple es) = true := sm_at (sm_all sm) hd'
                have base0 : (ds.take (i + 1)).flatMap (rowB kt) = (ds.take i).flatMap (rowB kt) ++ es.map (formsD kt) := by
                  rw [List.take_add_one, hd', List.flatMap_append]
                  show _ ++ (rowB kt (.tuple es) ++ []) = _
                  rw [List.append_nil]
                  rfl
                refine tup_turns (K := K) (a := rb) (xs := rxs) (fun j H4 => MadeTo H2 B (((ds.take i).flatMap (rowB kt) ++ (es.take j).map (formsD kt)).map V.bl) H4) (by rw [List.take_zero, List.map_nil, List.append_nil]; exact M3) (fun j H4 _ M4 => SqT.of (M4.1 _ _ (S2 _ _ re))) ?_ ?_
                · rintro j y H4 hy M4
                  obtain ⟨d2, hd2, hq2⟩ := DqAll.at rda hy
                  refine ⟨rfl, _, rfl, y, rfl, V.ref a, y, d2, kt, rfl, hh.same (S2.trans M4.1), Dq.same (S2.trans M4.1) d2 y hq2, sm_at (sm_all hsm) hd2, fun H5 S5 => ?_⟩
                  have m := M4.more (.bl (formsD kt d2)) nB S5
                  refine ⟨_, m.1, ?_, ?_⟩
                  · rw [List.length_map, List.length_append, List.length_map, List.length_take]
                    have z1 := rows_len (k := kt) (sm_take i (sm_all sm))
                    rw [List.length_take] at z1
                    have z2 := sm_len sm
                    have z3 := sm_len hsm
                    rw [sizeLine_eq]
                    have z4 : 1000 * min i ds.length ≤ 1000 * 1000 := Nat.mul_le_mul_left _ (by omega)
                    omega
                  · rw [take_map hd2, ← List.append_assoc, List.map_append]
                    exact m.2
                · rintro H4 M4
                  rw [rda.len, List.take_length] at M4
                  rw [base0]
                  exact M4
            · rintro H3 M3
              rw [hda.len, List.take_length] at M3
              refine ⟨B, _, rfl, SqL.of M3.2, ?_⟩
              have q := k H3 (S2.trans M3.1)
              have e : looksD kt (.tuple ds) = (ds.flatMap (rowB kt)).all id := by
                rw [rows_all hT]
                simp only [looksD, hb, h1, Bool.true_and]
                rfl
              rw [e] at q
              exact q
          · refine iteYes (by simpa using h1) ?_
            have h1 : allD (tupD kt.pl kt.pl) (.tuple ds) = false := by simpa using h1
            have q := k H2 S2
            have e : looksD kt (.tuple ds) = false := by simp only [looksD, hb, h1, Bool.true_and, Bool.false_and]
            rw [e] at q
            exact q
    · have hb : tupD kt.pe kt.pe d = false := by simpa using hb
      refine iteYes (by rw [hb]; rfl) ?_
      have q := k H1 S1
      have e : looksD kt d = false := by simp only [looksD, hb, Bool.false_and]
      rw [e] at q
      exact q
end
end KL
set_option Elab.async false
set_option linter.all false
set_option maxRecDepth 100000
set_option maxHeartbeats 4000000
namespace PySem
namespace KX
open PySem.W PySem.Calls PyProof.Rows
abbrev excB : List Value := [.type "Exception", .type "BaseException", .type "object"]
/-! ### a call of an error's class with keywords alone -/
section
variable {M : Model} {A : Around} {E : Value → Shared → Prop} {h : Heap} {g : Array GenState} {d : Drawn} {t : Nat} {os : OsState}
variable {nm q : Str} {C N : Addr} {bs bm bmB : List Value} {hdct : Bool} {sn : List Str} {sub : List Value} {ab : Bool} {col : Option Bool} {dd : Option Addr} {k0 k1 k2 k3 k5 : Option Value} {B newId initId : String}
theorem newCheckK (F : ExcBaseFacts B newId initId bmB) (hT : ∀ X : String, bm.contains (.type X) = bmB.contains (.type X)) {kw : List (Str × Value)} {Q : Unit → Shared → Prop}
    (hC : h.get? C = some (excClassObj nm q C N bs bm hdct sn sub ab col dd k0 k1 k2 k3 k5 newId)) (hq : Q () ⟨h, g, d, t, os⟩) : wpAny M A (checkBuiltinCall newId ⟨[.ref C], kw⟩) Q E ⟨h, g, d, t, os⟩ := by
  have z1 : (Value.ref C :: bm).contains (.type B) = true := by
    rw [List.contains_cons, hT, F.hasB, Bool.or_true]
  have z2 := F.noStar
  simp only [checkBuiltinCall, F.newKind, F.newSplit, F.newRow]
  repeat (first
    | refine wpAny_loadPart_at hC ?_
    | (refine wpAny_isSubtype_exc hC ?_
       rw [z1])
    | refine wpAny_staticBase_exc hC ?_
    | refine wpAny_madeBy_exc hC ?_
    | simp only [bne_self_eq_false, Bool.false_eq_true, if_false]
    | wp_step)
  exact hq
end
section
variable {prog : Program} {w : World} {A : Around} {E : Value → Shared → Prop} {R : Result → Shared → Prop} {h : Heap} {g : Array GenState} {d : Drawn} {t : Nat} {os : OsState}
variable {nm q : Str} {C N : Addr} {bs bm bmB : List Value} {hdct : Bool} {sn : List Str} {sub : List Value} {ab : Bool} {col : Option Bool} {dd : Option Addr} {k0 k1 k2 k3 k5 : Option Value} {B newId initId : String}
/-- the heap behind: empty args, the object -/
abbrev madeH (h : Heap) (C : Addr) : Heap := (h.push (kdv_tup [])).push (PX.excO C h.objs.size)
theorem newK (F : ExcBaseFacts B newId initId bmB) (hT : ∀ X : String, bm.contains (.type X) = bmB.contains (.type X)) {kw : List (Str × Value)}
    (hC : h.get? C = some (excClassObj nm q C N bs bm hdct sn sub ab col dd k0 k1 k2 k3 k5 newId)) (hq : R (.ok (.ret (.ref (h.objs.size + 1)))) ⟨madeH h C, g, d, t, os⟩) :
    codeAny (model prog w) A (.builtin newId ⟨[.ref C], kw⟩) R ⟨h, g, d, t, os⟩ := by
  have z0 := F.ends
  have z1 : (Value.ref C :: bm).contains (.type B) = true := by
    rw [List.contains_cons, hT, F.hasB, Bool.or_true]
  have z2 : (Value.ref C :: bm).contains (.type "AttributeError") = false := by
    rw [List.contains_cons, hT, F.noAttr]
    rfl
  have z3 : (Value.ref C :: bm).contains (.type "NameError") = false := by
    rw [List.contains_cons, hT, F.noName]
    rfl
  refine codeAny_builtinAt F.entry ?_
  unfold Builtin.«BaseException.__new__»
  refine wpAt_bind ?_
  show wpAt _ _ _ (stack >>= _) _ _ _
  refine wpAt_bind (wpAt_stack fun p below => wpAt_of_wpAny ?_)
  wp_walk
  refine wpAt_of_wpAny ?_
  rw [F.owner]
  repeat (first
    | with_reducible refine wpAny_madeHere_exc F.canon hC ?_
    | with_reducible refine wpAny_loadPart_at hC ?_
    | (with_reducible refine wpAny_isSubtype_exc hC ?_
       first
         | rw [z1]
         | rw [z2]
         | rw [z3])
    | wp_step)
  show R _ _
  rw [Heap.size_push]
  exact hq
theorem typeCallK (F : ExcBaseFacts B newId initId bmB) (hT : ∀ X : String, bm.contains (.type X) = bmB.contains (.type X)) {kw : List (Str × Value)} {fI : Addr} {Q : Fin → Shared → Prop}
    (hC : h.get? C = some (excClassObj nm q C N bs bm hdct sn sub ab col dd k0 k1 k2 k3 k5 newId)) (hi : Looks (model prog w) h (typeLookup (.ref C) "__init__") (some (.ref fI))) (hb : ∀ self, Looks (model prog w) h (bindSpecial (.ref fI) self) (.ref fI, [self]))
    (hq : codeAny (model prog w) A (.call (.ref fI) ⟨[.ref (h.objs.size + 1)], kw⟩) (fun r s' => match r with
      | .ok (.ret v) => v = .none ∧ Q (.done (.ret (.ref (h.objs.size + 1)))) s'
      | .ok _ => False
      | .error e => E e s') ⟨madeH h C, g, d, t, os⟩) : wpAny (model prog w) A (Builtin.«type.__call__» ⟨[.ref C], kw⟩) Q E ⟨h, g, d, t, os⟩ := by
  repeat (first
    | with_reducible refine wpAny_loadPart_at hC ?_
    | with_reducible refine wpAny_madeBy_exc hC ?_
    | wp_step)
  refine codeAny_call_builtin_code (Code.quiet_builtin _ F.quiet) (newCheckK F hT hC ?_)
  refine newK F hT hC ?_
  show wpAny _ _ _ _ _ _
  have k : ∀ b o, h.get? b = some o → (madeH h C).get? b = some o := fun b o e => Heap.get?_push_of_some _ (Heap.get?_push_of_some _ e)
  have hC1 := k _ _ hC
  have hg1 : (madeH h C).get? (h.objs.size + 1) = some (PX.excO C h.objs.size) := by heap_get
  have z : (Value.ref C :: bm).contains (.ref C) = true := by simp
  have i1 := hi.keeps k
  have b1 := (hb (.ref (h.objs.size + 1))).keeps k
  unfold isInstance
  repeat (first
    | with_reducible refine wpAny_loadPart_at hg1 ?_
    | (with_reducible refine wpAny_isSubtype_exc hC1 ?_
       rw [z])
    | wp_step)
  show wpAny _ _ (typeLookup (.ref C) _) _ _ _
  refine i1.at ?_
  refine wpAny_holding (wpAny_bind (b1.at ?_))
  refine wpAny_bind (wpAny_call (codeAny_mono hq fun r s' y => ?_))
  rcases r with e | (v | _ | _ | _) <;> first | exact y | exact y.elim | skip
  obtain ⟨rfl, y⟩ := y
  first
    | exact wpAny_pure (wpAny_pure y)
    | (wp_walk
       exact y)
theorem typeCheckK {M : Model} {E : Value → Shared → Prop} {kw : List (Str × Value)} {Q : Unit → Shared → Prop} (hC : h.get? C = some (excClassObj nm q C N bs bm hdct sn sub ab col dd k0 k1 k2 k3 k5 newId)) (hq : Q () ⟨h, g, d, t, os⟩) :
    wpAny M A (checkBuiltinCall "type.__call__" ⟨[.ref C], kw⟩) Q E ⟨h, g, d, t, os⟩ := by
  have y1 := tc_sub
  have y2 : (⟨h, g, d, t, os⟩ : Shared).TypeIs (.ref C) "type" := ⟨_, hC, rfl⟩
  simp only [checkBuiltinCall, tc_kind, tc_split]
  repeat (any_goals (first
    | assumption
    | with_reducible refine wpAny_loadPart_at hC ?_
    | with_reducible refine wpAny_onRaise ?_
    | with_reducible refine wpAny_map ?_
    | wp_step))
theorem callK (F : ExcBaseFacts B newId initId bmB) (hT : ∀ X : String, bm.contains (.type X) = bmB.contains (.type X)) {kw : List (Str × Value)} {fI : Addr}
    (hC : h.get? C = some (excClassObj nm q C N bs bm hdct sn sub ab col dd k0 k1 k2 k3 k5 newId)) (hi : Looks (model prog w) h (typeLookup (.ref C) "__init__") (some (.ref fI))) (hb : ∀ self, Looks (model prog w) h (bindSpecial (.ref fI) self) (.ref fI, [self]))
    (hq : codeAny (model prog w) (A.under (.builtin "type.__call__" ⟨[.ref C], kw⟩)) (.call (.ref fI) ⟨[.ref (h.objs.size + 1)], kw⟩) (InitBack (h.objs.size + 1) R) ⟨madeH h C, g, d, t, os⟩) :
    codeAny (model prog w) A (.call (.ref C) ⟨[], kw⟩) R ⟨h, g, d, t, os⟩ := by
  have y1 := tc_lookup
  have y2 := tc_bind (.ref C)
  have y3 : (⟨h, g, d, t, os⟩ : Shared).TypeIs (.ref C) "type" := ⟨_, hC, rfl⟩
  refine codeAny_of_tree ?_
  show wpAny _ _ (callAny (.ref C) _) _ _ _
  repeat (any_goals (first
    | assumption
    | with_reducible refine wpAny_loadPart_at hC ?_
    | wp_step))
  refine ⟨rfl, ?_⟩
  refine codeAny_call_builtin_at (Code.quiet_builtin _ (by decide +kernel)) entry_typeCall (typeCheckK hC (typeCallK F hT hC hi hb ?_))
  refine codeAny_mono hq fun r s' y => ?_
  rcases r with e | (v | _ | _ | _) <;> exact y
end
end KX
end PySem
set_option Elab.async false
set_option linter.all false
set_option maxRecDepth 100000
set_option maxHeartbeats 4000000
namespace PySem
namespace KX
open PySem.W PySem.Calls PyProof.Rows PySem.HandSPX
def iA (fl : Str) (p1 p2 : Pos) : Arguments := { posonlyargs := [], args := [{ arg := "self", annotation := none, pos := p1 }, { arg := fl, annotation := none, pos := p2 }], vararg := none, kwonlyargs := [], kw_defaults := [], kwarg := none, defaults := [] }
def iB (fl : Str) (q1 q2 q3 q4 : Pos) : List Stmt := [.Assign [.Attribute (.Name "self" q1) fl q2] (.Name fl q3) q4]
def iS (fl : Str) : Scope := { kind := .function, names := [(PySem.Str.ofString "self", .local), (fl, .local)], isGenerator := false, isCoroutine := false, more := [] }
/-- the fields of the errors -/
def IsFl (fl : Str) : Prop := fl = "part" ∨ fl = "line" ∨ fl = "index" ∨ fl = "paper" ∨ fl = "deed" ∨ fl = "thing" ∨ fl = "tries"
/-- what the written part says of an error's class at C -/
structure EC (K : Frag) (C : Addr) : Prop where
  ini : excInitIn K C excB "Exception.__new__" = true
  sa : findIn K (.ref C) "__setattr__" = some (some (.builtin "object.__setattr__"))
  ov : excOver K C excB = true
  hd : hasDictIn K C = true
  kp : keepIn K (.ref C) = true
  is : L2.ExcC K C
/-- .. and of its field and its __init__ -/
structure EI (K : Frag) (C fI : Addr) (fl qual : Str) : Prop where
  c : EC K C
  fls : IsFl fl
  nf : findIn K (.ref C) fl = some none
  iC : findIn K (.ref C) "__init__" = some (some (.ref fI))
  fn : ∃ (od : Option Addr) (doc pm : Value) (an : Option Addr) (cdv ct : Value) (osl : Array (Option Value)) (p1 p2 q1 q2 q3 q4 : Pos),
    K.lookup fI = some ⟨.type "function", od, .func (fnOf "__init__" qual (iA fl p1 p2) (iB fl q1 q2 q3 q4) (iS fl) .none .none doc pm an cdv ct), osl⟩ ∧ codeIn K cdv qual = true
/-- a made error: at e, its dict at d -/
structure Made (h h' : Heap) (e C d : Addr) (fl : Str) (v : Value) : Prop where
  keep : ∀ b o, h.get? b = some o → h'.get? b = some o
  new : h.objs.size ≤ e
  obj : ∃ t1 : Addr, h'.get? e = some { cls := .ref C, dict := some d, data := .fields #[.ref t1, .none, .none, .none, .bool false, .none] }
  dbig : h.objs.size ≤ d
  dne : d ≠ e
  ns : h'.Ns1 d (fun y => if y = fl then some v else none)
section
variable {prog : Program} {w : World} {A : Around} {E : Value → Shared → Prop} {R : Result → Shared → Prop} {s : Shared} {K : Frag} {C fI : Addr} {fl qual : Str}
theorem nameAt {M : Model} {s : Shared} {name : Str} {scope : Scope} {L a : Addr} {cd : Value} {m : Str → Option Value} {x : Str} {pos : Pos} {v : Value} {Q : Value → Shared → Prop} (hn : s.heap.Ns L m) (hv : m x = some v) (h : Q v s)
    (hk : scope.kind = .function) (hl : (envOfC name scope L a cd).kindOf x = some .local) (hd : (x == ("__debug__" : Str)) = false) : wpAny M A (eval (.Name x pos) (envOfC name scope L a cd)) Q E s :=
  wpAny_Name (wpAny_loadName_local hk hl hn hv h) hd
/-- self.fl = v on a fresh error -/
theorem storeE {x t0 : Addr} {tk : Tok} {v : Value} (T : EC K C) (nf : findIn K (.ref C) fl = some none) (X : K.In s.heap) (hx : s.heap.get? x = some (PX.excO C t0))
    (hq : ∀ h' tk' dx, (∀ b o, b ≠ x → s.heap.get? b = some o → h'.get? b = some o) → s.heap.objs.size ≤ dx → dx ≠ x → h'.get? x = some { cls := .ref C, dict := some dx, data := .fields #[.ref t0, .none, .none, .none, .bool false, .none] } →
      h'.Ns1 dx (fun y => if y = fl then some v else none) → R (.ok (.ret .none)) { s with heap := h', toks := tk' }) : codeAny (model prog w) A (.call (.builtin "object.__setattr__") ⟨[.ref x, .str fl tk, v], []⟩) R s := by
  refine osa_openX (od := none) F.store_Exception X ⟨hx, rfl, rfl, trivial⟩ T.ov (show takerIn K C fl = some none by unfold takerIn; rw [nf]; rfl) fun b => ?_
  obtain ⟨cd, hc, hd'⟩ := any_some T.hd
  have hxs : x ≠ s.heap.objs.size := Nat.ne_of_lt (Heap.lt_size hx)
  refine wpAny_bind (wpAny_pure (wpAny_bind (instanceDict_exc hx (looks_clsIn X hc) hd' ?_)))
  show wpAny _ _ (Builtin.ObjectAttr.storeInDict s.heap.objs.size (.str fl tk) fl v) _ _ _
  refine PX.store_in_new ?_ fun h' tk' hn' hs => ?_
  · exact ⟨_, #[], _, (Heap.get?_update_ne _ _ _ _ hxs.symm).trans (Heap.get?_push_at rfl rfl), rfl, fun e he => absurd he (by simp), fun _ => rfl⟩
  · have hx1 := Heap.get?_push_of_some (dictOf [] 0) hx
    refine hq h' tk' s.heap.objs.size (fun b o hb ho => ?_) (Nat.le_refl _) hxs.symm ?_ hn'
    · exact (hs.2 b (Nat.ne_of_lt (Heap.lt_size ho))).trans ((Heap.get?_update_ne _ _ _ _ hb).trans (Heap.get?_push_of_some _ ho))
    · exact (hs.2 x hxs).trans (Heap.get?_update_self _ hx1 rfl)
/-- the run of __init__ -/
theorem initRun (T : EI K C fI fl qual) {x t0 : Addr} {v : Value} {as : Args} (X : K.In s.heap) (hlim : s.heap.NoLimit) (hx : s.heap.get? x = some (PX.excO C t0)) (hroom : A.depth < recursionLimit)
    (has : as = ⟨[.ref x, v], []⟩ ∨ as = ⟨[.ref x], [(fl, v)]⟩)
    (hq : ∀ h' tk dx, (∀ b o, b ≠ x → s.heap.get? b = some o → h'.get? b = some o) → s.heap.objs.size ≤ dx → dx ≠ x → h'.get? x = some { cls := .ref C, dict := some dx, data := .fields #[.ref t0, .none, .none, .none, .bool false, .none] } →
      h'.Ns1 dx (fun y => if y = fl then some v else none) → R (.ok (.ret .none)) { s with heap := h', toks := tk }) : codeAny (model prog w) A (.call (.ref fI) as) R s := by
  obtain ⟨od, doc, pm, an, cdv, ct, osl, p1, p2, q1, q2, q3, q4, ho, hcd⟩ := T.fn
  have bd : BindsTo s (fnOf "__init__" qual (iA fl p1 p2) (iB fl q1 q2 q3 q4) (iS fl) .none .none doc pm an cdv ct) as [("self", .ref x), (fl, v)] := by
    rcases T.fls with e | e | e | e | e | e | e <;> subst e <;> rcases has with e | e <;> subst e <;> exact .of_eq (by first | rfl | with_unfolding_all rfl)
  have kd : ([(("self" : Str), Value.ref x), (fl, v)].all fun y => (iS fl).names.lookup y.1 == some .local || (iS fl).names.lookup y.1 == some .cell) = true := by
    rcases T.fls with e | e | e | e | e | e | e <;> subst e <;> first | rfl | with_unfolding_all rfl
  refine Att.call_fn X hlim ho hcd hroom bd kd (fun s₁ IC => ?_) rfl rfl rfl
  obtain ⟨h₁, tk₁, rfl⟩ := IC.toInCall.same
  have k : ∀ b o, s.heap.get? b = some o → h₁.get? b = some o := IC.toInCall.keep
  have hn := IC.toInCall.ns
  have X₁ : K.In h₁ := X.keeps k
  have hx₁ := k _ _ hx
  have z : s.heap.objs.size < h₁.objs.size := hn.lt
  show wpAny _ _ (execs _ _) _ _ _
  refine wpAny_execs_cons (plainObj_wpAny_Assign_Attribute ?_)
  have n1 : ∀ {a : Addr} {cd : Value}, (envOfC qual (iS fl) s.heap.objs.size a cd).kindOf fl = some .local := fun {a cd} => by
    rcases T.fls with e | e | e | e | e | e | e <;> subst e <;> first | rfl | with_unfolding_all rfl
  have n2 : ∀ {a : Addr} {cd : Value}, (envOfC qual (iS fl) s.heap.objs.size a cd).kindOf "self" = some .local := fun {a cd} => by
    rcases T.fls with e | e | e | e | e | e | e <;> subst e <;> first | rfl | with_unfolding_all rfl
  have n3 : (fl == ("__debug__" : Str)) = false := by
    rcases T.fls with e | e | e | e | e | e | e <;> subst e <;> decide +kernel
  refine nameAt (v := v) hn ?_ (nameAt (v := .ref x) hn ?_ ?_ rfl n2 (by decide +kernel)) rfl n1 n3
  · rcases T.fls with e | e | e | e | e | e | e <;> subst e <;> first | rfl | with_unfolding_all rfl | kernel_rfl
  · rcases T.fls with e | e | e | e | e | e | e <;> subst e <;> first | rfl | with_unfolding_all rfl | kernel_rfl
  refine set_plain X₁ (ox := PX.excO C t0) (od := none) ⟨hx₁, rfl, rfl, trivial⟩ T.c.sa ?_
  refine storeE T.c T.nf X₁ hx₁ fun h₃ tk₃ dx k₃ dn dne hx₃ hn₃ => ?_
  show wpAny _ _ (execs _ _) _ _ _
  exact wpAny_execs_nil (hq h₃ tk₃ dx (fun b o hb e => k₃ b o hb (k b o e)) (Nat.le_of_lt (Nat.lt_of_lt_of_le z dn)) dne hx₃ hn₃)
end
end KX
end PySem
set_option Elab.async false
set_option linter.all false
set_option maxRecDepth 100000
set_option maxHeartbeats 4000000
namespace PySem
namespace KX
open PySem.W PySem.Calls PyProof.Rows PySem.HandSPX
section
variable {prog : Program} {w : World} {A : Around} {E : Value → Shared → Prop} {R : Result → Shared → Prop} {s : Shared} {K : Frag} {C fI : Addr} {fl qual : Str}
theorem exMade (T : EI K C fI fl qual) {v : Value} {as : Args} (has : as = ⟨[v], []⟩ ∨ as = ⟨[], [(fl, v)]⟩) (X : K.In s.heap) (hlim : s.heap.NoLimit) (hroom : A.depth + 1 < recursionLimit)
    (hq : ∀ h' tk e d, Made s.heap h' e C d fl v → R (.ok (.ret (.ref e))) { s with heap := h', toks := tk }) : codeAny (model prog w) A (.call (.ref C) as) R s := by
  obtain ⟨nm, N, q, bs, bm, hdct, sn, sub, ab, col, dd, k0, k1, k2, k3, k5, hC, hT⟩ := excInit_of X T.c.ini
  obtain ⟨od, doc, pm, an, cdv, ct, osl, p1, p2, q1, q2, q3, q4, ho, hcd⟩ := T.fn
  obtain ⟨hp, g, dr, tk, os⟩ := s
  have hfI := X _ _ ho
  have fin : ∀ (pos : List Value) (c : Code) (as' : Args), (as' = ⟨[.ref (hp.objs.size + 1), v], []⟩ ∨ as' = ⟨[.ref (hp.objs.size + 1)], [(fl, v)]⟩) → (A.under c).depth = A.depth + 1 →
      codeAny (model prog w) (A.under c) (.call (.ref fI) as') (InitBack (hp.objs.size + 1) R) ⟨(hp.push (kdv_tup pos)).push (PX.excO C hp.objs.size), g, dr, tk, os⟩ := fun pos c as' ha hdp => by
    have k : ∀ b o, hp.get? b = some o → ((hp.push (kdv_tup pos)).push (PX.excO C hp.objs.size)).get? b = some o := fun b o e => Heap.get?_push_of_some _ (Heap.get?_push_of_some _ e)
    have hget : ((hp.push (kdv_tup pos)).push (PX.excO C hp.objs.size)).get? (hp.objs.size + 1) = some (PX.excO C hp.objs.size) := by heap_get
    refine initRun (s := ⟨(hp.push (kdv_tup pos)).push (PX.excO C hp.objs.size), g, dr, tk, os⟩) T (X.keeps k) (hlim.keeps k) hget ?_ ha fun h' tk' dx k' dn dne hx hns => ?_
    · rw [hdp]
      exact hroom
    · have z : hp.objs.size + 1 + 1 ≤ dx := by
        have q := dn
        rw [Heap.size_push, Heap.size_push] at q
        exact q
      exact ⟨rfl, hq h' tk' (hp.objs.size + 1) dx ⟨fun b o e => k' b o (Nat.ne_of_lt (Nat.lt_succ_of_lt (Heap.lt_size e))) (k b o e), Nat.le_succ _, ⟨_, hx⟩, Nat.le_trans (Nat.le_trans (Nat.le_succ _) (Nat.le_succ _)) z, dne, hns⟩⟩
  rcases has with rfl | rfl
  · refine PX.call_own F.excBase_Exception hT hC (looks_findIn X T.iC) (fun self => exc_bind hfI rfl self) (by show 1 ≤ sizeLine; rw [sizeLine_eq]; omega) (fin [v] _ _ (.inl rfl) ?_)
    first | rfl | simp [Around.under, Code.weight, Code.isCreation, Code.isGuard, Code.isCaller, Code.frames, Code.isFrame, guardIds]
  · refine callK F.excBase_Exception hT hC (looks_findIn X T.iC) (fun self => exc_bind hfI rfl self) (fin [] _ _ (.inr rfl) ?_)
    first | rfl | simp [Around.under, Code.weight, Code.isCreation, Code.isGuard, Code.isCaller, Code.frames, Code.isFrame, guardIds]
end
end KX
end PySem
namespace KL
open PySem L2 PySem.KX PySem.Spec PyProof.Rows
section
variable {X : Cx} {pins : List (Addr × Obj)} {σ : L2.St} {H : Hp} {s : Shared}
theorem invTwo {h' : Heap} {tk : Nat} {a C d : Addr} {fl : Str} {v : V} {u : Value} (I : Inv X pins σ H s) (M : Made s.heap h' a C d fl u) (rv : RelV v u) :
    H a = none ∧ H d = none ∧ Inv X pins σ (upd (upd H d (exd d [(fl, v)])) a (exo a C (some d))) { s with heap := h', toks := tk } := by
  have na : H a = none := I.hok.fresh M.new
  have nd : H d = none := I.hok.fresh M.dbig
  have fa : ∀ {b : Addr} {o : Obj}, s.heap.get? b = some o → b ≠ a := fun q => Nat.ne_of_lt (Nat.lt_of_lt_of_le (Heap.lt_size q) M.new)
  have fd : ∀ {b : Addr} {o : Obj}, s.heap.get? b = some o → b ≠ d := fun q => Nat.ne_of_lt (Nat.lt_of_lt_of_le (Heap.lt_size q) M.dbig)
  have S : Same H (upd (upd H d (exd d [(fl, v)])) a (exo a C (some d))) := fun b o e => by
    rw [upd_ne (ne_of_none e na), upd_ne (ne_of_none e nd)]
    exact e
  refine ⟨na, nd, I.un { keep := fun b o q _ _ _ => M.keep b o q, slot := fun b o q _ _ _ => ⟨o.slots, M.keep b o q⟩, free := fun b o q n _ => ?_, there := fun b o q _ => ⟨o, M.keep b o q⟩, tups := fun b xs q => S _ _ q, frzs := fun b o u q => S _ _ q, tbls := fun b ps q => ⟨#[], by rw [S _ _ q]; simp⟩ } fun b o e => ?_⟩
  · rw [upd_ne (fa q), upd_ne (fd q)]
    exact n
  · by_cases hb : b = a
    · subst hb
      rw [upd_same] at e
      cases e
      obtain ⟨t1, ho⟩ := M.obj
      exact exo_ok ho
    · rw [upd_ne hb] at e
      by_cases hd : b = d
      · subst hd
        rw [upd_same] at e
        cases e
        refine exd_ok M.ns fun f => ?_
        rw [lookup_put]
        by_cases hf : f = fl
        · rw [if_pos hf, if_pos hf]
          exact rv
        · rw [if_neg hf, if_neg hf]
          exact True.intro
      · rw [upd_ne hd] at e
        exact (I.hok b o e).stay (fun c w _ q => M.keep c w q) (fun c q => S _ _ q) fun c xs q => S _ _ q
end
/-- C(e) or C(fl = e) -/
def tEx (C : Addr) (fl : Str) (ta : TA) : TE := fun σ H Q => ta σ H fun vs H1 => ∃ v, vs = [v] ∧ ∀ a d, H1 a = none → H1 d = none → d ≠ a → Q (.ref a) (upd (upd H1 d (exd d [(fl, v)])) a (exo a C (some d)))
section
variable {X : Cx} {C fI : Addr} {fl qual x : Str} {p pos kpos : Pos} {e : Expr} {te : TE} {ta : TA}
theorem pe_ex (T : EI X.K C fI fl qual) (gC : X.mg x = some (.ref C)) (hr : Room 1 X.A) (hg : Gl X x) (ha : PA X [e] ta) (hdb : (x == ("__debug__" : Str)) = false := by decide) (he : starEach (e :: []) X.env = (false, eval e X.env) :: starEach [] X.env := by rfl)
    (hpl : (backTo pos (starEach [] X.env)).any (·.1) = false := by rfl) : PE X (.Call (.Name x p) [e] [] pos) (tEx C fl ta) := by
  refine ⟨fun pins s σ H Q I h => ?_⟩
  refine wpAny_Call_Name_kw (ld_glob I hg gC ?_ hdb)
  refine PySem.W.callWith_K (h₀ := X.base) I.ok.mod.kin T.c.kp (thn (ha.run pos pins s σ H _ I h) fun us s1 ⟨vs, H1, I1, r, v, ev, q⟩ => ⟨I1.kIn, ?_⟩) he hpl
  subst ev
  cases r with
  | cons rv rn =>
    cases rn
    rename_i u
    refine wpAny_call (exMade T (.inl rfl) I1.kIn I1.nolimit (by have := hr.dp; omega) fun h' tk a d M => ?_)
    obtain ⟨n1, n2, J⟩ := invTwo (tk := tk) I1 M rv
    exact ⟨.ref a, _, J, rfl, q a d n1 n2 M.dne⟩
theorem pe_exK (T : EI X.K C fI fl qual) (gC : X.mg x = some (.ref C)) (hr : Room 1 X.A) (hg : Gl X x) (ha : PE X e te) (hdb : (x == ("__debug__" : Str)) = false := by decide)
    (hall : (backToKw pos (keywordEach [⟨some fl, e, kpos⟩] X.env)).all (·.1.isSome) = true := by rfl) (hks : (backToKw pos (keywordEach [⟨some fl, e, kpos⟩] X.env)).filterMap (·.1) = [fl] := by rfl)
    (hpl : ((backTo pos (starEach [] X.env)).any (·.1) || (backToKw pos (keywordEach [⟨some fl, e, kpos⟩] X.env)).any (·.1.isNone)) = false := by rfl) :
    PE X (.Call (.Name x p) [] [⟨some fl, e, kpos⟩] pos) (tEx C fl (tCons te tNil)) := by
  refine ⟨fun pins s σ H Q I h => ?_⟩
  refine wpAny_Call_Name_kw (ld_glob I hg gC ?_ hdb)
  refine PySem.W.callWith_KW0 (h₀ := X.base) I.ok.mod.kin T.c.kp hall ?_ hpl
  refine thn ((pk_cons ha pk_nil).run pos pins s σ H _ I h) fun us s1 ⟨vs, H1, I1, r, v, ev, q⟩ => ⟨I1.kIn, ?_⟩
  rw [hks]
  subst ev
  cases r with
  | cons rv rn =>
    cases rn
    rename_i u
    refine wpAny_call (exMade T (.inr rfl) I1.kIn I1.nolimit (by have := hr.dp; omega) fun h' tk a d M => ?_)
    obtain ⟨n1, n2, J⟩ := invTwo (tk := tk) I1 M rv
    exact ⟨.ref a, _, J, rfl, q a d n1 n2 M.dne⟩
end
end KL
set_option Elab.async false
set_option linter.all false
set_option maxRecDepth 100000
set_option maxHeartbeats 4000000
namespace KL
open PySem L2 PySem.KX PySem.Spec PyProof.Rows
/-- an error's class without an __init__ -/
structure EB (K : PySem.W.Frag) (C : Addr) : Prop where
  c : EC K C
  ex : PySem.W.excIn K C excB "Exception.__new__" = true
/-- C() -/
def tEx0 (C : Addr) : TE := fun _ H Q => ∀ a, H a = none → Q (.ref a) (upd H a (exo a C none))
/-- e.f of an error -/
def tExAt (K : PySem.W.Frag) (f : Str) (te : TE) : TE := fun σ H Q => te σ H fun x H1 => ∃ (a C d : Addr) (fs : List (Str × V)) (v : V), x = .ref a ∧ EC K C ∧ PySem.W.findIn K (.ref C) f = some none ∧ H1 a = some (exo a C (some d)) ∧ H1 d = some (exd d fs) ∧ fs.lookup f = some v ∧ Q v H1
/-- an error stands at a -/
def ErrAt (H : Hp) (a C : Addr) : Prop := H a = some (exo a C none) ∨ ∃ d fs, H a = some (exo a C (some d)) ∧ H d = some (exd d fs)
/-- isinstance(e, c) -/
def rExIs (K : PySem.W.Frag) : List V → Hp → VK → Prop := fun xs H Q => ∃ (a C : Addr) (c : V) (cv : Value) (b : Bool), xs = [.ref a, c] ∧ EC K C ∧ ErrAt H a C ∧ ClsV c cv ∧ PySem.W.kitOne K (.ref C) cv = some b ∧ Q (.bl b) H
section
variable {X : Cx}
theorem pe_ex0 {C : Addr} {x : Str} {p pos : Pos} (T : EB X.K C) (gC : X.mg x = some (.ref C)) (hg : Gl X x) (hdb : (x == ("__debug__" : Str)) = false := by decide) : PE X (.Call (.Name x p) [] [] pos) (tEx0 C) := by
  refine ⟨fun pins s σ H Q I h => ?_⟩
  refine wpAny_Call_Name_kw (ld_glob I hg gC ?_ hdb)
  refine PySem.W.callWith_K0 I.kIn T.c.kp ?_
  obtain ⟨bm, N, nm, qn, bs, hdct, sn, sub, ab, col, dd, k0, k1, k2, k3, k5, mN, hC, hN, hni, O⟩ := exc_obj I.kIn T.ex
  obtain ⟨hp, g, dr, tk, os⟩ := s
  refine wpAny_call_exc_subT F.excBase_Exception O hC hN hni (fun h' a hm => ?_) (Nat.zero_le _)
  have hn : H a = none := I.hok.gone hm.new
  obtain ⟨t, ht, _, _⟩ := hm.there
  exact ⟨.ref a, upd H a (exo a C none), I.laidN (t' := tk) hm.keeps hm.new hn (exo_ok ht), rfl, h a hn⟩
theorem pe_exAt {e : Expr} {f : Str} {te : TE} {pos : Pos} (he : PE X e te) (hb : attributeBase e f X.env (eval e X.env) = eval e X.env := by rfl) : PE X (.Attribute e f pos) (tExAt X.K f te) := by
  refine ⟨fun pins s σ H Q I h => ?_⟩
  refine attr_of hb (thn (he.run pins s σ H _ I h) fun u s1 ⟨x, H1, I1, rx, a, C, d, fs, v, ex, T, nf, ha, hd, l, q⟩ => ?_)
  subst ex
  obtain rfl : u = Value.ref a := rx
  obtain ⟨t1, ho⟩ := exo_at I1.hok ha
  obtain ⟨mA, hns, hr⟩ := exd_at I1.hok hd
  obtain ⟨od, hod, hl⟩ := lookIn_ns hns
  obtain ⟨u, hu, ru⟩ := RelO.some_of (v := v) (o := mA f) (by rw [← l]; exact hr f)
  exact PySem.PX.exc_get I1.kIn ⟨ho, rfl, rfl, hod⟩ T.is.hg T.is.hk T.is.hs (PySem.W.findObj_own T.hd nf rfl (by rw [hl, hu])) (handed_of ru) ⟨v, H1, I1.tok _, ru, q⟩
theorem call_exIs : CallR X (.builtin "isinstance") (rExIs X.K) := by
  intro pins s σ H xs us Q I r h
  obtain ⟨a, C, c, cv, b, rfl, T, ea, kc, e, q⟩ := h
  obtain ⟨u1, u2, rfl, r1, r2⟩ := vals2 r
  have e2 := kc.eq r2
  subst e2
  cases (show u1 = Value.ref a from r1)
  have hcl : (PySem.W.clsIn X.K C).isSome = true := by
    obtain ⟨cd, hc, _⟩ := PySem.W.any_some T.hd
    rw [hc]
    rfl
  have go : ∀ {ox : Obj} {od : Option Obj}, PySem.W.InstAt s.heap a ox C od → wpAny (model X.prog X.w) X.A (call (.builtin "isinstance") [.ref a, u2]) (EP X pins σ Q) X.xe s := fun {ox od} J =>
    PySem.W.kia_one (PySem.W.kitx_exc hcl T.is.hg T.is.hk T.is.hs T.is.ha T.is.hn T.is.ht T.is.hm) I.kIn J e (fun z => nomatch z) fun tk => ⟨.bl b, H, I.tok tk, rfl, q⟩
  rcases ea with ea | ⟨d, fs, ea, ed⟩
  · obtain ⟨t1, ho⟩ := exo_at I.hok ea
    exact go (od := none) ⟨ho, rfl, rfl, trivial⟩
  · obtain ⟨t1, ho⟩ := exo_at I.hok ea
    obtain ⟨mA, hns, hr⟩ := exd_at I.hok ed
    obtain ⟨od, hod, hl⟩ := lookIn_ns hns
    exact go (od := some od) ⟨ho, rfl, rfl, hod⟩
end
end KL
set_option Elab.async false
set_option linter.all false
set_option maxRecDepth 100000
set_option maxHeartbeats 4000000
namespace KL
open PySem L2 PySem.KX PySem.Spec PyProof.Rows
/-- a def's promise where no guard stands around its call -/
structure FnG (P : Program) (w : World) (K : PySem.W.Frag) (mg : Str → Option Value) (base : Heap) (CX : CXT) (k : Nat) (f : Addr) (fd : FuncData) (ps : List Str) (sp : Sp) : Prop where
  len : ∀ vs H Q E, sp vs H Q E → vs.length = ps.length
  run : ∀ (A : Around) (outer : List Env) (s : Shared) (H : Hp) (args : Args) (us : List Value) (vs : List V) (Q : VK) (E : XK), A.guards = some [] → Room k A → Env0 P w K mg base A outer s H → BindsTo s fd args (ps.zip us) → Vals vs us → sp vs H Q E →
    codeAny (model P w) A (.call (.ref f) args) (CR CX outer P w H s Q E) s
section
variable {P : Program} {w : World} {K : PySem.W.Frag} {mg : Str → Option Value} {base : Heap}
theorem fnG {CX : CXT} {k : Nat} {f : Addr} {qual x : Str} {st : Stmt} {N ps : List Str} {sp : Sp} {fd : FuncData} (F : Fun K x qual st f fd) (S : FnScope N ps (defScope st)) (len : ∀ vs H Q E, sp vs H Q E → vs.length = ps.length)
    (hbody : ∀ (cdv : Value) (A : Around) (outer : List Env) (s : Shared) (H : Hp) (vs : List V) (Q : VK) (E : XK), A.guards = some [] → Room k (A.deeper (envOfC qual (defScope st) s.heap.objs.size f cdv)) → sp vs H Q E →
      ∃ t, PSs (cxOf CX P w K mg base N qual (defScope st) f cdv A outer s H E) (defBody st) t ∧ t { nx := fun _ H' => Q .non H', rt := Q } (start N vs) H) : FnG P w K mg base CX (k + 1) f fd ps sp := by
  obtain ⟨oc, od, kV, doc, pm, an, cdv, ct, osl, rfl, lk, hcd⟩ := F.ex
  refine ⟨len, fun A outer s H args us vs Q E hg hr e0 hb r hs => ?_⟩
  have hl := len _ _ _ _ hs
  have KX := e0.mod.kin.keeps fun b o e => (e0.bs b o e).1
  have lim := e0.mod.nolimit.keeps fun b o e => (e0.bs b o e).1
  have hk : ∀ y ∈ ps.zip us, (defScope st).names.lookup y.1 = some .local ∨ ((defScope st).names.lookup y.1 = some .cell ∧ ((cellsFrom (s.heap.objs.size + 1) (defScope st).names []).lookup y.1).isSome = true) := by
    rintro ⟨n, v⟩ hy
    rcases S.par n (List.of_mem_zip hy).1 with q | q
    · exact Or.inl q
    · exact Or.inr ⟨q, PySem.W.cellsFrom_some _ _ _ (Or.inl q)⟩
  refine codeAny_call_function hr.depth (KX _ _ lk) rfl S.co S.gen rfl (PySem.W.codeRec_of KX hcd) (hb _ _ _ _ ?_)
  refine wpAny_newFunctionEnv_cells S.kind hk fun env he s1 z => ?_
  subst he
  refine ⟨lim.keeps z.toInCall.keep, codeAny_func ?_⟩
  obtain ⟨t, ht, hq⟩ := hbody cdv A outer s H vs Q E hg (hr.deeper _) hs
  have J0 := inv_start (CX := CX) (E := E) S hr.hd e0 hl r z
  refine wpAny_mono (ht.run [] s1 (start N vs) H _ J0 hq) (fun fl s' y => ?_) fun e s' y => y
  match fl, y with
  | .ret u, ⟨v, σ', H', J, rv, q⟩ => exact ⟨v, H', J.os, J.bare, J.base, J.hok, rv, q⟩
  | .next, ⟨σ', H', J, q⟩ => exact ⟨V.non, H', J.os, J.bare, J.base, J.hok, rfl, q⟩
  | .brk, ⟨_, _, _, q⟩ => exact q.elim
  | .cont, ⟨_, _, _, q⟩ => exact q.elim
end
section
variable {X : Cx} {CX : CXT} {k : Nat} {f : Addr} {fd : FuncData} {ps : List Str} {sp : Sp} {E : XK} {x : Str} {p pos : Pos} {e : Expr} {es : List Expr} {t : TA}
theorem pe_callG (F : FnG X.prog X.w X.K X.mg X.base CX k f fd ps sp) (hG : X.A.guards = some []) (hr : Room k X.A) (hg : Gl X x) (hm : X.mg x = some (.ref f)) (hk : PySem.W.keepIn X.K (.ref f) = true) (hb : L2.Binds X.K fd ps []) (hx : Passes CX X E)
    (ha : PA X (e :: es) t) (hdb : (x == ("__debug__" : Str)) = false := by decide) (he : starEach (e :: es) X.env = (false, eval e X.env) :: starEach es X.env := by rfl) (hpl : (backTo pos (starEach es X.env)).any (·.1) = false := by rfl) :
    PE X (.Call (.Name x p) (e :: es) [] pos) (tCall sp [] E t) := by
  refine ⟨fun pins s σ H Q I h => ?_⟩
  refine wpAny_Call_Name_kw (ld_glob I hg hm ?_ hdb)
  refine PySem.W.callWith_K (h₀ := X.base) I.ok.mod.kin hk (thn (ha.run pos pins s σ H _ I h) fun us s1 ⟨vs, H1, I1, r, q⟩ => ⟨I1.kIn, ?_⟩) he hpl
  have q' : sp vs H1 Q E := by
    have z : sp (vs ++ []) H1 Q E := q
    rwa [List.append_nil] at z
  have hl : (us ++ []).length = ps.length := by
    rw [List.append_nil, ← r.length]
    exact F.len _ _ _ _ q'
  have bd := hb s1 us I1.kIn hl
  rw [List.append_nil] at bd
  refine wpAny_call (codeAny_mono (F.run X.A X.stack s1 H1 ⟨us, []⟩ us vs Q E hG hr I1.env0 bd r q') fun res s' y => ?_)
  match res, y with
  | .error er, y => exact hx pins σ H1 s1 er s' I1 y
  | .ok (.ret u), y => exact I1.after y
  | .ok .next, y => exact False.elim y
  | .ok .brk, y => exact False.elim y
  | .ok .cont, y => exact False.elim y
end
section
variable {P : Program} {w : World} {K : PySem.W.Frag} {mg mb : Str → Option Value} {CX : CXT} {k : Nat} {fa a : Addr} {fd : FuncData} {x : Str} {sp : Sp} {s1 : Shared} {vs : List Value} {ns : List Int}
/-- the law's call, from a heap in which the script alone may be tracked -/
theorem law_core (KX : K.In s1.heap) (hns : s1.heap.Ns mainGlobals mg) (hb : s1.heap.Ns builtinsNs mb) (hbb : ∀ x : Str, x ≠ "__name__" → mb x = bootBuiltins x) (hlim : s1.heap.NoLimit) (hg : s1.gens = #[])
    (ha : s1.heap.get? a = some { cls := .type "list", data := .seq vs.toArray }) (hr : Room k PySem.callerA)
    (F : ∀ base : Heap, K.In base → base.Ns mainGlobals mg → FnG P w K mg base CX k fa fd [x] sp) (hbind : ∀ (s : Shared) (u : Value), BindsTo s fd ⟨[u], []⟩ [(x, u)])
    (hCX : ∀ H e s', CX [] H s1 (fun _ _ _ => False) e s' → False) (H : Hp) (hO : Only H) (q0 : sp [.ref a] H (fun v _ => v = .bl true) fun _ _ _ => False) (hok : HOk P w H s1.heap) (hA : ∀ b, H b ≠ none → b = a) (hK : H a ≠ none → K.lookup a = none) :
    codeAny (model P w) PySem.callerA (.call (.ref fa) ⟨[.ref a], []⟩) (fun r s' => r = .ok (.ret (.bool true)) ∧ OldK s1.heap s'.heap ∧ s'.os = s1.os ∧ AllBare s'.gens) s1 := by
  have only_a : ∀ {b : Addr} {u : HO}, H b = some u → b = a := fun {b u} q => hA b (by rw [q]; simp)
  have dict_free : ∀ {b : Addr} {o : Obj} {es : Array DictEntry} {ep : Nat}, s1.heap.get? b = some o → o.data = .dict es ep → H b = none := fun {b o es ep} e d => by
    cases q : H b with
    | none => rfl
    | some u =>
      have z := only_a q
      subst z
      rw [ha] at e
      cases e
      have d' : Data.seq vs.toArray _ = Data.dict es ep := d
      cases d'
  have up : ∀ {b : Addr} {m : Str → Option Value}, s1.heap.Ns b m → (hidT s1.heap H).Ns b m := fun {b m} ⟨o, es, ep, e, d, r⟩ => ⟨o, es, ep, hidT_get e (dict_free e d), d, r⟩
  have kIn : K.In (hidT s1.heap H) := fun b o e => by
    refine hidT_get (KX b o e) ?_
    cases q : H b with
    | none => rfl
    | some u =>
      have z := only_a q
      subst z
      rw [hK (by rw [q]; simp)] at e
      cases e
  have M : Mod K mg (hidT s1.heap H) := ⟨kIn, up hns, ⟨mb, up hb, hbb⟩, let ⟨mc, y1, y2⟩ := hlim; ⟨mc, up y1, y2⟩⟩
  have nil : ∀ b : Addr, b ∉ ([] : List Addr) := fun b z => by simp at z
  have e0 : Env0 P w K mg (hidT s1.heap H) PySem.callerA [] s1 H := ⟨rfl, M, fun b o e => of_hidT e, Nat.le_of_eq (hidT_size _ _), trivial, fun b z => absurd z (nil b), hok, .of_eq hg⟩
  refine codeAny_mono ((F _ kIn (up hns)).run PySem.callerA [] s1 H ⟨[.ref a], []⟩ [.ref a] [.ref a] _ _ rfl hr e0 (hbind s1 (.ref a)) (.cons rfl .nil) q0) fun r s' y => ?_
  match r, y with
  | .error e, y => exact (hCX H e s' y).elim
  | .ok .next, y => exact y.elim
  | .ok .brk, y => exact y.elim
  | .ok .cont, y => exact y.elim
  | .ok (.ret u), ⟨v, H', os, bare, un, hok', rv, q⟩ =>
    have q' : v = .bl true := q
    subst q'
    have eu : u = Value.bool true := rv
    subst eu
    refine ⟨rfl, OldK.of_keep fun b o e => ?_, os, bare⟩
    cases q : H b with
    | none => exact un.keep b o e q (nil b) (nil b)
    | some u =>
      rcases hO b with z | ⟨ob, xs, z⟩
      · rw [q] at z
        cases z
      · have e1 := (hok b _ z).1
        have e2 := (hok' b _ (un.frzs b ob _ z)).1
        rw [e] at e1
        cases e1
        exact e2
theorem law_callG (KX : K.In s1.heap) (hns : s1.heap.Ns mainGlobals mg) (hb : s1.heap.Ns builtinsNs mb) (hbb : ∀ x : Str, x ≠ "__name__" → mb x = bootBuiltins x) (hlim : s1.heap.NoLimit) (hg : s1.gens = #[])
    (ha : s1.heap.get? a = some { cls := .type "list", data := .seq vs.toArray }) (hi : IntsAre vs ns) (hl : ns.length ≤ sizeLine) (hr : Room k PySem.callerA)
    (F : ∀ base : Heap, K.In base → base.Ns mainGlobals mg → FnG P w K mg base CX k fa fd [x] sp) (hbind : ∀ (s : Shared) (u : Value), BindsTo s fd ⟨[u], []⟩ [(x, u)])
    (hsp : ∀ H : Hp, Only H → SqL K H a (ns.map V.int) → sp [.ref a] H (fun v _ => v = .bl true) fun _ _ _ => False) (hCX : ∀ H e s', CX [] H s1 (fun _ _ _ => False) e s' → False) :
    codeAny (model P w) PySem.callerA (.call (.ref fa) ⟨[.ref a], []⟩) (fun r s' => r = .ok (.ret (.bool true)) ∧ OldK s1.heap s'.heap ∧ s'.os = s1.os ∧ AllBare s'.gens) s1 := by
  have rv := vals_ints hi
  have lenV := hi.length
  cases hk : K.lookup a with
  | some o =>
    have e := KX a o hk
    rw [ha] at e
    cases e
    have hO : Only (fun _ => none) := fun _ => .inl rfl
    refine law_core KX hns hb hbb hlim hg ha hr F hbind hCX (fun _ => none) hO (hsp _ hO (.inr ⟨_, vs.toArray, _, hk, rfl, rfl, rfl, by rw [List.size_toArray, lenV]; exact hl, by simpa using rv⟩)) (fun b u z => ?_) (fun b z => absurd rfl z) fun z => absurd rfl z
    have z' : (none : Option HO) = some u := z
    cases z'
  | none =>
    let T : Hp := fun b => if b = a then some (.frz { cls := .type "list", data := .seq vs.toArray } (.lst (ns.map V.int))) else none
    have Ta : T a = some (.frz { cls := .type "list", data := .seq vs.toArray } (.lst (ns.map V.int))) := if_pos rfl
    have Tb : ∀ b, b ≠ a → T b = none := fun b hb => if_neg hb
    have hO : Only T := fun b => by
      by_cases z : b = a
      · exact .inr ⟨_, _, by rw [z]; exact Ta⟩
      · exact .inl (Tb b z)
    refine law_core KX hns hb hbb hlim hg ha hr F hbind hCX T hO (hsp T hO (.inl (.inr ⟨_, Ta⟩))) (fun b u z => ?_) (fun b z => ?_) fun _ => hk
    · by_cases y : b = a
      · subst y
        have z' := Ta.symm.trans z
        cases z'
        exact ⟨ha, by rw [List.length_map]; exact hl, vs, _, rv, ha⟩
      · have z' := (Tb b y).symm.trans z
        cases z'
    · by_cases y : b = a
      · exact y
      · exact absurd (Tb b y) z
end
/-- the goal that the head leaves, from the law's promise -/
theorem walkG {l : PySem.W.OpenLaw} {n k : Nat} {q : Program} {loose : List Str} {XP : (Str → Option Value) → Heap → Prop} {YP : World → Heap → Prop} {d : DefRec} {K : Params → PySem.W.Frag} {CX : World → CXT} {sp : World → Sp} {x : Str}
    (hn : l.most = some n) (hn2 : n ≤ sizeLine) (hdf : d.params.defaults = []) (hr : Room k PySem.callerA) (hY : ∀ (w : World) (h : Heap), YP w h → (K w.params).In h)
    (F : ∀ (w : World) (mg : Str → Option Value) (fa : Addr) (h : Heap), (K w.params).In h → h.Ns mainGlobals mg → mg d.name = some (.ref fa) →
      ∃ fd : FuncData, (∀ (s : Shared) (u : Value), BindsTo s fd ⟨[u], []⟩ [(x, u)]) ∧ ∀ base : Heap, (K w.params).In base → base.Ns mainGlobals mg → FnG l.prog w (K w.params) mg base (CX w) k fa fd [x] (sp w))
    (hsp : ∀ (w : World) (H : Hp) (a : Addr) (ns : List Int), ns.length ≤ n → Only H → SqL (K w.params) H a (ns.map V.int) → sp w [.ref a] H (fun v _ => v = .bl true) fun _ _ _ => False)
    (hCX : ∀ (w : World) (H : Hp) (s : Shared) (e : Value) (s' : Shared), CX w [] H s (fun _ _ _ => False) e s' → False) : PySem.W.WalkO q loose XP YP l.row.toRowW d [] (fun f vs => PySem.call f vs) := by
  refine Att.attach_call hn hdf fun w s0 s1 mg mb fa o pm cd doc a vs ns G Y ho hd hcd hmg hobj hints hlen hg => ?_
  have KX := hY w _ Y
  obtain ⟨fd, hb, hF⟩ := F w mg fa _ KX G.T.g hmg
  exact law_callG KX G.T.g G.T.b G.T.builtins G.T.nolimit hg hobj hints (Nat.le_trans hlen hn2) hr hF hb (fun H hO hS => hsp w H a ns hlen hO hS) fun H e s' => hCX w H s1 e s'
end KL
set_option Elab.async false
set_option linter.all false
set_option maxRecDepth 100000
set_option maxHeartbeats 4000000
namespace KL
open PySem L2 PySem.KX PySem.Spec PyProof.Rows
theorem fnG0 {P : Program} {w : World} {K : PySem.W.Frag} {mg : Str → Option Value} {base : Heap} {k : Nat} {f : Addr} {qual x : Str} {st : Stmt} {N ps : List Str} {sp : Sp} {fd : FuncData} (F : Fun K x qual st f fd) (S : FnScope N ps (defScope st)) (len : ∀ vs H Q E, sp vs H Q E → vs.length = ps.length)
    (hbody : ∀ (cdv : Value) (A : Around) (outer : List Env) (s : Shared) (H : Hp) (vs : List V) (Q : VK) (E : XK), A.guards = some [] → Room k (A.deeper (envOfC qual (defScope st) s.heap.objs.size f cdv)) → sp vs H Q E →
      ∃ t, PSs (cxOf CX0 P w K mg base N qual (defScope st) f cdv A outer s H E).nox (defBody st) t ∧ t { nx := fun _ H' => Q .non H', rt := Q } (start N vs) H) : FnG P w K mg base CX0 (k + 1) f fd ps sp :=
  fnG F S len fun cdv A outer s H vs Q E hg hr hs => by
    obtain ⟨t, ht, hq⟩ := hbody cdv A outer s H vs Q E hg hr hs
    exact ⟨t, ht.nox, hq⟩
/-- what a raised error leaves to be wished for -/
def tMkX (C : Addr) (fl : Str) (ta : TA) : L2.St → Hp → XK → Prop := fun σ H Q => ta σ H fun vs H1 => ∃ v, vs = [v] ∧ ∀ d, H1 d = none → Q (.ref C) (some d) (upd H1 d (.xd [(fl, v)]))
section
variable {X : Cx} {C fI : Addr} {fl qual x : Str} {p pos kpos : Pos} {e : Expr} {te : TE} {ta : TA}
theorem mkpOf {pins : List (Addr × Obj)} {σ : L2.St} {H : Hp} {s : Shared} {h' : Heap} {tk : Nat} {a d : Addr} {v : V} {u : Value} {Q : XK} (I : Inv X pins σ H s) (M : Made s.heap h' a C d fl u) (rv : RelV v u) (hR : Raises X (.ref C)) (q : ∀ d, H d = none → Q (.ref C) (some d) (upd H d (.xd [(fl, v)]))) :
    MkP X pins σ Q (.ref a) { s with heap := h', toks := tk } := by
  have nd : H d = none := I.hok.fresh M.dbig
  have na : H a = none := I.hok.fresh M.new
  obtain ⟨G, g1, g2⟩ := restrict h' fun b => decide (b ≠ a)
  have gk : ∀ b, b ≠ a → G.get? b = h'.get? b := fun b hb => g1 b (decide_eq_true hb)
  have ga : G.get? a = none := g2 a (by simp)
  have gs : ∀ b o, G.get? b = some o → h'.get? b = some o := fun b o e => by
    by_cases hb : b = a
    · rw [hb, ga] at e
      cases e
    · rw [← gk b hb]
      exact e
  obtain ⟨o, es, ep, y1, y2⟩ := M.ns
  have new : ObjOk X.prog X.w (upd H d (.xd [(fl, v)])) G d (.xd [(fl, v)]) := by
    refine ⟨_, ⟨o, es, ep, (gk d M.dne).trans y1, y2⟩, fun f => ?_⟩
    rw [lookup_put]
    by_cases hf : f = fl
    · rw [if_pos hf, if_pos hf]
      exact rv
    · rw [if_neg hf, if_neg hf]
      exact True.intro
  have J := I.laid (t' := tk) (a := d) (o := .xd [(fl, v)]) (h' := G) (fun b o e => (gk b (Nat.ne_of_lt (Nat.lt_of_lt_of_le (Heap.lt_size e) M.new))).trans (M.keep b o e)) M.dbig new
  obtain ⟨t1, ho⟩ := M.obj
  exact ⟨a, _, _, { s with heap := G, toks := tk }, _, .ref C, some d, rfl, J, gs, ga, ho, ⟨rfl, rfl⟩, rfl, rfl, by rw [upd_ne M.dne.symm]; exact na, rfl, I.bare, hR, q d nd⟩
theorem pmk_ex (T : EI X.K C fI fl qual) (tC : PySem.W.typeIn X.K (.ref C) = some (.type "type")) (gC : X.mg x = some (.ref C)) (hr : Room 1 X.A) (hg : Gl X x) (ha : PA X [e] ta) (hdb : (x == ("__debug__" : Str)) = false := by decide) (he : starEach (e :: []) X.env = (false, eval e X.env) :: starEach [] X.env := by rfl)
    (hpl : (backTo pos (starEach [] X.env)).any (·.1) = false := by rfl) : PMk X (.Call (.Name x p) [e] [] pos) (tMkX C fl ta) := by
  intro pins s σ H Q I h
  refine wpAny_Call_Name_kw (ld_glob I hg gC ?_ hdb)
  refine PySem.W.callWith_K (h₀ := X.base) I.ok.mod.kin T.c.kp (thn (ha.run pos pins s σ H _ I h) fun us s1 ⟨vs, H1, I1, r, v, ev, q⟩ => ⟨I1.kIn, ?_⟩) he hpl
  subst ev
  cases r with
  | cons rv rn =>
    cases rn
    exact wpAny_call (exMade T (.inl rfl) I1.kIn I1.nolimit (by have := hr.dp; omega) fun h' tk a d M => mkpOf I1 M rv (raises_own T.c.is.hs tC) q)
theorem pmk_exK (T : EI X.K C fI fl qual) (tC : PySem.W.typeIn X.K (.ref C) = some (.type "type")) (gC : X.mg x = some (.ref C)) (hr : Room 1 X.A) (hg : Gl X x) (ha : PE X e te) (hdb : (x == ("__debug__" : Str)) = false := by decide)
    (hall : (backToKw pos (keywordEach [⟨some fl, e, kpos⟩] X.env)).all (·.1.isSome) = true := by rfl) (hks : (backToKw pos (keywordEach [⟨some fl, e, kpos⟩] X.env)).filterMap (·.1) = [fl] := by rfl)
    (hpl : ((backTo pos (starEach [] X.env)).any (·.1) || (backToKw pos (keywordEach [⟨some fl, e, kpos⟩] X.env)).any (·.1.isNone)) = false := by rfl) : PMk X (.Call (.Name x p) [] [⟨some fl, e, kpos⟩] pos) (tMkX C fl (tCons te tNil)) := by
  intro pins s σ H Q I h
  refine wpAny_Call_Name_kw (ld_glob I hg gC ?_ hdb)
  refine PySem.W.callWith_KW0 (h₀ := X.base) I.ok.mod.kin T.c.kp hall ?_ hpl
  refine thn ((pk_cons ha pk_nil).run pos pins s σ H _ I h) fun us s1 ⟨vs, H1, I1, r, v, ev, q⟩ => ⟨I1.kIn, ?_⟩
  rw [hks]
  subst ev
  cases r with
  | cons rv rn =>
    cases rn
    exact wpAny_call (exMade T (.inr rfl) I1.kIn I1.nolimit (by have := hr.dp; omega) fun h' tk a d M => mkpOf I1 M rv (raises_own T.c.is.hs tC) q)
/-- isinstance of the error that the suite holds -/
def rIsX (K : PySem.W.Frag) (a : Addr) (cls : Value) (d : Option Addr) : List V → Hp → VK → Prop := fun xs H Q => ∃ (D dd : Addr) (fs : List (Str × V)) (c : V) (cv : Value) (b : Bool), xs = [.ref a, c] ∧ cls = .ref D ∧ d = some dd ∧ H dd = some (.xd fs) ∧ EC K D ∧ ClsV c cv ∧ PySem.W.kitOne K (.ref D) cv = some b ∧ Q (.bl b) H
theorem call_isX {a : Addr} {oe : Obj} {cls : Value} {d : Option Addr} {pn : List (Addr × Obj)} (hz : Zc cls d oe) (hf : ∃ vs, oe.data = .fields vs) : CallR (X.suite a ((a, oe) :: pn)) (.builtin "isinstance") (rIsX X.K a cls d) := by
  intro pins s σ H xs us Q I r h
  obtain ⟨D, dd, fs, c, cv, b, rfl, rfl, rfl, hd, T, kc, e, q⟩ := h
  obtain ⟨u1, u2, rfl, r1, r2⟩ := vals2 r
  have e2 := kc.eq r2
  subst e2
  cases (show u1 = Value.ref a from r1)
  obtain ⟨ha, _⟩ := I.pin (a, oe) (List.mem_append_left _ List.mem_cons_self)
  obtain ⟨vs, hv⟩ := hf
  have hx : ObjOk X.prog X.w H s.heap dd (.xd fs) := I.hok dd _ hd
  obtain ⟨mA, hns, _⟩ := hx
  obtain ⟨od, hod, _⟩ := lookIn_ns hns
  have J : PySem.W.InstAt s.heap a oe D (some od) := ⟨ha, hz.1, by unfold PySem.W.notCls; rw [hv] <;> rfl, by rw [hz.2]; exact hod⟩
  have hcl : (PySem.W.clsIn X.K D).isSome = true := by
    obtain ⟨cd, hc, _⟩ := PySem.W.any_some T.hd
    rw [hc]
    rfl
  exact PySem.W.kia_one (PySem.W.kitx_exc hcl T.is.hg T.is.hk T.is.hs T.is.ha T.is.hn T.is.ht T.is.hm) I.kIn J e (fun z => nomatch z) fun tk => ⟨.bl b, H, I.kept (t' := tk) fun _ _ z => z, rfl, q⟩
end
end KL
set_option Elab.async false
set_option linter.all false
set_option maxRecDepth 100000
set_option maxHeartbeats 2000000
namespace KL
open PySem L2 PySem.Spec PyProof.Rows
/-- d[t] = v in a comprehension, t a tuple of ints and texts -/
theorem dt_put {X : Cx} {pins : List (Addr × Obj)} {σ : L2.St} {H : Hp} {s : Shared} {A : Around} {E : Value → Shared → Prop} {D b : Addr} {kvs : List (List Key × V)} {k : List Key} {v : V} {r : Value} {Q : Unit → Shared → Prop} (hu : A.units < cLine) (I : Inv X pins σ H s)
    (hD : H D = some (.dT kvs)) (hz : kvs.length < sizeLine) (hb : H b = some (.tup (k.map kV))) (rv : RelV v r) (q : ∀ t, Inv X pins σ (upd H D (.dT (putK kvs k v))) t → Q () t) : wpAny (model X.prog X.w) A (dictSet D (.ref b) r) Q E s := by
  obtain ⟨z, hd, xs, rel, dd⟩ := dt_of I.hok hD
  have lx : xs.length ≤ sizeLine := (Paired.length rel) ▸ z
  have lp : (putK kvs k v).length ≤ sizeLine := Nat.le_trans (length_putK kvs k v) hz
  refine wpAny_dictSet_heap (hsz := lx) (show (tupleKind (mixKind X.prog X.w)).room A from hu) (key_of I.hok hb) dd fun h2 d2 same2 => q _ ?_
  obtain ⟨o, es, ep, q1, q2, q3, q4, _, q5⟩ := d2
  refine d_write I (by rw [hD]; exact True.intro) same2 ⟨o, q1⟩ ⟨lp, hd, _, (rel.put k hb rv).keeps fun c ys ec => ?_, o, es, ep, q1, q2, q3, q4, q5⟩
  rw [upd_ne (ne_of ec hD (fun z => nomatch z)), ec]
section
variable {B : Cx} {kx vx tg iter : Expr} {scope : Scope} {pos : Pos} {g : TG} {tk tv : TE} {vs : List Nat} {σ0 : L2.St} {J : It} {fp : List Addr} {it D : Addr} {tn : Nat → Heap → Prop} {W : Nat → Nat → Hp → Prop} {Fin : Hp → Prop} {R : Result → Shared → Prop}
/-- the turns of {k: v for target in iter}, keys tuples -/
theorem dt_loop (hc : B.calm = true) (hu : B.A.units < cLine) (T : Turn B.prog B.w B.K tg J fp it tn) (own : ∀ (σ' : L2.St) (H' : Hp) (s' : Shared), Inv B [] σ' H' s' → (∀ b ∈ fp, H' b = none) → ∀ b ∈ fp, FpOk B [] H' b)
    (gq : PG B tg g) (kq : PE B kx tk) (vq : PE B vx tv)
    (turns : ∀ i m H, W i m H → (J.stop i H ∧ Fin H) ∨ (J.go i H ∧ ∃ Nx : Hp → Prop, (∀ H', Nx H' → ∃ m', m' < m ∧ W (i + 1) m' H') ∧ ∀ x H', J.yld i H x H' → g x σ0 H' fun σ2 H2 => wipe σ2 vs = σ0 ∧
      tk σ2 H2 fun y H4 => tv σ2 H4 fun z H5 => ∃ (kvs : List (List Key × V)) (k : List Key) (b : Addr), y = .ref b ∧ H5 b = some (.tup (k.map kV)) ∧ H5 D = some (.dT kvs) ∧ kvs.length < sizeLine ∧ Nx (upd H5 D (.dT (putK kvs k z)))))
    (fin : ∀ s' H', Inv B [] σ0 H' s' → Fin H' → R (.ok .next) s') {m0 : Nat} {H0 : Hp} {s0 : Shared} (I0 : Inv B [] σ0 H0 s0) (t0 : tn 0 s0.heap) (n0 : ∀ b ∈ fp, H0 b = none) (w0 : W 0 m0 H0)
    (hxe : ∀ e s, B.xe e s → False) : codeAny (model B.prog B.w) B.A (.compLoop (.DictComp kx vx [⟨tg, iter, [], 0⟩] scope pos) 0 (.ref it) (.ref D) B.env) R s0 := by
  refine compLoop_anyD (fun n s' => ∃ i H', Inv B [] σ0 H' s' ∧ tn i s'.heap ∧ (∀ b ∈ fp, H' b = none) ∧ W i n H') ?_ m0 ⟨0, H0, I0, t0, n0, w0⟩
  rintro n s1 ⟨i, H1, I1, t1, n1, w1⟩
  have out : ∀ {α : Type} {m : Sem α} {Q Q' : α → Shared → Prop} {E' : Value → Shared → Prop} {s : Shared}, wpAny (model B.prog B.w) B.A m Q B.xe s → (∀ a s', Q a s' → Q' a s') → wpAny (model B.prog B.w) B.A m Q' E' s := fun h f => wpAny_mono h f fun e s' z => (hxe e s' z).elim
  have out0 : ∀ {α : Type} {m : Sem α} {Q Q' : α → Shared → Prop} {E' : Value → Shared → Prop} {s : Shared}, wpAny (model B.prog B.w) B.A m Q (fun _ _ => False) s → (∀ a s', Q a s' → Q' a s') → wpAny (model B.prog B.w) B.A m Q' E' s := fun h f => wpAny_mono h f fun _ _ z => z.elim
  rcases turns i n H1 w1 with ⟨st, fq⟩ | ⟨go, Nx, hN, step⟩
  · refine out0 (T.done B rfl rfl rfl hc i [] s1 _ H1 _ I1 (own _ _ _ I1 n1) t1 st) fun r s2 hr => ?_
    obtain ⟨rfl, I2⟩ := hr
    exact fin s2 H1 I2 fq
  · refine out0 (T.item B rfl rfl rfl hc i [] s1 _ H1 _ I1 (own _ _ _ I1 n1) t1 go) fun r s2 hr => ?_
    obtain ⟨u, rfl, h2⟩ := hr
    refine out0 h2 fun _ s3 h3 => ?_
    obtain ⟨x, H3, I3, r3, y3, t3, n3⟩ := h3
    have P3 := I3.pinned (own _ _ _ I3 n3) (T.obj _ _ t3)
    refine out (gq.run _ s3 _ H3 x u _ P3 r3 (step x H3 y3)) fun _ s4 h4 => ?_
    obtain ⟨σ4, H4, I4, w4, q4⟩ := h4
    show wpAny _ _ (forIn ([] : List Expr) true _) _ _ _
    refine wpAny_pure ?_
    rw [if_pos rfl]
    refine out (kq.run _ s4 σ4 H4 _ I4 q4) fun uk s5 h5 => ?_
    obtain ⟨yk, H5, I5, r5, q5⟩ := h5
    refine out (vq.run _ s5 σ4 H5 _ I5 q5) fun uv s6 h6 => ?_
    obtain ⟨yv, H6, I6, r6, kvs, k, b, ek, hb, hD, hz, nx⟩ := h6
    subst ek
    cases (show uk = Value.ref b from r5)
    refine dt_put hu I6 hD hz hb r6 fun s7 I7 => ?_
    obtain ⟨m', hm, w'⟩ := hN _ nx
    have pin : ∀ c ∈ fp, ∀ o, s3.heap.get? c = some o → s7.heap.get? c = some o ∧ upd H6 D (.dT (putK kvs k yv)) c = none := fun c hcf o e => by
      have z := I7.pin (c, o) (List.mem_append_right _ (List.mem_append_right _ (mem_pinsAt hcf e)))
      exact ⟨z.1, z.2.1⟩
    have l4 : σ0.length = σ4.length := by rw [← w4, wipe_length]
    refine ⟨m', hm, i + 1, _, (I7.unpinned (pins := [])).weak l4 (fun j v e => ?_), T.keep _ _ _ t3 fun c hcf o e => (pin c hcf o e).1, fun c hcf => ?_, w'⟩
    · rw [← w4] at e
      exact (wipe_some e).1
    · obtain ⟨o, e, _⟩ := T.obj _ _ t3 c hcf
      exact (pin c hcf o e).2
end
end KL
set_option Elab.async false
set_option linter.all false
set_option maxRecDepth 100000
set_option maxHeartbeats 2000000
namespace KL
open PySem L2 PySem.Spec PyProof.Rows
/-- {t: v for target in iter}, keys tuples of ints and texts -/
def tDcT (wi : TI) (g : TG) (tk tv : TE) (vs : List Nat) : TE := fun σ H Q => wi σ H fun J H1 => ∀ D, H1 D = none → ∃ W : Nat → Nat → Hp → Prop, (∃ m, W 0 m (upd H1 D (.dT []))) ∧ ∀ i m H, W i m H →
  (J.stop i H ∧ Q (.ref D) H) ∨ (J.go i H ∧ ∃ Nx : Hp → Prop, (∀ H', Nx H' → ∃ m', m' < m ∧ W (i + 1) m' H') ∧ ∀ x H', J.yld i H x H' → g x (wipe σ vs) H' fun σ2 H2 => wipe σ2 vs = wipe σ vs ∧
    tk σ2 H2 fun y H4 => tv σ2 H4 fun z H5 => ∃ (kvs : List (List Key × V)) (k : List Key) (b : Addr), y = .ref b ∧ H5 b = some (.tup (k.map kV)) ∧ H5 D = some (.dT kvs) ∧ kvs.length < sizeLine ∧ Nx (upd H5 D (.dT (putK kvs k z))))
section
variable {X : Cx}
theorem dt_core {pins : List (Addr × Obj)} {σ : L2.St} {H : Hp} {s : Shared} {Q : VK} {us : Option (Value → Sem Unit)} {Qz : Value → Shared → Prop} {pos2 : Pos} {kx vx tg iter : Expr} {scope : Scope} {own : List (Str × Nat)} {pos : Pos} {wi : TI} {g : TG} {tk tv : TE} (hc : X.calm = true) (hu : X.A.units < cLine) (hN : X.N.Nodup) (hi : PI X tg iter wi) (ok : BlkOk X.N X.env.scope scope own)
    (gq : ∀ (s : Shared) (H : Hp) (C : Addr) (cs : List (Str × Addr)) (fp : List Addr), PG (X.blk s H scope (compEnvC scope cs C X.env) fp) tg g)
    (kq : ∀ (s : Shared) (H : Hp) (C : Addr) (cs : List (Str × Addr)) (fp : List Addr), PE (X.blk s H scope (compEnvC scope cs C X.env) fp) kx tk)
    (vq : ∀ (s : Shared) (H : Hp) (C : Addr) (cs : List (Str × Addr)) (fp : List Addr), PE (X.blk s H scope (compEnvC scope cs C X.env) fp) vx tv) (fold : ∀ x, foldedSetIterable iter X.env x = pure x) (I : Inv X pins σ H s) (h : tDcT wi g tk tv (own.map (·.2)) σ H Q)
    (post : ∀ D C s' m H', Inv X pins σ H' s' → Q (.ref D) H' → s'.heap.Ns C m → FpOk X pins H' C → compPost (model X.prog X.w) X.A X.xe us Qz (.ref D) C (.ok .next) s') :
    wpAny (model X.prog X.w) X.A (comprehension (.DictComp kx vx [⟨tg, iter, [], 0⟩] scope pos) scope X.env pos2 newDict false (eval iter X.env) us) Qz X.xe s := by
  have has : ∀ y ∈ scope.names, y.2 = .free → ∃ c, X.env.cells.lookup y.1 = some c := fun y hy e => (ok.free y hy e).elim (fun k => I.ok.has _ (.inl k)) fun k => I.ok.has _ (.inr k)
  refine wpAny_comprehension_free rfl fold (closure_ok has) ok.kind (fun y hy e => (ok.uniq y hy).trans (congrArg some e)) (thn (hi.run pins s σ H _ I h) fun xv s1 hx => thn hx fun itv s2 h2 => ?_)
  obtain ⟨it, fp, tn, J, H2, rfl, I2, T, t2, f2, q⟩ := h2
  refine wpAny_newObj_type (newEnv_comp ?_)
  have nD : H2 s2.heap.objs.size = none := I2.hok.fresh (Nat.le_refl _)
  obtain ⟨W, ⟨m0, w0⟩, turns⟩ := q _ nD
  -- the dict is there
  let s3 : Shared := { s2 with heap := s2.heap.push { cls := .type "dict", data := .dict #[] } }
  have I3 : Inv X pins σ (upd H2 s2.heap.objs.size (.dT [])) s3 := I2.laid (t' := s2.toks) (fun b o e => Heap.get?_push_of_some _ e) (Nat.le_refl _) (dt_empty s2.heap I2.big)
  have f3 : ∀ b ∈ fp, FpOk X pins (upd H2 s2.heap.objs.size (.dT [])) b ∧ b < s3.heap.objs.size := fun b hb => by
    obtain ⟨o, e, _⟩ := T.obj _ _ t2 b hb
    have lt := Heap.lt_size e
    obtain ⟨z, r⟩ := f2 b hb
    refine ⟨⟨(upd_ne (Nat.ne_of_lt lt)).trans z, r⟩, ?_⟩
    show b < (s2.heap.push _).objs.size
    rw [Heap.size_push]
    exact Nat.lt_succ_of_lt lt
  have t3 : tn 0 s3.heap := T.keep _ _ _ t2 fun b _ o e => Heap.get?_push_of_some _ e
  have I4 := block_start I3 ok hN f3
  have gq := gq s3 (upd H2 s2.heap.objs.size (.dT [])) s3.heap.objs.size (cellsFrom (s3.heap.objs.size + 1) scope.names (cloFrom X.env.cells scope.names [])) fp
  have kq := kq s3 (upd H2 s2.heap.objs.size (.dT [])) s3.heap.objs.size (cellsFrom (s3.heap.objs.size + 1) scope.names (cloFrom X.env.cells scope.names [])) fp
  have vq := vq s3 (upd H2 s2.heap.objs.size (.dT [])) s3.heap.objs.size (cellsFrom (s3.heap.objs.size + 1) scope.names (cloFrom X.env.cells scope.names [])) fp
  have t4 : tn 0 (pushCells (s3.heap.push { cls := .type "dict", data := .dict #[] }) scope.names) := T.keep _ _ _ t3 fun b _ o e => pushCells_keeps _ _ _ _ (Heap.get?_push_of_some _ e)
  have loop := dt_loop (B := X.blk s3 (upd H2 s2.heap.objs.size (.dT [])) scope (compEnvC scope (cellsFrom (s3.heap.objs.size + 1) scope.names (cloFrom X.env.cells scope.names [])) s3.heap.objs.size X.env) fp) (iter := iter) (pos := pos) (scope := scope)
    (R := compPost (model X.prog X.w) X.A X.xe us Qz (.ref s2.heap.objs.size) s3.heap.objs.size) (vs := own.map (·.2)) (σ0 := wipe σ (own.map (·.2))) (D := s2.heap.objs.size) (Fin := fun H => Q (.ref s2.heap.objs.size) H) hc hu T
    (fun σ' H' s' I' hn b hb => ⟨hn b hb, (I'.ok.exf b hb).1, I'.ok.exfs b hb, .inl hb, fun x c e => (I'.ok.exf b hb).2 x c e, fun p hp => absurd hp (by simp)⟩)
    gq kq vq turns (fun s5 H5 I5 fq => ?_) I4 t4 (fun b hb => (f3 b hb).1.1) w0 (fun _ _ z => z)
  · exact codeAny_compStart_dict loop (T.self X.A 0 _ _ _ t4 loop)
  · have I6 : Inv X pins σ H5 s5 := I3.call' (ch := fp) I5.os I5.base I5.hok I5.bare fun b hb => by
      obtain ⟨_, z1, _, z3, z4, z5⟩ := (f3 b hb).1
      exact ⟨z3, z1, z4, z5⟩
    have nC : H5 s3.heap.objs.size = none := I5.free
    obtain ⟨m, hn, _⟩ := I5.loc
    exact post _ _ s5 m H5 I6 fq hn (I3.fpOk (Nat.le_refl _) nC)
theorem pe_dcT {kx vx tg iter : Expr} {scope : Scope} {own : List (Str × Nat)} {pos : Pos} {wi : TI} {g : TG} {tk tv : TE} (hc : X.calm = true) (hu : X.A.units < cLine) (hN : X.N.Nodup) (hi : PI X tg iter wi) (ok : BlkOk X.N X.env.scope scope own)
    (gq : ∀ (s : Shared) (H : Hp) (C : Addr) (cs : List (Str × Addr)) (fp : List Addr), PG (X.blk s H scope (compEnvC scope cs C X.env) fp) tg g)
    (kq : ∀ (s : Shared) (H : Hp) (C : Addr) (cs : List (Str × Addr)) (fp : List Addr), PE (X.blk s H scope (compEnvC scope cs C X.env) fp) kx tk)
    (vq : ∀ (s : Shared) (H : Hp) (C : Addr) (cs : List (Str × Addr)) (fp : List Addr), PE (X.blk s H scope (compEnvC scope cs C X.env) fp) vx tv) (fold : ∀ x, foldedSetIterable iter X.env x = pure x := by intro _; rfl) :
    PE X (.DictComp kx vx [⟨tg, iter, [], 0⟩] scope pos) (tDcT wi g tk tv (own.map (·.2))) := by
  refine ⟨fun pins s σ H Q I h => ?_⟩
  rw [arm_eval_DictComp]
  refine dt_core hc hu hN hi ok gq kq vq fold I h fun D C s5 m H5 I6 fq hn f => ⟨m, hn, fun h6 sb => ?_⟩
  obtain ⟨z0, z1, z2, z3, z4, z5⟩ := f
  exact ⟨.ref _, H5, I6.turned (t' := s5.toks) (fun b o hb e => (sb.2 b hb).trans e) z0 z1 z3 z4 z5, rfl, fq⟩
/-- y = {t: v for target in iter} -/
theorem ps_setDcT {i : Nat} {y : Str} {py spos : Pos} {kx vx tg iter : Expr} {scope : Scope} {own : List (Str × Nat)} {pos : Pos} {wi : TI} {g : TG} {tk tv : TE} (hy : X.N[i]? = some y) (hyl : X.env.scope.names.lookup y = some .local) (sw : swapsWith (.DictComp kx vx [⟨tg, iter, [], 0⟩] scope pos) (some (.Name y py)) spos.line X.env = pure true) (hc : X.calm = true) (hu : X.A.units < cLine) (hN : X.N.Nodup) (hi : PI X tg iter wi) (ok : BlkOk X.N X.env.scope scope own)
    (gq : ∀ (s : Shared) (H : Hp) (C : Addr) (cs : List (Str × Addr)) (fp : List Addr), PG (X.blk s H scope (compEnvC scope cs C X.env) fp) tg g)
    (kq : ∀ (s : Shared) (H : Hp) (C : Addr) (cs : List (Str × Addr)) (fp : List Addr), PE (X.blk s H scope (compEnvC scope cs C X.env) fp) kx tk)
    (vq : ∀ (s : Shared) (H : Hp) (C : Addr) (cs : List (Str × Addr)) (fp : List Addr), PE (X.blk s H scope (compEnvC scope cs C X.env) fp) vx tv) (fold : ∀ x, foldedSetIterable iter X.env x = pure x := by intro _; rfl) :
    PS X (.Assign [.Name y py] (.DictComp kx vx [⟨tg, iter, [], 0⟩] scope pos) spos) (tAsg (tDcT wi g tk tv (own.map (·.2))) (gName i)) := by
  refine ⟨fun pins s σ H D I h => ?_⟩
  rw [exec_Assign_Name_used _ _ _ _ sw, arm_evalThenUse_DictComp]
  have h : tDcT wi g tk tv (own.map (·.2)) σ H (fun x H1 => gName i x σ H1 D.nx) := h
  refine wpAny_bind (wpAny_standAt (wpAny_bind (wpAny_bind (thn (dt_core (Qz := fun _ t => SP X pins D .next t) hc hu hN hi ok gq kq vq fold I h fun L C s5 m H5 I6 fq hn f => ?_) fun _ t hq => wpAny_pure (wpAny_pure hq)))))
  show wpAny _ _ (assign (.Name y py) X.env (.ref L)) _ _ _
  refine wpAny_assign_Name (store_ok2 (v := V.ref L) I6 hN hy (.inl hyl) rfl (fun s2 I2 ⟨a, sb, ha⟩ => ?_) (.inr hyl))
  obtain ⟨z0, z1, z2, z3, z4, z5⟩ := f
  have nC : C ≠ a := ha.elim (fun z => z ▸ z1) fun z e => z4 y a z e.symm
  exact ⟨m, hn.sameBut sb nC, fun h6 sb6 => ⟨_, H5, I2.turned (t' := s2.toks) (fun b o hb e => (sb6.2 b hb).trans e) z0 z1 z3 z4 z5, fq⟩⟩
end
end KL
set_option Elab.async false
set_option linter.all false
set_option maxRecDepth 100000
set_option maxHeartbeats 2000000
namespace KL
open PySem L2 PySem.KX PySem.Spec PyProof.Rows
/-- a def that may raise -/
theorem fnX {P : Program} {w : World} {K : PySem.W.Frag} {mg : Str → Option Value} {base : Heap} {x qual : Str} {st : Stmt} {f : Addr} {fd : FuncData} {N ps : List Str} {k : Nat} {sp : Sp} (F : Fun K x qual st f fd) (S : FnScope N ps (defScope st)) (len : ∀ vs H Q E, sp vs H Q E → vs.length = ps.length)
    (hbody : ∀ (cdv : Value) (A : Around) (outer : List Env) (s : Shared) (H : Hp) (vs : List V) (Q : VK) (E : XK), Room k (A.deeper (envOfC qual (defScope st) s.heap.objs.size f cdv)) → sp vs H Q E →
      Takes (cxOf (L2.CX P w) P w K mg base N qual (defScope st) f cdv A outer s H E) (fun cls d _ H' => E cls d H') →
      PassesOwn (model P w) (A.deeper (envOfC qual (defScope st) s.heap.objs.size f cdv)) (envOfC qual (defScope st) s.heap.objs.size f cdv) (cxOf (L2.CX P w) P w K mg base N qual (defScope st) f cdv A outer s H E).xe →
      ∃ t, PSs (cxOf (L2.CX P w) P w K mg base N qual (defScope st) f cdv A outer s H E) (defBody st) t ∧ t { nx := fun _ H' => Q .non H', rt := Q } (start N vs) H) : FnOk P w K mg base (L2.CX P w) (k + 1) f fd ps sp := by
  obtain ⟨oc, od, kV, doc, pm, an, cdv, ct, osl, rfl, lk, hcd⟩ := F.ex
  exact fn_of lk hcd S len fun A outer s H vs Q E hr hs => hbody cdv A outer s H vs Q E hr hs (takes_of rfl rfl rfl rfl) (passes_of rfl)
structure TxtE (K : PySem.W.Frag) (mg : Str → Option Value) (CB IB : Addr) : Prop where
  ei : EI K CB IB "part" "BadHouse.__init__"
  ty : PySem.W.typeIn K (.ref CB) = some (.type "type")
  m : mg "BadHouse" = some (.ref CB)
def cut2 : PyData → PyData
  | .tuple ds => .tuple (ds.take 2)
  | d => d
def badOf (ok : Bool) (word : Str) : Option PyData := if ok = true then none else some (.str word)
def chkA (k : Kit) (d : PyData) : Option PyData :=
  if isTupD d = true then ((itemsD d).find? fun x => !arrowD k x).or (badOf (ascD ((itemsD d).map cut2)) "arrows") else some (.str "arrows")
def spChk (C CB : Addr) (f : Kit → PyData → Option PyData) : Sp := fun vs H Q E => ∃ (hv v : V) (d : PyData) (kt : Kit), vs = [hv, v] ∧ Hs H hv C kt ∧ Dq H v d ∧ smB d = true ∧ (f kt d = none → ∀ H', Same H H' → Q .non H') ∧
  ∀ it, f kt d = some it → ∀ H' dd v', Same H H' → Dq H' v' it → H' dd = some (.xd [("part", v')]) → E (.ref CB) (some dd) H'
theorem find_at {p : PyData → Bool} : ∀ {ds : List PyData} {i : Nat} {d : PyData}, (ds.take i).all p = true → ds[i]? = some d → p d = false → (ds.find? fun x => !p x) = some d
  | [], _, _, _, e, _ => by simp at e
  | x :: ds, 0, d, _, e, h => by
    simp at e
    subst e
    rw [List.find?_cons_of_pos]
    simp [h]
  | x :: ds, i + 1, d, a, e, h => by
    have a' := Bool.and_eq_true_iff.mp (show (p x && (ds.take i).all p) = true from a)
    rw [List.find?_cons_of_neg (by simp [a'.1])]
    exact find_at a'.2 (by simpa using e) h
theorem find_none {p : PyData → Bool} {ds : List PyData} (a : ds.all p = true) : (ds.find? fun x => !p x) = none := by
  rw [List.find?_eq_none]
  intro x hx
  simp [List.all_eq_true.mp a x hx]
theorem take_all {p : PyData → Bool} {ds : List PyData} {i : Nat} {d : PyData} (a : (ds.take i).all p = true) (e : ds[i]? = some d) (h : p d = true) : (ds.take (i + 1)).all p = true := by
  rw [List.take_add_one, e, List.all_append, a]
  simp [h]
/-- a comprehension that has made these data so far, some of them new -/
def MadeN (H0 : Hp) (D : Addr) (es : List PyData) (H : Hp) : Prop := ∃ (J : Hp) (ys : List V), Same H0 J ∧ J D = none ∧ Same J H ∧ H D = some (.lst ys) ∧ DqAll J ys es
theorem MadeN.start {H0 : Hp} {D : Addr} (nD : H0 D = none) : MadeN H0 D [] (upd H0 D (.lst [])) := ⟨H0, [], Same.refl _, nD, same_new nD, upd_same, .nil⟩
theorem MadeN.same {H0 H : Hp} {D : Addr} {es : List PyData} (M : MadeN H0 D es H) : Same H0 H := by
  obtain ⟨J, ys, S0, _, S1, _⟩ := M
  exact S0.trans S1
theorem MadeN.turn {H0 H : Hp} {D p : Addr} {es ds : List PyData} {us : List V} (M : MadeN H0 D es H) (np : H p = none) (q : DqAll H0 us ds) :
    ∃ acc, upd H p (.tup us) D = some (.lst acc) ∧ acc.length = es.length ∧ MadeN H0 D (es ++ [.tuple ds]) (upd (upd H p (.tup us)) D (.lst (acc ++ [.ref p]))) := by
  obtain ⟨J, ys, S0, nD, S1, hD, hq⟩ := M
  have pD : p ≠ D := fun z => by
    rw [z, hD] at np
    cases np
  have nJ : J p = none := by
    cases e : J p with
    | none => rfl
    | some o =>
      rw [S1 _ _ e] at np
      cases np
  have SJ := same_new (o := .tup us) nJ
  refine ⟨ys, by rw [upd_ne pD.symm]; exact hD, hq.len, upd J p (.tup us), ys ++ [.ref p], S0.trans SJ, by rw [upd_ne pD.symm]; exact nD, fun b o e => ?_, upd_same, ?_⟩
  · have bD : b ≠ D := fun z => by
      rw [z, upd_ne pD.symm, nD] at e
      cases e
    rw [upd_ne bD]
    by_cases bp : b = p
    · subst bp
      rw [upd_same] at e ⊢
      exact e
    · rw [upd_ne bp] at e ⊢
      exact S1 _ _ e
  · exact (DqAll.same SJ _ _ hq).snoc (.tup upd_same (DqAll.same (S0.trans SJ) _ _ q))
theorem DqAll.take {H : Hp} : ∀ {ds : List PyData} {xs : List V} (n : Nat), DqAll H xs ds → DqAll H (xs.take n) (ds.take n)
  | [], _, n, h => by
    cases h
    simp
    exact .nil
  | _ :: _, _, 0, h => .nil
  | _ :: _, _, n + 1, h => by
    cases h with
    | cons q r => exact .cons q (DqAll.take n r)
theorem cut_two (xs : List V) (h : 2 ≤ xs.length) : cutV xs none (some 2) = xs.take 2 := by
  unfold cutV
  rw [HT.sIx_none, show HT.sIx xs.length xs.length (some 2) = min 2 xs.length from HT.sIx_nat xs.length xs.length 2]
  rw [List.drop_zero, Nat.sub_zero, Nat.min_eq_left h]
theorem not_whole (xs : List V) (h : 2 < xs.length) : ¬ (HT.sIx xs.length 0 none = 0 ∧ HT.sIx xs.length xs.length (some 2) = xs.length) := fun z => by
  have q := z.2
  rw [show HT.sIx xs.length xs.length (some 2) = min 2 xs.length from HT.sIx_nat xs.length xs.length 2] at q
  omega
theorem in_letters {n : Int} {dd : List PyData} {d : PyData} (h : deedsD n (.tuple dd) = true) (q : inD (dd.map (itemD 0)) d = true) : ∃ x, d = .str x ∧ letS x = true := by
  simp only [deedsD, Bool.and_eq_true] at h
  have h2 : dd.all (deedD n) = true := h.2.1
  obtain ⟨e, he, q⟩ := List.any_eq_true.mp (show (dd.map (itemD 0)).any (fun e => strIs e d) = true from q)
  obtain ⟨a, ha, rfl⟩ := List.mem_map.mp he
  obtain ⟨x, i, rfl, hx, _⟩ := deed_of (List.all_eq_true.mp h2 a ha)
  cases d with
  | str y =>
    have q : (x == y) = true := q
    exact ⟨y, rfl, by rw [← eq_of_beq q]; exact hx⟩
  | _ => exact absurd q (by simp [itemD, strIs, isStrD])
theorem arrow_of {k : Kit} {d : PyData} (hk : deedsD k.pe (.tuple k.dd) = true) (h : arrowD k d = true) : ∃ i x t f m, d = .tuple [.int i, .str x, .int t, f, m] ∧ letS x = true := by
  simp only [arrowD, Bool.and_eq_true] at h
  obtain ⟨h1, h2, h3, _⟩ := h
  obtain ⟨ds, rfl, l1, l2⟩ := tup_of h1
  obtain ⟨a, b, c, f, m, rfl⟩ := five l1 l2
  have h2 := Bool.and_eq_true_iff.mp (show (betD 0 (k.pl - 1) a && inD (k.dd.map (itemD 0)) b) = true from h2)
  obtain ⟨i, rfl, _⟩ := bet_of h2.1
  obtain ⟨x, rfl, hx⟩ := in_letters hk h2.2
  obtain ⟨t, rfl, _⟩ := bet_of (show betD 0 (k.pl - 1) c = true from h3)
  exact ⟨i, x, t, f, m, rfl, hx⟩
theorem lay_cuts {k : Kit} (hk : deedsD k.pe (.tuple k.dd) = true) : ∀ {ds : List PyData}, ds.all (arrowD k) = true → PyData.canLayAll0 (ds.map cut2) = true ∧ PyData.depthAll (ds.map cut2) ≤ 1
  | [], _ => ⟨rfl, Nat.zero_le _⟩
  | d :: ds, h => by
    have h' := Bool.and_eq_true_iff.mp (show (arrowD k d && ds.all (arrowD k)) = true from h)
    obtain ⟨q1, q2⟩ := lay_cuts hk h'.2
    obtain ⟨i, x, t, f, m, rfl, hx⟩ := arrow_of hk h'.1
    refine ⟨?_, ?_⟩
    · show ((true && (PyData.strOk x && true)) && PyData.canLayAll0 (ds.map cut2)) = true
      rw [(letS_ok hx).1, q1]
      rfl
    · show max 1 (PyData.depthAll (ds.map cut2)) ≤ 1
      omega
theorem cmp_cuts {k : Kit} {ds : List PyData} (hk : deedsD k.pe (.tuple k.dd) = true) (h : ds.all (arrowD k) = true) (i : Nat) (hi : i + 1 < (ds.map cut2).length) : cmpD ((ds.map cut2).getD i .none) ((ds.map cut2).getD (i + 1) .none) = true := by
  rw [List.length_map] at hi
  rw [getD_map (by omega), getD_map hi]
  obtain ⟨i1, x1, t1, f1, m1, e1, _⟩ := arrow_of hk (all_at (f := arrowD k) h (show i < ds.length by omega))
  obtain ⟨i2, x2, t2, f2, m2, e2, _⟩ := arrow_of hk (all_at (f := arrowD k) h hi)
  rw [e1, e2]
  rfl
section
variable {P : Program} {w : World} {K : PySem.W.Frag} {mg : Str → Option Value} {base : Heap} {C CB IB : Addr}
theorem scChkA : FnScope ["house", "arrows", "item", "arrow"] ["house", "arrows"] (defScope sChkArrows) := ⟨rfl, rfl, rfl, by decide +kernel, rfl, by decide +kernel, by decide +kernel⟩
theorem ok_chkA {f g1 g2 : Addr} {fd gd1 gd2 : FuncData} (F : Fun K "check_arrows" "check_arrows" sChkArrows f fd) (T : TxtB mg) (TE : TxtE K mg CB IB) (G1 : FnOk P w K mg base CX0 4 g1 gd1 ["house", "thing"] (spHs C arrowD)) (c1 : Cal K mg "is_arrow" g1 gd1 ["house", "thing"])
    (G2 : FnOk P w K mg base CX0 1 g2 gd2 ["items"] spAsc) (c2 : Cal K mg "is_ascending" g2 gd2 ["items"]) : FnOk P w K mg base (L2.CX P w) 5 f fd ["house", "arrows"] (spChk C CB chkA) := by
  refine fnX F scChkA (fun vs H Q E h => ?_) (fun cdv A outer s H vs Q E hr h tk po => ?_)
  · obtain ⟨hv, v, d, kt, rfl, _⟩ := h
    rfl
  · obtain ⟨hv, v, d, kt, rfl, hh, hd, sm, k, kE⟩ := h
    have hr1 : Room 1 _ := hr.mono (by decide)
    refine ⟨_, pss_cons (ps_if (pt_not (pt_val (pe_callB call_isD (by rfl) T.isi (by decide +kernel) (pa_cons (pv 1) (pa_cons (pe_bltn (v := .ty "tuple") (by rfl) T.tuple (by decide +kernel) rfl) pa_nil))))) (pss_one (ps_raise rfl tk (pmk_ex TE.ei TE.ty TE.m hr1 (by rfl) (pa_cons pe_str pa_nil)))) pss_nil)
      (pss_cons (ps_for po rfl (pi_tup (pv 1)) (pg_name (i := 2) scChkA.nd rfl (.inl rfl)) (pss_one (ps_if (pt_not (pt_val (pe_call G1 hr (by rfl) c1.m c1.k c1.b .nil pass0 (pa_cons (pv 0) (pa_cons (pv 2) pa_nil))))) (pss_one (ps_raise rfl tk (pmk_ex TE.ei TE.ty TE.m hr1 (by rfl) (pa_cons (pv 2) pa_nil)))) pss_nil)))
      (pss_one (ps_if (pt_not (pt_val (pe_call G2 hr1 (by rfl) c2.m c2.k c2.b .nil pass0 (pa_cons (pe_lc (own := [("arrow", 3)]) (g := gName 3) (tt := tYes) rfl scChkA.nd (pi_tup (pv 1)) (blkOk_by (N := ["house", "arrows", "item", "arrow"]) (sc := defScope sChkArrows) (by decide +kernel)) (fun _ _ _ _ _ => pg_name (i := 3) scChkA.nd rfl (.inl rfl)) (fun _ _ _ _ _ => pts_nil)
        (fun _ _ _ _ _ => pe_slice (r := rSlT K) sl_tup (pv 3) po_none (po_some pe_int))) pa_nil)))) (pss_one (ps_raise rfl tk (pmk_ex TE.ei TE.ty TE.m hr1 (by rfl) (pa_cons pe_str pa_nil)))) pss_nil))), ?_⟩
    have no : isTupD d = false → ∀ dd, H dd = none → E (.ref CB) (some dd) (upd H dd (.xd [("part", .str "arrows")])) := fun z dd nd => by
      refine kE (.str "arrows") ?_ _ dd _ (same_new nd) (.str _) upd_same
      unfold chkA
      rw [z]
      rfl
    refine ⟨_, rfl, v, d, "tuple", rfl, by decide, hd, _, rfl, ?_⟩
    cases hd with
    | @tup b xs ds e hda =>
      have hD : isTupD (.tuple ds) = true := rfl
      have kD : chkA kt (.tuple ds) = (ds.find? fun x => !arrowD kt x).or (badOf (ascD (ds.map cut2)) "arrows") := rfl
      refine iteNo rfl ?_
      refine ⟨_, rfl, b, rfl, ⟨_, SqT.of e⟩, for_tup (K := K) (a := b) (xs := xs) (fun i σ H1 => Same H H1 ∧ (ds.take i).all (arrowD kt) = true ∧ ∃ o, σ = [some hv, some (.ref b), o, none]) ⟨Same.refl _, rfl, none, rfl⟩ (fun i σ H1 _ P => SqT.of (P.1 _ _ e)) ?_ ?_⟩
      · rintro i x σ H1 hx ⟨S1, a1, o, rfl⟩
        obtain ⟨d', hd', hq⟩ := DqAll.at hda hx
        refine ⟨_, rfl, x, rfl, hv, x, d', kt, rfl, hh.same S1, Dq.same S1 _ _ hq, sm_at (sm_all sm) hd', fun H2 S2 => ⟨_, rfl, ?_⟩⟩
        by_cases ha : arrowD kt d' = true
        · refine iteNo (by rw [ha]; rfl) ?_
          exact ⟨S1.trans S2, take_all a1 hd' ha, some x, rfl⟩
        · have ha : arrowD kt d' = false := by simpa using ha
          refine iteYes (by rw [ha]; rfl) ?_
          refine ⟨x, rfl, x, rfl, fun dd nd => ?_⟩
          refine kE d' ?_ _ dd x (S1.trans (S2.trans (same_new nd))) (Dq.same (S1.trans (S2.trans (same_new nd))) _ _ hq) upd_same
          rw [kD, find_at a1 hd' ha]
          rfl
      · rintro σ H1 ⟨S1, a1, o, rfl⟩
        rw [hda.len, List.take_length] at a1
        have kF : (ds.find? fun x => !arrowD kt x) = none := find_none a1
        refine ⟨_, rfl, b, rfl, ⟨_, SqT.of (S1 _ _ e)⟩, fun D nD => ?_⟩
        refine lc_tup (K := K) (a := b) (xs := xs) (fun i H2 => MadeN H1 D ((ds.take i).map cut2) H2) (MadeN.start nD) (fun i H2 _ M => SqT.of (M.same _ _ (S1 _ _ e))) ?_ ?_
        · rintro i x H2 hx M
          obtain ⟨d', hd', hq⟩ := DqAll.at hda hx
          obtain ⟨i1, x1, t1, f1, m1, rfl, _⟩ := arrow_of hh.dd (List.all_eq_true.mp a1 d' (List.mem_of_getElem? hd'))
          cases hq with
          | @tup c zs _ e' hza =>
            have hl : zs.length = 5 := hza.len
            refine ⟨rfl, _, rfl, _, rfl, c, zs, rfl, SqT.of (M.same _ _ (S1 _ _ e')), not_whole zs (by omega), fun p np => ?_⟩
            rw [cut_two zs (by omega)]
            obtain ⟨acc, h1, h2, h3⟩ := M.turn np (DqAll.same S1 _ _ (hza.take 2))
            refine ⟨acc, h1, ?_, ?_⟩
            · rw [h2, List.length_map, List.length_take]
              have := sm_len sm
              rw [sizeLine_eq]
              omega
            · rw [take_map hd']
              exact h3
        · rintro H2 M
          rw [hda.len, List.take_length] at M
          obtain ⟨J, ys, S2, _, S3, hy, hq⟩ := M
          have S12 := S1.trans (S2.trans S3)
          obtain ⟨z1, z2⟩ := lay_cuts hh.dd a1
          refine ⟨D, ys, ds.map cut2, rfl, .inl hy, DqAll.same S3 _ ys hq, by rw [List.length_map]; exact sm_len sm, z1, Nat.le_trans z2 (by decide), cmp_cuts hh.dd a1, fun H3 S4 => ⟨_, rfl, ?_⟩⟩
          by_cases hA : ascD (ds.map cut2) = true
          · refine iteNo (by rw [hA]; rfl) ?_
            refine k ?_ H3 (S12.trans S4)
            rw [kD, kF, hA]
            rfl
          · have hA : ascD (ds.map cut2) = false := by simpa using hA
            refine iteYes (by rw [hA]; rfl) ?_
            refine ⟨_, rfl, fun dd nd => ?_⟩
            refine kE (.str "arrows") ?_ _ dd _ (S12.trans (S4.trans (same_new nd))) (.str _) upd_same
            rw [kD, kF, hA]
            rfl
    | non => exact iteYes rfl ⟨_, rfl, no rfl⟩
    | bl _ => exact iteYes rfl ⟨_, rfl, no rfl⟩
    | int _ => exact iteYes rfl ⟨_, rfl, no rfl⟩
    | str _ => exact iteYes rfl ⟨_, rfl, no rfl⟩
    | lst _ _ => exact iteYes rfl ⟨_, rfl, no rfl⟩
    | dct0 _ => exact iteYes rfl ⟨_, rfl, no rfl⟩
    | dct1 _ => exact iteYes rfl ⟨_, rfl, no rfl⟩
end
end KL
set_option Elab.async false
set_option linter.all false
set_option maxRecDepth 100000
set_option maxHeartbeats 2000000
namespace KL
open PySem L2 PySem.KX PySem.Spec PyProof.Rows
def keyD : PyData → List Key
  | .tuple (.int i :: .str x :: _) => [Sum.inl i, Sum.inr x]
  | _ => []
def hasK (ks : List (List Key)) (k : List Key) : Bool := ks.any fun j => decide (j = k)
def takenD (as : List PyData) (d : PyData) : Bool := hasK (as.map keyD) (keyD d)
def testT (k : Kit) (as : List PyData) (d : PyData) : Bool := testD k d && takenD as d
def chkT (k : Kit) (as : List PyData) (d : PyData) : Option PyData :=
  if isTupD d = true then ((itemsD d).find? fun x => !testT k as x).or (badOf (ascD (itemsD d)) "tests") else some (.str "tests")
/-- the arrows of a house -/
structure HsA (H : Hp) (v : V) (C : Addr) (as : List PyData) : Prop where
  ex : ∃ a dx fs q xs, v = .ref a ∧ H a = some (.ins C dx fs) ∧ fs.lookup ("arrows" : Str) = some (.ref q) ∧ H q = some (.tup xs) ∧ DqAll H xs as
theorem HsA.same {H H' : Hp} {v : V} {C : Addr} {as : List PyData} (h : HsA H v C as) (S : Same H H') : HsA H' v C as := by
  obtain ⟨a, dx, fs, q, xs, e, ha, h1, h2, h3⟩ := h
  exact ⟨a, dx, fs, q, xs, e, S _ _ ha, h1, S _ _ h2, DqAll.same S _ _ h3⟩
def spChkT (C CB : Addr) : Sp := fun vs H Q E => ∃ (hv v : V) (d : PyData) (kt : Kit) (as : List PyData), vs = [hv, v] ∧ Hs H hv C kt ∧ HsA H hv C as ∧ as.all (arrowD kt) = true ∧ as.length ≤ 1000 ∧ Dq H v d ∧ smB d = true ∧ (chkT kt as d = none → ∀ H', Same H H' → Q .non H') ∧
  ∀ it, chkT kt as d = some it → ∀ H' dd v', Same H H' → Dq H' v' it → H' dd = some (.xd [("part", v')]) → E (.ref CB) (some dd) H'
theorem test_of {k : Kit} {d : PyData} (hk : deedsD k.pe (.tuple k.dd) = true) (h : testD k d = true) : ∃ i x fs lo hi, d = .tuple [.int i, .str x, .tuple fs, .int lo, .int hi] ∧ letS x = true ∧ fs.all intD = true := by
  simp only [testD, Bool.and_eq_true] at h
  obtain ⟨h1, h2, h3, h4, h5, _⟩ := h
  obtain ⟨ds, rfl, l1, l2⟩ := tup_of h1
  obtain ⟨a, b, c, f, m, rfl⟩ := five l1 l2
  have h2 := Bool.and_eq_true_iff.mp (show (betD 0 (k.pl - 1) a && inD (k.dd.map (itemD 0)) b) = true from h2)
  obtain ⟨i, rfl, _⟩ := bet_of h2.1
  obtain ⟨x, rfl, hx⟩ := in_letters hk h2.2
  obtain ⟨lo, rfl⟩ := int_of (show intD f = true from h4)
  obtain ⟨hi, rfl⟩ := int_of (show intD m = true from h5)
  have h3 : formD k.n c = true := h3
  cases c with
  | tuple fs => exact ⟨i, x, fs, lo, hi, rfl, hx, (Bool.and_eq_true_iff.mp h3).2⟩
  | _ => cases h3
theorem lay_nums : ∀ {ds : List PyData}, ds.all intD = true → PyData.canLayAll0 ds = true ∧ PyData.depthAll ds = 0
  | [], _ => ⟨rfl, rfl⟩
  | d :: ds, h => by
    have h' := Bool.and_eq_true_iff.mp (show (intD d && ds.all intD) = true from h)
    obtain ⟨i, rfl⟩ := int_of h'.1
    obtain ⟨q1, q2⟩ := lay_nums h'.2
    refine ⟨?_, ?_⟩
    · show (true && PyData.canLayAll0 ds) = true
      rw [q1]
      rfl
    · show max 0 (PyData.depthAll ds) = 0
      rw [q2]
      rfl
theorem lay_tests {k : Kit} (hk : deedsD k.pe (.tuple k.dd) = true) : ∀ {ds : List PyData}, ds.all (testD k) = true → PyData.canLayAll0 ds = true ∧ PyData.depthAll ds ≤ 2
  | [], _ => ⟨rfl, Nat.zero_le _⟩
  | d :: ds, h => by
    have h' := Bool.and_eq_true_iff.mp (show (testD k d && ds.all (testD k)) = true from h)
    obtain ⟨q1, q2⟩ := lay_tests hk h'.2
    obtain ⟨i, x, fs, lo, hi, rfl, hx, hf⟩ := test_of hk h'.1
    obtain ⟨f1, f2⟩ := lay_nums hf
    refine ⟨?_, ?_⟩
    · show ((true && (PyData.strOk x && (PyData.canLayAll0 fs && (true && (true && true))))) && PyData.canLayAll0 ds) = true
      rw [(letS_ok hx).1, q1, f1]
      rfl
    · show max (max 0 (max 0 (max (PyData.depthAll fs + 1) (max 0 (max 0 0)))) + 1) (PyData.depthAll ds) ≤ 2
      rw [f2]
      omega
theorem cmp_nums : ∀ {xs ys : List PyData}, xs.all intD = true → ys.all intD = true → cmpAll xs ys = true
  | [], ys, _, _ => by
    cases ys <;> rfl
  | _ :: _, [], _, _ => rfl
  | x :: xs, y :: ys, h1, h2 => by
    have h1' := Bool.and_eq_true_iff.mp (show (intD x && xs.all intD) = true from h1)
    have h2' := Bool.and_eq_true_iff.mp (show (intD y && ys.all intD) = true from h2)
    obtain ⟨i, rfl⟩ := int_of h1'.1
    obtain ⟨j, rfl⟩ := int_of h2'.1
    show (true && cmpAll xs ys) = true
    rw [cmp_nums h1'.2 h2'.2]
    rfl
theorem cmp_tests {k : Kit} {ds : List PyData} (hk : deedsD k.pe (.tuple k.dd) = true) (h : ds.all (testD k) = true) (i : Nat) (hi : i + 1 < ds.length) : cmpD (ds.getD i .none) (ds.getD (i + 1) .none) = true := by
  obtain ⟨i1, x1, f1, l1, h1, e1, _, a1⟩ := test_of hk (all_at (f := testD k) h (show i < ds.length by omega))
  obtain ⟨i2, x2, f2, l2, h2, e2, _, a2⟩ := test_of hk (all_at (f := testD k) h hi)
  rw [e1, e2]
  show (true && (true && (cmpAll f1 f2 && (true && (true && true))))) = true
  rw [cmp_nums a1 a2]
  rfl
/-- keys so far -/
def MadeT (H0 : Hp) (D : Addr) (ks : List (List Key)) (H : Hp) : Prop := Same H0 H ∧ ∃ kvs : List (List Key × V), H D = some (.dT kvs) ∧ kvs.length ≤ ks.length ∧ ∀ k, (valV kvs k).isSome = hasK ks k
theorem MadeT.turn {H0 H : Hp} {D p : Addr} {ks : List (List Key)} {k : List Key} {v : V} (M : MadeT H0 D ks H) (nD : H0 D = none) (np : H p = none) (hl : ks.length < 1000) :
    ∃ (kvs : List (List Key × V)) (k' : List Key) (b : Addr), V.ref p = .ref b ∧ upd H p (.tup (k.map kV)) b = some (.tup (k'.map kV)) ∧ upd H p (.tup (k.map kV)) D = some (.dT kvs) ∧ kvs.length < sizeLine ∧ MadeT H0 D (ks ++ [k]) (upd (upd H p (.tup (k.map kV))) D (.dT (putK kvs k' v))) := by
  obtain ⟨S0, kvs, hD, hn, hk⟩ := M
  have pD : p ≠ D := fun z => by
    rw [z, hD] at np
    cases np
  refine ⟨kvs, k, p, rfl, upd_same, by rw [upd_ne pD.symm]; exact hD, by rw [sizeLine_eq]; omega, fun b o e => ?_, _, upd_same, ?_, fun j => ?_⟩
  · have bD : b ≠ D := fun z => by
      rw [z, nD] at e
      cases e
    rw [upd_ne bD, upd_ne (ne_of_none (S0 _ _ e) np)]
    exact S0 _ _ e
  · have := length_putK kvs k v
    rw [List.length_append]
    exact Nat.le_trans this (Nat.succ_le_succ hn)
  · rw [valV_put]
    by_cases e : j = k
    · rw [if_pos e]
      simp [hasK, e]
    · rw [if_neg e, hk]
      have e' : ¬ k = j := fun z => e z.symm
      simp [hasK, e']
section
variable {P : Program} {w : World} {K : PySem.W.Frag} {mg : Str → Option Value} {base : Heap} {C CB IB : Addr}
theorem scChkT : FnScope ["house", "tests", "taken", "item", "arrow"] ["house", "tests"] (defScope sChkTests) := ⟨rfl, rfl, rfl, by decide +kernel, rfl, by decide +kernel, by decide +kernel⟩
theorem ok_chkT {f g1 g2 : Addr} {fd gd1 gd2 : FuncData} (F : Fun K "check_tests" "check_tests" sChkTests f fd) (T : TxtB mg) (TH : TxtH K C) (TE : TxtE K mg CB IB) (G1 : FnOk P w K mg base CX0 4 g1 gd1 ["house", "thing"] (spHs C testD)) (c1 : Cal K mg "is_test" g1 gd1 ["house", "thing"])
    (G2 : FnOk P w K mg base CX0 1 g2 gd2 ["items"] spAsc) (c2 : Cal K mg "is_ascending" g2 gd2 ["items"]) : FnOk P w K mg base (L2.CX P w) 5 f fd ["house", "tests"] (spChkT C CB) := by
  refine fnX F scChkT (fun vs H Q E h => ?_) (fun cdv A outer s H vs Q E hr h tk po => ?_)
  · obtain ⟨hv, v, d, kt, as, rfl, _⟩ := h
    rfl
  · obtain ⟨hv, v, d, kt, as, rfl, hh, hA, aA, lA, hd, sm, k, kE⟩ := h
    have hr1 : Room 1 _ := hr.mono (by decide)
    refine ⟨_, pss_cons (ps_if (pt_not (pt_val (pe_callB call_isD (by rfl) T.isi (by decide +kernel) (pa_cons (pv 1) (pa_cons (pe_bltn (v := .ty "tuple") (by rfl) T.tuple (by decide +kernel) rfl) pa_nil))))) (pss_one (ps_raise rfl tk (pmk_ex TE.ei TE.ty TE.m hr1 (by rfl) (pa_cons pe_str pa_nil)))) pss_nil)
      (pss_cons (ps_setDcT (i := 2) (own := [("arrow", 4)]) (g := gName 4) rfl rfl (by rfl) rfl (Nat.lt_of_le_of_lt (Nat.le_add_right _ 64) hr.units) scChkT.nd (pi_tup (pe_fld (pv 0) (by rfl))) (blkOk_by (N := ["house", "tests", "taken", "item", "arrow"]) (sc := defScope sChkTests) (by decide +kernel)) (fun _ _ _ _ _ => pg_name (i := 4) scChkT.nd rfl (.inl rfl))
        (fun _ _ _ _ _ => pe_slice (r := rSlT K) sl_tup (pv 4) po_none (po_some pe_int)) (fun _ _ _ _ _ => pe_bl))
      (pss_cons (ps_for po rfl (pi_tup (pv 1)) (pg_name (i := 3) scChkT.nd rfl (.inl rfl)) (pss_one (ps_if (PW.pt (pw_or (pt_not (pt_val (pe_call G1 hr (by rfl) c1.m c1.k c1.b .nil pass0 (pa_cons (pv 0) (pa_cons (pv 3) pa_nil))))) (pw_or1 (pt_cmp (pc_dnotin (hu_of hr) (pe_slice (r := rSlT K) sl_tup (pv 3) po_none (po_some pe_int)) (pv 2)))))) (pss_one (ps_raise rfl tk (pmk_ex TE.ei TE.ty TE.m hr1 (by rfl) (pa_cons (pv 3) pa_nil)))) pss_nil)))
      (pss_one (ps_if (pt_not (pt_val (pe_call G2 hr1 (by rfl) c2.m c2.k c2.b .nil pass0 (pa_cons (pv 1) pa_nil)))) (pss_one (ps_raise rfl tk (pmk_ex TE.ei TE.ty TE.m hr1 (by rfl) (pa_cons pe_str pa_nil)))) pss_nil)))), ?_⟩
    have no : isTupD d = false → ∀ dd, H dd = none → E (.ref CB) (some dd) (upd H dd (.xd [("part", .str "tests")])) := fun z dd nd => by
      refine kE (.str "tests") ?_ _ dd _ (same_new nd) (.str _) upd_same
      unfold chkT
      rw [z]
      rfl
    refine ⟨_, rfl, v, d, "tuple", rfl, by decide, hd, _, rfl, ?_⟩
    cases hd with
    | @tup b xs ds e hda =>
      have kD : chkT kt as (.tuple ds) = (ds.find? fun x => !testT kt as x).or (badOf (ascD ds) "tests") := rfl
      refine iteNo rfl ?_
      obtain ⟨a, dx, fs, q, zs, rfl, ha, h1, h2, h3⟩ := hA.ex
      refine ⟨_, rfl, a, C, dx, fs, _, rfl, ha, TH.c, TH.arrows, h1, q, rfl, ⟨_, SqT.of h2⟩, fun D nD => ?_⟩
      refine tup_turns (K := K) (a := q) (xs := zs) (fun i H1 => MadeT H D ((as.take i).map keyD) H1) ⟨same_new nD, [], upd_same, Nat.zero_le _, fun _ => rfl⟩ (fun i H1 _ M => SqT.of (M.1 _ _ h2)) ?_ ?_
      · rintro i x H1 hx M
        obtain ⟨d', hd', hq⟩ := DqAll.at h3 hx
        obtain ⟨i1, x1, t1, f1, m1, rfl, _⟩ := arrow_of hh.dd (List.all_eq_true.mp aA d' (List.mem_of_getElem? hd'))
        have hi : i < as.length := (List.getElem?_eq_some_iff.mp hd').1
        cases hq with
        | @tup c ys _ e' hza =>
          have hl : ys.length = 5 := hza.len
          refine ⟨rfl, _, rfl, _, rfl, c, ys, rfl, SqT.of (M.1 _ _ e'), not_whole ys (by omega), fun p np => ?_⟩
          rw [cut_two ys (by omega)]
          have e2 : ys.take 2 = ([Sum.inl i1, Sum.inr x1] : List Key).map kV := by
            cases hza with
            | cons q1 r1 =>
              cases q1
              cases r1 with
              | cons q2 r2 =>
                cases q2
                rfl
          rw [e2, take_map hd']
          exact M.turn nD np (by rw [List.length_map, List.length_take]; omega)
      · rintro H1 M
        rw [h3.len, List.take_length] at M
        obtain ⟨S1, kvs, hD, _, hk⟩ := M
        refine ⟨_, rfl, b, rfl, ⟨_, SqT.of (S1 _ _ e)⟩, for_tup (K := K) (a := b) (xs := xs) (fun i σ H2 => Same H1 H2 ∧ (ds.take i).all (testT kt as) = true ∧ ∃ o, σ = [some (.ref a), some (.ref b), some (.ref D), o, none]) ⟨Same.refl _, rfl, none, rfl⟩ (fun i σ H2 _ P => SqT.of (P.1 _ _ (S1 _ _ e))) ?_ ?_⟩
        · rintro i x σ H2 hx ⟨S2, a1, o, rfl⟩
          obtain ⟨d', hd', hq⟩ := DqAll.at hda hx
          have S12 := S1.trans S2
          have bad : ∀ {H3 : Hp}, Same H2 H3 → testT kt as d' = false → ∃ v', [x] = [v'] ∧ ∀ dd, H3 dd = none → E (.ref CB) (some dd) (upd H3 dd (.xd [("part", v')])) := fun {H3} S3 hz => ⟨x, rfl, fun dd nd => by
            refine kE d' ?_ _ dd x (S12.trans (S3.trans (same_new nd))) (Dq.same (S12.trans (S3.trans (same_new nd))) _ _ hq) upd_same
            rw [kD, find_at a1 hd' hz]
            rfl⟩
          refine ⟨_, rfl, x, rfl, .ref a, x, d', kt, rfl, hh.same S12, Dq.same S12 _ _ hq, sm_at (sm_all sm) hd', fun H3 S3 => ⟨_, rfl, ?_⟩⟩
          by_cases ht : testD kt d' = true
          · refine iteNo (by rw [ht]; rfl) ?_
            obtain ⟨i1, x1, f1, l1, m1, rfl, _⟩ := test_of hh.dd ht
            have hq' := hq
            cases hq' with
            | @tup c ys _ e' hza =>
              have hl : ys.length = 5 := hza.len
              refine ⟨_, rfl, _, rfl, c, ys, rfl, SqT.of ((S12.trans S3) _ _ e'), not_whole ys (by omega), fun p np => ?_⟩
              rw [cut_two ys (by omega)]
              have e2 : ys.take 2 = ([Sum.inl i1, Sum.inr x1] : List Key).map kV := by
                cases hza with
                | cons q1 r1 =>
                  cases q1
                  cases r1 with
                  | cons q2 r2 =>
                    cases q2
                    rfl
              rw [e2]
              have S4 := same_new (o := .tup (([Sum.inl i1, Sum.inr x1] : List Key).map kV)) np
              refine ⟨_, rfl, D, _, rfl, DGet.t ((S2.trans (S3.trans S4)) _ _ hD) upd_same, _, rfl, ?_⟩
              rw [hk]
              have hTT : testT kt as (.tuple [.int i1, .str x1, .tuple f1, .int l1, .int m1]) = hasK (as.map keyD) [Sum.inl i1, Sum.inr x1] := by
                unfold testT
                rw [ht]
                rfl
              by_cases hm : hasK (as.map keyD) [Sum.inl i1, Sum.inr x1] = true
              · refine iteNo (by rw [hm]; rfl) ?_
                exact ⟨S2.trans (S3.trans S4), take_all a1 hd' (by rw [hTT, hm]), _, rfl⟩
              · have hm : hasK (as.map keyD) [Sum.inl i1, Sum.inr x1] = false := by simpa using hm
                refine iteYes (by rw [hm]; rfl) ?_
                exact ⟨_, rfl, bad (S3.trans S4) (by rw [hTT, hm])⟩
          · have ht : testD kt d' = false := by simpa using ht
            refine iteYes (by rw [ht]; rfl) (iteYes rfl ?_)
            exact ⟨_, rfl, bad S3 (by unfold testT; rw [ht]; rfl)⟩
        · rintro σ H2 ⟨S2, a1, o, rfl⟩
          rw [hda.len, List.take_length] at a1
          have kF : (ds.find? fun x => !testT kt as x) = none := find_none a1
          have aT : ds.all (testD kt) = true := by
            rw [List.all_eq_true] at a1 ⊢
            exact fun d' hd' => (Bool.and_eq_true_iff.mp (a1 d' hd')).1
          have S12 := S1.trans S2
          obtain ⟨z1, z2⟩ := lay_tests hh.dd aT
          refine ⟨_, rfl, b, xs, ds, rfl, .inr (S12 _ _ e), DqAll.same S12 _ _ hda, sm_len sm, z1, Nat.le_trans z2 (by decide), cmp_tests hh.dd aT, fun H3 S3 => ⟨_, rfl, ?_⟩⟩
          by_cases hA : ascD ds = true
          · refine iteNo (by rw [hA]; rfl) ?_
            refine k ?_ H3 (S12.trans S3)
            rw [kD, kF, hA]
            rfl
          · have hA : ascD ds = false := by simpa using hA
            refine iteYes (by rw [hA]; rfl) ?_
            refine ⟨_, rfl, fun dd nd => ?_⟩
            refine kE (.str "tests") ?_ _ dd _ (S12.trans (S3.trans (same_new nd))) (.str _) upd_same
            rw [kD, kF, hA]
            rfl
    | non => exact iteYes rfl ⟨_, rfl, no rfl⟩
    | bl _ => exact iteYes rfl ⟨_, rfl, no rfl⟩
    | int _ => exact iteYes rfl ⟨_, rfl, no rfl⟩
    | str _ => exact iteYes rfl ⟨_, rfl, no rfl⟩
    | lst _ _ => exact iteYes rfl ⟨_, rfl, no rfl⟩
    | dct0 _ => exact iteYes rfl ⟨_, rfl, no rfl⟩
    | dct1 _ => exact iteYes rfl ⟨_, rfl, no rfl⟩
end
end KL
set_option Elab.async false
set_option linter.all false
set_option maxRecDepth 100000
set_option maxHeartbeats 4000000
namespace KL
open PySem L2 PySem.KX PySem.Spec PyProof.Rows
abbrev sInit : Stmt := inClass (top 86) 0
def numD : PyData → Int
  | .int i => i
  | _ => 0
def kitOf (p d st pl lo : PyData) : Kit := ⟨numD p, numD pl, numD lo, itemsD d, (itemsD st).length⟩
def dueD (p d st pl en lo ar te lk : PyData) : Option PyData :=
  (badOf (betD 1 3 p) "people").or ((badOf (deedsD (numD p) d) "deeds").or ((badOf (startD st) "start").or ((badOf (betD 1 3 pl) "places").or ((badOf (endsD (numD pl) en) "ends").or ((badOf (betD 0 2 lo) "logs").or
    ((chkA (kitOf p d st pl lo) ar).or ((chkT (kitOf p d st pl lo) (itemsD ar) te).or (badOf (looksD (kitOf p d st pl lo) lk) "looks"))))))))
/-- a whole house -/
def fsOf (v0 v1 v2 v3 v4 v5 v6 v7 v8 : V) (fs : List (Str × V)) : Prop :=
  fs.lookup ("people" : Str) = some v0 ∧ fs.lookup ("deeds" : Str) = some v1 ∧ fs.lookup ("start" : Str) = some v2 ∧ fs.lookup ("places" : Str) = some v3 ∧ fs.lookup ("ends" : Str) = some v4 ∧ fs.lookup ("logs" : Str) = some v5 ∧ fs.lookup ("arrows" : Str) = some v6 ∧ fs.lookup ("tests" : Str) = some v7 ∧ fs.lookup ("looks" : Str) = some v8 ∧ (fs.lookup ("barred" : Str) = none ∧ fs.lookup ("renamed" : Str) = none)
def spInit (C CB : Addr) : Sp := fun vs H Q E => ∃ (H0 : Hp) (x dx : Addr) (v0 v1 v2 v3 v4 v5 v6 v7 v8 : V) (d0 d1 d2 d3 d4 d5 d6 d7 d8 : PyData), vs = [.ref x, v0, v1, v2, v3, v4, v5, v6, v7, v8] ∧ Same H0 H ∧ H0 x = none ∧ H x = some (.ins C dx []) ∧
  Dq H0 v0 d0 ∧ Dq H0 v1 d1 ∧ Dq H0 v2 d2 ∧ Dq H0 v3 d3 ∧ Dq H0 v4 d4 ∧ Dq H0 v5 d5 ∧ Dq H0 v6 d6 ∧ Dq H0 v7 d7 ∧ Dq H0 v8 d8 ∧
  (smB d0 && smB d1 && smB d2 && smB d3 && smB d4 && smB d5 && smB d6 && smB d7 && smB d8) = true ∧
  (dueD d0 d1 d2 d3 d4 d5 d6 d7 d8 = none → ∀ H' fs, Same H0 H' → H' x = some (.ins C dx fs) → fsOf v0 v1 v2 v3 v4 v5 v6 v7 v8 fs → Q .non H') ∧
  ∀ it, dueD d0 d1 d2 d3 d4 d5 d6 d7 d8 = some it → ∀ H' dd v', Same H0 H' → Dq H' v' it → H' dd = some (.xd [("part", v')]) → E (.ref CB) (some dd) H'
theorem bool_ft (b : Bool) : b = false ∨ b = true := by cases b <;> simp
theorem same_put {H0 H : Hp} {x : Addr} {o : HO} (S : Same H0 H) (n : H0 x = none) : Same H0 (upd H x o) := fun b u e => by
  rw [upd_ne (ne_of_none e n)]
  exact S _ _ e
section
variable {P : Program} {w : World} {K : PySem.W.Frag} {mg : Str → Option Value} {base : Heap} {C CB IB : Addr}
theorem scInit : FnScope ["self", "people", "deeds", "start", "places", "ends", "logs", "arrows", "tests", "looks"] ["self", "people", "deeds", "start", "places", "ends", "logs", "arrows", "tests", "looks"] (defScope sInit) := ⟨rfl, rfl, rfl, by decide +kernel, rfl, by decide +kernel, by decide +kernel⟩
theorem start_of {d : PyData} (h : startD d = true) : ∃ ds, d = .tuple ds ∧ 1 ≤ ds.length ∧ ds.length ≤ 3 := by
  obtain ⟨ds, rfl, l1, l2⟩ := tup_of (Bool.and_eq_true_iff.mp h).1
  exact ⟨ds, rfl, by omega, by omega⟩
theorem deeds_of {n : Int} {d : PyData} (h : deedsD n d = true) : ∃ ds, d = .tuple ds := by
  obtain ⟨ds, rfl, _⟩ := tup_of (Bool.and_eq_true_iff.mp h).1
  exact ⟨ds, rfl⟩
theorem chkA_none {k : Kit} {d : PyData} (h : chkA k d = none) : ∃ ds, d = .tuple ds ∧ ds.all (arrowD k) = true := by
  unfold chkA at h
  by_cases t : isTupD d = true
  · obtain ⟨ds, rfl⟩ := isT_of t
    rw [if_pos t] at h
    refine ⟨ds, rfl, ?_⟩
    have q : (ds.find? fun x => !arrowD k x) = none := (Option.or_eq_none_iff.mp h).1
    rw [List.find?_eq_none] at q
    rw [List.all_eq_true]
    intro x hx
    have := q x hx
    simpa using this
  · rw [if_neg t] at h
    cases h
/-- one of the parts is a wrong one: what is raised -/
theorem ok_init {f : Addr} {fd : FuncData} (F : Fun K "__init__" "House.__init__" sInit f fd) (TH : TxtH K C) (TE : TxtE K mg CB IB)
    {g1 g2 g3 g4 g5 g6 g7 g8 g9 : Addr} {gd1 gd2 gd3 gd4 gd5 gd6 gd7 gd8 gd9 : FuncData}
    (G1 : FnOk P w K mg base CX0 3 g1 gd1 ["thing"] (spTest (betD 1 3))) (c1 : Cal K mg "is_people" g1 gd1 ["thing"])
    (G2 : FnOk P w K mg base CX0 4 g2 gd2 ["thing", "people"] (spTest1 deedsD)) (c2 : Cal K mg "are_deeds" g2 gd2 ["thing", "people"])
    (G3 : FnOk P w K mg base CX0 2 g3 gd3 ["thing"] (spTest startD)) (c3 : Cal K mg "is_start" g3 gd3 ["thing"])
    (G4 : FnOk P w K mg base CX0 3 g4 gd4 ["thing"] (spTest (betD 1 3))) (c4 : Cal K mg "is_places" g4 gd4 ["thing"])
    (G5 : FnOk P w K mg base CX0 3 g5 gd5 ["thing", "places"] (spTest1 endsD)) (c5 : Cal K mg "are_ends" g5 gd5 ["thing", "places"])
    (G6 : FnOk P w K mg base CX0 3 g6 gd6 ["thing"] (spTest (betD 0 2))) (c6 : Cal K mg "is_logs" g6 gd6 ["thing"])
    (G7 : FnOk P w K mg base (L2.CX P w) 5 g7 gd7 ["house", "arrows"] (spChk C CB chkA)) (c7 : Cal K mg "check_arrows" g7 gd7 ["house", "arrows"])
    (G8 : FnOk P w K mg base (L2.CX P w) 5 g8 gd8 ["house", "tests"] (spChkT C CB)) (c8 : Cal K mg "check_tests" g8 gd8 ["house", "tests"])
    (G9 : FnOk P w K mg base CX0 4 g9 gd9 ["house", "thing"] (spHs C looksD)) (c9 : Cal K mg "are_looks" g9 gd9 ["house", "thing"]) :
    FnOk P w K mg base (L2.CX P w) 6 f fd ["self", "people", "deeds", "start", "places", "ends", "logs", "arrows", "tests", "looks"] (spInit C CB) := by
  refine fnX F scInit (fun vs H Q E h => ?_) (fun cdv A outer s H vs Q E hr h tk po => ?_)
  · obtain ⟨H0, x, dx, v0, v1, v2, v3, v4, v5, v6, v7, v8, d0, d1, d2, d3, d4, d5, d6, d7, d8, rfl, _⟩ := h
    rfl
  · obtain ⟨H0, x, dx, v0, v1, v2, v3, v4, v5, v6, v7, v8, d0, d1, d2, d3, d4, d5, d6, d7, d8, rfl, S0, nx, hx, q0, q1, q2, q3, q4, q5, q6, q7, q8, sm, k, kE⟩ := h
    simp only [Bool.and_eq_true] at sm
    obtain ⟨⟨⟨⟨⟨⟨⟨⟨m0, m1⟩, m2⟩, m3⟩, m4⟩, m5⟩, m6⟩, m7⟩, m8⟩ := sm
    have hr1 : Room 1 _ := hr.mono (by decide)
    have hr2 : Room 2 _ := hr.mono (by decide)
    have hr3 : Room 3 _ := hr.mono (by decide)
    have hr4 : Room 4 _ := hr.mono (by decide)
    have ps := passes_call tk (E := E) fun _ _ _ _ z => z
    refine ⟨_, pss_cons (ps_if (pt_not (pt_val (pe_call G1 hr3 (by rfl) c1.m c1.k c1.b .nil pass0 (pa_cons (pv 1) pa_nil)))) (pss_one (ps_raise rfl tk (pmk_ex TE.ei TE.ty TE.m hr1 (by rfl) (pa_cons pe_str pa_nil)))) pss_nil)
      (pss_cons (ps_if (pt_not (pt_val (pe_call G2 hr4 (by rfl) c2.m c2.k c2.b .nil pass0 (pa_cons (pv 2) (pa_cons (pv 1) pa_nil))))) (pss_one (ps_raise rfl tk (pmk_ex TE.ei TE.ty TE.m hr1 (by rfl) (pa_cons pe_str pa_nil)))) pss_nil)
      (pss_cons (ps_if (pt_not (pt_val (pe_call G3 hr2 (by rfl) c3.m c3.k c3.b .nil pass0 (pa_cons (pv 3) pa_nil)))) (pss_one (ps_raise rfl tk (pmk_ex TE.ei TE.ty TE.m hr1 (by rfl) (pa_cons pe_str pa_nil)))) pss_nil)
      (pss_cons (ps_if (pt_not (pt_val (pe_call G4 hr3 (by rfl) c4.m c4.k c4.b .nil pass0 (pa_cons (pv 4) pa_nil)))) (pss_one (ps_raise rfl tk (pmk_ex TE.ei TE.ty TE.m hr1 (by rfl) (pa_cons pe_str pa_nil)))) pss_nil)
      (pss_cons (ps_if (pt_not (pt_val (pe_call G5 hr3 (by rfl) c5.m c5.k c5.b .nil pass0 (pa_cons (pv 5) (pa_cons (pv 4) pa_nil))))) (pss_one (ps_raise rfl tk (pmk_ex TE.ei TE.ty TE.m hr1 (by rfl) (pa_cons pe_str pa_nil)))) pss_nil)
      (pss_cons (ps_if (pt_not (pt_val (pe_call G6 hr3 (by rfl) c6.m c6.k c6.b .nil pass0 (pa_cons (pv 6) pa_nil)))) (pss_one (ps_raise rfl tk (pmk_ex TE.ei TE.ty TE.m hr1 (by rfl) (pa_cons pe_str pa_nil)))) pss_nil)
      (pss_cons (ps_fld (pv 0) (pv 1) (by rfl)) (pss_cons (ps_fld (pv 0) (pv 2) (by rfl)) (pss_cons (ps_fld (pv 0) (pv 3) (by rfl)) (pss_cons (ps_fld (pv 0) (pv 4) (by rfl)) (pss_cons (ps_fld (pv 0) (pv 5) (by rfl)) (pss_cons (ps_fld (pv 0) (pv 6) (by rfl))
      (pss_cons (ps_expr (pe_call G7 hr (by rfl) c7.m c7.k c7.b .nil ps (pa_cons (pv 0) (pa_cons (pv 7) pa_nil)))) (pss_cons (ps_fld (pv 0) (pv 7) (by rfl))
      (pss_cons (ps_expr (pe_call G8 hr (by rfl) c8.m c8.k c8.b .nil ps (pa_cons (pv 0) (pa_cons (pv 8) pa_nil)))) (pss_cons (ps_fld (pv 0) (pv 8) (by rfl))
      (pss_cons (ps_if (pt_not (pt_val (pe_call G9 hr4 (by rfl) c9.m c9.k c9.b .nil pass0 (pa_cons (pv 0) (pa_cons (pv 9) pa_nil))))) (pss_one (ps_raise rfl tk (pmk_ex TE.ei TE.ty TE.m hr1 (by rfl) (pa_cons pe_str pa_nil)))) pss_nil)
      (pss_one (ps_fld (pv 0) (pv 9) (by rfl))))))))))))))))))), ?_⟩
    have bad : ∀ {H1 : Hp} (wd : Str), Same H0 H1 → dueD d0 d1 d2 d3 d4 d5 d6 d7 d8 = some (.str wd) → ∃ v, [V.str wd] = [v] ∧ ∀ dd, H1 dd = none → E (.ref CB) (some dd) (upd H1 dd (.xd [("part", v)])) := fun {H1} wd S1 hz => ⟨_, rfl, fun dd nd => kE _ hz _ dd _ (S1.trans (same_new nd)) (.str _) upd_same⟩
    refine ⟨_, rfl, v0, d0, rfl, Dq.same S0 _ _ q0, m0, fun H1 S1 => ⟨_, rfl, ?_⟩⟩
    have T1 := S0.trans S1
    rcases bool_ft (betD 1 3 d0) with b0 | b0
    · refine iteYes (by rw [b0]; rfl) (bad "people" T1 ?_)
      simp only [dueD, badOf, b0, if_true, Bool.false_eq_true, if_false, Option.none_or, Option.some_or]
    refine iteNo (by rw [b0]; rfl) ?_
    obtain ⟨n0, e0, l0, u0⟩ := bet_of b0
    have w0 : v0 = .int n0 := by
      rw [e0] at q0
      cases q0
      rfl
    have x0 : numD d0 = n0 := by rw [e0]; rfl
    refine ⟨_, rfl, _, rfl, v1, d1, n0, by rw [w0]; rfl, Dq.same T1 _ _ q1, m1, fun H2 S2 => ⟨_, rfl, ?_⟩⟩
    rw [← x0]
    have T2 := T1.trans S2
    rcases bool_ft (deedsD (numD d0) d1) with b1 | b1
    · refine iteYes (by rw [b1]; rfl) (bad "deeds" T2 ?_)
      simp only [dueD, badOf, b0, b1, if_true, Bool.false_eq_true, if_false, Option.none_or, Option.some_or]
    refine iteNo (by rw [b1]; rfl) ?_
    refine ⟨_, rfl, v2, d2, rfl, Dq.same T2 _ _ q2, m2, fun H3 S3 => ⟨_, rfl, ?_⟩⟩
    have T3 := T2.trans S3
    rcases bool_ft (startD d2) with b2 | b2
    · refine iteYes (by rw [b2]; rfl) (bad "start" T3 ?_)
      simp only [dueD, badOf, b0, b1, b2, if_true, Bool.false_eq_true, if_false, Option.none_or, Option.some_or]
    refine iteNo (by rw [b2]; rfl) ?_
    refine ⟨_, rfl, v3, d3, rfl, Dq.same T3 _ _ q3, m3, fun H4 S4 => ⟨_, rfl, ?_⟩⟩
    have T4 := T3.trans S4
    rcases bool_ft (betD 1 3 d3) with b3 | b3
    · refine iteYes (by rw [b3]; rfl) (bad "places" T4 ?_)
      simp only [dueD, badOf, b0, b1, b2, b3, if_true, Bool.false_eq_true, if_false, Option.none_or, Option.some_or]
    refine iteNo (by rw [b3]; rfl) ?_
    obtain ⟨n3, e3, l3, u3⟩ := bet_of b3
    have w3 : v3 = .int n3 := by
      rw [e3] at q3
      cases q3
      rfl
    have x3 : numD d3 = n3 := by rw [e3]; rfl
    refine ⟨_, rfl, _, rfl, v4, d4, n3, by rw [w3]; rfl, Dq.same T4 _ _ q4, m4, fun H5 S5 => ⟨_, rfl, ?_⟩⟩
    rw [← x3]
    have T5 := T4.trans S5
    rcases bool_ft (endsD (numD d3) d4) with b4 | b4
    · refine iteYes (by rw [b4]; rfl) (bad "ends" T5 ?_)
      simp only [dueD, badOf, b0, b1, b2, b3, b4, if_true, Bool.false_eq_true, if_false, Option.none_or, Option.some_or]
    refine iteNo (by rw [b4]; rfl) ?_
    refine ⟨_, rfl, v5, d5, rfl, Dq.same T5 _ _ q5, m5, fun H6 S6 => ⟨_, rfl, ?_⟩⟩
    have T6 := T5.trans S6
    rcases bool_ft (betD 0 2 d5) with b5 | b5
    · refine iteYes (by rw [b5]; rfl) (bad "logs" T6 ?_)
      simp only [dueD, badOf, b0, b1, b2, b3, b4, b5, if_true, Bool.false_eq_true, if_false, Option.none_or, Option.some_or]
    refine iteNo (by rw [b5]; rfl) ?_
    obtain ⟨n5, e5, l5, u5⟩ := bet_of b5
    have w5 : v5 = .int n5 := by
      rw [e5] at q5
      cases q5
      rfl
    obtain ⟨ds1, e1⟩ := deeds_of b1
    obtain ⟨ds2, e2, la2, lb2⟩ := start_of b2
    have hx6 : H6 x = some (.ins C dx []) := S6 _ _ (S5 _ _ (S4 _ _ (S3 _ _ (S2 _ _ (S1 _ _ hx)))))
    refine ⟨_, rfl, _, rfl, x, C, dx, _, rfl, hx6, TH.c, TH.people, (by show 0 < 1000; decide), ?_⟩
    have f7 : (upd H6 x (.ins C dx (putF "people" v0 []))) x = some (.ins C dx (putF "people" v0 [])) := upd_same
    have T7 : Same H0 (upd H6 x (.ins C dx (putF "people" v0 []))) := same_put T6 nx
    revert f7 T7
    generalize upd H6 x (.ins C dx (putF "people" v0 [])) = H7
    intro f7 T7
    refine ⟨_, rfl, _, rfl, x, C, dx, _, rfl, f7, TH.c, TH.deeds, (by show 1 < 1000; decide), ?_⟩
    have f8 : (upd H7 x (.ins C dx (putF "deeds" v1 (putF "people" v0 [])))) x = some (.ins C dx (putF "deeds" v1 (putF "people" v0 []))) := upd_same
    have T8 : Same H0 (upd H7 x (.ins C dx (putF "deeds" v1 (putF "people" v0 [])))) := same_put T7 nx
    revert f8 T8
    generalize upd H7 x (.ins C dx (putF "deeds" v1 (putF "people" v0 []))) = H8
    intro f8 T8
    refine ⟨_, rfl, _, rfl, x, C, dx, _, rfl, f8, TH.c, TH.start, (by show 2 < 1000; decide), ?_⟩
    have f9 : (upd H8 x (.ins C dx (putF "start" v2 (putF "deeds" v1 (putF "people" v0 []))))) x = some (.ins C dx (putF "start" v2 (putF "deeds" v1 (putF "people" v0 [])))) := upd_same
    have T9 : Same H0 (upd H8 x (.ins C dx (putF "start" v2 (putF "deeds" v1 (putF "people" v0 []))))) := same_put T8 nx
    revert f9 T9
    generalize upd H8 x (.ins C dx (putF "start" v2 (putF "deeds" v1 (putF "people" v0 [])))) = H9
    intro f9 T9
    refine ⟨_, rfl, _, rfl, x, C, dx, _, rfl, f9, TH.c, TH.places, (by show 3 < 1000; decide), ?_⟩
    have f10 : (upd H9 x (.ins C dx (putF "places" v3 (putF "start" v2 (putF "deeds" v1 (putF "people" v0 [])))))) x = some (.ins C dx (putF "places" v3 (putF "start" v2 (putF "deeds" v1 (putF "people" v0 []))))) := upd_same
    have T10 : Same H0 (upd H9 x (.ins C dx (putF "places" v3 (putF "start" v2 (putF "deeds" v1 (putF "people" v0 [])))))) := same_put T9 nx
    revert f10 T10
    generalize upd H9 x (.ins C dx (putF "places" v3 (putF "start" v2 (putF "deeds" v1 (putF "people" v0 []))))) = H10
    intro f10 T10
    refine ⟨_, rfl, _, rfl, x, C, dx, _, rfl, f10, TH.c, TH.ends, (by show 4 < 1000; decide), ?_⟩
    have f11 : (upd H10 x (.ins C dx (putF "ends" v4 (putF "places" v3 (putF "start" v2 (putF "deeds" v1 (putF "people" v0 []))))))) x = some (.ins C dx (putF "ends" v4 (putF "places" v3 (putF "start" v2 (putF "deeds" v1 (putF "people" v0 [])))))) := upd_same
    have T11 : Same H0 (upd H10 x (.ins C dx (putF "ends" v4 (putF "places" v3 (putF "start" v2 (putF "deeds" v1 (putF "people" v0 []))))))) := same_put T10 nx
    revert f11 T11
    generalize upd H10 x (.ins C dx (putF "ends" v4 (putF "places" v3 (putF "start" v2 (putF "deeds" v1 (putF "people" v0 [])))))) = H11
    intro f11 T11
    refine ⟨_, rfl, _, rfl, x, C, dx, _, rfl, f11, TH.c, TH.logs, (by show 5 < 1000; decide), ?_⟩
    have f12 : (upd H11 x (.ins C dx (putF "logs" v5 (putF "ends" v4 (putF "places" v3 (putF "start" v2 (putF "deeds" v1 (putF "people" v0 [])))))))) x = some (.ins C dx (putF "logs" v5 (putF "ends" v4 (putF "places" v3 (putF "start" v2 (putF "deeds" v1 (putF "people" v0 []))))))) := upd_same
    have T12 : Same H0 (upd H11 x (.ins C dx (putF "logs" v5 (putF "ends" v4 (putF "places" v3 (putF "start" v2 (putF "deeds" v1 (putF "people" v0 [])))))))) := same_put T11 nx
    revert f12 T12
    generalize upd H11 x (.ins C dx (putF "logs" v5 (putF "ends" v4 (putF "places" v3 (putF "start" v2 (putF "deeds" v1 (putF "people" v0 []))))))) = H12
    intro f12 T12
    have hK : ∀ (G : Hp) (fs : List (Str × V)), Same H0 G → G x = some (.ins C dx fs) → fs.lookup ("people" : Str) = some v0 → fs.lookup ("deeds" : Str) = some v1 → fs.lookup ("start" : Str) = some v2 → fs.lookup ("places" : Str) = some v3 → fs.lookup ("logs" : Str) = some v5 → Hs G (.ref x) C (kitOf d0 d1 d2 d3 d5) := fun G fs SG fx z0 z1 z2 z3 z5 => by
      have y1 := Dq.same SG _ _ q1
      have y2 := Dq.same SG _ _ q2
      subst e0 e1 e2 e3 e5 w0 w3 w5
      cases y1 with
      | @tup a1 xs1 _ g1 h1 =>
        cases y2 with
        | @tup a2 xs2 _ g2 h2 => exact ⟨⟨x, dx, fs, rfl, fx, z0, z3, z5, ⟨a1, xs1, z1, g1, h1⟩, a2, xs2, z2, g2, h2.len⟩, b1, la2, lb2⟩
    have k12 := hK H12 _ T12 f12 rfl rfl rfl rfl rfl
    have due6 : dueD d0 d1 d2 d3 d4 d5 d6 d7 d8 = (chkA (kitOf d0 d1 d2 d3 d5) d6).or ((chkT (kitOf d0 d1 d2 d3 d5) (itemsD d6) d7).or (badOf (looksD (kitOf d0 d1 d2 d3 d5) d8) "looks")) := by
      simp only [dueD, badOf, b0, b1, b2, b3, b4, b5, if_true, Option.none_or]
    refine ⟨_, rfl, _, rfl, .ref x, v6, d6, kitOf d0 d1 d2 d3 d5, rfl, k12, Dq.same T12 _ _ q6, m6, fun hA H13 S13 => ?_, fun it hA H' dd v' S' hv hd => kE it (by rw [due6, hA]; rfl) H' dd v' (T12.trans S') hv hd⟩
    have T13 := T12.trans S13
    obtain ⟨as, eA, aA⟩ := chkA_none hA
    refine ⟨_, rfl, _, rfl, x, C, dx, _, rfl, S13 _ _ f12, TH.c, TH.arrows, (by show 6 < 1000; decide), ?_⟩
    have f14 : (upd H13 x (.ins C dx (putF "arrows" v6 (putF "logs" v5 (putF "ends" v4 (putF "places" v3 (putF "start" v2 (putF "deeds" v1 (putF "people" v0 []))))))))) x = some (.ins C dx (putF "arrows" v6 (putF "logs" v5 (putF "ends" v4 (putF "places" v3 (putF "start" v2 (putF "deeds" v1 (putF "people" v0 [])))))))) := upd_same
    have T14 : Same H0 (upd H13 x (.ins C dx (putF "arrows" v6 (putF "logs" v5 (putF "ends" v4 (putF "places" v3 (putF "start" v2 (putF "deeds" v1 (putF "people" v0 []))))))))) := same_put T13 nx
    revert f14 T14
    generalize upd H13 x (.ins C dx (putF "arrows" v6 (putF "logs" v5 (putF "ends" v4 (putF "places" v3 (putF "start" v2 (putF "deeds" v1 (putF "people" v0 [])))))))) = H14
    intro f14 T14
    have hAs : HsA H14 (.ref x) C as := by
      have y6 := Dq.same T14 _ _ q6
      rw [eA] at y6
      cases y6 with
      | @tup a6 xs6 _ g6 h6 => exact ⟨x, dx, _, a6, xs6, rfl, f14, rfl, g6, h6⟩
    have lA : as.length ≤ 1000 := by
      rw [eA] at m6
      exact sm_len m6
    have iA : itemsD d6 = as := by rw [eA]; rfl
    have due7 : dueD d0 d1 d2 d3 d4 d5 d6 d7 d8 = (chkT (kitOf d0 d1 d2 d3 d5) as d7).or (badOf (looksD (kitOf d0 d1 d2 d3 d5) d8) "looks") := by rw [due6, hA, iA, Option.none_or]
    refine ⟨_, rfl, _, rfl, .ref x, v7, d7, kitOf d0 d1 d2 d3 d5, as, rfl, hK H14 _ T14 f14 rfl rfl rfl rfl rfl, hAs, aA, lA, Dq.same T14 _ _ q7, m7, fun hT H15 S15 => ?_, fun it hT H' dd v' S' hv hd => kE it (by rw [due7, hT]; rfl) H' dd v' (T14.trans S') hv hd⟩
    have T15 := T14.trans S15
    refine ⟨_, rfl, _, rfl, x, C, dx, _, rfl, S15 _ _ f14, TH.c, TH.tests, (by show 7 < 1000; decide), ?_⟩
    have f16 : (upd H15 x (.ins C dx (putF "tests" v7 (putF "arrows" v6 (putF "logs" v5 (putF "ends" v4 (putF "places" v3 (putF "start" v2 (putF "deeds" v1 (putF "people" v0 [])))))))))) x = some (.ins C dx (putF "tests" v7 (putF "arrows" v6 (putF "logs" v5 (putF "ends" v4 (putF "places" v3 (putF "start" v2 (putF "deeds" v1 (putF "people" v0 []))))))))) := upd_same
    have T16 : Same H0 (upd H15 x (.ins C dx (putF "tests" v7 (putF "arrows" v6 (putF "logs" v5 (putF "ends" v4 (putF "places" v3 (putF "start" v2 (putF "deeds" v1 (putF "people" v0 [])))))))))) := same_put T15 nx
    revert f16 T16
    generalize upd H15 x (.ins C dx (putF "tests" v7 (putF "arrows" v6 (putF "logs" v5 (putF "ends" v4 (putF "places" v3 (putF "start" v2 (putF "deeds" v1 (putF "people" v0 []))))))))) = H16
    intro f16 T16
    have due8 : dueD d0 d1 d2 d3 d4 d5 d6 d7 d8 = badOf (looksD (kitOf d0 d1 d2 d3 d5) d8) "looks" := by rw [due7, hT, Option.none_or]
    refine ⟨_, rfl, _, rfl, .ref x, v8, d8, kitOf d0 d1 d2 d3 d5, rfl, hK H16 _ T16 f16 rfl rfl rfl rfl rfl, Dq.same T16 _ _ q8, m8, fun H17 S17 => ⟨_, rfl, ?_⟩⟩
    have T17 := T16.trans S17
    rcases bool_ft (looksD (kitOf d0 d1 d2 d3 d5) d8) with b8 | b8
    · refine iteYes (by rw [b8]; rfl) (bad "looks" T17 ?_)
      rw [due8, b8]
      rfl
    refine iteNo (by rw [b8]; rfl) ?_
    refine ⟨_, rfl, _, rfl, x, C, dx, _, rfl, S17 _ _ f16, TH.c, TH.looks, (by show 8 < 1000; decide), ?_⟩
    refine k (by rw [due8, b8]; rfl) _ _ (same_put T17 nx) upd_same ⟨rfl, rfl, rfl, rfl, rfl, rfl, rfl, rfl, rfl, rfl, rfl⟩
end
end KL
set_option Elab.async false
set_option linter.all false
set_option maxRecDepth 100000
set_option maxHeartbeats 2000000
namespace KL
open PySem L2 PySem.KX PySem.Spec PyProof.Rows
abbrev lDeck : Stmt := top 88
abbrev lDraw : Stmt := top 89
abbrev lPick : Stmt := top 90
abbrev lForms : Stmt := top 91
abbrev lLook : Stmt := top 92
abbrev lWorld : Stmt := top 93
abbrev lTested : Stmt := top 94
abbrev lHouse : Stmt := top 95
abbrev lValue : Stmt := top 96
abbrev lStep : Stmt := top 97
abbrev lLooks : Stmt := top 98
abbrev lWalked : Stmt := top 99
abbrev lHeard : Stmt := top 100
abbrev lBack : Stmt := top 101
abbrev lFormsR : Stmt := top 102
abbrev lRight : Stmt := top 103
abbrev lLaw : Stmt := top 104
/-- a list beside the empty one -/
def rNil (neg : Bool) : R2 := fun x y H Q => ∃ a b xs, x = .ref a ∧ y = .ref b ∧ H a = some (.lst xs) ∧ H b = some (.lst []) ∧ Q (.bl (if neg = true then !xs.isEmpty else xs.isEmpty)) H
theorem same_size {xs : List V} {its : List Value} (r : Vals xs its) : (its.toArray.size != 0) = !xs.isEmpty := by
  cases r with
  | nil => rfl
  | cons _ _ => simp
section
variable {X : Cx}
theorem op_eqNil (hu : X.A.units + 64 < cLine) : OpR X (compareOp .Eq) (rNil false) := by
  intro pins s σ H x y v u Q I rx ry h
  obtain ⟨a, b, xs, rfl, rfl, ha, hb, q⟩ := h
  cases (show v = Value.ref a from rx)
  cases (show u = Value.ref b from ry)
  obtain ⟨_, its, n, rv, ho⟩ := I.hok _ _ ha
  obtain ⟨_, it2, n2, rv2, ho2⟩ := I.hok _ _ hb
  cases rv2
  have hz := same_size rv
  cases e : xs.isEmpty with
  | true =>
    rw [e] at hz q
    have z : its.toArray.size = 0 := by simpa using hz
    refine SeqAt.RcAt.lists (e := fun _ => true) ⟨_, ho, rfl, n, rfl⟩ ⟨_, ho2, rfl, n2, rfl⟩ z (by omega) (fun j j1 _ => absurd j1 (by rw [z]; exact Nat.not_lt_zero _)) _ _ _ _ ⟨.bl true, H, I, ?_, q⟩
    rw [z]
    rfl
  | false =>
    rw [e] at hz q
    exact SeqAt.RcAt.lists_lengths ⟨_, ho, rfl, n, rfl⟩ ⟨_, ho2, rfl, n2, rfl⟩ hz (by omega) _ _ _ _ ⟨.bl false, H, I, rfl, q⟩
theorem op_neNil (hu : X.A.units + 64 < cLine) : OpR X (compareOp .NotEq) (rNil true) := by
  intro pins s σ H x y v u Q I rx ry h
  obtain ⟨a, b, xs, rfl, rfl, ha, hb, q⟩ := h
  cases (show v = Value.ref a from rx)
  cases (show u = Value.ref b from ry)
  obtain ⟨_, its, n, rv, ho⟩ := I.hok _ _ ha
  obtain ⟨_, it2, n2, rv2, ho2⟩ := I.hok _ _ hb
  cases rv2
  have hz := same_size rv
  cases e : xs.isEmpty with
  | true =>
    rw [e] at hz q
    have z : its.toArray.size = 0 := by simpa using hz
    refine SeqAt.RcNeAt.lists (e := fun _ => true) ⟨_, ho, rfl, n, rfl⟩ ⟨_, ho2, rfl, n2, rfl⟩ z (by omega) (fun j j1 _ => absurd j1 (by rw [z]; exact Nat.not_lt_zero _)) _ _ _ _ ⟨.bl false, H, I, ?_, q⟩
    rw [z]
    rfl
  | false =>
    rw [e] at hz q
    exact SeqAt.RcNeAt.lists_lengths ⟨_, ho, rfl, n, rfl⟩ ⟨_, ho2, rfl, n2, rfl⟩ hz (by omega) _ _ _ _ ⟨.bl true, H, I, rfl, q⟩
end
end KL
set_option Elab.async false
set_option linter.all false
set_option maxRecDepth 100000
set_option maxHeartbeats 2000000
namespace KL
open PySem L2 PySem.KX PySem.Spec PyProof.Rows
section
variable {X : Cx} {pins : List (Addr × Obj)} {σ : L2.St} {H : Hp} {s : Shared}
theorem most_two {h : Heap} {n m : Nat} {as bs : List Addr} (x : ReadAtMost h n as) (y : ReadAtMost h m bs) : ReadAtMost h (max n m) (as ++ bs) :=
  (x.mono (Nat.le_max_left n m)).append (y.mono (Nat.le_max_right n m))
mutual
theorem Dq.repr (I : Inv X pins σ H s) : ∀ (d : PyData) (v : V) (u : Value), Dq H v d → RelV v u → d.showable = true → d.shown.length ≤ sizeLine → ∃ bs, ReadAtMost s.heap d.depth bs ∧ ReprK X.prog X.w bs s.heap d.depth u d.shown
  | .list ds, v, u, h, r, w, z => by
    obtain ⟨as, rd, _⟩ := Dq.reads I (.list ds) v u h r
    cases h with
    | lst q ha =>
      cases r
      obtain ⟨_, its, n, rv, ho⟩ := I.hok _ _ q
      have z : (listText (PyData.shownAll ds)).length ≤ sizeLine := by simpa only [PyData.shown] using z
      obtain ⟨bs, h1, h2⟩ := DqAll.repr I ds _ its ha rv (by simpa [PyData.showable] using w) fun t ht => Nat.le_trans (listText_mem_le ht) z
      have out := not_mem_of_deeper rd (n := PyData.depthAll ds) (Nat.lt_succ_self _) h1
      refine ⟨_ :: bs, ReadAtMost.cons rd (Nat.le_succ (PyData.depthAll ds)) h1, ?_⟩
      rw [PyData.depth, PyData.shown]
      cases its with
      | nil =>
        cases ds with
        | nil =>
          rw [PyData.shownAll, listText_nil]
          exact ReprK.listEmpty ho rfl rfl
        | cons d ds => cases h2
      | cons x l => exact ReprK.list ho rfl rfl out (h2.length_eq.trans (by simp)) fun i y e => h2.item i y (by simpa using e)
  | .tuple ds, v, u, h, r, w, z => by
    obtain ⟨as, rd, _⟩ := Dq.reads I (.tuple ds) v u h r
    cases h with
    | tup q ha =>
      cases r
      obtain ⟨_, its, rv, o, o1, o2, n, o3⟩ := I.hok _ _ q
      have z : (tupleText (PyData.shownAll ds)).length ≤ sizeLine := by simpa only [PyData.shown] using z
      obtain ⟨bs, h1, h2⟩ := DqAll.repr I ds _ its ha rv (by simpa [PyData.showable] using w) fun t ht => Nat.le_trans (tupleText_mem_le ht) z
      refine ⟨_ :: bs, ReadAtMost.cons rd (Nat.le_succ (PyData.depthAll ds)) h1, ?_⟩
      rw [PyData.depth, PyData.shown]
      exact ReprK.tuple o1 o2 o3 (not_mem_of_deeper rd (n := PyData.depthAll ds) (Nat.lt_succ_self _) h1) h2
  | .none, v, u, h, r, w, z => let ⟨_, rd, _⟩ := Dq.reads I _ v u h r; ReprK.of_reads rd w (fun x => by cases x) z
  | .bool _, v, u, h, r, w, z => let ⟨_, rd, _⟩ := Dq.reads I _ v u h r; ReprK.of_reads rd w (fun x => by cases x) z
  | .int _, v, u, h, r, w, z => let ⟨_, rd, _⟩ := Dq.reads I _ v u h r; ReprK.of_reads rd w (fun x => by cases x) z
  | .str _, v, u, h, r, w, z => let ⟨_, rd, _⟩ := Dq.reads I _ v u h r; ReprK.of_reads rd w (fun x => by cases x) z
  | .dict _, v, u, h, r, w, z => let ⟨_, rd, sm⟩ := Dq.reads I _ v u h r; ReprK.of_reads rd w (fun _ => sm rfl) z
theorem DqAll.repr (I : Inv X pins σ H s) : ∀ (ds : List PyData) (vs : List V) (us : List Value), DqAll H vs ds → Vals vs us → PyData.showableAll ds = true → (∀ t ∈ PyData.shownAll ds, t.length ≤ sizeLine) →
    ∃ bs, ReadAtMost s.heap (PyData.depthAll ds) bs ∧ ReprAllK X.prog X.w bs s.heap (PyData.depthAll ds) us (PyData.shownAll ds)
  | [], _, _, h, r, _, _ => by
    cases h
    cases r
    exact ⟨[], (fun _ x => nomatch x), ReprAllK.nil⟩
  | d :: ds, _, _, h, r, w, z => by
    cases h with
    | cons h1 h2 =>
      cases r with
      | cons r1 r2 =>
        have w' := Bool.and_eq_true_iff.mp (show (d.showable && PyData.showableAll ds) = true from w)
        obtain ⟨b1, k1, j1⟩ := Dq.repr I d _ _ h1 r1 w'.1 (z _ (.head _))
        obtain ⟨b2, k2, j2⟩ := DqAll.repr I ds _ _ h2 r2 w'.2 fun t ht => z t (.tail _ ht)
        refine ⟨b1 ++ b2, most_two k1 k2, .cons ((j1.more fun b hb => ?_).level_le (Nat.le_max_left _ _)) (j2.more_le (fun b hb => ?_) (Nat.le_max_right _ _))⟩
        · exact List.mem_append_left b2 hb
        · exact List.mem_append_right b1 hb
end
end
/-- what the text of data needs -/
structure Seen (d : PyData) : Prop where
  w : d.showable = true
  z : d.shown.length ≤ 4000000
  p : d.depth ≤ 20
/-- repr of a list with items -/
def rRepL : List V → Hp → VK → Prop := fun xs H Q => ∃ (q : Addr) (v : V) (vs : List V) (d : PyData) (ds : List PyData), xs = [.ref q] ∧ H q = some (.lst (v :: vs)) ∧ DqAll H (v :: vs) (d :: ds) ∧ Seen (.list (d :: ds)) ∧ Q (.str (PyData.list (d :: ds)).shown) H
theorem call_repL {X : Cx} (hG : X.A.guards = some []) (hu : X.A.units + 64 < cLine) : CallR X (.builtin "repr") rRepL := by
  intro pins s σ H xs us Q I r h
  obtain ⟨q, v, vs, d, ds, rfl, hq, hd, S, k⟩ := h
  obtain ⟨u, rfl, ru⟩ := vals1 r
  cases (show u = Value.ref q from ru)
  obtain ⟨as, rd, _⟩ := Dq.reads I (.list (d :: ds)) (.ref q) (.ref q) (.lst hq hd) rfl
  obtain ⟨_, its, n, rv, ho⟩ := I.hok _ _ hq
  cases rv with
  | cons r1 rv =>
    rename_i u1 us1
    have zz : (PyData.list (d :: ds)).shown.length ≤ sizeLine := Nat.le_trans S.z (by rw [sizeLine_eq]; omega)
    have z : (listText (PyData.shownAll (d :: ds))).length ≤ sizeLine := by simpa only [PyData.shown] using zz
    obtain ⟨bs, h1, h2⟩ := DqAll.repr I (d :: ds) _ (u1 :: us1) hd (.cons r1 rv) (by simpa [PyData.showable] using S.w) fun t ht => Nat.le_trans (listText_mem_le ht) z
    have out := not_mem_of_deeper rd (n := PyData.depthAll (d :: ds)) (Nat.lt_succ_self _) h1
    have dp : PyData.depthAll (d :: ds) + 1 ≤ 20 := S.p
    refine call_repr_slot (T := "list") (idr := "list.__repr__") (by omega) ⟨_, ho, rfl⟩ F.slot_list_repr.toG ?_
    refine call_list_reprK (ts := PyData.shownAll (d :: ds)) (d := PyData.depthAll (d :: ds)) ho rfl rfl out (h2.length_eq.trans (by simp)) (fun i y e => h2.item i y (by simpa using e)) (g := []) hG (fun b _ => Clear.nil b) (by show X.A.units + 1 + (PyData.depthAll (d :: ds) + 1) < cLine; omega) (fun b o e => e) (fun h' u tk hk => ⟨_, _, rfl, .str _, H, I.kept hk, ⟨u, by simp only [PyData.shown]⟩, k⟩) z
end KL
set_option Elab.async false
set_option linter.all false
set_option maxRecDepth 100000
set_option maxHeartbeats 4000000
namespace KL
open PySem L2 PySem.KX PySem.Spec PyProof.Rows
/-- C(..), where __init__ may raise: what is wished of that may hang on the slots -/
def tMkS (C : Addr) (sp : Sp) (E : L2.St → XK) (g : List V → List V) (t : TA) : TE := fun σ H Q => t σ H fun vs H1 => ∀ x dx, H1 x = none → H1 dx = none → dx ≠ x → sp (.ref x :: g vs) (upd (upd H1 dx (.own x)) x (.ins C dx [])) (fun v H2 => v = .non ∧ Q (.ref x) H2) (E σ)
/-- C(k = v, ..), the keywords in the other order -/
def tMkKS (C : Addr) (n : Nat) (sp : Sp) (E : L2.St → XK) (t : TA) : TE := fun σ H Q => t σ H fun zs H1 => zs.length = n ∧ ∀ x dx, H1 x = none → H1 dx = none → dx ≠ x → sp (.ref x :: zs.reverse) (upd (upd H1 dx (.own x)) x (.ins C dx [])) (fun v H2 => v = .non ∧ Q (.ref x) H2) (E σ)
theorem vals_rev : ∀ {vs : List V} {us : List Value}, Vals vs us → Vals vs.reverse us.reverse
  | [], _, h => by
    cases h
    exact .nil
  | v :: vs, _, h => by
    cases h with
    | cons r rs =>
      rw [List.reverse_cons, List.reverse_cons]
      exact (vals_rev rs).append (.cons r .nil)
section
variable {X : Cx} {CX : CXT} {k : Nat} {f C : Addr} {fd : FuncData} {ps ks : List Str} {sp : Sp} {E : XK} {x : Str} {p pos : Pos} {e : Expr} {es : List Expr} {kws : List Keyword} {t : TA}
theorem run_mkS {pins : List (Addr × Obj)} {σ : L2.St} {H : Hp} {s : Shared} {Q : VK} {us bs : List Value} {vs : List V} {kw : List (Str × Value)} (M : Mk X.K C f) (F : FnOk X.prog X.w X.K X.mg X.base CX k f fd ps sp) (hr : Room (k + 1) X.A)
    (hb : ∀ (s2 : Shared) (a : Addr), X.K.In s2.heap → BindsTo s2 fd ⟨.ref a :: us, kw⟩ (ps.zip (.ref a :: bs))) (hx : PassesAt CX X σ E) (I : Inv X pins σ H s) (r : Vals vs bs)
    (h : ∀ x dx, H x = none → H dx = none → dx ≠ x → sp (.ref x :: vs) (upd (upd H dx (.own x)) x (.ins C dx [])) (fun v H2 => v = .non ∧ Q (.ref x) H2) E) : wpAny (model X.prog X.w) X.A (call (.ref C) us kw) (EP X pins σ Q) X.xe s := by
  have I2 := Inv.made (C := C) I
  have q := h (s.heap.objs.size + 1) s.heap.objs.size (I.hok.fresh (Nat.le_succ _)) (I.hok.fresh (Nat.le_refl _)) (Nat.ne_of_lt (Nat.lt_succ_self _))
  refine wpAny_call (make_map (f := f) I.kIn M.makes M.init (beq_iff_eq.mp M.fn) (codeAny_mono (F.run _ X.stack _ _ _ _ _ _ E (hr.make C us kw) (I2.env0.make C us kw) (hb _ _ I2.kIn) (show Vals (V.ref (s.heap.objs.size + 1) :: vs) (Value.ref (s.heap.objs.size + 1) :: bs) from .cons rfl r) q) fun res s2 y => ?_))
  match res, y with
  | .error er, y => exact hx pins _ _ er s2 I2 y
  | .ok (.ret u), y =>
    obtain ⟨v, H3, I3, rv, ev, q3⟩ := I2.after y
    subst ev
    exact ⟨rv, V.ref (s.heap.objs.size + 1), H3, I3, rfl, q3⟩
  | .ok .next, y => exact False.elim y
  | .ok .brk, y => exact False.elim y
  | .ok .cont, y => exact False.elim y
theorem pe_mkS {E : L2.St → XK} (M : Mk X.K C f) (F : FnOk X.prog X.w X.K X.mg X.base CX k f fd ps sp) (hr : Room (k + 1) X.A) (hg : Gl X x) (hm : X.mg x = some (.ref C)) (hb : L2.Binds X.K fd ps []) (hx : ∀ σ, PassesAt CX X σ (E σ)) (ha : PA X (e :: es) t)
    (hdb : (x == ("__debug__" : Str)) = false := by decide) (he : starEach (e :: es) X.env = (false, eval e X.env) :: starEach es X.env := by rfl) (hpl : (backTo pos (starEach es X.env)).any (·.1) = false := by rfl) :
    PE X (.Call (.Name x p) (e :: es) [] pos) (tMkS C sp E id t) := by
  refine ⟨fun pins s σ H Q I h => wpAny_Call_Name_kw (ld_glob I hg hm ?_ hdb)⟩
  refine PySem.W.callWith_K (h₀ := X.base) I.ok.mod.kin M.kp (thn (ha.run pos pins s σ H _ I h) fun us s1 ⟨vs, H1, I1, r, q⟩ => ⟨I1.kIn, ?_⟩) he hpl
  have ln : us.length + 1 = ps.length := by
    have z := F.len _ _ _ _ (q (s1.heap.objs.size + 1) s1.heap.objs.size (I1.hok.fresh (Nat.le_succ _)) (I1.hok.fresh (Nat.le_refl _)) (Nat.ne_of_lt (Nat.lt_succ_self _)))
    rw [← z, ← r.length]
    rfl
  refine run_mkS (bs := us) M F hr (fun s2 a K2 => ?_) (hx σ) I1 r q
  have b := hb s2 (.ref a :: us) K2 (by rw [List.append_nil]; exact ln)
  rwa [List.append_nil] at b
theorem pe_mkKS {E : L2.St → XK} (M : Mk X.K C f) (F : FnOk X.prog X.w X.K X.mg X.base CX k f fd ps sp) (hr : Room (k + 1) X.A) (hg : Gl X x) (hm : X.mg x = some (.ref C))
    (hb : ∀ (s2 : Shared) (a : Addr) (ws : List Value), X.K.In s2.heap → ws.length = ks.length → BindsTo s2 fd ⟨[.ref a], ks.zip ws⟩ (ps.zip (.ref a :: ws.reverse))) (hx : ∀ σ, PassesAt CX X σ (E σ)) (hkw : PK X kws t)
    (hall : (backToKw pos (keywordEach kws X.env)).all (·.1.isSome) = true := by rfl) (hks : (backToKw pos (keywordEach kws X.env)).filterMap (·.1) = ks := by rfl) (hdb : (x == ("__debug__" : Str)) = false := by decide)
    (hpl : ((backTo pos (starEach [] X.env)).any (·.1) || (backToKw pos (keywordEach kws X.env)).any (·.1.isNone)) = false := by rfl) : PE X (.Call (.Name x p) [] kws pos) (tMkKS C ks.length sp E t) := by
  refine ⟨fun pins s σ H Q I hq => wpAny_Call_Name_kw (ld_glob I hg hm ?_ hdb)⟩
  refine PySem.W.callWith_KW0 (h₀ := X.base) I.ok.mod.kin M.kp hall (thn (hkw.run pos pins s σ H _ I hq) fun ws s2 ⟨zs, H2, I2, rz, lz, q⟩ => ⟨I2.kIn, ?_⟩) hpl
  rw [hks]
  exact run_mkS (us := []) M F hr (fun s3 a K3 => hb s3 a ws K3 (rz.length.symm.trans lz)) (hx σ) I2 (vals_rev rz) q
end
end KL
set_option Elab.async false
set_option linter.all false
set_option maxRecDepth 100000
set_option maxHeartbeats 2000000
namespace KL
open PySem L2 PySem.KX PySem.Spec PyProof.Rows
mutual
/-- how long the text of data is at most -/
def wt : PyData → Nat
  | .none => 4
  | .bool _ => 5
  | .int i => i.natAbs.log2 + 2
  | .str x => 10 * x.length + 2
  | .list ds => wtAll ds + 2
  | .tuple ds => wtAll ds + 3
  | .dict kvs => (PyData.dict kvs).shown.length
def wtAll : List PyData → Nat
  | [] => 0
  | d :: r => wt d + 2 + wtAll r
end
mutual
/-- how wide data is at its widest -/
def wd : PyData → Nat
  | .none => 0
  | .bool _ => 0
  | .int i => i.natAbs.log2
  | .str x => x.length
  | .list ds => max ds.length (wdAll ds)
  | .tuple ds => max ds.length (wdAll ds)
  | .dict kvs => if kvs = [] then 0 else 2000
def wdAll : List PyData → Nat
  | [] => 0
  | d :: r => max (wd d) (wdAll r)
end
def txS (x : Str) : Bool := x.cps.toList.all fun c => decide (c < 128)
mutual
/-- plain signs alone -/
def txD : PyData → Bool
  | .str x => txS x
  | .list ds => txAll ds
  | .tuple ds => txAll ds
  | _ => true
def txAll : List PyData → Bool
  | [] => true
  | d :: r => txD d && txAll r
end
theorem list_len (ts : List Str) : (listText ts).length ≤ piled ts + 2 := by
  cases ts with
  | nil => decide +kernel
  | cons t r =>
    have h := textFrom_length_pos r 1 (("[" : Str) ++ (if (0 : Nat) > 0 then ", " else "" : String) ++ t) Nat.one_pos
    have e : (("[" : Str) ++ (if (0 : Nat) > 0 then ", " else "" : String) ++ t).length = 1 + t.length := by
      rw [strLen_append, strLen_append]
      rfl
    have x : (listText (t :: r)).length = (textFrom 1 (("[" : Str) ++ (if (0 : Nat) > 0 then ", " else "" : String) ++ t) r).length + 1 := by
      show (textFrom 0 "[" (t :: r) ++ "]").length = _
      rw [strLen_append]
      rfl
    rw [x, h, e, piled_cons]
    omega
theorem tup_tlen (ts : List Str) : (tupleText ts).length ≤ piled ts + 3 := by
  unfold tupleText
  rw [strLen_append, strLen_append]
  have a : (("(" : Str)).length = 1 := rfl
  have b : ((if (ts.length == 1) = true then ",)" else ")" : String) : Str).length ≤ 2 := by
    split
    · decide +kernel
    · decide +kernel
  have c : (Str.join ", " ts).length ≤ piled ts := by
    cases ts with
    | nil => decide +kernel
    | cons t r =>
      have := join_length_add (t :: r) (by simp)
      omega
  omega
mutual
theorem shown_wt : ∀ (d : PyData), txD d = true → d.shown.length ≤ wt d
  | .none, _ => by decide +kernel
  | .bool b, _ => by cases b <;> decide +kernel
  | .int i, _ => by
    have e := int_text_length_le (a := i) (k := i.natAbs.log2 + 1) (Nat.succ_pos _) (Nat.lt_succ_self _)
    rw [PyData.shown]
    show (Str.ofString (toString i)).length ≤ i.natAbs.log2 + 2
    rw [PySem.ofString_length]
    exact e
  | .str x, h => by
    rw [PyData.shown]
    refine StrLaws.reprText_len x fun c hc => ?_
    have := of_decide_eq_true (List.all_eq_true.mp (show x.cps.toList.all (fun c => decide (c < 128)) = true from h) c hc)
    exact Nat.lt_trans this (by decide)
  | .list ds, h => by
    rw [PyData.shown]
    exact Nat.le_trans (list_len _) (Nat.add_le_add_right (shown_all ds h) 2)
  | .tuple ds, h => by
    rw [PyData.shown]
    exact Nat.le_trans (tup_tlen _) (Nat.add_le_add_right (shown_all ds h) 3)
  | .dict kvs, _ => Nat.le_refl _
theorem shown_all : ∀ (ds : List PyData), txAll ds = true → piled (PyData.shownAll ds) ≤ wtAll ds
  | [], _ => Nat.le_refl _
  | d :: ds, h => by
    have h' := Bool.and_eq_true_iff.mp (show (txD d && txAll ds) = true from h)
    rw [PyData.shownAll, piled_cons]
    have q1 := shown_wt d h'.1
    have q2 := shown_all ds h'.2
    show _ ≤ wt d + 2 + wtAll ds
    omega
end
mutual
theorem sm_wd : ∀ (d : PyData), wd d ≤ 1000 → smB d = true ∧ d.showable = true
  | .none, _ => ⟨rfl, rfl⟩
  | .bool _, _ => ⟨rfl, rfl⟩
  | .int i, h => by
    have h : i.natAbs.log2 ≤ 1000 := h
    exact ⟨decide_eq_true (by omega), decide_eq_true (by omega)⟩
  | .str x, h => ⟨decide_eq_true h, rfl⟩
  | .list ds, h => by
    have h : max ds.length (wdAll ds) ≤ 1000 := h
    obtain ⟨q1, q2⟩ := sm_wdAll ds (by omega)
    refine ⟨?_, q2⟩
    show (decide (ds.length ≤ 1000) && smAll ds) = true
    rw [q1, decide_eq_true (by omega)]
    rfl
  | .tuple ds, h => by
    have h : max ds.length (wdAll ds) ≤ 1000 := h
    obtain ⟨q1, q2⟩ := sm_wdAll ds (by omega)
    refine ⟨?_, q2⟩
    show (decide (ds.length ≤ 1000) && smAll ds) = true
    rw [q1, decide_eq_true (by omega)]
    rfl
  | .dict kvs, h => by
    have h : (if kvs = [] then 0 else 2000) ≤ 1000 := h
    by_cases e : kvs = []
    · subst e
      exact ⟨rfl, rfl⟩
    · rw [if_neg e] at h
      omega
theorem sm_wdAll : ∀ (ds : List PyData), wdAll ds ≤ 1000 → smAll ds = true ∧ PyData.showableAll ds = true
  | [], _ => ⟨rfl, rfl⟩
  | d :: ds, h => by
    have h : max (wd d) (wdAll ds) ≤ 1000 := h
    obtain ⟨a1, a2⟩ := sm_wd d (by omega)
    obtain ⟨b1, b2⟩ := sm_wdAll ds (by omega)
    refine ⟨?_, ?_⟩
    · show (smB d && smAll ds) = true
      rw [a1, b1]
      rfl
    · show (d.showable && PyData.showableAll ds) = true
      rw [a2, b2]
      rfl
end
/-- data of a size -/
structure Gd (w p W : Nat) (d : PyData) : Prop where
  wd : wd d ≤ w
  dp : d.depth ≤ p
  wt : wt d ≤ W
  tx : txD d = true
theorem Gd.mono {w p W w' p' W' : Nat} {d : PyData} (h : Gd w p W d) (h1 : w ≤ w') (h2 : p ≤ p') (h3 : W ≤ W') : Gd w' p' W' d := ⟨Nat.le_trans h.wd h1, Nat.le_trans h.dp h2, Nat.le_trans h.wt h3, h.tx⟩
end KL
set_option Elab.async false
set_option linter.all false
set_option maxRecDepth 100000
set_option maxHeartbeats 2000000
namespace KL
open PySem L2
/-! ### the deck -/
def dk (l : Addr) (m t : Int) : List (Key × V) := [(Sum.inr "rest", V.ref l), (Sum.inr "mixed", V.int m), (Sum.inr "draws", V.int t)]
theorem dk_cells (l : Addr) (m t : Int) : valV (dk l m t) (Sum.inr "rest") = some (V.ref l) := by rfl
theorem dk_mixed (l : Addr) (m t : Int) : valV (dk l m t) (Sum.inr "mixed") = some (V.int m) := by rfl
theorem dk_turn (l : Addr) (m t : Int) : valV (dk l m t) (Sum.inr "draws") = some (V.int t) := by rfl
theorem dk_put (l : Addr) (m t u : Int) : putK (dk l m t) (Sum.inr "draws") (V.int u) = dk l m u := by rfl
/-- H0 is what stays in H: neither the deck nor its list -/
structure DeckAt (H0 H : Hp) (p l : Addr) (t : Int) : Prop where
  s : Same H0 H
  p0 : H0 p = none
  l0 : H0 l = none
  d : ∃ (ns : List Int) (m : Int), H p = some (.dK (dk l m t)) ∧ H l = some (.lst (ns.map V.int)) ∧ ns.length ≤ 63 ∧ 0 ≤ m ∧ m < 2147483587
theorem DeckAt.notP {H0 H : Hp} {p l a : Addr} {t : Int} (D : DeckAt H0 H p l t) (n : H a = none) : a ≠ p ∧ a ≠ l := by
  obtain ⟨ns, m, hp, hl, _⟩ := D.d
  refine ⟨?_, ?_⟩
  · rintro rfl
    rw [hp] at n
    cases n
  · rintro rfl
    rw [hl] at n
    cases n
theorem DeckAt.ne {H0 H : Hp} {p l : Addr} {t : Int} (D : DeckAt H0 H p l t) : l ≠ p := by
  obtain ⟨ns, m, hp, hl, _⟩ := D.d
  exact ne_of hl hp (by intro q; cases q)
/-- something new, that stays -/
theorem DeckAt.new {H0 H : Hp} {p l a : Addr} {t : Int} {o : HO} (D : DeckAt H0 H p l t) (n : H a = none) : DeckAt (upd H0 a o) (upd H a o) p l t := by
  obtain ⟨ap, al⟩ := D.notP n
  obtain ⟨ns, m, hp, hl, r⟩ := D.d
  refine ⟨fun b u e => ?_, ?_, ?_, ns, m, ?_, ?_, r⟩
  · by_cases z : b = a
    · subst z
      rw [upd_same] at e ⊢
      exact e
    · rw [upd_ne z] at e ⊢
      exact D.s _ _ e
  · rw [upd_ne ap.symm]
    exact D.p0
  · rw [upd_ne al.symm]
    exact D.l0
  · rw [upd_ne ap.symm]
    exact hp
  · rw [upd_ne al.symm]
    exact hl
/-- something that does not stay: new, or changed -/
theorem DeckAt.put {H0 H : Hp} {p l a : Addr} {t : Int} {o : HO} (D : DeckAt H0 H p l t) (ap : a ≠ p) (al : a ≠ l) (n : H0 a = none) : DeckAt H0 (upd H a o) p l t := by
  obtain ⟨ns, m, hp, hl, r⟩ := D.d
  refine ⟨fun b u e => ?_, D.p0, D.l0, ns, m, ?_, ?_, r⟩
  · rw [upd_ne (ne_of_none e n)]
    exact D.s _ _ e
  · rw [upd_ne ap.symm]
    exact hp
  · rw [upd_ne al.symm]
    exact hl
theorem DeckAt.put0 {H0 H : Hp} {p l a : Addr} {t : Int} {o : HO} (D : DeckAt H0 H p l t) (n : H a = none) : DeckAt H0 (upd H a o) p l t :=
  D.put (D.notP n).1 (D.notP n).2 (D.s.free n)
/-- something that stood and stays from now on -/
theorem DeckAt.keep {H0 H : Hp} {p l a : Addr} {t : Int} {o : HO} (D : DeckAt H0 H p l t) (ap : a ≠ p) (al : a ≠ l) (h : H a = some o) : DeckAt (upd H0 a o) H p l t := by
  refine ⟨fun b u e => ?_, ?_, ?_, D.d⟩
  · by_cases z : b = a
    · subst z
      rw [upd_same] at e
      rw [h]
      exact e
    · rw [upd_ne z] at e
      exact D.s _ _ e
  · rw [upd_ne ap.symm]
    exact D.p0
  · rw [upd_ne al.symm]
    exact D.l0
theorem DeckAt.less {H0 H1 H : Hp} {p l : Addr} {t : Int} (D : DeckAt H1 H p l t) (S : Same H0 H1) : DeckAt H0 H p l t :=
  ⟨S.trans D.s, S.free D.p0, S.free D.l0, D.d⟩
/-- from a state (kept H0, heap H, turn t) to another one, by at most n draws -/
structure Go (p l : Addr) (H0 H : Hp) (t : Int) (H1 H' : Hp) (t' : Int) (n : Int) : Prop where
  s : Same H0 H1
  d : DeckAt H1 H' p l t'
  f : ∀ b o, b ≠ p → b ≠ l → H b = some o → H' b = some o
  o : ∀ b, H0 b = none → H b ≠ none → H1 b = none
  t0 : t ≤ t'
  t1 : t' ≤ t + n
theorem Go.refl {p l : Addr} {H0 H : Hp} {t : Int} (D : DeckAt H0 H p l t) : Go p l H0 H t H0 H t 0 := ⟨Same.refl _, D, fun _ _ _ _ e => e, fun _ e _ => e, by omega, by omega⟩
theorem Go.trans {p l : Addr} {H0 H H1 H' H2 H'' : Hp} {t t' t'' n n' : Int} (a : Go p l H0 H t H1 H' t' n) (b : Go p l H1 H' t' H2 H'' t'' n') : Go p l H0 H t H2 H'' t'' (n + n') := by
  refine ⟨a.s.trans b.s, b.d, fun c o cp cl e => b.f _ _ cp cl (a.f _ _ cp cl e), fun c e h => ?_, Int.le_trans a.t0 b.t0, ?_⟩
  · have h1 := a.o c e h
    by_cases cp : c = p
    · subst cp
      exact b.d.p0
    by_cases cl : c = l
    · subst cl
      exact b.d.l0
    cases z : H c with
    | none => exact absurd z h
    | some o => exact b.o c h1 (by rw [a.f c o cp cl z]; simp)
  · have := a.t1
    have := b.t1
    omega
theorem Go.more {p l : Addr} {H0 H H1 H' : Hp} {t t' n n' : Int} (a : Go p l H0 H t H1 H' t' n) (h : n ≤ n') : Go p l H0 H t H1 H' t' n' :=
  ⟨a.s, a.d, a.f, a.o, a.t0, Int.le_trans a.t1 (by omega)⟩
/-- something new that stays -/
theorem Go.new {p l a : Addr} {H0 H H1 H' : Hp} {t t' n : Int} {o : HO} (g : Go p l H0 H t H1 H' t' n) (na : H' a = none) : Go p l H0 H t (upd H1 a o) (upd H' a o) t' n := by
  have n1 : H1 a = none := g.d.s.free na
  refine ⟨fun b u e => ?_, g.d.new na, fun b u bp bl e => ?_, fun b e h => ?_, g.t0, g.t1⟩
  · have e1 := g.s _ _ e
    rw [upd_ne (ne_of_none e1 n1)]
    exact e1
  · have e1 := g.f _ _ bp bl e
    rw [upd_ne (ne_of_none e1 na)]
    exact e1
  · have e1 := g.o b e h
    by_cases z : b = a
    · subst z
      exfalso
      obtain ⟨bp, bl⟩ := g.d.notP na
      cases y : H b with
      | none => exact h y
      | some u =>
        have := g.f _ _ bp bl y
        rw [na] at this
        cases this
    · rw [upd_ne z]
      exact e1
/-- something new that does not stay as it is -/
theorem Go.put0 {p l a : Addr} {H0 H H1 H' : Hp} {t t' n : Int} {o : HO} (g : Go p l H0 H t H1 H' t' n) (na : H' a = none) : Go p l H0 H t H1 (upd H' a o) t' n :=
  ⟨g.s, g.d.put0 na, fun b u bp bl e => by
    have e1 := g.f _ _ bp bl e
    rw [upd_ne (ne_of_none e1 na)]
    exact e1, g.o, g.t0, g.t1⟩
/-- something of one's own that is changed -/
theorem Go.put {p l a : Addr} {H0 H H1 H' : Hp} {t t' n : Int} {o : HO} (g : Go p l H0 H t H1 H' t' n) (na : H a = none) (ap : a ≠ p) (al : a ≠ l) (n1 : H1 a = none) : Go p l H0 H t H1 (upd H' a o) t' n :=
  ⟨g.s, g.d.put ap al n1, fun b u bp bl e => by
    rw [upd_ne (ne_of_none e na)]
    exact g.f _ _ bp bl e, g.o, g.t0, g.t1⟩
/-- something of one's own that stays from now on -/
theorem Go.keep {p l a : Addr} {H0 H H1 H' : Hp} {t t' n : Int} {o : HO} (g : Go p l H0 H t H1 H' t' n) (na : H a = none) (ap : a ≠ p) (al : a ≠ l) (h : H' a = some o) (h1 : H1 a = none) : Go p l H0 H t (upd H1 a o) H' t' n :=
  ⟨fun b u e => by
    have e1 := g.s _ _ e
    rw [upd_ne (ne_of_none e1 h1)]
    exact e1, g.d.keep ap al h, g.f, fun b e hb => by
    rw [upd_ne (show b ≠ a from fun z => hb (by rw [z]; exact na))]
    exact g.o b e hb, g.t0, g.t1⟩
theorem Go.own {p l a : Addr} {H0 H H1 H' : Hp} {t t' n : Int} {o : HO} (g : Go p l H0 H t H1 H' t' n) (D : DeckAt H0 H p l t) (h : H a = some o) (n0 : H0 a = none) (ap : a ≠ p) (al : a ≠ l) : H' a = some o ∧ H1 a = none :=
  ⟨g.f _ _ ap al h, g.o _ n0 (by rw [h]; simp)⟩
def spDeck (K : PySem.W.Frag) : Sp := fun vs H Q _ => ∃ (a : Addr) (ns : List Int), vs = [.ref a] ∧ SqL K H a (ns.map V.int) ∧ ns.length ≤ 63 ∧ ∀ H' p l, DeckAt H H' p l 0 → Q (.ref p) H'
def spDrawS : Sp := fun vs H Q _ => ∃ (H0 : Hp) (p l : Addr) (t b : Int), vs = [.ref p, .int b] ∧ DeckAt H0 H p l t ∧ 0 ≤ t ∧ t < 1048576 ∧ 0 < b ∧ b < 1048576 ∧ ∀ H' r, DeckAt H0 H' p l (t + 1) → 0 ≤ r → r < b → Q (.int r) H'
def spDraw : Sp := fun vs H Q _ => ∃ (H0 : Hp) (p l : Addr) (t b : Int), vs = [.ref p, .int b] ∧ DeckAt H0 H p l t ∧ 0 ≤ t ∧ t < 1048576 ∧ 0 < b ∧ b < 1048576 ∧ ∀ H' r, Go p l H0 H t H0 H' (t + 1) 1 → 0 ≤ r → r < b → Q (.int r) H'
theorem draw_go {vs : List V} {H : Hp} {Q : VK} {E : XK} (h : spDraw vs H Q E) : spDrawS vs H Q E := by
  obtain ⟨H0, p, l, t, b, rfl, D, t0, t1, b0, b1, k⟩ := h
  refine ⟨fun c => if c = p ∨ c = l then none else H c, p, l, t, b, rfl, ⟨fun c o e => ?_, if_pos (.inl rfl), if_pos (.inr rfl), D.d⟩, t0, t1, b0, b1, fun H' r D' r0 rb => k H' r ?_ r0 rb⟩
  · have e : (if c = p ∨ c = l then none else H c) = some o := e
    by_cases z : c = p ∨ c = l
    · rw [if_pos z] at e
      cases e
    · rw [if_neg z] at e
      exact e
  · have f : ∀ c o, c ≠ p → c ≠ l → H c = some o → H' c = some o := fun c o cp cl e => D'.s _ _ (by
      show (if c = p ∨ c = l then none else H c) = some o
      rw [if_neg (by rintro (z | z); exact cp z; exact cl z), e])
    refine ⟨Same.refl _, ⟨fun c o e => ?_, D.p0, D.l0, D'.d⟩, f, fun _ e _ => e, by omega, by omega⟩
    refine f c o ?_ ?_ (D.s _ _ e)
    · rintro rfl
      rw [D.p0] at e
      cases e
    · rintro rfl
      rw [D.l0] at e
      cases e
end KL
set_option Elab.async false
set_option linter.all false
set_option maxRecDepth 100000
set_option maxHeartbeats 2000000
namespace KL
open PySem L2
structure TxtD (mg : Str → Option Value) : Prop where
  list : mg "list" = none
  int : mg "int" = none
  len : mg "len" = none
section
variable {P : Program} {w : World} {K : PySem.W.Frag} {mg : Str → Option Value} {base : Heap}
theorem scDeck : FnScope ["_law_script", "_law_rest", "_law_mixed", "_law_cell"] ["_law_script"] (defScope lDeck) := ⟨rfl, rfl, rfl, by decide +kernel, rfl, by decide +kernel, by decide +kernel⟩
theorem cut_ints (ns : List Int) (lo hi : Option Int) : ∃ ms : List Int, cutV (ns.map V.int) lo hi = ms.map V.int ∧ ms.length ≤ ns.length :=
  ⟨(ns.drop (HT.sIx (ns.map V.int).length 0 lo)).take (HT.sIx (ns.map V.int).length (ns.map V.int).length hi - HT.sIx (ns.map V.int).length 0 lo), by unfold cutV; rw [List.map_take, List.map_drop], by rw [List.length_take, List.length_drop]; omega⟩
theorem ok_deck {f : Addr} {fd : FuncData} (F : Fun K "_law_deck" "_law_deck" lDeck f fd) (T : TxtD mg) : FnOk P w K mg base CX0 1 f fd ["_law_script"] (spDeck K) := by
  refine F.ok scDeck (fun vs H Q E h => ?_) (fun cdv A outer s H vs Q E hr h => ?_)
  · obtain ⟨a, ns, rfl, _⟩ := h
    rfl
  · obtain ⟨a, ns, rfl, hS, hlen, k⟩ := h
    refine ⟨_, pss_cons (ps_par (i := 1) (j := 2) (by rfl) scDeck.nd rfl rfl (by decide) rfl rfl (pa_cons (pe_callTy call_list_of (by rfl) T.list (by decide +kernel) (pa_cons (pe_slice sl_list (pv 0) po_none (po_some pe_int)) pa_nil)) (pa_cons pe_int pa_nil)) (by rfl))
      (pss_cons (ps_for PassesOwn.never rfl (pi_list (pv 1)) (pg_name (i := 3) scDeck.nd rfl (.inl rfl))
        (pss_one (ps_set (i := 2) scDeck.nd rfl (.inl rfl) (pe_op op_mod (pe_callTy call_int1 (by rfl) T.int (by decide +kernel) (pa_cons (pe_op op_add (pe_op op_add (pe_op op_mul (pv 2) pe_int) (pe_op op_mod (pe_callTy call_int1 (by rfl) T.int (by decide +kernel) (pa_cons (pv 3) pa_nil)) pe_int)) pe_int) pa_nil)) pe_int))))
      (pss_one (ps_ret (pe_disp (pps_cons pe_str (pe_revL (pv 1)) (pps_cons pe_str (pv 2) (pps_cons pe_str pe_int pps_nil))) (by rfl) (by rfl) (fun z => by cases z) (by decide))))), ?_⟩
    refine ⟨_, rfl, _, rfl, a, _, rfl, hS, fun p0 hp0 => ?_⟩
    obtain ⟨ms, ems, hms⟩ := cut_ints ns none (some 63)
    refine ⟨p0, ms.map V.int, rfl, .inl (SqL.of (by rw [upd_same]; exact congrArg some (congrArg HO.lst ems))), fun l hl => ?_⟩
    have npl : l ≠ p0 := fun q => by
      rw [q, upd_same] at hl
      cases hl
    have hl0 : H l = none := by
      rw [upd_ne npl] at hl
      exact hl
    refine ⟨_, _, rfl, ?_⟩
    have hSm : SqL K (upd (upd H p0 (HO.lst (cutV (List.map V.int ns) none (some 63)))) l (HO.lst (List.map V.int ms))) l (ms.map V.int) := SqL.of upd_same
    refine ⟨_, rfl, l, rfl, ⟨_, hSm⟩, for_list (K := K) (a := l) (xs := ms.map V.int) (fun i σ H' => H' = upd (upd H p0 (HO.lst (cutV (List.map V.int ns) none (some 63)))) l (HO.lst (List.map V.int ms)) ∧ ∃ (m : Int) (v : Option V), σ = [some (.ref a), some (.ref l), some (.int m), v] ∧ 0 ≤ m ∧ m < 2147483587)
      ⟨rfl, 1086306, none, rfl, by decide, by decide⟩ (fun i σ H' _ ⟨e, _⟩ => e ▸ hSm) ?_ ?_⟩
    · rintro i y σ H' hi ⟨rfl, m, v, rfl, m0, m1⟩
      obtain ⟨u, rfl⟩ : ∃ u, y = V.int u := by
        rw [List.getElem?_map] at hi
        cases e : ms[i]? with
        | none =>
          rw [e] at hi
          cases hi
        | some u =>
          rw [e] at hi
          exact ⟨u, (Option.some.inj hi).symm⟩
      refine ⟨_, rfl, _, _, rfl, rfl, .inl ⟨by omega, by omega⟩, ?_⟩
      refine ⟨_, rfl, .inl ⟨_, rfl, ?_⟩⟩
      refine ⟨_, _, rfl, rfl, (by show (0 : Int) < 2147483629; decide), ?_⟩
      refine ⟨_, _, rfl, rfl, _, _, rfl, rfl, .inl ⟨_, rfl, ?_⟩⟩
      refine ⟨_, _, rfl, rfl, (by show (0 : Int) < 2147483587; decide), ?_⟩
      exact ⟨rfl, _, _, rfl, Int.emod_nonneg _ (by decide), Int.emod_lt_of_pos _ (by decide)⟩
    · rintro σ H' ⟨rfl, m, v, rfl, m0, m1⟩
      have same1 : Same H (upd (upd H p0 (HO.lst (cutV (List.map V.int ns) none (some 63)))) l (HO.lst (List.map V.int ms))) := fun b o e => by
        rw [upd_ne (ne_of_none e hl0), upd_ne (ne_of_none e hp0)]
        exact e
      revert hSm same1
      generalize upd (upd H p0 (HO.lst (cutV (List.map V.int ns) none (some 63)))) l (HO.lst (List.map V.int ms)) = H1
      intro hSm same1 p hp
      refine ⟨_, rfl, l, _, rfl, Same.seq (fun b o e => by rw [upd_ne (ne_of_none e hp)]; exact e) hSm, fun q hq => ?_⟩
      have nqp : q ≠ p := fun z => by
        rw [z, upd_same] at hq
        cases hq
      have hq1 : H1 q = none := by
        rw [upd_ne nqp] at hq
        exact hq
      refine ⟨_, rfl, (by rw [upd_ne nqp.symm, upd_same]), [(Sum.inr "rest", V.ref q), (Sum.inr "mixed", V.int m), (Sum.inr "draws", V.int 0)], rfl, (by show 3 ≤ 15; decide), k _ _ _ ⟨fun b o e => ?_, same1.free hp, same1.free hq1, ms.reverse, m, upd_same, ?_, ?_, m0, m1⟩⟩
      · have e1 := same1 b o e
        rw [upd_ne (ne_of_none e1 hp), upd_ne (ne_of_none e1 hq1), upd_ne (ne_of_none e1 hp)]
        exact e1
      · rw [upd_ne nqp, upd_same, List.map_reverse]
      · rw [List.length_reverse]
        exact Nat.le_trans hms hlen
end
theorem dg_cells {H : Hp} {p l : Addr} {m t : Int} (h : H p = some (.dK (dk l m t))) : DGet H p (.str "rest") (some (.ref l)) := DGet.k (k := Sum.inr "rest") h
theorem dg_mixed {H : Hp} {p l : Addr} {m t : Int} (h : H p = some (.dK (dk l m t))) : DGet H p (.str "mixed") (some (.int m)) := DGet.k (k := Sum.inr "mixed") h
theorem dg_turn {H : Hp} {p l : Addr} {m t : Int} (h : H p = some (.dK (dk l m t))) : DGet H p (.str "draws") (some (.int t)) := DGet.k (k := Sum.inr "draws") h
theorem dp_turn {H : Hp} {p l : Addr} {m t u : Int} (h : H p = some (.dK (dk l m t))) : DPut H p (.str "draws") (.int u) (upd H p (.dK (dk l m u))) := DPut.k (k := Sum.inr "draws") h (by show 3 < sizeLine; decide)
theorem dp_ints {K : PySem.W.Frag} {H : Hp} : ∀ ns : List Int, DpAll K H (ns.map V.int) (ns.map PyData.int)
  | [] => .nil
  | n :: r => .cons (.int n) (dp_ints r)
theorem lay_ints : ∀ ns : List Int, PyData.canLayAll0 (ns.map PyData.int) = true
  | [] => rfl
  | n :: r => by
    show (true && PyData.canLayAll0 (r.map PyData.int)) = true
    rw [lay_ints r]
    rfl
theorem depth_ints : ∀ ns : List Int, PyData.depthAll (ns.map PyData.int) = 0
  | [] => rfl
  | n :: r => by
    show max 0 (PyData.depthAll (r.map PyData.int)) = 0
    rw [depth_ints r]
    rfl
theorem shaped_ints (ns : List Int) : SeqAt.shaped (PyData.list (ns.map PyData.int)) = true := by
  show (PyData.canLayAll0 (ns.map PyData.int) && decide (PyData.depthAll (ns.map PyData.int) + 1 ≤ 64)) = true
  rw [lay_ints, depth_ints]
  rfl
section
variable {P : Program} {w : World} {K : PySem.W.Frag} {mg : Str → Option Value} {base : Heap}
theorem scDraw : FnScope ["_law_deck_here", "_law_below", "_law_number", "_law_count", "_law_cell"] ["_law_deck_here", "_law_below"] (defScope lDraw) := ⟨rfl, rfl, rfl, by decide +kernel, rfl, by decide +kernel, by decide +kernel⟩
theorem ok_drawS {f : Addr} {fd : FuncData} (F : Fun K "_law_draw" "_law_draw" lDraw f fd) (T : TxtD mg) : FnOk P w K mg base CX0 1 f fd ["_law_deck_here", "_law_below"] spDrawS := by
  refine F.ok scDraw (fun vs H Q E h => ?_) (fun cdv A outer s H vs Q E hr h => ?_)
  · obtain ⟨H0, p, l, t, b, rfl, _⟩ := h
    rfl
  · obtain ⟨H0, p, l, t, b, rfl, ⟨s0, p0, l0, ns, m, hp, hl, hlen, m0, m1⟩, t0, t1, b0, b1, k⟩ := h
    have hu := hu_of hr
    have nd := scDraw.nd
    have nlp : l ≠ p := ne_of hl hp (by intro q; cases q)
    refine ⟨_, pss_cons (ps_dput hu (pv 0) pe_str (pe_op op_add (pe_dget hu (pv 0) pe_str (fun _ _ => rfl)) pe_int) rfl)
      (pss_cons (ps_par (i := 2) (j := 3) (by rfl) nd rfl rfl (by decide) rfl rfl (pa_cons (pe_dget hu (pv 0) pe_str (fun _ _ => rfl)) (pa_cons (pe_dget hu (pv 0) pe_str (fun _ _ => rfl)) pa_nil)) (by rfl))
      (pss_cons (ps_if (pt_cmpR (op_neD hr.units) (pe_dget hu (pv 0) pe_str (fun _ _ => rfl)) (pe_lst pa_nil) (nomark _))
        (pss_cons (ps_set (i := 4) nd rfl (.inl rfl) (pe_bm0 PySem.F.plainAttrs_list PySem.F.slot_list_pop PySem.F.type_list_pop mt_pop (pe_dget hu (pv 0) pe_str (fun _ _ => rfl))))
        (pss_cons (ps_if (pt_cmpR op_ge (pv 4) (pe_op op_pow pe_int pe_int) (nomark _))
          (pss_cons (ps_expr (pe_bm PySem.F.plainAttrs_list PySem.F.slot_list_append PySem.F.type_list_append mt_append (pe_dget hu (pv 0) pe_str (fun _ _ => rfl)) (pa_cons (pe_op op_fdiv (pv 4) (pv 1)) pa_nil)))
          (pss_one (ps_ret (pe_op op_mod (pe_callTy call_int1 (by rfl) T.int (by decide +kernel) (pa_cons (pv 4) pa_nil)) (pv 1))))) pss_nil)
        (pss_one (ps_set (i := 2) nd rfl (.inl rfl) (pe_op op_add (pv 2) (pe_op op_mod (pe_callTy call_int1 (by rfl) T.int (by decide +kernel) (pa_cons (pv 4) pa_nil)) pe_int)))))) pss_nil)
      (pss_cons (ps_set (i := 2) nd rfl (.inl rfl) (pe_op op_mul (pe_callTy call_int1 (by rfl) T.int (by decide +kernel) (pa_cons (pe_op op_add (pe_op op_add (pe_op op_mod (pe_callTy call_int1 (by rfl) T.int (by decide +kernel) (pa_cons (pv 2) pa_nil)) pe_int) (pe_op op_mul (pe_op op_mul pe_int (pv 3)) (pv 3))) pe_int) pa_nil)) pe_int))
      (pss_cons (ps_set (i := 2) nd rfl (.inl rfl) (pe_op op_mod (pe_callTy call_int1 (by rfl) T.int (by decide +kernel) (pa_cons (pv 2) pa_nil)) pe_int))
      (pss_cons (ps_set (i := 2) nd rfl (.inl rfl) (pe_op op_mod (pe_callTy call_int1 (by rfl) T.int (by decide +kernel) (pa_cons (pe_op op_add (pe_op op_add (pe_op op_mul (pv 2) (pv 2)) (pe_op op_mul pe_int (pv 3))) pe_int) pa_nil)) pe_int))
      (pss_one (ps_ret (pe_op op_mod (pe_op op_fdiv (pe_op op_mod (pe_callTy call_int1 (by rfl) T.int (by decide +kernel) (pa_cons (pe_op op_mul (pv 2) pe_int) pa_nil)) pe_int) pe_int) (pv 1))))))))), ?_⟩
    refine ⟨_, rfl, p, _, rfl, dg_turn hp, _, _, rfl, rfl, _, rfl, p, _, rfl, dp_turn hp, ?_⟩
    have hp1 : (upd H p (.dK (dk l m (t + 1)))) p = some (.dK (dk l m (t + 1))) := upd_same
    have hl1 : (upd H p (.dK (dk l m (t + 1)))) l = some (.lst (ns.map V.int)) := by rw [upd_ne nlp]; exact hl
    have s1 : Same H0 (upd H p (.dK (dk l m (t + 1)))) := fun b o e => by
      rw [upd_ne (ne_of_none e p0)]
      exact s0 b o e
    clear hp hl s0
    revert hp1 hl1 s1
    generalize upd H p (.dK (dk l m (t + 1))) = H1
    intro hp hl s0
    refine ⟨_, rfl, p, _, rfl, dg_mixed hp, _, rfl, p, _, rfl, dg_turn hp, _, _, rfl, ?_⟩
    refine ⟨_, rfl, p, _, rfl, dg_cells hp, Nat.zero_le _, fun q hq => ?_⟩
    have hp1 : (upd H1 q (.lst [])) p = some (.dK (dk l m (t + 1))) := by rw [upd_ne (ne_of_none hp hq)]; exact hp
    have hl1 : (upd H1 q (.lst [])) l = some (.lst (ns.map V.int)) := by rw [upd_ne (ne_of_none hl hq)]; exact hl
    have hq1 : (upd H1 q (.lst [])) q = some (.lst []) := upd_same
    have s1 : Same H0 (upd H1 q (.lst [])) := fun b o e => by
      have e1 := s0 b o e
      rw [upd_ne (ne_of_none e1 hq)]
      exact e1
    clear hp hl s0 hq
    revert hp1 hl1 s1 hq1
    generalize upd H1 q (.lst []) = H2
    intro hp hl hq s0
    have tail : ∀ {σ : L2.St} {H : Hp} {M : Int}, True := fun {_ _ _} => trivial
    refine ⟨.list (ns.map .int), .list [], .lst (SqL.of hl) (dp_ints ns), .lst (SqL.of hq) .nil, shaped_ints ns, by decide, _, rfl, ?_⟩
    revert hl
    rcases ns with _ | ⟨n0, nr⟩
    · intro hl
      refine iteF ?_
      refine ⟨_, rfl, .inl ⟨_, rfl, _, _, rfl, rfl, (by show (0 : Int) < 2147483563; decide), _, rfl, _, _, rfl, rfl, .inl ⟨by decide, by decide⟩, _, rfl, _, _, rfl, rfl, .inr ⟨by omega, by omega⟩, _, _, rfl, rfl, _, _, rfl, rfl, .inl ⟨_, rfl, _, _, rfl, rfl, .inr ⟨by decide, by decide⟩, ?_⟩⟩⟩
      generalize (m % 2147483563 + 61306 * (t + 1) * (t + 1) + 53) * 40692 = M
      refine ⟨_, rfl, .inl ⟨_, rfl, _, _, rfl, rfl, (by show (0 : Int) < 2147483647; decide), ?_⟩⟩
      have c0 := Int.emod_nonneg M (b := 2147483647) (by decide)
      have c1 := Int.emod_lt_of_pos M (b := 2147483647) (by decide)
      revert c0 c1
      generalize M % 2147483647 = M2
      intro c0 c1
      refine ⟨_, rfl, _, rfl, _, _, rfl, rfl, .inl ⟨by omega, by omega⟩, _, rfl, _, _, rfl, rfl, .inl ⟨by decide, by decide⟩, _, _, rfl, rfl, _, _, rfl, rfl, .inl ⟨_, rfl, _, _, rfl, rfl, (by show (0 : Int) < 2147483579; decide), ?_⟩⟩
      refine ⟨_, rfl, _, _, rfl, rfl, .inr ⟨by decide, by decide⟩, .inl ⟨_, rfl, _, _, rfl, rfl, (by show (0 : Int) < 2147483549; decide), _, _, rfl, rfl, ⟨by decide, by decide⟩, _, rfl, _, _, rfl, rfl, b0, ?_⟩⟩
      exact k _ _ ⟨s0, p0, l0, [], m, hp, hl, hlen, m0, m1⟩ (Int.emod_nonneg _ (by omega)) (Int.emod_lt_of_pos _ b0)
    · intro hl
      refine iteT ?_
      have hne : n0 :: nr ≠ [] := fun z => by cases z
      have elast : (List.map V.int (n0 :: nr))[(List.map V.int (n0 :: nr)).length - 1]? = some (V.int ((n0 :: nr).getLast hne)) := by
        rw [List.getElem?_map, List.length_map, ← List.getLast?_eq_getElem?, List.getLast?_eq_some_getLast hne]
        rfl
      refine ⟨_, rfl, p, _, rfl, dg_cells hp, .inl ⟨rfl, _, SqL.of hl⟩, l, _, _, rfl, rfl, hl, elast, ?_⟩
      have edrop : (List.map V.int (n0 :: nr)).dropLast = ((n0 :: nr).dropLast).map V.int := by
        rw [List.map_dropLast]
      have hd63 : (n0 :: nr).dropLast.length + 1 ≤ 63 := by
        rw [List.length_dropLast]
        have : 1 ≤ (n0 :: nr).length := by simp
        omega
      rw [edrop]
      generalize (n0 :: nr).getLast hne = c
      have hp1 : (upd H2 l (.lst (((n0 :: nr).dropLast).map V.int))) p = some (.dK (dk l m (t + 1))) := by rw [upd_ne nlp.symm]; exact hp
      have hl1 : (upd H2 l (.lst (((n0 :: nr).dropLast).map V.int))) l = some (.lst (((n0 :: nr).dropLast).map V.int)) := upd_same
      have s1 : Same H0 (upd H2 l (.lst (((n0 :: nr).dropLast).map V.int))) := fun b o e => by
        rw [upd_ne (ne_of_none e l0)]
        exact s0 b o e
      clear hp hl s0 hq
      revert hp1 hl1 s1 hd63
      generalize upd H2 l (.lst (((n0 :: nr).dropLast).map V.int)) = H3
      generalize (n0 :: nr).dropLast = ns
      intro hlen hp hl s0
      refine ⟨_, rfl, _, _, rfl, rfl, ⟨by decide, by decide, by decide⟩, _, _, rfl, rfl, _, rfl, ?_⟩
      refine ite2 (fun _ => ?_) (fun _ => ?_)
      · refine ⟨_, rfl, p, _, rfl, dg_cells hp, .inl ⟨rfl, _, SqL.of hl⟩, _, rfl, _, rfl, _, _, rfl, rfl, ⟨b0, by omega⟩, l, _, _, rfl, rfl, hl, ?_, ?_⟩
        · rw [List.length_map]
          exact Nat.lt_of_le_of_lt (Nat.le_of_succ_le hlen) (by decide)
        · refine ⟨_, rfl, .inl ⟨_, rfl, _, rfl, _, _, rfl, rfl, b0, ?_⟩⟩
          refine k _ _ ⟨fun b o e => ?_, p0, l0, ns ++ [c / b], m, ?_, ?_, ?_, m0, m1⟩ (Int.emod_nonneg _ (by omega)) (Int.emod_lt_of_pos _ b0)
          · rw [upd_ne (ne_of_none e l0)]
            exact s0 b o e
          · rw [upd_ne nlp.symm]
            exact hp
          · rw [upd_same, List.map_append]
            rfl
          · rw [List.length_append]
            exact hlen
      · refine ⟨_, rfl, _, rfl, .inl ⟨_, rfl, _, _, rfl, rfl, (by show (0 : Int) < 2147483629; decide), _, _, rfl, rfl, ?_⟩⟩
        have hlen : ns.length ≤ 63 := by omega
        refine ⟨_, rfl, .inl ⟨_, rfl, _, _, rfl, rfl, (by show (0 : Int) < 2147483563; decide), _, rfl, _, _, rfl, rfl, .inl ⟨by decide, by decide⟩, _, rfl, _, _, rfl, rfl, .inr ⟨by omega, by omega⟩, _, _, rfl, rfl, _, _, rfl, rfl, .inl ⟨_, rfl, _, _, rfl, rfl, .inr ⟨by decide, by decide⟩, ?_⟩⟩⟩
        generalize ((m + c % 2147483629) % 2147483563 + 61306 * (t + 1) * (t + 1) + 53) * 40692 = M
        refine ⟨_, rfl, .inl ⟨_, rfl, _, _, rfl, rfl, (by show (0 : Int) < 2147483647; decide), ?_⟩⟩
        have c0 := Int.emod_nonneg M (b := 2147483647) (by decide)
        have c1 := Int.emod_lt_of_pos M (b := 2147483647) (by decide)
        revert c0 c1
        generalize M % 2147483647 = M2
        intro c0 c1
        refine ⟨_, rfl, _, rfl, _, _, rfl, rfl, .inl ⟨by omega, by omega⟩, _, rfl, _, _, rfl, rfl, .inl ⟨by decide, by decide⟩, _, _, rfl, rfl, _, _, rfl, rfl, .inl ⟨_, rfl, _, _, rfl, rfl, (by show (0 : Int) < 2147483579; decide), ?_⟩⟩
        refine ⟨_, rfl, _, _, rfl, rfl, .inr ⟨by decide, by decide⟩, .inl ⟨_, rfl, _, _, rfl, rfl, (by show (0 : Int) < 2147483549; decide), _, _, rfl, rfl, ⟨by decide, by decide⟩, _, rfl, _, _, rfl, rfl, b0, ?_⟩⟩
        exact k _ _ ⟨s0, p0, l0, ns, m, hp, hl, hlen, m0, m1⟩ (Int.emod_nonneg _ (by omega)) (Int.emod_lt_of_pos _ b0)
theorem ok_draw {f : Addr} {fd : FuncData} (F : Fun K "_law_draw" "_law_draw" lDraw f fd) (T : TxtD mg) : FnOk P w K mg base CX0 1 f fd ["_law_deck_here", "_law_below"] spDraw :=
  (ok_drawS F T).imp fun _ _ _ _ => draw_go
end
end KL
set_option Elab.async false
set_option linter.all false
set_option maxRecDepth 100000
set_option maxHeartbeats 4000000
namespace KL
open PySem L2 PySem.Spec PyProof.Rows
/-- once: the tuple itself -/
theorem tuple_once (l : Addr) (its : Array Value) (n : Nat) (dd : Option Addr) (sl : Array (Option Value)) (x : Int) (u : Tok) (c0 : (decide (x < -(2 ^ 63)) || decide (x ≥ 2 ^ 63)) = false) (c1 : (its.isEmpty || x == 1) = true) :
    Meets (Builtin.«tuple.__mul__» ⟨[.ref l, .int x u], []⟩) (fun _ R s => s.heap.get? l = some ⟨.type "tuple", dd, .seq its n, sl⟩ ∧ R (.ok (.ret (.ref l))) s) :=
  .of_wp fun prog w A R s hh => by
    obtain ⟨hp, g, d, tk, os⟩ := s
    obtain ⟨hl, hh⟩ := hh
    have f1 := AutoSeq1.idx_int
    wp_walk using wpAny_loadPart' hl
    repeat (first
      | (refine wpAny_ite_false (decide_eq_false (by rw [c0]; exact Bool.false_ne_true)) ?_; wp_walk using wpAny_loadPart' hl)
      | (refine wpAny_ite_true (decide_eq_true c1) ?_; wp_walk using wpAny_loadPart' hl))
    exact ⟨_, rfl, hh⟩
def rRepU (K : PySem.W.Frag) : R2 := fun x y H Q => ∃ l k xs, x = .ref l ∧ y = .int k ∧ SqT K H l xs ∧ xs ≠ [] ∧ 1 ≤ k ∧ k ≤ 1000 ∧ xs.length ≤ 1000 ∧ (k = 1 → Q (.ref l) H) ∧ (k ≠ 1 → ∀ p, H p = none → Q (.ref p) (upd H p (.tup (List.replicate k.toNat xs).flatten)))
theorem op_repU {X : Cx} : OpR X (binaryOp .Mult) (rRepU X.K) := by
  intro pins s σ H x y v u Q I rx ry h
  obtain ⟨l, k, xs, rfl, rfl, hT, hne, h1, h2, hz, q1, q2⟩ := h
  by_cases e : k = 1
  · subst e
    cases rx
    obtain ⟨t, rfl⟩ := ry
    obtain ⟨its, r, ⟨⟨cls, dd, data, sl⟩, ho, hc, n, hd⟩, hs⟩ := I.tuple hT
    simp only at hc hd
    subst hc hd
    refine wpAny_binaryOp_repeat_ref (T := "tuple") (U := "int") (by decide) ⟨_, ho, rfl⟩ (fun s' => typeIs_int s' 1 t) noFill_tuple_mul F.fills_int_mul F.slot_int_rmul repeat_tuple F.slot_int_index.lookup ?_
    refine call_meets F.slot_int_rmul (typeIs_int s 1 t) F.entry_int_rmul (F.args_int_rmul_2 _ _) (int_rmul_tuple 1 t l its.toArray n dd sl) ⟨ho, rfl, ⟨_, ho, rfl⟩, ?_⟩
    refine call_meets F.slot_tuple_mul ⟨_, ho, rfl⟩ F.entry_tuple_mul (F.args_tuple_mul_2 _ _) (tuple_once l its.toArray n dd sl 1 t (by decide) (by simp)) ⟨ho, ?_⟩
    exact ⟨.ref l, H, I, rfl, q1 rfl⟩
  · exact op_repT pins s σ H _ _ v u Q I rx ry ⟨l, k, xs, rfl, rfl, hT, hne, by omega, h2, hz, q2 e⟩
end KL
set_option Elab.async false
set_option linter.all false
set_option maxRecDepth 100000
set_option maxHeartbeats 4000000
namespace KL
open PySem L2
/-- an object of one's own, that changes -/
structure Own (p l a : Addr) (Hb H0 H : Hp) (o : HO) : Prop where
  b : Hb a = none
  ap : a ≠ p
  al : a ≠ l
  n : H0 a = none
  h : H a = some o
section
variable {p l a b : Addr} {Hs Hb H0 H H1 H' : Hp} {t t' t'' n c : Int} {o o' ob : HO}
theorem Own.start (g : Go p l Hs Hb t H0 H t' n) (na : H a = none) : Own p l a Hb H0 (upd H a o) o := by
  obtain ⟨ap, al⟩ := g.d.notP na
  refine ⟨?_, ap, al, g.d.s.free na, upd_same⟩
  cases z : Hb a with
  | none => rfl
  | some u =>
    have := g.f _ _ ap al z
    rw [na] at this
    cases this
theorem Own.go (w : Own p l a Hb H0 H o) (g : Go p l H0 H t H1 H' t' c) : Own p l a Hb H1 H' o :=
  ⟨w.b, w.ap, w.al, g.o _ w.n (by rw [w.h]; simp), g.f _ _ w.ap w.al w.h⟩
theorem Own.upd (w : Own p l a Hb H0 H o) (ne : a ≠ b) : Own p l a Hb H0 (upd H b o') o :=
  ⟨w.b, w.ap, w.al, w.n, by rw [upd_ne ne]; exact w.h⟩
theorem Own.ne (w : Own p l a Hb H0 H o) (nb : H b = none) : a ≠ b := fun z => by
  subst z
  rw [w.h] at nb
  cases nb
theorem Own.put (w : Own p l a Hb H0 H o) (nb : H b = none) : Own p l a Hb H0 (L2.upd H b o') o := w.upd (w.ne nb)
theorem Own.new (w : Own p l a Hb H0 H o) (nb : H b = none) : Own p l a Hb (L2.upd H0 b ob) (L2.upd H b ob) o :=
  ⟨w.b, w.ap, w.al, by rw [upd_ne (w.ne nb)]; exact w.n, by rw [upd_ne (w.ne nb)]; exact w.h⟩
theorem Own.set (w : Own p l a Hb H0 H o) : Own p l a Hb H0 (L2.upd H a o') o' := ⟨w.b, w.ap, w.al, w.n, upd_same⟩
theorem Own.freeze (w : Own p l a Hb H0 H o) (ne : a ≠ b) : Own p l a Hb (L2.upd H0 b ob) H o := ⟨w.b, w.ap, w.al, by rw [upd_ne ne]; exact w.n, w.h⟩
theorem Go.setO (g : Go p l Hs Hb t H0 H t' n) (w : Own p l a Hb H0 H o) : Go p l Hs Hb t H0 (L2.upd H a o') t' n := g.put w.b w.ap w.al w.n
theorem Go.keepO (g : Go p l Hs Hb t H0 H t' n) (w : Own p l a Hb H0 H o) : Go p l Hs Hb t (L2.upd H0 a o) H t' n := g.keep w.b w.ap w.al w.h w.n
end
/-- a list that is being made, behind i turns of at most c draws -/
def Making (p l D : Addr) (Hs Hb : Hp) (t c : Int) (P : Nat → List PyData → Prop) (i : Nat) (H : Hp) : Prop :=
  ∃ H0 t' ys ds, Go p l Hs Hb t H0 H t' ((i : Int) * c) ∧ Own p l D Hb H0 H (.lst ys) ∧ DqAll H0 ys ds ∧ P i ds
theorem dq_len {H : Hp} {ys : List V} {ds : List PyData} (q : DqAll H ys ds) : ys.length = ds.length := q.len
section
variable {p l D : Addr} {Hs Hb H0 H H1 H' : Hp} {t t' t'' n c : Int} {P : Nat → List PyData → Prop} {i : Nat} {ys : List V} {ds : List PyData}
theorem Making.start (dk : DeckAt Hs Hb p l t) (nD : Hb D = none) (h : P 0 []) : Making p l D Hs Hb t c P 0 (upd Hb D (.lst [])) :=
  ⟨Hs, t, [], [], ((Go.refl dk).put0 nD).more (by omega), Own.start (Go.refl dk) nD, .nil, h⟩
theorem Making.turn (g : Go p l Hs Hb t H0 H t' ((i : Int) * c)) (w : Own p l D Hb H0 H (.lst ys)) (q : DqAll H0 ys ds) (g2 : Go p l H0 H t' H1 H' t'' c) {v : V} {d : PyData} (hd : Dq H1 v d) (hn : ds.length < 1000) (hp : P (i + 1) (ds ++ [d])) :
    ∃ acc, H' D = some (.lst acc) ∧ acc.length < sizeLine ∧ Making p l D Hs Hb t c P (i + 1) (upd H' D (.lst (acc ++ [v]))) := by
  have w2 := w.go g2
  refine ⟨ys, w2.h, by rw [dq_len q, sizeLine_eq]; omega, H1, t'', ys ++ [v], ds ++ [d], ?_, w2.set, (DqAll.same g2.s _ _ q).snoc hd, hp⟩
  refine ((g.trans g2).more ?_).setO w2
  rw [Int.natCast_add, Int.add_mul]
  omega
theorem Making.skip (g : Go p l Hs Hb t H0 H t' ((i : Int) * c)) (w : Own p l D Hb H0 H (.lst ys)) (q : DqAll H0 ys ds) (g2 : Go p l H0 H t' H1 H' t'' c) (hp : P (i + 1) ds) : Making p l D Hs Hb t c P (i + 1) H' := by
  refine ⟨H1, t'', ys, ds, (g.trans g2).more ?_, w.go g2, DqAll.same g2.s _ _ q, hp⟩
  rw [Int.natCast_add, Int.add_mul]
  omega
theorem dq_new {H : Hp} {q : Addr} {ys : List V} {ds : List PyData} (nq : H q = none) (h : DqAll H ys ds) : Dq (upd H q (.tup ys)) (.ref q) (.tuple ds) := .tup upd_same (DqAll.same (same_new nq) _ _ h)
end
/-- what a def hands back that draws at most n times -/
def Gives (p l : Addr) (H0 H : Hp) (t n : Int) (G : PyData → Prop) (Q : VK) : Prop := ∀ H1 H' t' v d, Go p l H0 H t H1 H' t' n → Dq H1 v d → G d → Q v H'
theorem Gives.of {p l : Addr} {Hs Hb H0 H : Hp} {t t' n m k : Int} {G : PyData → Prop} {Q : VK} (h : Gives p l Hs Hb t k G Q) (g : Go p l Hs Hb t H0 H t' n) (e : n + m ≤ k) : Gives p l H0 H t' m G Q :=
  fun _ _ _ _ _ g2 hd hG => h _ _ _ _ _ ((g.trans g2).more e) hd hG
/-- a form of n registers with small numbers -/
def FormS (n : Int) (d : PyData) : Prop := ∃ ns : List Int, d = .tuple (ns.map .int) ∧ (ns.length : Int) = n + 1 ∧ ∀ i ∈ ns, -10 ≤ i ∧ i ≤ 10
def spPick : Sp := fun vs H Q _ => ∃ (H0 : Hp) (p l : Addr) (t : Int) (a : Addr) (xs : List V), vs = [.ref p, .ref a] ∧ DeckAt H0 H p l t ∧ 0 ≤ t ∧ t < 1048576 ∧ H a = some (.lst xs) ∧ a ≠ p ∧ a ≠ l ∧ 0 < xs.length ∧ xs.length < 1000 ∧ ∀ H' (i : Nat) v, Go p l H0 H t H0 H' (t + 1) 1 → xs[i]? = some v → Q v H'
section
variable {P : Program} {w : World} {K : PySem.W.Frag} {mg : Str → Option Value} {base : Heap}
theorem scPick : FnScope ["_law_deck_here", "_law_some"] ["_law_deck_here", "_law_some"] (defScope lPick) := ⟨rfl, rfl, rfl, by decide +kernel, rfl, by decide +kernel, by decide +kernel⟩
theorem ok_pick {f g : Addr} {fd gd : FuncData} (F : Fun K "_law_pick" "_law_pick" lPick f fd) (T : TxtD mg) (G : FnOk P w K mg base CX0 1 g gd ["_law_deck_here", "_law_below"] spDraw) (c : Cal K mg "_law_draw" g gd ["_law_deck_here", "_law_below"]) :
    FnOk P w K mg base CX0 2 f fd ["_law_deck_here", "_law_some"] spPick := by
  refine F.ok scPick (fun vs H Q E h => ?_) (fun cdv A outer s H vs Q E hr h => ?_)
  · obtain ⟨H0, p, l, t, a, xs, rfl, _⟩ := h
    rfl
  · obtain ⟨H0, p, l, t, a, xs, rfl, D, t0, t1, ha, ap, al, hx0, hx1, k⟩ := h
    refine ⟨_, pss_one (ps_ret (pe_ix ix_list (pv 1) (pe_call G hr rfl c.m c.k c.b .nil pass0 (pa_cons (pv 0) (pa_cons (pe_callB call_len_seq (by rfl) T.len PySem.boot_len (pa_cons (pv 1) pa_nil)) pa_nil))) (fun _ _ => rfl))), ?_⟩
    refine ⟨_, rfl, _, rfl, _, rfl, a, xs, rfl, .inl (SqL.of ha), H0, p, l, t, _, rfl, D, t0, t1, by omega, by omega, fun H' r g r0 rb => ?_⟩
    obtain ⟨j, rfl⟩ := Int.eq_ofNat_of_zero_le r0
    have hj : j < xs.length := by omega
    exact ⟨a, xs, _, xs[j], rfl, rfl, SqL.of (g.f _ _ ap al ha), atI_nat (List.getElem?_eq_getElem hj), k H' j _ g (List.getElem?_eq_getElem hj)⟩
structure TxtG (mg : Str → Option Value) : Prop where
  d : TxtD mg
  range : mg "range" = none
  tuple : mg "tuple" = none
end
end KL
set_option Elab.async false
set_option linter.all false
set_option maxRecDepth 100000
set_option maxHeartbeats 4000000
namespace KL
open PySem L2
/-- some data, each of a size -/
def Many (n w p W : Nat) (ds : List PyData) : Prop := ds.length ≤ n ∧ ∀ d ∈ ds, Gd w p W d
theorem Many.nil {w p W : Nat} : Many 0 w p W [] := ⟨Nat.le_refl _, fun _ h => nomatch h⟩
theorem Many.snoc {n w p W : Nat} {ds : List PyData} {d : PyData} (h : Many n w p W ds) (g : Gd w p W d) : Many (n + 1) w p W (ds ++ [d]) := by
  refine ⟨by have := h.1; simp; omega, fun x hx => ?_⟩
  rcases List.mem_append.mp hx with z | z
  · exact h.2 x z
  · rw [List.mem_singleton.mp z]
    exact g
theorem Many.more {n m w p W : Nat} {ds : List PyData} (h : Many n w p W ds) (e : n ≤ m) : Many m w p W ds := ⟨Nat.le_trans h.1 e, h.2⟩
theorem Many.cons {n w p W : Nat} {ds : List PyData} {d : PyData} (g : Gd w p W d) (h : Many n w p W ds) : Many (n + 1) w p W (d :: ds) := by
  refine ⟨by have := h.1; simp; omega, fun x hx => ?_⟩
  rcases List.mem_cons.mp hx with rfl | z
  · exact g
  · exact h.2 x z
theorem wdAll_le {n w p W : Nat} : ∀ {ds : List PyData}, Many n w p W ds → wdAll ds ≤ w
  | [], _ => Nat.zero_le _
  | d :: r, h => Nat.max_le.mpr ⟨(h.2 d (.head _)).wd, wdAll_le (n := n) ⟨Nat.le_trans (Nat.le_succ _) h.1, fun x hx => h.2 x (.tail _ hx)⟩⟩
theorem dpAll_le {n w p W : Nat} : ∀ {ds : List PyData}, Many n w p W ds → PyData.depthAll ds ≤ p
  | [], _ => Nat.zero_le _
  | d :: r, h => Nat.max_le.mpr ⟨(h.2 d (.head _)).dp, dpAll_le (n := n) ⟨Nat.le_trans (Nat.le_succ _) h.1, fun x hx => h.2 x (.tail _ hx)⟩⟩
theorem txAll_of {n w p W : Nat} : ∀ {ds : List PyData}, Many n w p W ds → txAll ds = true
  | [], _ => rfl
  | d :: r, h => by
    show (txD d && txAll r) = true
    rw [(h.2 d (.head _)).tx, txAll_of (n := n) ⟨Nat.le_trans (Nat.le_succ _) h.1, fun x hx => h.2 x (.tail _ hx)⟩]
    rfl
theorem wtAll_le {w p W : Nat} : ∀ {ds : List PyData} (n : Nat), Many n w p W ds → wtAll ds ≤ n * (W + 2)
  | [], _, _ => Nat.zero_le _
  | d :: r, 0, h => absurd h.1 (by simp)
  | d :: r, n + 1, h => by
    have h1 := (h.2 d (.head _)).wt
    have h2 := wtAll_le n (ds := r) ⟨by have := h.1; simp at this; exact this, fun x hx => h.2 x (.tail _ hx)⟩
    show wt d + 2 + wtAll r ≤ (n + 1) * (W + 2)
    rw [Nat.succ_mul]
    omega
theorem Many.tup {n w p W : Nat} {ds : List PyData} (h : Many n w p W ds) : Gd (max w n) (p + 1) (n * (W + 2) + 3) (.tuple ds) := by
  refine ⟨?_, Nat.succ_le_succ (dpAll_le h), Nat.add_le_add_right (wtAll_le n h) 3, txAll_of h⟩
  exact Nat.max_le.mpr ⟨Nat.le_trans h.1 (Nat.le_max_right _ _), Nat.le_trans (wdAll_le h) (Nat.le_max_left _ _)⟩
theorem gd_int {i : Int} (h1 : -1000 ≤ i) (h2 : i ≤ 1000) : Gd 20 0 30 (.int i) := by
  have e : i.natAbs.log2 ≤ 10 := by
    have : i.natAbs < 2 ^ 10 := by omega
    by_cases z : i.natAbs = 0
    · rw [z]
      decide
    · exact Nat.le_of_lt ((Nat.log2_lt z).mpr this)
  refine ⟨?_, Nat.zero_le _, ?_, rfl⟩
  · show i.natAbs.log2 ≤ 20
    omega
  · show i.natAbs.log2 + 2 ≤ 30
    omega
theorem gd_str {x : Str} (h : txS x = true) (e : x.length ≤ 2) : Gd 20 0 30 (.str x) := by
  refine ⟨?_, Nat.zero_le _, ?_, h⟩
  · show x.length ≤ 20
    omega
  · show 10 * x.length + 2 ≤ 30
    omega
theorem FormS.gd {n : Int} {d : PyData} (h : FormS n d) (h1 : n ≤ 3) : Gd 20 1 140 d := by
  obtain ⟨ns, rfl, e, q⟩ := h
  have : Many 4 20 0 30 (ns.map .int) := by
    refine ⟨by simp; omega, fun x hx => ?_⟩
    obtain ⟨i, hi, rfl⟩ := List.mem_map.mp hx
    have := q i hi
    exact gd_int (by omega) (by omega)
  exact this.tup.mono (by decide) (by decide) (by decide)
/-- the letters of a house -/
def lets5 : List Str := ["ab", "abc", "kz", "a", "xyz"]
theorem lets_ok {x : Str} (h : x ∈ lets5) : x.cps.size ≤ 3 ∧ ∀ (i : Nat) (c : Nat), x.cps[i]? = some c → c < 128 := by
  have z : (lets5.all fun x => decide (x.cps.size ≤ 3) && x.cps.toList.all fun c => decide (c < 128)) = true := by decide +kernel
  have y := List.all_eq_true.mp z x h
  simp only [Bool.and_eq_true, decide_eq_true_eq] at y
  refine ⟨y.1, fun i c hc => ?_⟩
  have hm : c ∈ x.cps.toList := by
    rw [Array.mem_toList_iff]
    exact Array.mem_of_getElem? hc
  exact of_decide_eq_true (List.all_eq_true.mp y.2 c hm)
theorem gd_sign {x : Str} (h : x ∈ lets5) {i c : Nat} (e : x.cps[i]? = some c) : Gd 20 0 30 (.str ⟨#[c]⟩) := by
  refine gd_str ?_ (by show 1 ≤ 2; decide)
  show ([c].all fun c => decide (c < 128)) = true
  simp [(lets_ok h).2 i c e]
/-! ### the dict of a house -/
def names9 : List Key := [Sum.inr "people", Sum.inr "deeds", Sum.inr "start", Sum.inr "places", Sum.inr "ends", Sum.inr "logs", Sum.inr "arrows", Sum.inr "tests", Sum.inr "looks"]
def wk (vs : List V) : List (Key × V) := names9.zip vs
theorem wk_start (a b v : V) : putK (wk [a, b]) (Sum.inr "start") v = wk [a, b, v] := by rfl
theorem wk_places (a b c v : V) : putK (wk [a, b, c]) (Sum.inr "places") v = wk [a, b, c, v] := by rfl
theorem wk_ends (a b c d v : V) : putK (wk [a, b, c, d]) (Sum.inr "ends") v = wk [a, b, c, d, v] := by rfl
theorem wk_logs (a b c d e v : V) : putK (wk [a, b, c, d, e]) (Sum.inr "logs") v = wk [a, b, c, d, e, v] := by rfl
theorem wk_arrows (a b c d e f v : V) : putK (wk [a, b, c, d, e, f]) (Sum.inr "arrows") v = wk [a, b, c, d, e, f, v] := by rfl
theorem wk_tests (a b c d e f g v : V) : putK (wk [a, b, c, d, e, f, g]) (Sum.inr "tests") v = wk [a, b, c, d, e, f, g, v] := by rfl
theorem wk_looks (a b c d e f g h v : V) : putK (wk [a, b, c, d, e, f, g, h]) (Sum.inr "looks") v = wk [a, b, c, d, e, f, g, h, v] := by rfl
theorem wk_two (a b : V) : mergeK [] [(Sum.inr "people", a), (Sum.inr "deeds", b)] = wk [a, b] := by rfl
theorem wk_getlogs (a b c d e f : V) : valV (wk [a, b, c, d, e, f]) (Sum.inr "logs") = some f := by rfl
end KL
set_option Elab.async false
set_option linter.all false
set_option maxRecDepth 100000
set_option maxHeartbeats 2000000
namespace KL
open PySem L2 PySem.Spec PyProof.Rows
/-! ### sorted(xs) of a list of data that can be compared -/
def pairD (p : V × PyData) : PyData := p.2
def ItemQ (H : Hp) (u : Value) (p : V × PyData) : Prop := RelV p.1 u ∧ Dq H p.1 p.2
theorem each_items {H : Hp} : ∀ {ds : List PyData} {xs : List V} {us : List Value}, DqAll H xs ds → Vals xs us → PySem.W.EachIs (ItemQ H) us (xs.zip ds)
  | [], _, _, h, r => by
    cases h
    cases r
    exact .nil
  | d :: ds, _, _, h, r => by
    cases h with
    | cons h1 h2 =>
      cases r with
      | cons r1 r2 => exact .cons ⟨r1, h1⟩ (each_items h2 r2)
theorem each_reads {X : Cx} {pins : List (Addr × Obj)} {σ : L2.St} {H : Hp} {s : Shared} (I : Inv X pins σ H s) : ∀ {ds : List PyData} {xs : List V} {us : List Value}, DqAll H xs ds → Vals xs us → PyData.canLayAll0 ds = true → PySem.W.EachIs (fun u p => ∃ as, Reads s.heap u (pairD p) as) us (xs.zip ds)
  | [], _, _, h, r, _ => by
    cases h
    cases r
    exact .nil
  | d :: ds, _, _, h, r, l => by
    cases h with
    | cons h1 h2 =>
      cases r with
      | cons r1 r2 =>
        have l' := Bool.and_eq_true_iff.mp (show (d.canLay0 && PyData.canLayAll0 ds) = true from l)
        exact .cons (Dq.reads0 I d _ _ h1 l'.1 r1) (each_reads I h2 r2 l'.2)
theorem vals_of_each {H : Hp} : ∀ {us : List Value} {zs : List (V × PyData)}, PySem.W.EachIs (ItemQ H) us zs → Vals (zs.map (·.1)) us ∧ DqAll H (zs.map (·.1)) (zs.map (·.2))
  | _, _, .nil => ⟨.nil, .nil⟩
  | _, _, .cons h t => by
    obtain ⟨q1, q2⟩ := vals_of_each t
    exact ⟨.cons h.1 q1, .cons h.2 q2⟩
theorem zip_snd : ∀ {ds : List PyData} {xs : List V}, xs.length = ds.length → (xs.zip ds).map (·.2) = ds
  | [], [], _ => rfl
  | d :: ds, x :: xs, h => by
    show d :: (xs.zip ds).map (·.2) = d :: ds
    rw [zip_snd (ds := ds) (xs := xs) (Nat.succ.inj h)]
/-- the order of sorted -/
def sleD : PyData → PyData → Bool := PySem.W.dataLe false id
def rSortedQ (K : PySem.W.Frag) : List V → Hp → VK → Prop := fun vs H Q => ∃ (Hd : Hp) (a : Addr) (xs : List V) (ds : List PyData), vs = [V.ref a] ∧ SqL K H a xs ∧ Same Hd H ∧ DqAll Hd xs ds ∧ PyData.canLayAll0 ds = true ∧ PySem.W.AllAlike ds ∧ PySem.W.Sortable ds ∧ PyData.depthAll ds ≤ 20 ∧
  ∀ (ys : List V) (p : Addr), DqAll Hd ys (ds.mergeSort sleD) → H p = none → Q (.ref p) (upd H p (.lst ys))
theorem depth_mem1 : ∀ {ds : List PyData} {d : PyData}, d ∈ ds → d.depth ≤ PyData.depthAll ds
  | e :: ds, d, h => by
    show d.depth ≤ max e.depth (PyData.depthAll ds)
    rcases List.mem_cons.mp h with rfl | h
    · exact Nat.le_max_left _ _
    · exact Nat.le_trans (depth_mem1 h) (Nat.le_max_right _ _)
theorem sort_snd (zs : List (V × PyData)) : (zs.mergeSort (PySem.W.dataLe false pairD)).map (·.2) = (zs.map (·.2)).mergeSort sleD := by
  rw [List.map_mergeSort]
  intro a _ b _
  rfl
theorem cr_sortedQ {X : Cx} (hu : X.A.units + 64 < cLine) : CallR X (.builtin "sorted") (rSortedQ X.K) := by
  intro pins s σ H vs us Q I r h
  obtain ⟨Hd, a, xs, ds, rfl, hs, S, hd, lay, al, so, dp, q⟩ := h
  obtain ⟨its, rv, hl, hz⟩ := I.list hs
  rw [Vals.ref1 r]
  have len := hd.len
  have e2 := zip_snd len
  have zl : (xs.zip ds).length = ds.length := by rw [List.length_zip, len, Nat.min_self]
  have e3 : (xs.zip ds).map pairD = ds := e2
  refine PySem.W.sorted_data (R := ItemQ Hd) (enc := pairD) (bs := xs.zip ds) hl.isList (each_items hd rv) (each_reads I (DqAll.same S _ _ hd) rv lay) (by rw [e3]; exact al) (by rw [e3]; exact so) (by rw [zl, ← len]; exact hz) (fun b hb => ?_) (fun out lo ho => ?_)
  · have hm : pairD b ∈ ds := by
      rw [← e3]
      exact List.mem_map.mpr ⟨b, hb, rfl⟩
    have := depth_mem1 hm
    omega
  · obtain ⟨q1, q2⟩ := vals_of_each ho
    rw [sort_snd, e2] at q2
    obtain ⟨ep, he'⟩ := PyProof.Rows.sortedAll_at s.heap its out.toArray
    have hlen : (((xs.zip ds).mergeSort (PySem.W.dataLe false pairD)).map (·.1)).length ≤ sizeLine := by
      rw [List.length_map, List.length_mergeSort, zl, ← len]
      exact hz
    exact ⟨.ref _, upd H (s.heap.objs.size + 1) (.lst _), I.laid (t' := s.toks) (fun _ _ => PyProof.Rows.sortedAll_old) (Nat.le_succ _) ⟨hlen, out, ep, q1, he'⟩, rfl, q _ _ q2 (I.hok.fresh (Nat.le_succ _))⟩
end KL
set_option Elab.async false
set_option linter.all false
set_option maxRecDepth 100000
set_option maxHeartbeats 4000000
namespace KL
open PySem L2 PySem.KX PySem.Spec PyProof.Rows
/-! ### a house by its parts -/
theorem asc_cons (a b : PyData) (l : List PyData) : ascD (a :: b :: l) = (ltD a b && ascD (b :: l)) := by
  unfold ascD ascTo
  show ((List.range (l.length + 1)).map _).all id = _
  rw [List.range_succ_eq_map, List.map_cons, List.all_cons, List.map_map]
  rfl
theorem asc_of : ∀ {l : List PyData}, l.Pairwise (fun a b => ltD a b = true) → ascD l = true
  | [], _ => rfl
  | [_], _ => rfl
  | a :: b :: l, h => by
    obtain ⟨h1, h2⟩ := List.pairwise_cons.mp h
    rw [asc_cons, h1 b List.mem_cons_self, asc_of h2]
    rfl
theorem asc_map {α : Type} {f : α → PyData} {r : α → α → Prop} {l : List α} (h : l.Pairwise r) (e : ∀ a b, r a b → ltD (f a) (f b) = true) : ascD (l.map f) = true := asc_of (List.pairwise_map.mpr (h.imp fun {a b} => e a b))
theorem eqv_int (a b : Int) : PyData.eqv (.int a) (.int b) = decide (a = b) := by
  by_cases e : a = b
  · rw [decide_eq_true e, e]
    simp [PyData.eqv]
  · rw [decide_eq_false e]
    simp [PyData.eqv, e]
theorem eqv_str (a b : Str) : PyData.eqv (.str a) (.str b) = decide (a = b) := by
  by_cases e : a = b
  · rw [decide_eq_true e, e]
    simp [PyData.eqv]
  · rw [decide_eq_false e]
    simp [PyData.eqv, e]
def sLt (x y : Str) : Prop := x.cps.toList < y.cps.toList
theorem sLt_ne {x y : Str} (h : sLt x y) : x ≠ y := fun e => by
  subst e
  exact List.lt_irrefl _ h
theorem sLt_trans {x y z : Str} (h : sLt x y) (k : sLt y z) : sLt x z := List.lt_trans h k
theorem str_ext {x y : Str} (h : x.cps.toList = y.cps.toList) : x = y := by
  cases x
  cases y
  congr 1
  exact Array.toList_inj.mp h
theorem sLt_or {x y : Str} (h : ¬ sLt y x) (ne : x ≠ y) : sLt x y := by
  rcases Classical.em (x.cps.toList < y.cps.toList) with z | z
  · exact z
  · exact absurd (str_ext (List.le_antisymm (List.not_lt.mp h) (List.not_lt.mp z))) ne
/-- (place, letter, what is behind) -/
abbrev Row := Int × Str × List PyData
def rowE (r : Row) : PyData := .tuple (.int r.1 :: .str r.2.1 :: r.2.2)
def keyLt (r s : Row) : Prop := r.1 < s.1 ∨ (r.1 = s.1 ∧ sLt r.2.1 s.2.1)
def dE (d : Str × Int) : PyData := .tuple [.str d.1, .int d.2]
theorem row_lt {r s : Row} (h : keyLt r s) : ltD (rowE r) (rowE s) = true := by
  show (if PyData.eqv (.int r.1) (.int s.1) = true then (if PyData.eqv (.str r.2.1) (.str s.2.1) = true then ltAll r.2.2 s.2.2 else decide (r.2.1.cps.toList < s.2.1.cps.toList)) else decide (r.1 < s.1)) = true
  rw [eqv_int, eqv_str]
  rcases h with h | ⟨h, k⟩
  · rw [if_neg (by rw [decide_eq_false (by omega)]; decide)]
    exact decide_eq_true h
  · rw [if_pos (decide_eq_true h), if_neg (by rw [decide_eq_false (sLt_ne k)]; decide)]
    exact decide_eq_true k
theorem key_lt {r s : Row} (h : keyLt r s) : ltD (cut2 (rowE r)) (cut2 (rowE s)) = true := by
  show (if PyData.eqv (.int r.1) (.int s.1) = true then (if PyData.eqv (.str r.2.1) (.str s.2.1) = true then ltAll [] [] else decide (r.2.1.cps.toList < s.2.1.cps.toList)) else decide (r.1 < s.1)) = true
  rw [eqv_int, eqv_str]
  rcases h with h | ⟨h, k⟩
  · rw [if_neg (by rw [decide_eq_false (by omega)]; decide)]
    exact decide_eq_true h
  · rw [if_pos (decide_eq_true h), if_neg (by rw [decide_eq_false (sLt_ne k)]; decide)]
    exact decide_eq_true k
structure HM where
  people : Int
  deeds : List (Str × Int)
  start : List Int
  places : Int
  ends : List Int
  logs : Int
  arrows : List Row
  tests : List Row
  looks : PyData
def HM.kit (m : HM) : Kit := ⟨m.people, m.places, m.logs, m.deeds.map dE, m.start.length⟩
def HM.due (m : HM) : Option PyData := dueD (.int m.people) (.tuple (m.deeds.map dE)) (.tuple (m.start.map .int)) (.int m.places) (.tuple (m.ends.map .int)) (.int m.logs) (.tuple (m.arrows.map rowE)) (.tuple (m.tests.map rowE)) m.looks
def HM.parts (m : HM) : List PyData := [.int m.people, .tuple (m.deeds.map dE), .tuple (m.start.map .int), .int m.places, .tuple (m.ends.map .int), .int m.logs, .tuple (m.arrows.map rowE), .tuple (m.tests.map rowE), m.looks]
structure RightA (m : HM) (r : Row) : Prop where
  s0 : 0 ≤ r.1
  s1 : r.1 < m.places
  l : r.2.1 ∈ m.deeds.map (·.1)
  e : ∃ t fs ms, r.2.2 = [.int t, .tuple fs, .tuple ms] ∧ 0 ≤ t ∧ t < m.places ∧ fs.length = m.start.length ∧ (∀ f ∈ fs, formD m.start.length f = true) ∧ (ms.length : Int) = m.logs ∧ ∀ x ∈ ms, markD x = true
structure RightT (m : HM) (r : Row) : Prop where
  e : ∃ f lo hi, r.2.2 = [f, .int lo, .int hi] ∧ formD m.start.length f = true ∧ lo ≤ hi
  a : ∃ x ∈ m.arrows, x.1 = r.1 ∧ x.2.1 = r.2.1
structure RightH (m : HM) : Prop where
  p1 : 1 ≤ m.people
  p3 : m.people ≤ 3
  d1 : 1 ≤ m.deeds.length
  d5 : m.deeds.length ≤ 5
  da : ∀ d ∈ m.deeds, letS d.1 = true ∧ 0 ≤ d.2 ∧ d.2 < m.people
  ds : m.deeds.Pairwise (fun a b => sLt a.1 b.1)
  n1 : 1 ≤ m.start.length
  n3 : m.start.length ≤ 3
  q1 : 1 ≤ m.places
  q3 : m.places ≤ 3
  ea : ∀ e ∈ m.ends, 0 ≤ e ∧ e < m.places
  es : m.ends.Pairwise (fun a b => a < b)
  g0 : 0 ≤ m.logs
  g2 : m.logs ≤ 2
  aa : ∀ r ∈ m.arrows, RightA m r
  as : m.arrows.Pairwise keyLt
  ta : ∀ r ∈ m.tests, RightT m r
  ts : m.tests.Pairwise (fun a b => ltD (rowE a) (rowE b) = true)
  lk : looksD m.kit m.looks = true
theorem kit_eq (m : HM) : kitOf (.int m.people) (.tuple (m.deeds.map dE)) (.tuple (m.start.map .int)) (.int m.places) (.int m.logs) = m.kit := by
  show Kit.mk m.people m.places m.logs (m.deeds.map dE) (m.start.map PyData.int).length = _
  rw [List.length_map]
  rfl
theorem bet_int {lo hi i : Int} (h : lo ≤ i) (k : i ≤ hi) : betD lo hi (.int i) = true := by
  show (decide (lo ≤ i) && decide (i ≤ hi)) = true
  rw [decide_eq_true h, decide_eq_true k]
  rfl
theorem bad_no {b : Bool} {x : Str} (h : b = true) : badOf b x = none := by
  unfold badOf
  rw [if_pos h]
theorem letters_map (l : List (Str × Int)) : (l.map dE).map (itemD 0) = l.map fun d => PyData.str d.1 := by
  rw [List.map_map]
  rfl
theorem RightH.src {m : HM} (h : RightH m) {r : Row} (s0 : 0 ≤ r.1) (s1 : r.1 < m.places) (l : r.2.1 ∈ m.deeds.map (·.1)) : srcD m.kit (itemD 0 (rowE r)) (itemD 1 (rowE r)) = true := by
  show (betD 0 (m.places - 1) (.int r.1) && inD ((m.deeds.map dE).map (itemD 0)) (.str r.2.1)) = true
  rw [bet_int s0 (by omega), letters_map, Bool.true_and]
  obtain ⟨d, hd, e⟩ := List.mem_map.mp l
  show ((m.deeds.map fun d => PyData.str d.1).any _) = true
  rw [List.any_map, List.any_eq_true]
  refine ⟨d, hd, ?_⟩
  rw [← e]
  show (d.1 == d.1) = true
  exact beq_self_eq_true _
theorem RightH.arrow {m : HM} (h : RightH m) {r : Row} (hr : RightA m r) : arrowD m.kit (rowE r) = true := by
  obtain ⟨t, fs, ms, e, t0, t1, fl, fa, ml, ma⟩ := hr.e
  have src := h.src hr.s0 hr.s1 hr.l
  obtain ⟨i, x, rest⟩ := r
  have e : rest = [.int t, .tuple fs, .tuple ms] := e
  subst e
  show (true && (srcD m.kit (.int i) (.str x) && (betD 0 (m.places - 1) (.int t) && ((true && fs.all (formD m.start.length)) && (decide (fs.length = m.start.length) && ((decide (m.logs ≤ (ms.length : Int)) && decide ((ms.length : Int) ≤ m.logs)) && ms.all markD)))))) = true
  have src : srcD m.kit (.int i) (.str x) = true := src
  rw [src, bet_int t0 (by omega), List.all_eq_true.mpr fa, decide_eq_true fl, decide_eq_true (by omega), decide_eq_true (by omega), List.all_eq_true.mpr ma]
  rfl
theorem RightH.due {m : HM} (h : RightH m) : m.due = none := by
  have p1 := h.p1
  have p3 := h.p3
  have q1 := h.q1
  have q3 := h.q3
  have g0 := h.g0
  have g2 := h.g2
  have d1 := h.d1
  have d5 := h.d5
  have n1 := h.n1
  have n3 := h.n3
  have deeds : deedsD m.people (.tuple (m.deeds.map dE)) = true := by
    show ((decide ((1 : Int) ≤ ((m.deeds.map dE).length : Int)) && decide (((m.deeds.map dE).length : Int) ≤ 5)) && ((m.deeds.map dE).all (deedD m.people) && ascD ((m.deeds.map dE).map (itemD 0)))) = true
    rw [List.length_map, decide_eq_true (by omega), decide_eq_true (by omega), letters_map, asc_map (f := fun d : Str × Int => PyData.str d.1) h.ds (fun a b z => (show decide (a.1.cps.toList < b.1.cps.toList) = true from decide_eq_true z)), List.all_map]
    have : m.deeds.all (deedD m.people ∘ dE) = true := List.all_eq_true.mpr fun d hd => by
      obtain ⟨h1, h2, h3⟩ := h.da d hd
      show (true && (letS d.1 && betD 0 (m.people - 1) (.int d.2))) = true
      rw [h1, bet_int h2 (by omega)]
      rfl
    rw [this]
    rfl
  have start : startD (.tuple (m.start.map .int)) = true := by
    show ((decide ((1 : Int) ≤ ((m.start.map PyData.int).length : Int)) && decide (((m.start.map PyData.int).length : Int) ≤ 3)) && (m.start.map PyData.int).all intD) = true
    rw [List.length_map, decide_eq_true (by omega), decide_eq_true (by omega), List.all_map]
    have : m.start.all (intD ∘ PyData.int) = true := List.all_eq_true.mpr fun d hd => rfl
    rw [this]
    rfl
  have ends : endsD m.places (.tuple (m.ends.map .int)) = true := by
    show (true && ((m.ends.map PyData.int).all (betD 0 (m.places - 1)) && ascD (m.ends.map PyData.int))) = true
    rw [asc_map (f := PyData.int) h.es (fun a b z => (show decide (a < b) = true from decide_eq_true z)), List.all_map]
    have : m.ends.all (betD 0 (m.places - 1) ∘ PyData.int) = true := List.all_eq_true.mpr fun d hd => by
      obtain ⟨h1, h2⟩ := h.ea d hd
      exact bet_int h1 (by omega)
    rw [this]
    rfl
  have arrows : chkA m.kit (.tuple (m.arrows.map rowE)) = none := by
    show ((m.arrows.map rowE).find? fun x => !arrowD m.kit x).or (badOf (ascD ((m.arrows.map rowE).map cut2)) "arrows") = none
    have z : ((m.arrows.map rowE).find? fun x => !arrowD m.kit x) = none := List.find?_eq_none.mpr fun x hx => by
      obtain ⟨r, hr, rfl⟩ := List.mem_map.mp hx
      rw [h.arrow (h.aa r hr)]
      decide
    rw [z, List.map_map]
    exact bad_no (asc_map h.as fun a b z => key_lt z)
  have tests : chkT m.kit (m.arrows.map rowE) (.tuple (m.tests.map rowE)) = none := by
    show ((m.tests.map rowE).find? fun x => !testT m.kit (m.arrows.map rowE) x).or (badOf (ascD (m.tests.map rowE)) "tests") = none
    have z : ((m.tests.map rowE).find? fun x => !testT m.kit (m.arrows.map rowE) x) = none := List.find?_eq_none.mpr fun x hx => by
      obtain ⟨r, hr, rfl⟩ := List.mem_map.mp hx
      have hT := h.ta r hr
      obtain ⟨f, lo, hi, e, hf, le⟩ := hT.e
      obtain ⟨y, hy, e1, e2⟩ := hT.a
      have hA := h.aa y hy
      have src := h.src (r := r) (by rw [← e1]; exact hA.s0) (by rw [← e1]; exact hA.s1) (by rw [← e2]; exact hA.l)
      have tk : takenD (m.arrows.map rowE) (rowE r) = true := by
        unfold takenD hasK
        rw [List.any_eq_true]
        refine ⟨keyD (rowE y), List.mem_map.mpr ⟨rowE y, List.mem_map.mpr ⟨y, hy, rfl⟩, rfl⟩, ?_⟩
        show decide ([Sum.inl y.1, Sum.inr y.2.1] = ([Sum.inl r.1, Sum.inr r.2.1] : List Key)) = true
        rw [e1, e2]
        exact decide_eq_true rfl
      have tt : testD m.kit (rowE r) = true := by
        obtain ⟨i, x, rest⟩ := r
        have e : rest = [f, .int lo, .int hi] := e
        subst e
        have src : srcD m.kit (.int i) (.str x) = true := src
        show (true && (srcD m.kit (.int i) (.str x) && (formD m.start.length f && (true && (true && decide (lo ≤ hi)))))) = true
        rw [src, hf, decide_eq_true le]
        rfl
      unfold testT
      rw [tt, tk]
      decide
    rw [z]
    exact bad_no (asc_map h.ts fun a b z => z)
  unfold HM.due dueD
  rw [kit_eq]
  show (badOf (betD 1 3 (.int m.people)) "people").or ((badOf (deedsD m.people (.tuple (m.deeds.map dE))) "deeds").or ((badOf (startD (.tuple (m.start.map .int))) "start").or ((badOf (betD 1 3 (.int m.places)) "places").or ((badOf (endsD m.places (.tuple (m.ends.map .int))) "ends").or ((badOf (betD 0 2 (.int m.logs)) "logs").or
    ((chkA m.kit (.tuple (m.arrows.map rowE))).or ((chkT m.kit (m.arrows.map rowE) (.tuple (m.tests.map rowE))).or (badOf (looksD m.kit m.looks) "looks")))))))) = none
  rw [bad_no (bet_int p1 p3), bad_no deeds, bad_no start, bad_no (bet_int q1 q3), bad_no ends, bad_no (bet_int g0 g2), arrows, tests, bad_no h.lk]
  rfl
end KL
set_option Elab.async false
set_option linter.all false
set_option maxRecDepth 100000
set_option maxHeartbeats 4000000
namespace KL
open PySem L2 PySem.Spec PyProof.Rows
/-! ### == and != of an instance with an own __eq__, the other thing anything -/
section
variable {X : Cx} {pins : List (Addr × Obj)} {σ : L2.St} {H : Hp} {s : Shared}
theorem ty_looks {y : V} {u t : Value} (I : Inv X pins σ H s) (ry : RelV y u) (ty : TyOf X.K H y t) : PySem.W.Looks (model X.prog X.w) s.heap (typeOf u) t := by
  have at_ : ∀ {a : Addr} {o : Obj} {T : String}, s.heap.get? a = some o → o.cls = .type T → PySem.W.Looks (model X.prog X.w) s.heap (typeOf (.ref a)) (.type T) := fun ho hc A Q E s' k q => wpAny_typeOf ⟨_, k _ _ ho, hc⟩ q
  cases ty with
  | non => cases ry; exact .of_pure rfl
  | bl b => cases ry; exact .of_pure rfl
  | int i => obtain ⟨tk, rfl⟩ := ry; exact .of_pure rfl
  | str x => obtain ⟨tk, rfl⟩ := ry; exact .of_pure rfl
  | flt x => obtain ⟨tk, rfl⟩ := ry; exact .of_pure rfl
  | lst e =>
    cases ry
    obtain ⟨_, _, n, _, h1⟩ := I.hok _ _ e
    exact at_ h1 rfl
  | frz e =>
    cases ry
    obtain ⟨_, _, _, n, _, h1⟩ := I.hok _ _ e
    exact at_ h1 rfl
  | tup e =>
    cases ry
    obtain ⟨_, _, _, o, h1, h2, _⟩ := I.hok _ _ e
    exact at_ h1 h2
  | dK e =>
    cases ry
    obtain ⟨_, _, vs, _, o, es, ep, h1, h2, _⟩ := I.hok _ _ e
    exact at_ h1 h2.1
  | dT e =>
    cases ry
    obtain ⟨_, _, xs, _, o, es, ep, h1, h2, _⟩ := I.hok _ _ e
    exact at_ h1 h2.1
  | ins e _ _ _ _ _ =>
    cases ry
    obtain ⟨mA, O, _⟩ := ins_get I.hok e
    obtain ⟨od, J, _⟩ := O.look
    exact J.type
/-- none of these types is below a class of the text -/
theorem not_below {K : PySem.W.Frag} {C : Addr} {T : String} (h : T = "NoneType" ∨ T = "bool" ∨ T = "int" ∨ T = "str" ∨ T = "list" ∨ T = "tuple" ∨ T = "dict") : PySem.W.subIn K (.type T) (.ref C) = some false := by
  have go : ∀ {l : List Value}, fastBuiltinMro T = some l → l.contains (Value.ref C) = false → PySem.W.subIn K (.type T) (.ref C) = some false := fun {l} e n => by
    show (fastBuiltinMro T).map (·.contains (.ref C)) = some false
    rw [e, Option.map_some, n]
  rcases h with rfl | rfl | rfl | rfl | rfl | rfl | rfl
  · exact go (l := [.type "NoneType", .type "object"]) (by decide +kernel) (by simp)
  · exact go (l := [.type "bool", .type "int", .type "object"]) (by decide +kernel) (by simp)
  · exact go (l := [.type "int", .type "object"]) (by decide +kernel) (by simp)
  · exact go (l := [.type "str", .type "object"]) (by decide +kernel) (by simp)
  · exact go (l := [.type "list", .type "object"]) (by decide +kernel) (by simp)
  · exact go (l := [.type "tuple", .type "object"]) (by decide +kernel) (by simp)
  · exact go (l := [.type "dict", .type "object"]) (by decide +kernel) (by simp)
/-- the other thing is of such a type, or an instance of the same class -/
def Other (K : PySem.W.Frag) (C : Addr) (H : Hp) (y : V) : Prop := ∃ t, TyOf K H y t ∧ (t = .ref C ∨ ∃ T, t = .type T ∧ (T = "NoneType" ∨ T = "bool" ∨ T = "int" ∨ T = "str" ∨ T = "list" ∨ T = "tuple" ∨ T = "dict"))
theorem not_first {K : PySem.W.Frag} {C : Addr} {t : Value} (h : t = .ref C ∨ ∃ T, t = .type T ∧ (T = "NoneType" ∨ T = "bool" ∨ T = "int" ∨ T = "str" ∨ T = "list" ∨ T = "tuple" ∨ T = "dict")) : PySem.W.notFirst K C t = true := by
  unfold PySem.W.notFirst
  rcases h with rfl | ⟨T, rfl, h⟩
  · simp
  · rw [not_below h]
    simp
variable {CX : CXT} {n : Nat} {C f : Addr} {fd : FuncData} {ps : List Str} {sp : Sp} {E : XK}
theorem own_call (F : FnOk X.prog X.w X.K X.mg X.base CX n f fd ps sp) (hb : L2.Binds X.K fd ps []) (hx : Passes CX X E) {A : Around} (sb : Sub X n A) (I : Inv X pins σ H s) {us : List Value} {vs : List V} {Q : VK} (r : Vals vs us) (h : sp vs H Q E) :
    wpAny (model X.prog X.w) A (call (.ref f) us) (EP X pins σ Q) X.xe s := by
  have e0 : Env0 X.prog X.w X.K X.mg X.base A X.stack s H := by
    have e := I.env0
    exact ⟨by rw [sb.fr]; exact e.frames, e.mod, e.bs, e.bsz, e.funs, e.frf, e.hok, e.bare⟩
  have hl := F.len _ _ _ _ h
  have b := hb s us I.kIn (by rw [List.append_nil, ← hl]; exact r.length.symm)
  rw [List.append_nil] at b
  refine wpAny_call (codeAny_mono (F.run A X.stack s H ⟨us, []⟩ us vs _ E sb.room e0 b r h) fun r s' hq => ?_)
  cases r with
  | error e => exact hx pins σ H s e s' I hq
  | ok fl =>
    cases fl with
    | ret w => exact I.after hq
    | next => exact False.elim hq
    | brk => exact False.elim hq
    | cont => exact False.elim hq
/-- what == and != ask -/
def rOwn (neg : Bool) (K : PySem.W.Frag) (C : Addr) (sp : Sp) (E : XK) : R2 := fun x y H Q => ∃ a dx fs, x = .ref a ∧ H a = some (.ins C dx fs) ∧ Other K C H y ∧ sp [.ref a, y] H (fun v H' => ∃ b, v = .bl b ∧ Q (.bl (if neg = true then !b else b)) H') E
theorem op_eqOwn (F : FnOk X.prog X.w X.K X.mg X.base CX n f fd ps sp) (hs : PySem.W.findIn X.K (.ref C) "__eq__" = some (some (.ref f))) (hf : PySem.W.isFn X.K (.ref f) = true) (hb : L2.Binds X.K fd ps []) (hx : Passes CX X E) (hr : Room n X.A) : OpR X (compareOp .Eq) (rOwn false X.K C sp E) := by
  intro pins s σ H x y v u Q I rx ry h
  obtain ⟨a, dx, fs, rfl, ha, ⟨t, ty, ht⟩, h⟩ := h
  cases rx
  obtain ⟨mA, J, _⟩ := ins_get I.hok ha
  obtain ⟨od, J, _⟩ := J.look
  obtain ⟨m, hF⟩ := I.fr
  show wpAny (model X.prog X.w) X.A (richCompare .Eq (.ref a) u) (EP X pins σ Q) X.xe s
  refine PySem.W.cmp_K (op := .Eq) (tb := t) hr.units0 hF I.ok.mod.kin J (ty_looks I ry ty) (not_first ht) hs hf (wpAny_mono (own_call F hb hx (A := X.A) ⟨hr, rfl⟩ I (us := [.ref a, u]) (vs := [V.ref a, y]) (.cons (show RelV (V.ref a) (Value.ref a) from rfl) (.cons ry .nil)) h) (fun r s' z => ?_) fun _ _ e => e)
  obtain ⟨z, H', I', rz, b, rfl, q⟩ := z
  cases rz
  exact ⟨.bl b, H', I', rfl, q⟩
end
end KL
set_option Elab.async false
set_option linter.all false
set_option maxRecDepth 100000
set_option maxHeartbeats 4000000
namespace KL
open PySem L2 PySem.Spec PyProof.Rows
section
variable {prog : Program} {w : World} {A : Around} {E : Value → Shared → Prop} {s : Shared} {K : PySem.W.Frag} {x C L f : Addr} {h₀ : Heap} {m : Str → Option Value} {ox : Obj} {od : Option Obj} {b tb : Value}
theorem ne_entry (X : K.In s.heap) (I : PySem.W.InstAt s.heap x ox C od) (he : PySem.W.findIn K (.ref C) "__eq__" = some (some (.ref f))) (hf : PySem.W.isFn K (.ref f) = true) (hu : A.units < cLine) {Q : Fin → Shared → Prop}
    (h : wpAny (model prog w) A (call (.ref f) [.ref x, b]) (fun v s' => ∃ c, v = .bool c ∧ Q (.done (.ret (.bool (!c)))) s') E s) :
    wpAny (model prog w) A (Builtin.«object.__ne__» ⟨[.ref x, b], []⟩) Q E s := by
  unfold Builtin.«object.__ne__»
  repeat (first
    | with_reducible refine wpAny_cRoomFor hu ?_
    | (refine wpAny_bind (m := callSpecialIfBound? (.ref x) (Str.ofString "__eq__") [b])
        (PySem.W.ifBound_K X I he hf (wpAny_mono h (fun r s' hr => by
          obtain ⟨c, rfl, hq⟩ := hr
          repeat (first | exact hq | exact wpAny_pure hq | exact wpAny_truthy_bool hq | (refine wpAny_bind (m := truthy (.bool _)) (wpAny_truthy_bool ?_)) | wp_step)) fun _ _ e => e)))
    | wp_step)
theorem ne_bound {args : List Value} {Q : Option Value → Shared → Prop} (X : K.In s.heap) (I : PySem.W.InstAt s.heap x ox C od) (hs : PySem.W.findIn K (.ref C) "__ne__" = some (some (.builtin "object.__ne__")))
    (h : wpAny (model prog w) A (call (.builtin "object.__ne__") (.ref x :: args)) (fun v => Q (some v)) E s) : wpAny (model prog w) A (callSpecialIfBound? (.ref x) "__ne__" args) Q E s := by
  simp only [callSpecialIfBound?, bindSpecialIfBound?]
  refine wpAny_holding (wpAny_bind (wpAny_bind (wpAny_bind (I.type.here ((PySem.W.looks_findIn X hs).here ?_)))))
  refine wpAny_bind (wpAny_askSetting (wpAny_ite ?_))
  have fin : wpAny (model prog w) A (call (.builtin "object.__ne__") ([.ref x] ++ args) >>= fun v => pure (some v)) Q E s := wpAny_bind (wpAny_mono h (fun v s' h' => wpAny_pure h') fun _ _ h' => h')
  split
  · exact wpAny_bind (wpAny_of_eq (F.cmp_object.ne.bind _) (wpAny_pure (by exact fin)))
  · exact wpAny_tryCatch (wpAny_bind (wpAny_of_eq (F.cmp_object.ne.bind _) (wpAny_pure (by exact fin))))
theorem cmp_neK {Q : Value → Shared → Prop} (hu : A.units + 1 < cLine) (F : PyProof.Rows.Fr h₀ L s.heap m) (X₀ : K.In h₀) (I : PySem.W.InstAt s.heap x ox C od) (hb : PySem.W.Looks (model prog w) s.heap (typeOf b) tb) (hn : PySem.W.notFirst K C tb = true)
    (hs : PySem.W.findIn K (.ref C) "__ne__" = some (some (.builtin "object.__ne__"))) (hm : PySem.W.mroIn K C (.type "object") = some true)
    (he : PySem.W.findIn K (.ref C) "__eq__" = some (some (.ref f))) (hf : PySem.W.isFn K (.ref f) = true)
    (h : wpAny (model prog w) A.in1 (call (.ref f) [.ref x, b]) (fun v s' => ∃ c, v = .bool c ∧ Q (.bool (!c)) s') E s) : wpAny (model prog w) A (richCompare .NotEq (.ref x) b) Q E s := by
  have X := X₀.keeps F.keep
  have one : wpAny (model prog w) A (tryCompare (.ref x) "__ne__" b) (fun r s' => ∃ v, r = some v ∧ Q v s') E s := by
    unfold tryCompare
    refine wpAny_bind (ne_bound X I hs (wpAny_call (codeAny_call_builtin PySem.F.cmp_object.ne.plain PySem.F.cmpEntry_ne (PySem.W.check_slot PySem.F.cmpKind_ne PySem.F.cmpSplit_ne (I.type.andThen (PySem.W.looks_mroIn X hm)) (PySem.F.cmpArgs_ne _ _)
      (ne_entry (A := A.in1) X I he hf hu (wpAny_mono h (fun v s' hv => ?_) fun _ _ e => e))))))
    obtain ⟨c, rfl, hq⟩ := hv
    exact ⟨c, rfl, wpAny_pure ⟨_, rfl, hq⟩⟩
  unfold richCompare
  simp only [oneThing_ref]
  refine wpAny_holding (wpAny_bind (wpAny_cRoomFor (Nat.lt_of_succ_lt hu) ?_))
  rw [cmpInfo_NotEq]
  dsimp only
  refine wpAny_bind (I.type.here (wpAny_bind (hb.here ?_)))
  split
  · rename_i q
    have e : PySem.W.subIn K tb (.ref C) = some false := by
      rcases Bool.or_eq_true_iff.mp hn with e | e
      · rw [beq_iff_eq.mp e] at q; simp at q
      · exact beq_iff_eq.mp e
    refine wpAny_bind ((PySem.W.looks_subIn X e).here ?_)
    simp only [Bool.false_eq_true, if_false]
    refine wpAny_bind (wpAny_mono one (fun r s' z => ?_) fun _ _ e => e)
    obtain ⟨v, rfl, hq⟩ := z
    exact wpAny_pure hq
  · refine wpAny_bind (wpAny_pure ?_)
    simp only [Bool.false_eq_true, if_false]
    refine wpAny_bind (wpAny_mono one (fun r s' z => ?_) fun _ _ e => e)
    obtain ⟨v, rfl, hq⟩ := z
    exact wpAny_pure hq
end
section
variable {X : Cx} {pins : List (Addr × Obj)} {σ : L2.St} {H : Hp} {s : Shared} {CX : CXT} {n : Nat} {C f : Addr} {fd : FuncData} {ps : List Str} {sp : Sp} {E : XK}
theorem op_neOwn (F : FnOk X.prog X.w X.K X.mg X.base CX n f fd ps sp) (hs : PySem.W.findIn X.K (.ref C) "__eq__" = some (some (.ref f))) (hf : PySem.W.isFn X.K (.ref f) = true) (hb : L2.Binds X.K fd ps []) (hx : Passes CX X E)
    (hne : PySem.W.findIn X.K (.ref C) "__ne__" = some (some (.builtin "object.__ne__"))) (hm : PySem.W.mroIn X.K C (.type "object") = some true) (hr : Room (n + 1) X.A) : OpR X (compareOp .NotEq) (rOwn true X.K C sp E) := by
  intro pins s σ H x y v u Q I rx ry h
  obtain ⟨a, dx, fs, rfl, ha, ⟨t, ty, ht⟩, h⟩ := h
  cases rx
  obtain ⟨mA, J, _⟩ := ins_get I.hok ha
  obtain ⟨od, J, _⟩ := J.look
  obtain ⟨m, hF⟩ := I.fr
  show wpAny (model X.prog X.w) X.A (richCompare .NotEq (.ref a) u) (EP X pins σ Q) X.xe s
  have hu : X.A.units + 1 < cLine := by
    have := hr.un
    omega
  refine cmp_neK (tb := t) hu hF I.ok.mod.kin J (ty_looks I ry ty) (not_first ht) hne hm hs hf (wpAny_mono (own_call F hb hx (A := X.A.in1) ⟨hr.in1, rfl⟩ I (us := [.ref a, u]) (vs := [V.ref a, y]) (.cons (show RelV (V.ref a) (Value.ref a) from rfl) (.cons ry .nil)) h) (fun r s' z => ?_) fun _ _ e => e)
  obtain ⟨z, H', I', rz, b, rfl, q⟩ := z
  cases rz
  exact ⟨b, rfl, .bl (!b), H', I', rfl, q⟩
end
end KL
set_option Elab.async false
set_option linter.all false
set_option maxRecDepth 100000
set_option maxHeartbeats 4000000
namespace KL
open PySem L2 PySem.KX PySem.Spec PyProof.Rows
/-- what the class is asked -/
structure TxtQ (K : PySem.W.Frag) (C : Addr) : Prop where
  i : C8.InsC K C
  k : ((PySem.W.clsIn K C).isSome && (PySem.W.typeIn K (.ref C) == some (.type "type"))) = true
mutual
theorem dp_laid {K : PySem.W.Frag} {H : Hp} : ∀ (d : PyData) (v : V), d.canLay0 = true → Dq H v d → Dp K H v d
  | .none, _, _, h => by
    cases h
    exact .non
  | .bool _, _, _, h => by
    cases h
    exact .bl _
  | .int _, _, _, h => by
    cases h
    exact .int _
  | .str _, _, _, h => by
    cases h
    exact .str _
  | .list ds, _, z, h => by
    cases h with
    | lst e q => exact .lst (SqL.of e) (dpAll_laid ds _ z q)
  | .tuple ds, _, z, h => by
    cases h with
    | tup e q => exact .tup (SqT.of e) (dpAll_laid ds _ z q)
  | .dict _, _, z, _ => by cases z
theorem dpAll_laid {K : PySem.W.Frag} {H : Hp} : ∀ (ds : List PyData) (vs : List V), PyData.canLayAll0 ds = true → DqAll H vs ds → DpAll K H vs ds
  | [], _, _, h => by
    cases h
    exact .nil
  | d :: ds, _, z, h => by
    have z := Bool.and_eq_true_iff.mp (show (d.canLay0 && PyData.canLayAll0 ds) = true from z)
    cases h with
    | cons q r => exact .cons (dp_laid d _ z.1 q) (dpAll_laid ds _ z.2 r)
end
theorem dp_shaped {K : PySem.W.Frag} {H : Hp} {d : PyData} {v : V} (z : SeqAt.shaped d = true) (h : Dq H v d) : Dp K H v d := dp_laid d v (Bool.and_eq_true_iff.mp z).1 h
theorem ty_data {K : PySem.W.Frag} {H : Hp} {v : V} {d : PyData} (h : Dq H v d) : TyOf K H v (.type (tyName d)) := by
  cases h with
  | non => exact .non
  | bl b => exact .bl b
  | int i => exact .int i
  | str x => exact .str x
  | lst e _ => exact .lst e
  | tup e _ => exact .tup e
  | dct0 e => exact .dK e
  | dct1 e => exact .dK e
theorem ty_names (d : PyData) : tyName d = "NoneType" ∨ tyName d = "bool" ∨ tyName d = "int" ∨ tyName d = "str" ∨ tyName d = "list" ∨ tyName d = "tuple" ∨ tyName d = "dict" := by cases d <;> simp [tyName]
theorem other_data {K : PySem.W.Frag} {C : Addr} {H : Hp} {v : V} {d : PyData} (h : Dq H v d) : Other K C H v := ⟨_, ty_data h, .inr ⟨_, rfl, ty_names d⟩⟩
theorem ty_ins {K : PySem.W.Frag} {C a dx : Addr} {H : Hp} {fs : List (Str × V)} (i : C8.InsC K C) (h : H a = some (.ins C dx fs)) : TyOf K H (.ref a) (.ref C) := .ins h i.cl i.ha i.hn i.htk i.hm
theorem other_ins {K : PySem.W.Frag} {C a dx : Addr} {H : Hp} {fs : List (Str × V)} (i : C8.InsC K C) (h : H a = some (.ins C dx fs)) : Other K C H (.ref a) := ⟨_, ty_ins i h, .inl rfl⟩
theorem kit_other {K : PySem.W.Frag} {C : Addr} (T : TxtQ K C) (d : PyData) : PySem.W.kitOne K (.type (tyName d)) (.ref C) = some false := by
  have h : PySem.W.kitCls K (.type (tyName d)) (.ref C) = some false := by
    show (if _ = true then PySem.W.subIn K (.type (tyName d)) (.ref C) else none) = some false
    rw [if_pos T.k]
    exact not_below (ty_names d)
  unfold PySem.W.kitOne
  rw [if_neg (by simp)]
  exact h
section
variable {X : Cx} {CX : CXT} {n : Nat} {C f : Addr} {fd : FuncData} {ps : List Str} {sp : Sp} {E : XK}
/-- len of an instance with an own __len__ -/
theorem cr_lenOwn (F : FnOk X.prog X.w X.K X.mg X.base CX n f fd ps sp) (hs : PySem.W.findIn X.K (.ref C) "__len__" = some (some (.ref f))) (hf : PySem.W.isFn X.K (.ref f) = true) (hb : L2.Binds X.K fd ps []) (hx : Passes CX X E) (hr : Room (n + 1) X.A) :
    CallR X (.builtin "len") (fun vs H Q => ∃ a dx fs, vs = [V.ref a] ∧ H a = some (.ins C dx fs) ∧ sp [.ref a] H (fun v H' => ∃ m : Int, v = .int m ∧ 0 ≤ m ∧ m < 1000000 ∧ Q (.int m) H') E) := by
  intro pins s σ H xs us Q I r h
  obtain ⟨a, dx, fs, rfl, ha, h⟩ := h
  obtain ⟨u, rfl, ru⟩ := vals1 r
  cases ru
  obtain ⟨mA, J, _⟩ := ins_get I.hok ha
  obtain ⟨od, J, _⟩ := J.look
  obtain ⟨m, hF⟩ := I.fr
  refine PySem.W.len_K hF I.ok.mod.kin J hs hf (wpAny_mono (own_call F hb hx (A := X.A.in1) ⟨hr.in1, rfl⟩ I (us := [.ref a]) (vs := [V.ref a]) (.cons (show RelV (V.ref a) (Value.ref a) from rfl) .nil) h) (fun r s' z => ?_) fun _ _ e => e)
  obtain ⟨z, H', I', rz, k, rfl, h0, h1, q⟩ := z
  obtain ⟨t, rfl⟩ := rz
  exact ⟨⟨h0, by omega⟩, .int k, H', I'.tok _, ⟨_, rfl⟩, q⟩
end
end KL
set_option Elab.async false
set_option linter.all false
set_option maxRecDepth 100000
set_option maxHeartbeats 8000000
namespace KL
open PySem L2 PySem.KX PySem.Spec PyProof.Rows HT
theorem depth_mem : ∀ {ds : List PyData} {d : PyData}, d ∈ ds → d.depth ≤ PyData.depthAll ds
  | x :: ds, d, h => by
    show d.depth ≤ max x.depth (PyData.depthAll ds)
    rcases List.mem_cons.mp h with rfl | h
    · exact Nat.le_max_left _ _
    · exact Nat.le_trans (depth_mem h) (Nat.le_max_right _ _)
theorem rev_bounds (n : Nat) : Builtin.Slice.sliceAdjust none none (-1) (n : Int) = ((n : Int) - 1, -1) := by
  have h : (-1 : Int) < 0 := by decide
  unfold Builtin.Slice.sliceAdjust
  simp only [h, if_true]
theorem rev_count (n : Nat) : Builtin.Slice.slicePlaces ((n : Int) - 1) (-1) (-1) = n := by
  have h : ¬ ((-1 : Int) > 0) := by decide
  unfold Builtin.Slice.slicePlaces
  simp only [h, if_false, Int.neg_neg, Int.ediv_one]
  split <;> omega
theorem rev_pick (xs : Array Value) : ((List.range xs.size).filterMap fun (k : Nat) => xs[((xs.size : Int) - 1 + (k : Int) * (-1)).toNat]?).toArray = xs.toList.reverse.toArray := by
  congr 1
  have e : ∀ (m : Nat), m ≤ xs.size → (List.range m).filterMap (fun (k : Nat) => xs[((xs.size : Int) - 1 + (k : Int) * (-1)).toNat]?) = xs.toList.reverse.take m := by
    intro m
    induction m with
    | zero => intro _; rfl
    | succ m ih =>
      intro hm
      rw [List.range_succ, List.filterMap_append, ih (by omega), List.take_add_one]
      congr 1
      have i1 : ((xs.size : Int) - 1 + ((m : Nat) : Int) * (-1)).toNat = xs.size - 1 - m := by omega
      have i2 : xs.toList.reverse[m]? = xs[xs.size - 1 - m]? := by
        rw [List.getElem?_reverse (by simp; omega)]
        simp
      rw [i2]
      show List.filterMap _ [m] = _
      rw [List.filterMap_cons, i1]
      cases z : xs[xs.size - 1 - m]? <;> rfl
  have := e xs.size (Nat.le_refl _)
  rw [this, List.take_of_length_le (by simp)]
section
variable {prog : Program} {w : World} {A : Around} {E : Value → Shared → Prop} {s : Shared}
theorem tup_rev {t sl : Addr} {items : Array Value} {u : Tok} {Q : Value → Shared → Prop} (ht : IsTup s.heap t items) (hs : s.heap.IsSliceOf sl .none .none (.int (-1) u))
    (h : Q (.ref s.heap.objs.size) { s with heap := s.heap.push { cls := .type "tuple", data := .seq items.toList.reverse.toArray } }) (hz : items.size ≤ sizeLine) : wpAny (model prog w) A (getItem (.ref t) (.ref sl)) Q E s := by
  have ok : sizeOk (.seq items.toList.reverse.toArray) := by
    show items.toList.reverse.toArray.size ≤ sizeLine
    rw [List.size_toArray, List.length_reverse, Array.length_toList]
    exact hz
  obtain ⟨os, h1, h2, h3⟩ := id hs
  have tS : s.TypeIs (.ref sl) "slice" := ⟨os, h1, h2⟩
  unfold getItem
  try with_reducible refine wpAny_holding ?_
  first | refine wpAny_bind (wpAny_pure ?_) | skip
  refine wpAny_bind (wpAny_sequenceKey ht.typeIs (by decide) ?_)
  refine wpAny_bind (wpAny_callSpecial?_slot (name := Str.ofString "__getitem__") ht.typeIs slot_tuple_getitem (wpAny_call_entry slot_tuple_getitem ht.typeIs entry_tuple_getitem ?_ (args_tuple_getitem _ _)))
  refine wpAny_bind (m := Builtin.Tuple.tupleItemsOf (.ref t)) (tupleItemsOf_ ht (wpAny_bind (wpAny_typeOf tS ?_)))
  rw [if_pos (by decide)]
  refine wpAny_bind (m := Builtin.Slice.sliceApplied (.ref sl) (pure (items.size : Int))) ?_
  unfold Builtin.Slice.sliceApplied Builtin.Slice.sliceFields
  refine wpAny_bind (wpAny_bind (wpAny_field h1 h3 (x := Value.none) rfl (wpAny_bind (wpAny_field h1 h3 (x := Value.none) rfl (wpAny_bind (wpAny_field h1 h3 (x := .int (-1) u) rfl (wpAny_pure ?_)))))))
  refine wpAny_bind (slicePart_int ?_)
  show wpAny _ _ (if ((-1 : Int) == 0) = true then _ else _) _ _ s
  rw [if_neg (by decide)]
  refine wpAny_bind (slicePart_none (wpAny_bind (slicePart_none (wpAny_bind (wpAny_pure ?_)))))
  show wpAny _ _ (match Builtin.Slice.sliceAdjust none none (-1) (items.size : Int) with | (a, b) => pure (a, (-1 : Int), Builtin.Slice.slicePlaces a b (-1))) _ _ s
  rw [rev_bounds]
  show wpAny _ _ (pure ((items.size : Int) - 1, (-1 : Int), Builtin.Slice.slicePlaces ((items.size : Int) - 1) (-1) (-1))) _ _ s
  rw [rev_count]
  refine wpAny_pure ?_
  show wpAny _ _ (if (((items.size : Int) - 1 == 0) && ((-1 : Int) == 1) && (items.size == items.size)) = true then _ else _) _ _ s
  rw [if_neg (by simp), rev_pick]
  first
    | exact wpAny_bind (m := Builtin.Tuple.tupleExact _) (wpAny_newObj_type (wpAny_pure ⟨_, rfl, wpAny_pure h⟩) ok)
    | exact wpAny_bind (m := Builtin.Tuple.tupleExact _) (wpAny_newObj_type (wpAny_bind (wpAny_pure (wpAny_pure ⟨_, rfl, wpAny_pure h⟩))) ok)
    | exact wpAny_bind (wpAny_bind (m := Builtin.Tuple.tupleExact _) (wpAny_newObj_type (wpAny_pure (wpAny_pure ⟨_, rfl, wpAny_pure h⟩)) ok))
    | exact wpAny_bind (wpAny_bind (m := Builtin.Tuple.tupleExact _) (wpAny_newObj_type (wpAny_pure ⟨_, rfl, wpAny_pure h⟩) ok))
end
def tRevT (K : PySem.W.Frag) (te : TE) : TE := fun σ H Q => te σ H fun x H1 => ∃ a xs, x = .ref a ∧ SqT K H1 a xs ∧ ∀ p, H1 p = none → Q (.ref p) (upd H1 p (.tup xs.reverse))
section
variable {X : Cx}
theorem pe_revT {e : Expr} {te : TE} {k : Nat} {p1 p2 p3 pos : Pos} (he : PE X e te) : PE X (.Subscript e (.Slice none none (some (.UnaryOp .USub (.Constant (.int 1) k p1) p2)) p3) pos) (tRevT X.K te) := by
  refine ⟨fun pins s σ H Q I h => ?_⟩
  refine Subscript_ (thn (he.run pins s σ H _ I h) fun v s1 ⟨x, H1, I1, r1, a, xs, ex, hx, q⟩ => ?_)
  subst ex
  cases r1
  have st : PO X (some (.UnaryOp .USub (.Constant (.int 1) k p1) p2)) (tPart (tUn (rU fun i => .int (-i)) (tC (.int 1)))) := po_some (pe_un un_neg pe_int)
  refine wpAny_Slice (thn (po_none.run pins s1 σ H1 (fun o H2 => o = none ∧ H2 = H1) I1 ⟨rfl, rfl⟩) fun vl s2 ⟨l, H2, I2, pl, el, e2⟩ => ?_)
  subst el e2
  refine thn (po_none.run pins s2 σ H2 (fun o H3 => o = none ∧ H3 = H2) I2 ⟨rfl, rfl⟩) fun vu s3 ⟨u, H3, I3, pu, eu, e3⟩ => ?_
  subst eu e3
  refine thn (st.run pins s3 σ H3 (fun o H4 => o = some (-1) ∧ H4 = H3) I3 ⟨1, rfl, -1, rfl, rfl, rfl⟩) fun vs s4 ⟨o, H4, I4, ps, eo, e4⟩ => ?_
  subst eo e4
  have I5 : Inv X pins σ H4 { s4 with heap := s4.heap.push ⟨.type "slice", none, .fields #[vl, vu, vs], #[]⟩ } := I4.kept (t' := s4.toks) fun b ob q => Heap.get?_push_of_some _ q
  cases pl
  cases pu
  cases ps with
  | int i tk =>
    obtain ⟨its, r, ht, hz⟩ := I5.tuple hx
    have hl := r.length
    refine tail_any (ops := [.ref a, .ref s4.heap.objs.size]) ht.typeIs (slot_tuple_getitem.lookup) ?_ (by with_unfolding_all rfl)
    refine tup_rev ht (Heap.IsSliceOf.new _ .none .none (.int (-1) tk)) ?_ (by rw [List.size_toArray]; omega)
    refine ⟨.ref _, _, I5.laid (t' := s4.toks) (o := .tup xs.reverse) (fun b ob q => Heap.get?_push_of_some _ q) (Nat.le_refl _) ?_, rfl, q _ (I5.hok.fresh (Nat.le_refl _))⟩
    exact ⟨by rw [List.length_reverse]; exact hz, _, r.reverse, IsTup.new _ _⟩
/-- an int or a bool, and a number -/
def numB : V → Option Int
  | .int i => some i
  | .bl b => some (if b = true then 1 else 0)
  | _ => none
def rNumB (g : Int → Int → Int) : R2 := fun x y H Q => ∃ i j, numB x = some i ∧ y = .int j ∧ Q (.int (g i j)) H
theorem op_addB : OpR X (binaryOp .Add) (rNumB fun i j => i + j) := by
  intro pins s σ H x y v u Q I rx ry h
  obtain ⟨i, j, hx, rfl, q⟩ := h
  cases x with
  | int i' =>
    cases hx
    exact op_add pins s σ H _ _ v u Q I rx ry ⟨_, _, rfl, rfl, q⟩
  | bl b =>
    cases hx
    obtain ⟨t, rfl⟩ := ry
    cases rx
    exact PySem.IntBool.add_bool_int ⟨.int _, H, I.tok _, ⟨_, rfl⟩, q⟩
  | _ => cases hx
theorem op_subB : OpR X (binaryOp .Sub) (rNumB fun i j => i - j) := by
  intro pins s σ H x y v u Q I rx ry h
  obtain ⟨i, j, hx, rfl, q⟩ := h
  cases x with
  | int i' =>
    cases hx
    exact op_sub pins s σ H _ _ v u Q I rx ry ⟨_, _, rfl, rfl, q⟩
  | bl b =>
    cases hx
    obtain ⟨t, rfl⟩ := ry
    cases rx
    exact PySem.IntBool.sub_bool_int ⟨.int _, H, I.tok _, ⟨_, rfl⟩, q⟩
  | _ => cases hx
def rEqB : R2 := fun x y H Q => ∃ i j, numB x = some i ∧ y = .int j ∧ ∀ b, Q (.bl b) H
theorem op_eqB : OpR X (compareOp .Eq) rEqB := by
  intro pins s σ H x y v u Q I rx ry h
  obtain ⟨i, j, hx, rfl, q⟩ := h
  cases x with
  | int i' => exact op_eq pins s σ H _ _ v u Q I rx ry ⟨rfl, q _⟩
  | bl b =>
    obtain ⟨t, rfl⟩ := ry
    cases rx
    exact SeqAt.RcAt.bool_int b j t _ _ _ _ ⟨.bl _, H, I, rfl, q _⟩
  | _ => cases hx
/-- str of an int or a bool -/
def rStrB : List V → Hp → VK → Prop := fun xs H Q => (∃ i, xs = [.int i] ∧ i.natAbs.log2 < 1920 ∧ Q (.str (toString i)) H) ∨ ∃ b, xs = [.bl b] ∧ Q (.str (if b = true then "True" else "False" : String)) H
theorem call_strB : CallR X (.type "str") rStrB := by
  intro pins s σ H xs us Q I r h
  rcases h with ⟨i, rfl, z, q⟩ | ⟨b, rfl, q⟩
  · exact call_str_int pins s σ H _ us Q I r ⟨i, rfl, z, q⟩
  · obtain ⟨u, rfl, e⟩ := vals1 r
    cases (show u = Value.bool b from e)
    refine PySem.P.str_of_bool ⟨.str _, H, I.tok _, ⟨_, rfl⟩, ?_⟩
    cases b <;> exact q
end

theorem cps_of (s : String) : (Str.ofString s).cps.toList = s.toList.map Char.toNat := by
  rw [Str.ofString_eq_toList]
theorem tx_toString (i : Int) : txS (Str.ofString (toString i)) = true := by
  unfold txS
  have dig : ∀ (m : Nat) (c : Nat), c ∈ (toString m : String).toList.map Char.toNat → c < 128 := by
    intro m c hc
    obtain ⟨ch, h1, rfl⟩ := List.mem_map.mp hc
    have h2 : ch ∈ Nat.toDigits 10 m := by simpa [toString, Nat.repr] using h1
    have h3 := Nat.isDigit_of_mem_toDigits (by decide) (by decide) h2
    simp only [Char.isDigit, Bool.and_eq_true, decide_eq_true_eq] at h3
    have := UInt32.le_iff_toNat_le.mp h3.2
    show ch.val.toNat < 128
    have e : ('9' : Char).val.toNat = 57 := by decide
    omega
  rw [List.all_eq_true]
  intro c hc
  rw [cps_of] at hc
  refine decide_eq_true ?_
  cases i with
  | ofNat m => exact dig m c hc
  | negSucc m =>
    have e : (toString (Int.negSucc m) : String) = "-" ++ toString (m + 1) := rfl
    rw [e, String.toList_append, List.map_append, List.mem_append] at hc
    rcases hc with hc | hc
    · have : c = 45 := by simpa using hc
      omega
    · exact dig (m + 1) c hc
theorem len_toString (i : Int) : (Str.ofString (toString i)).length ≤ i.natAbs.log2 + 2 := by
  have e := int_text_length_le (a := i) (k := i.natAbs.log2 + 1) (Nat.succ_pos _) (Nat.lt_succ_self _)
  rw [PySem.ofString_length]
  exact e
theorem log2_succ {a b : Nat} (h : b ≤ a + 1) : b.log2 ≤ a.log2 + 1 := by
  by_cases z : b = 0
  · subst z
    simp
  · have h1 : b < 2 ^ (a.log2 + 2) := by
      have := Nat.lt_log2_self (n := a)
      rw [Nat.pow_succ]
      omega
    have := (Nat.log2_lt z).mpr h1
    omega
/-- what odd values are like, beside a value of a size -/
abbrev Og (w p W : Nat) (d : PyData) : Prop := Gd (2 * w + 200) (p + 2) (2 * W + 10 * w + 400) d
theorem gd_str2 {x : Str} {n : Nat} (h : txS x = true) (e : x.length ≤ n) : Gd n 0 (10 * n + 2) (.str x) :=
  ⟨e, Nat.zero_le _, by show 10 * x.length + 2 ≤ _; omega, h⟩
theorem og_int {w p W : Nat} {i : Int} (h : i.natAbs.log2 ≤ w + 1) : Og w p W (.int i) :=
  ⟨by show i.natAbs.log2 ≤ _; omega, Nat.zero_le _, by show i.natAbs.log2 + 2 ≤ _; omega, rfl⟩
theorem og_bool {w p W : Nat} (b : Bool) : Og w p W (.bool b) := ⟨Nat.zero_le _, Nat.zero_le _, by show 5 ≤ _; omega, rfl⟩
theorem og_str {w p W : Nat} {x : Str} (h : txS x = true) (e : x.length ≤ w + 5) : Og w p W (.str x) := (gd_str2 h e).mono (by omega) (by omega) (by omega)
theorem og_none {w p W : Nat} : Og w p W .none := ⟨Nat.zero_le _, Nat.zero_le _, by show 4 ≤ _; omega, rfl⟩
theorem tx_app {x y : Str} (h : txS x = true) (k : txS y = true) : txS (x ++ y) = true := by
  unfold txS at *
  have e : (x ++ y).cps.toList = x.cps.toList ++ y.cps.toList := by
    show (x.cps ++ y.cps).toList = _
    simp
  rw [e, List.all_append, h, k]
  rfl
theorem DqAll.app {H : Hp} : ∀ {xs ys : List V} {ds es : List PyData}, DqAll H xs ds → DqAll H ys es → DqAll H (xs ++ ys) (ds ++ es)
  | _, _, _, _, .nil, k => k
  | _, _, _, _, .cons h r, k => .cons h (r.app k)
theorem Many.app {n m w p W : Nat} {ds es : List PyData} (h : Many n w p W ds) (k : Many m w p W es) : Many (n + m) w p W (ds ++ es) := by
  refine ⟨by have := h.1; have := k.1; simp; omega, fun x hx => ?_⟩
  rcases List.mem_append.mp hx with z | z
  · exact h.2 x z
  · exact k.2 x z
theorem Many.rev {n w p W : Nat} {ds : List PyData} (h : Many n w p W ds) : Many n w p W ds.reverse := ⟨by simpa using h.1, fun x hx => h.2 x (by simpa using hx)⟩
theorem DqAll.drop {H : Hp} : ∀ {ds : List PyData} {xs : List V} (n : Nat), DqAll H xs ds → DqAll H (xs.drop n) (ds.drop n)
  | _, _, 0, h => h
  | _, _, n + 1, .nil => .nil
  | _, _, n + 1, .cons _ r => r.drop n
theorem DqAll.rev {H : Hp} : ∀ {ds : List PyData} {xs : List V}, DqAll H xs ds → DqAll H xs.reverse ds.reverse
  | _, _, .nil => .nil
  | _, _, .cons h r => by
    rw [List.reverse_cons, List.reverse_cons]
    exact r.rev.snoc h
theorem wtAll_app : ∀ (ds es : List PyData), wtAll (ds ++ es) = wtAll ds + wtAll es
  | [], _ => by simp [wtAll]
  | d :: r, es => by
    show wt d + 2 + wtAll (r ++ es) = wt d + 2 + wtAll r + wtAll es
    rw [wtAll_app r es]
    omega
theorem wdAll_mem {ds : List PyData} {d : PyData} (h : d ∈ ds) : wd d ≤ wdAll ds := by
  induction ds with
  | nil => cases h
  | cons e r ih =>
    rcases List.mem_cons.mp h with rfl | h
    · exact Nat.le_max_left _ _
    · exact Nat.le_trans (ih h) (Nat.le_max_right _ _)
theorem txAll_mem {ds : List PyData} {d : PyData} (t : txAll ds = true) (h : d ∈ ds) : txD d = true := by
  induction ds with
  | nil => cases h
  | cons e r ih =>
    have t' := Bool.and_eq_true_iff.mp (show (txD e && txAll r) = true from t)
    rcases List.mem_cons.mp h with rfl | h
    · exact t'.1
    · exact ih t'.2 h
theorem wdAll_bound {ds : List PyData} {n : Nat} (h : ∀ d ∈ ds, wd d ≤ n) : wdAll ds ≤ n := by
  induction ds with
  | nil => exact Nat.zero_le _
  | cons e r ih => exact Nat.max_le.mpr ⟨h e (.head _), ih fun d hd => h d (.tail _ hd)⟩
theorem dpAll_bound {ds : List PyData} {n : Nat} (h : ∀ d ∈ ds, d.depth ≤ n) : PyData.depthAll ds ≤ n := by
  induction ds with
  | nil => exact Nat.zero_le _
  | cons e r ih => exact Nat.max_le.mpr ⟨h e (.head _), ih fun d hd => h d (.tail _ hd)⟩
theorem txAll_bound {ds : List PyData} (h : ∀ d ∈ ds, txD d = true) : txAll ds = true := by
  induction ds with
  | nil => rfl
  | cons e r ih =>
    show (txD e && txAll r) = true
    rw [h e (.head _), ih fun d hd => h d (.tail _ hd)]
    rfl
theorem wtAll_cut (n : Nat) (ds : List PyData) : wtAll (ds.take n) + wtAll (ds.drop n) = wtAll ds := by
  rw [← wtAll_app, List.take_append_drop]
theorem wtAll_rev : ∀ (ds : List PyData), wtAll ds.reverse = wtAll ds
  | [] => rfl
  | d :: r => by
    rw [List.reverse_cons, wtAll_app, wtAll_rev r]
    show wtAll r + (wt d + 2 + 0) = wt d + 2 + wtAll r
    omega
/-- a tuple or a list of items that stand in another one -/
theorem gd_items {w p W n m : Nat} {ds es : List PyData} (g : Gd w p W (.tuple ds)) (hl : es.length ≤ n) (hm : ∀ d ∈ es, d ∈ ds) (hw : wtAll es ≤ m) :
    Gd (max w n) p (m + 3) (.tuple es) ∧ Gd (max w n) p (m + 3) (.list es) := by
  have g1 : max ds.length (wdAll ds) ≤ w := g.wd
  have g2 : PyData.depthAll ds + 1 ≤ p := g.dp
  have a1 : wdAll es ≤ w := wdAll_bound fun d hd => Nat.le_trans (wdAll_mem (hm d hd)) (by omega)
  have a2 : PyData.depthAll es + 1 ≤ p := by
    have := dpAll_bound (n := PyData.depthAll ds) fun d (hd : d ∈ es) => depth_mem (hm d hd)
    omega
  have a3 : txAll es = true := txAll_bound fun d hd => txAll_mem g.tx (hm d hd)
  refine ⟨⟨?_, a2, ?_, a3⟩, ⟨?_, a2, ?_, a3⟩⟩
  · show max es.length (wdAll es) ≤ _
    omega
  · show wtAll es + 3 ≤ _
    omega
  · show max es.length (wdAll es) ≤ _
    omega
  · show wtAll es + 2 ≤ _
    omega

/-! ### texts cut -/
theorem tx_cut {x : Str} (h : txS x = true) (lo hi : Option Int) : txS (cutS x lo hi) = true ∧ (cutS x lo hi).length ≤ x.length := by
  refine ⟨?_, cutS_length _ _ _⟩
  unfold txS at *
  rw [List.all_eq_true] at *
  intro c hc
  exact h c (List.mem_of_mem_drop (List.mem_of_mem_take (show c ∈ (x.cps.toList.drop (HT.sIx x.length 0 lo)).take (HT.sIx x.length x.length hi - HT.sIx x.length 0 lo) from by simpa [cutS] using hc)))
/-- the values that stand first in the list of odd ones -/
def odd18 : List PyData := [.none, .bool true, .bool false, .int 0, .int (-1), .int 1, .int (10 ^ 39), .str "", .str "a", .str "states", .tuple [], .list [], .dict [], .tuple [.str "a"], .tuple [.str ""], .tuple [.int 0], .tuple [.tuple []], .tuple [.str "a", .int 0]]
theorem odd18_ok {w p W : Nat} : Many 18 (2 * w + 200) (p + 2) (2 * W + 10 * w + 400) odd18 := by
  refine ⟨by decide, fun d hd => ?_⟩
  have z : (odd18.all fun d => decide (wd d ≤ 200) && decide (d.depth ≤ 2) && decide (wt d ≤ 400) && txD d) = true := by decide +kernel
  have y := List.all_eq_true.mp z d hd
  simp only [Bool.and_eq_true, decide_eq_true_eq] at y
  exact ⟨by omega, by omega, by omega, y.2⟩
theorem odd18_few : ∀ d ∈ odd18, (itemsD d).length ≤ 3 := by decide +kernel
end KL
set_option Elab.async false
set_option linter.all false
set_option maxRecDepth 100000
set_option maxHeartbeats 4000000
namespace KL
open PySem L2
/-! ### values that are made beside a deck: what is made is new, and stays -/
theorem slA_go {K : PySem.W.Frag} {p l a : Addr} {H0 H : Hp} {t : Int} {ys : List V} {ds : List PyData} {lo hi : Option Int} {R : VK} (D : DeckAt H0 H p l t) (ha : H0 a = some (.tup ys)) (hq : DqAll H0 ys ds)
    (h : ∀ H0' H' v' xs' a', Go p l H0 H t H0' H' t 0 → v' = .ref a' → H0' a' = some (.tup xs') → DqAll H0' xs' ((ds.drop (HT.sIx ds.length 0 lo)).take (HT.sIx ds.length ds.length hi - HT.sIx ds.length 0 lo)) → R v' H') : rSlA K (.ref a) lo hi H R := by
  have e := dq_len hq
  have q : DqAll H0 ((ys.drop (HT.sIx ds.length 0 lo)).take (HT.sIx ds.length ds.length hi - HT.sIx ds.length 0 lo)) ((ds.drop (HT.sIx ds.length 0 lo)).take (HT.sIx ds.length ds.length hi - HT.sIx ds.length 0 lo)) := (hq.drop _).take _
  refine ⟨a, ys, rfl, SqT.of (D.s _ _ ha), fun z => ?_, fun _ r nr => ?_⟩
  · rw [e] at z
    rw [z.1, z.2, Nat.sub_zero, List.drop_zero, List.drop_zero, ← e, List.take_of_length_le (Nat.le_refl _), e, List.take_of_length_le (Nat.le_refl _)] at q
    refine h H0 H _ ys a (Go.refl D) rfl ha ?_
    rw [z.1, z.2, Nat.sub_zero, List.drop_zero, List.take_of_length_le (Nat.le_refl _)]
    exact q
  · refine h _ _ _ _ r ((Go.refl D).new nr) rfl upd_same ?_
    rw [← e] at q ⊢
    rw [e]
    rw [e] at q
    have q2 := DqAll.same (same_new (o := .tup (cutV ys lo hi)) (D.s.free nr)) _ _ q
    unfold cutV at q2 ⊢
    rw [e] at q2 ⊢
    exact q2
theorem catA_go {K : PySem.W.Frag} {p l a b : Addr} {H0 H : Hp} {t : Int} {xs ys : List V} {ds es : List PyData} {R : VK} (D : DeckAt H0 H p l t) (ha : H0 a = some (.tup xs)) (hb : H0 b = some (.tup ys)) (qa : DqAll H0 xs ds) (qb : DqAll H0 ys es) (hz : xs.length + ys.length ≤ sizeLine)
    (h : ∀ H0' H' v', Go p l H0 H t H0' H' t 0 → Dq H0' v' (.tuple (ds ++ es)) → R v' H') : rCatA K (.ref a) (.ref b) H R := by
  refine ⟨a, b, xs, ys, rfl, rfl, SqT.of (D.s _ _ ha), SqT.of (D.s _ _ hb), hz, fun z => ?_, fun _ z => ?_, fun _ _ r nr => ?_⟩
  · subst z
    cases qa
    exact h _ _ _ (Go.refl D) (.tup hb qb)
  · subst z
    cases qb
    rw [List.append_nil] at h
    exact h _ _ _ (Go.refl D) (.tup ha qa)
  · exact h _ _ _ ((Go.refl D).new nr) (dq_new (D.s.free nr) (qa.app qb))
section
variable {K : PySem.W.Frag} {p l : Addr} {B : Hp} {σ : L2.St}
def LitG (p l : Addr) (B : Hp) (σ : L2.St) (te : TE) (d : PyData) : Prop := ∀ (H0 H : Hp) (t : Int) (Q : VK), DeckAt H0 H p l t → Same B H0 → (∀ H0' H' v, Go p l H0 H t H0' H' t 0 → Dq H0' v d → Q v H') → te σ H Q
def LitsG (p l : Addr) (B : Hp) (σ : L2.St) (ta : TA) (ds : List PyData) : Prop := ∀ (H0 H : Hp) (t : Int) (Q : List V → Hp → Prop), DeckAt H0 H p l t → Same B H0 → (∀ H0' H' vs, Go p l H0 H t H0' H' t 0 → DqAll H0' vs ds → Q vs H') → ta σ H Q
def PartG (σ : L2.St) (tp : TO) (o : Option Int) : Prop := ∀ (H : Hp) (Q : Option Int → Hp → Prop), Q o H → tp σ H Q
theorem litg_int {i : Int} : LitG p l B σ (tC (.int i)) (.int i) := fun _ _ _ _ D _ k => k _ _ _ (Go.refl D) (.int i)
theorem litg_str {x : Str} : LitG p l B σ (tC (.str x)) (.str x) := fun _ _ _ _ D _ k => k _ _ _ (Go.refl D) (.str x)
theorem litg_bl {b : Bool} : LitG p l B σ (tC (.bl b)) (.bool b) := fun _ _ _ _ D _ k => k _ _ _ (Go.refl D) (.bl b)
theorem litg_non : LitG p l B σ (tC .non) .none := fun _ _ _ _ D _ k => k _ _ _ (Go.refl D) .non
theorem litg_neg {i : Int} : LitG p l B σ (tUn (rU fun i => .int (-i)) (tC (.int i))) (.int (-i)) := fun _ _ _ _ D _ k => ⟨i, rfl, k _ _ _ (Go.refl D) (.int _)⟩
theorem litg_op2 {r : R2} {x y z : V} {d : PyData} (hr : ∀ H (Q : VK), Q z H → r x y H Q) (hz : ∀ H, Dq H z d) : LitG p l B σ (tOp r (tC x) (tC y)) d := fun _ H _ Q D _ k => hr H Q (k _ H z (Go.refl D) (hz _))
theorem litg_opV {r : R2} {i : Nat} {x y z : V} {d : PyData} (e : σ[i]? = some (some x)) (hr : ∀ H (Q : VK), Q z H → r x y H Q) (hz : ∀ H, Dq H z d) : LitG p l B σ (tOp r (tVar i) (tC y)) d := fun _ H _ Q D _ k => ⟨x, e, hr H Q (k _ H z (Go.refl D) (hz _))⟩
theorem litg_opVV {r : R2} {i j : Nat} {x y z : V} {d : PyData} (e : σ[i]? = some (some x)) (e' : σ[j]? = some (some y)) (hr : ∀ H (Q : VK), Q z H → r x y H Q) (hz : ∀ H, Dq H z d) : LitG p l B σ (tOp r (tVar i) (tVar j)) d := fun _ H _ Q D _ k => ⟨x, e, y, e', hr H Q (k _ H z (Go.refl D) (hz _))⟩
theorem litg_callV {r : List V → Hp → VK → Prop} {i : Nat} {x z : V} {d : PyData} (e : σ[i]? = some (some x)) (hr : ∀ H (Q : VK), Q z H → r [x] H Q) (hz : ∀ H, Dq H z d) : LitG p l B σ (tCB r (tCons (tVar i) tNil)) d := fun _ H _ Q D _ k => ⟨x, e, hr H Q (k _ H z (Go.refl D) (hz _))⟩
theorem litg_slS {i : Nat} {x : Str} {tl th : TO} {lo hi : Option Int} (e : σ[i]? = some (some (.str x))) (hz : x.length ≤ sizeLine) (hl : PartG σ tl lo) (hh : PartG σ th hi) : LitG p l B σ (tSl rSlS (tVar i) tl th) (.str (cutS x lo hi)) :=
  fun _ H _ Q D _ k => ⟨_, e, hl _ _ (hh _ _ ⟨x, rfl, hz, k _ _ _ (Go.refl D) (.str _)⟩)⟩
theorem litg_var {i : Nat} {v : V} {d : PyData} (e : σ[i]? = some (some v)) (h : Dq B v d) : LitG p l B σ (tVar i) d := fun _ _ _ _ D S k => ⟨v, e, k _ _ _ (Go.refl D) (Dq.same S _ _ h)⟩
theorem litsg_nil : LitsG p l B σ tNil [] := fun _ _ _ _ D _ k => k _ _ _ (Go.refl D) .nil
theorem litsg_cons {te : TE} {ta : TA} {d : PyData} {ds : List PyData} (h : LitG p l B σ te d) (hs : LitsG p l B σ ta ds) : LitsG p l B σ (tCons te ta) (d :: ds) := fun H0 H t Q D S k =>
  h H0 H t _ D S fun H1 H1' v g dv => hs H1 H1' t _ g.d (S.trans g.s) fun H2 H2' vs g2 dvs => k H2 H2' (v :: vs) ((g.trans g2).more (by omega)) (.cons (Dq.same g2.s _ _ dv) dvs)
theorem litg_tup {ta : TA} {ds : List PyData} (hs : LitsG p l B σ ta ds) (hn : ds.length ≤ 1000) : LitG p l B σ (tTup ta) (.tuple ds) := fun H0 H t Q D S k =>
  hs H0 H t _ D S fun H1 H1' vs g dvs => ⟨by rw [dvs.len, sizeLine_eq]; omega, fun q nq => k _ _ _ (g.new nq) (dq_new (g.d.s.free nq) dvs)⟩
theorem litg_lst {ta : TA} {ds : List PyData} (hs : LitsG p l B σ ta ds) (hn : ds.length ≤ 1000) : LitG p l B σ (tLst ta) (.list ds) := fun H0 H t Q D S k =>
  hs H0 H t _ D S fun H1 H1' vs g dvs => ⟨by rw [dvs.len, sizeLine_eq]; omega, fun q nq => k _ _ _ (g.new nq) (.lst upd_same (DqAll.same (same_new (g.d.s.free nq)) _ _ dvs))⟩
theorem litg_dict : LitG p l B σ tDNewK (.dict []) := fun H0 H t Q D S k q nq => k _ _ _ ((Go.refl D).new nq) (.dct0 upd_same)
theorem part_no : PartG σ tNoPart none := fun _ _ q => q
theorem part_int {i : Int} : PartG σ (tPart (tC (.int i))) (some i) := fun _ _ q => ⟨i, rfl, q⟩
theorem part_neg {i : Int} : PartG σ (tPart (tUn (rU fun i => .int (-i)) (tC (.int i)))) (some (-i)) := fun _ _ q => ⟨i, rfl, _, rfl, q⟩
theorem part_var {i : Nat} {n : Int} (e : σ[i]? = some (some (.int n))) : PartG σ (tPart (tVar i)) (some n) := fun _ _ q => ⟨_, e, n, rfl, q⟩
theorem part_add {i : Nat} {n m : Int} (e : σ[i]? = some (some (.int n))) : PartG σ (tPart (tOp (rI0 fun i j => .int (i + j)) (tVar i) (tC (.int m)))) (some (n + m)) := fun _ _ q => ⟨_, e, _, _, rfl, rfl, _, rfl, q⟩
abbrev pc (es : List PyData) (lo hi : Option Int) : List PyData := (es.drop (HT.sIx es.length 0 lo)).take (HT.sIx es.length es.length hi - HT.sIx es.length 0 lo)
theorem litg_slT {te : TE} {tl th : TO} {lo hi : Option Int} {es : List PyData} (h : LitG p l B σ te (.tuple es)) (hl : PartG σ tl lo) (hh : PartG σ th hi) : LitG p l B σ (tSl (rSlA K) te tl th) (.tuple (pc es lo hi)) := fun H0 H t Q D S k => by
  refine h H0 H t _ D S fun H1 H1' v g dv => hl _ _ (hh _ _ ?_)
  cases dv with
  | tup ha qa =>
    refine slA_go g.d ha qa fun H2 H2' v2 xs2 a2 g2 e2 h2 q2 => ?_
    subst e2
    exact k _ _ _ ((g.trans g2).more (by omega)) (.tup h2 q2)
theorem litg_catT {ta tb : TE} {ds es : List PyData} (h1 : LitG p l B σ ta (.tuple ds)) (h2 : LitG p l B σ tb (.tuple es)) (hz : ds.length + es.length ≤ 4000) : LitG p l B σ (tOp (rCatA K) ta tb) (.tuple (ds ++ es)) := fun H0 H t Q D S k =>
  h1 H0 H t _ D S fun H1 H1' v g dv => h2 H1 H1' t _ g.d (S.trans g.s) fun H2 H2' u g2 du => by
    have dv := Dq.same g2.s _ _ dv
    cases dv with
    | tup ha qa =>
      cases du with
      | tup hb qb =>
        exact catA_go g2.d ha hb qa qb (by rw [dq_len qa, dq_len qb, sizeLine_eq]; omega) fun H3 H3' v3 g3 d3 => k _ _ _ (((g.trans g2).trans g3).more (by omega)) d3
theorem litg_revT {te : TE} {es : List PyData} (h : LitG p l B σ te (.tuple es)) : LitG p l B σ (tRevT K te) (.tuple es.reverse) := fun H0 H t Q D S k =>
  h H0 H t _ D S fun H1 H1' v g dv => by
    cases dv with
    | tup ha qa => exact ⟨_, _, rfl, SqT.of (g.d.s _ _ ha), fun q nq => k _ _ _ (g.new nq) (dq_new (g.d.s.free nq) qa.rev)⟩
theorem litg_listT {te : TE} {es : List PyData} (h : LitG p l B σ te (.tuple es)) : LitG p l B σ (tCB (fun xs H Q => ∃ p ys, xs = [.ref p] ∧ (SqL K H p ys ∨ SqT K H p ys) ∧ ∀ l, H l = none → Q (.ref l) (upd H l (.lst ys))) (tCons te tNil)) (.list es) := fun H0 H t Q D S k =>
  h H0 H t _ D S fun H1 H1' v g dv => by
    cases dv with
    | tup ha qa => exact ⟨_, _, rfl, .inr (SqT.of (g.d.s _ _ ha)), fun q nq => k _ _ _ (g.new nq) (.lst upd_same (DqAll.same (same_new (g.d.s.free nq)) _ _ qa))⟩
end
end KL
set_option Elab.async false
set_option linter.all false
set_option maxRecDepth 100000
set_option maxHeartbeats 8000000
namespace KL
open PySem L2 PySem.KX PySem.Spec PyProof.Rows
def rNilT (K : PySem.W.Frag) : R2 := fun x y H Q => ∃ a b xs, x = .ref a ∧ y = .ref b ∧ SqT K H a xs ∧ SqT K H b [] ∧ Q (.bl (!xs.isEmpty)) H
theorem op_neNilT {X : Cx} (hu : X.A.units + 64 < cLine) : OpR X (compareOp .NotEq) (rNilT X.K) := by
  intro pins s σ H x y v u Q I rx ry h
  obtain ⟨a, b, xs, rfl, rfl, ha, hb, q⟩ := h
  cases (show v = Value.ref a from rx)
  cases (show u = Value.ref b from ry)
  obtain ⟨its, r, ⟨o, ho, hc, n, hd⟩, _⟩ := I.tuple ha
  obtain ⟨it2, r2, ⟨o2, ho2, hc2, n2, hd2⟩, _⟩ := I.tuple hb
  cases r2
  refine SeqAt.RcNeAt.tuples (e := fun _ => true) ⟨o, ho, hc, n, hd⟩ ⟨o2, ho2, hc2, n2, hd2⟩ (by omega) (fun j h1 h2 => absurd h2 (Nat.not_lt_zero _)) _ _ _ _ ⟨.bl (!xs.isEmpty), H, I, ?_, q⟩
  cases r with
  | nil => rfl
  | cons _ _ => rfl
theorem pc_take (es : List PyData) (k : Nat) : pc es none (some (k : Int)) = es.take k := by
  show (es.drop 0).take (HT.sIx es.length es.length (some (k : Int)) - 0) = _
  rw [HT.sIx_nat, Nat.sub_zero, List.drop_zero]
  by_cases h : k ≤ es.length
  · rw [Nat.min_eq_left h]
  · rw [Nat.min_eq_right (by omega), List.take_of_length_le (Nat.le_refl _), List.take_of_length_le (by omega)]
theorem pc_drop (es : List PyData) (k : Nat) : pc es (some (k : Int)) none = es.drop k := by
  show (es.drop (HT.sIx es.length 0 (some (k : Int)))).take (es.length - HT.sIx es.length 0 (some (k : Int))) = _
  rw [HT.sIx_nat]
  by_cases h : k ≤ es.length
  · rw [Nat.min_eq_left h, List.take_of_length_le (by rw [List.length_drop]; omega)]
  · rw [Nat.min_eq_right (by omega), Nat.sub_self, List.drop_eq_nil_of_le (by omega : es.length ≤ k)]
    rfl
theorem pc_mid (es : List PyData) (k m : Nat) (h : k ≤ es.length) : pc es (some (k : Int)) (some ((k : Int) + (m : Int))) = (es.drop k).take m := by
  have e : ((k : Int) + (m : Int)) = (((k + m : Nat)) : Int) := by omega
  rw [e]
  show (es.drop (HT.sIx es.length 0 (some (k : Int)))).take (HT.sIx es.length es.length (some ((k + m : Nat) : Int)) - HT.sIx es.length 0 (some (k : Int))) = _
  rw [HT.sIx_nat, HT.sIx_nat, Nat.min_eq_left h]
  by_cases h2 : k + m ≤ es.length
  · rw [Nat.min_eq_left h2]
    congr 1
    omega
  · rw [Nat.min_eq_right (by omega), List.take_of_length_le (by rw [List.length_drop]; omega), List.take_of_length_le (by rw [List.length_drop]; omega)]
theorem wtAll_get {es : List PyData} {i : Nat} {d : PyData} (h : es[i]? = some d) : wtAll es = wtAll (es.take i) + (wt d + 2) + wtAll (es.drop (i + 1)) := by
  obtain ⟨hi, rfl⟩ := List.getElem?_eq_some_iff.mp h
  have h1 := wtAll_cut i es
  have h2 : es.drop i = es[i] :: es.drop (i + 1) := List.drop_eq_getElem_cons hi
  rw [h2] at h1
  have h3 : wtAll (es[i] :: es.drop (i + 1)) = wt es[i] + 2 + wtAll (es.drop (i + 1)) := rfl
  omega
/-! ### readings of which one knows the value that they hand back, by data -/
def LitAt (σ : L2.St) (H0 : Hp) (t : TE) (d : PyData) : Prop := ∀ H Q, Same H0 H → (∀ H' v, Same H H' → Dq H' v d → Q v H') → t σ H Q
def LitsAt (σ : L2.St) (H0 : Hp) (t : TA) (ds : List PyData) : Prop := ∀ H Q, Same H0 H → (∀ H' vs, Same H H' → DqAll H' vs ds → Q vs H') → t σ H Q
section
variable {σ : L2.St} {H0 : Hp}
theorem lit_int {i : Int} : LitAt σ H0 (tC (.int i)) (.int i) := fun H Q _ k => k H _ (Same.refl _) (.int i)
theorem lit_str {x : Str} : LitAt σ H0 (tC (.str x)) (.str x) := fun H Q _ k => k H _ (Same.refl _) (.str x)
theorem lit_bl {b : Bool} : LitAt σ H0 (tC (.bl b)) (.bool b) := fun H Q _ k => k H _ (Same.refl _) (.bl b)
theorem lit_non : LitAt σ H0 (tC .non) .none := fun H Q _ k => k H _ (Same.refl _) .non
theorem lit_dict : LitAt σ H0 tDNewK (.dict []) := fun H Q _ k p np => k _ _ (same_new np) (.dct0 upd_same)
theorem lits_nil : LitsAt σ H0 tNil [] := fun H Q _ k => k H _ (Same.refl _) .nil
theorem lits_cons {t : TE} {ts : TA} {d : PyData} {ds : List PyData} (h : LitAt σ H0 t d) (hs : LitsAt σ H0 ts ds) : LitsAt σ H0 (tCons t ts) (d :: ds) := fun H Q S k =>
  h H _ S fun H1 v S1 d1 => hs H1 _ (S.trans S1) fun H2 vs S2 d2 => k H2 _ (S1.trans S2) (.cons (Dq.same S2 _ _ d1) d2)
theorem lit_tup {ts : TA} {ds : List PyData} (hs : LitsAt σ H0 ts ds) (hn : ds.length ≤ 1000) : LitAt σ H0 (tTup ts) (.tuple ds) := fun H Q S k =>
  hs H _ S fun H1 vs S1 d1 => ⟨by rw [d1.len, sizeLine_eq]; omega, fun p np => k _ _ (S1.trans (same_new np)) (dq_new np d1)⟩
theorem lit_lst {ts : TA} {ds : List PyData} (hs : LitsAt σ H0 ts ds) (hn : ds.length ≤ 1000) : LitAt σ H0 (tLst ts) (.list ds) := fun H Q S k =>
  hs H _ S fun H1 vs S1 d1 => ⟨by rw [d1.len, sizeLine_eq]; omega, fun p np => k _ _ (S1.trans (same_new np)) (.lst upd_same (DqAll.same (same_new np) _ _ d1))⟩
theorem lit_var {i : Nat} {v : V} {d : PyData} (e : σ[i]? = some (some v)) (h : Dq H0 v d) : LitAt σ H0 (tVar i) d := fun H Q S k => ⟨v, e, k H v (Same.refl _) (Dq.same S _ _ h)⟩
end
theorem asg_lst {σ : L2.St} {H0 : Hp} {ts : TA} {ds : List PyData} {i : Nat} {D : Ends} (hs : LitsAt σ H0 ts ds) (hn : ds.length ≤ 1000) (k : ∀ J p vs, Same H0 J → J p = none → DqAll J vs ds → D.nx (σ.set i (some (.ref p))) (upd J p (.lst vs))) : tAsg (tLst ts) (gName i) D σ H0 :=
  hs H0 _ (Same.refl _) fun J vs S d => ⟨by rw [d.len, sizeLine_eq]; omega, fun p np => k J p vs S np d⟩
def okS (x : Str) : Bool := PyData.strOk x
mutual
/-- all texts in it can be laid -/
def okD : PyData → Bool
  | .str x => okS x
  | .list ds => okAll ds
  | .tuple ds => okAll ds
  | _ => true
def okAll : List PyData → Bool
  | [] => true
  | d :: r => okD d && okAll r
end
theorem ok_char : ∀ c : Nat, c < 128 → PyData.strOk ⟨#[c]⟩ = true := by decide +kernel
theorem okS_tx {x : Str} (h : txS x = true) : okS x = true := by
  have a : ∀ c ∈ x.cps.toList, c < 128 := fun c hc => of_decide_eq_true (List.all_eq_true.mp h c hc)
  unfold okS PyData.strOk
  simp only [Array.all_eq_true, ← Array.all_toList, List.all_eq_true] at *
  intro c hc
  have h1 := ok_char c (a c hc)
  unfold PyData.strOk at h1
  simpa using h1
mutual
theorem okD_tx : ∀ d : PyData, txD d = true → okD d = true
  | .str x, h => okS_tx h
  | .list ds, h => okAll_tx ds h
  | .tuple ds, h => okAll_tx ds h
  | .none, _ => rfl
  | .bool _, _ => rfl
  | .int _, _ => rfl
  | .dict _, _ => rfl
theorem okAll_tx : ∀ ds : List PyData, txAll ds = true → okAll ds = true
  | [], _ => rfl
  | d :: r, h => by
    have h := Bool.and_eq_true_iff.mp (show (txD d && txAll r) = true from h)
    show (okD d && okAll r) = true
    rw [okD_tx d h.1, okAll_tx r h.2]
    rfl
end
theorem DeckAt.mono {H0 H H' : Hp} {p l : Addr} {t : Int} (D : DeckAt H0 H p l t) (S : Same H H') : DeckAt H0 H' p l t := by
  obtain ⟨ns, m, hp, hl, r⟩ := D.d
  exact ⟨D.s.trans S, D.p0, D.l0, ns, m, S _ _ hp, S _ _ hl, r⟩
/-! ### questions whose answer is no -/
def NoAt (σ : L2.St) (H0 : Hp) (t : TT) : Prop := ∀ H (Q : Bool → Hp → Prop), Same H0 H → (∀ H', Same H H' → Q false H') → t σ H Q
section
variable {σ : L2.St} {H0 : Hp}
theorem no_or {t u : TT} (h1 : NoAt σ H0 t) (h2 : NoAt σ H0 u) : NoAt σ H0 (tOr t u) := fun H Q S k => h1 H _ S fun H1 S1 => iteNo rfl (h2 H1 Q (S.trans S1) fun H2 S2 => k H2 (S1.trans S2))
theorem ifs_no {c : TT} {a : TS} {D : Ends} (h : NoAt σ H0 c) (k : ∀ H', Same H0 H' → D.nx σ H') : tIfS c a tNext D σ H0 := h H0 _ (Same.refl _) fun H' S => iteNo rfl (k H' S)
end
end KL
set_option Elab.async false
set_option linter.all false
set_option maxRecDepth 100000
set_option maxHeartbeats 8000000
namespace KL
open PySem L2 PySem.KX PySem.Spec PyProof.Rows
mutual
def plainD : PyData → Bool
  | .int _ => true
  | .str _ => true
  | .tuple ds => plainAll ds
  | _ => false
def plainAll : List PyData → Bool
  | [] => true
  | d :: r => plainD d && plainAll r
end
mutual
theorem plain_eq : ∀ (x y : PyData), plainD x = true → plainD y = true → PyData.eqv x y = true → x = y
  | .int i, y, _, hy, h => by
    cases y with
    | int j => rw [eq_of_beq (show (i == j) = true from by simpa [PyData.eqv] using h)]
    | str _ => simp [PyData.eqv] at h
    | tuple _ => simp [PyData.eqv] at h
    | _ => simp [plainD] at hy
  | .str a, y, _, hy, h => by
    cases y with
    | str b => rw [eq_of_beq (show (a == b) = true from by simpa [PyData.eqv] using h)]
    | int _ => simp [PyData.eqv] at h
    | tuple _ => simp [PyData.eqv] at h
    | _ => simp [plainD] at hy
  | .tuple xs, y, hx, hy, h => by
    cases y with
    | tuple ys => rw [plain_all_eq xs ys (by simpa [plainD] using hx) (by simpa [plainD] using hy) (by simpa [PyData.eqv] using h)]
    | int _ => simp [PyData.eqv] at h
    | str _ => simp [PyData.eqv] at h
    | _ => simp [plainD] at hy
  | .none, _, hx, _, _ => by simp [plainD] at hx
  | .bool _, _, hx, _, _ => by simp [plainD] at hx
  | .list _, _, hx, _, _ => by simp [plainD] at hx
  | .dict _, _, hx, _, _ => by simp [plainD] at hx
theorem plain_all_eq : ∀ (xs ys : List PyData), plainAll xs = true → plainAll ys = true → PyData.eqvAll xs ys = true → xs = ys
  | [], [], _, _, _ => rfl
  | [], _ :: _, _, _, h => by simp [PyData.eqvAll] at h
  | _ :: _, [], _, _, h => by simp [PyData.eqvAll] at h
  | x :: xs, y :: ys, hx, hy, h => by
    have hx := Bool.and_eq_true_iff.mp (show (plainD x && plainAll xs) = true from by simpa [plainAll] using hx)
    have hy := Bool.and_eq_true_iff.mp (show (plainD y && plainAll ys) = true from by simpa [plainAll] using hy)
    have h := Bool.and_eq_true_iff.mp (show (PyData.eqv x y && PyData.eqvAll xs ys) = true from by simpa [PyData.eqvAll] using h)
    rw [plain_eq x y hx.1 hy.1 h.1, plain_all_eq xs ys hx.2 hy.2 h.2]
end
mutual
theorem plain_refl : ∀ (x : PyData), plainD x = true → PyData.eqv x x = true
  | .int i, _ => by simp [PyData.eqv]
  | .str a, _ => by simp [PyData.eqv]
  | .tuple xs, h => by
    rw [PyData.eqv]
    exact plain_all_refl xs (by simpa [plainD] using h)
  | .none, h => by simp [plainD] at h
  | .bool _, h => by simp [plainD] at h
  | .list _, h => by simp [plainD] at h
  | .dict _, h => by simp [plainD] at h
theorem plain_all_refl : ∀ (xs : List PyData), plainAll xs = true → PyData.eqvAll xs xs = true
  | [], _ => by simp [PyData.eqvAll]
  | x :: xs, h => by
    have h := Bool.and_eq_true_iff.mp (show (plainD x && plainAll xs) = true from by simpa [plainAll] using h)
    rw [PyData.eqvAll, plain_refl x h.1, plain_all_refl xs h.2]
    rfl
end
mutual
theorem lay_plain : ∀ d : PyData, plainD d = true → txD d = true → d.canLay0 = true
  | .int _, _, _ => rfl
  | .str x, _, h => okS_tx h
  | .tuple ds, p, h => lay_plains ds p h
theorem lay_plains : ∀ ds : List PyData, plainAll ds = true → txAll ds = true → PyData.canLayAll0 ds = true
  | [], _, _ => rfl
  | d :: r, p, h => by
    have p := Bool.and_eq_true_iff.mp (show (plainD d && plainAll r) = true from p)
    have h := Bool.and_eq_true_iff.mp (show (txD d && txAll r) = true from h)
    show (d.canLay0 && PyData.canLayAll0 r) = true
    rw [lay_plain d p.1 h.1, lay_plains r p.2 h.2]
    rfl
end
theorem shaped_plain {d : PyData} {w p W : Nat} (hp : plainD d = true) (g : Gd w p W d) (h : p ≤ 60) : SeqAt.shaped d = true := by
  unfold SeqAt.shaped
  rw [Bool.and_eq_true]
  exact ⟨lay_plain d hp g.tx, decide_eq_true (by have := g.dp; omega)⟩

/-! ### a house in the heap -/
abbrev sHEq : Stmt := inClass (top 86) 1
/-- parts of a size, plain ones -/
def Fit (d : PyData) : Prop := Gd 131 4 40000 d ∧ plainD d = true
theorem Fit.shaped {d : PyData} (h : Fit d) : SeqAt.shaped d = true := shaped_plain h.2 h.1 (by decide)
def FitH (m : HM) : Prop := ∀ d ∈ m.parts, Fit d
def HsAt (C : Addr) (H : Hp) (x : Addr) (m : HM) : Prop := ∃ dx fs v1 v2 v4 v6 v7 v8, H x = some (.ins C dx fs) ∧ fsOf (.int m.people) v1 v2 (.int m.places) v4 (.int m.logs) v6 v7 v8 fs ∧
  Dq H v1 (.tuple (m.deeds.map dE)) ∧ Dq H v2 (.tuple (m.start.map .int)) ∧ Dq H v4 (.tuple (m.ends.map .int)) ∧ Dq H v6 (.tuple (m.arrows.map rowE)) ∧ Dq H v7 (.tuple (m.tests.map rowE)) ∧ Dq H v8 m.looks
theorem HsAt.same {C : Addr} {H H' : Hp} {x : Addr} {m : HM} (S : Same H H') (h : HsAt C H x m) : HsAt C H' x m := by
  obtain ⟨dx, fs, v1, v2, v4, v6, v7, v8, hx, hf, q1, q2, q4, q6, q7, q8⟩ := h
  exact ⟨dx, fs, v1, v2, v4, v6, v7, v8, S _ _ hx, hf, Dq.same S _ _ q1, Dq.same S _ _ q2, Dq.same S _ _ q4, Dq.same S _ _ q6, Dq.same S _ _ q7, Dq.same S _ _ q8⟩
/-- whether all nine parts are alike -/
def sameH (m n : HM) : Bool := PyData.eqv (.int m.people) (.int n.people) && (PyData.eqv (.tuple (m.deeds.map dE)) (.tuple (n.deeds.map dE)) && (PyData.eqv (.tuple (m.start.map .int)) (.tuple (n.start.map .int)) && (PyData.eqv (.int m.places) (.int n.places) && (PyData.eqv (.tuple (m.ends.map .int)) (.tuple (n.ends.map .int)) && (PyData.eqv (.int m.logs) (.int n.logs) && (PyData.eqv (.tuple (m.arrows.map rowE)) (.tuple (n.arrows.map rowE)) && (PyData.eqv (.tuple (m.tests.map rowE)) (.tuple (n.tests.map rowE)) && PyData.eqv m.looks n.looks)))))))
def spHEq (C : Addr) : Sp := fun vs H Q _ => ∃ (x : Addr) (y : V) (m : HM), vs = [.ref x, y] ∧ HsAt C H x m ∧ FitH m ∧ ((∃ d, Dq H y d ∧ Q (.bl false) H) ∨ ∃ z n, y = .ref z ∧ HsAt C H z n ∧ FitH n ∧ Q (.bl (sameH m n)) H)
theorem and_step {a b : Bool} {T : Bool → Prop} (h : T (a && b)) : (a = true → T b) ∧ (a = false → T false) := by
  cases a <;> exact ⟨fun z => (by first | exact h | cases z), fun z => (by first | exact h | cases z)⟩
section
variable {P : Program} {w : World} {K : PySem.W.Frag} {mg : Str → Option Value} {base : Heap} {C : Addr}
theorem scHEq : FnScope ["self", "other"] ["self", "other"] (defScope sHEq) := ⟨rfl, rfl, rfl, by decide +kernel, rfl, by decide +kernel, by decide +kernel⟩
theorem ok_heq {f : Addr} {fd : FuncData} (F : Fun K "__eq__" "House.__eq__" sHEq f fd) (T : TxtH K C) (TQ : TxtQ K C) (TB : TxtB mg) (mC : mg "House" = some (.ref C)) :
    FnOk P w K mg base CX0 3 f fd ["self", "other"] (spHEq C) := by
  refine F.ok scHEq (fun vs H Q E h => ?_) (fun cdv A outer s H vs Q E hr h => ?_)
  · obtain ⟨x, y, m, rfl, _⟩ := h
    rfl
  · obtain ⟨x, y, m, rfl, hx, fm, h⟩ := h
    obtain ⟨dx, fs, v1, v2, v4, v6, v7, v8, hx, hf, q1, q2, q4, q6, q7, q8⟩ := hx
    obtain ⟨f0, f1, f2, f3, f4, f5, f6, f7, f8, fnm⟩ := hf
    refine ⟨_, pss_one (ps_ret (pe_and (pe_callB call_isi (by rfl) TB.isi (by decide +kernel) (pa_cons (pv 1) (pa_cons (pe_glob (v := .ref C) (by rfl) mC rfl) pa_nil)))
      (pe_and (pe_cmpR op_eq (pe_fld (pv 0) (by rfl)) (pe_fld (pv 1) (by rfl)) (nomark _)) (pe_and (pe_cmpR (op_eqD hr.units) (pe_fld (pv 0) (by rfl)) (pe_fld (pv 1) (by rfl)) (nomark _)) (pe_and (pe_cmpR (op_eqD hr.units) (pe_fld (pv 0) (by rfl)) (pe_fld (pv 1) (by rfl)) (nomark _))
      (pe_and (pe_cmpR op_eq (pe_fld (pv 0) (by rfl)) (pe_fld (pv 1) (by rfl)) (nomark _)) (pe_and (pe_cmpR (op_eqD hr.units) (pe_fld (pv 0) (by rfl)) (pe_fld (pv 1) (by rfl)) (nomark _)) (pe_and (pe_cmpR op_eq (pe_fld (pv 0) (by rfl)) (pe_fld (pv 1) (by rfl)) (nomark _))
      (pe_and (pe_cmpR (op_eqD hr.units) (pe_fld (pv 0) (by rfl)) (pe_fld (pv 1) (by rfl)) (nomark _)) (pe_and (pe_cmpR (op_eqD hr.units) (pe_fld (pv 0) (by rfl)) (pe_fld (pv 1) (by rfl)) (nomark _)) (pe_one (pe_cmpR (op_eqD hr.units) (pe_fld (pv 0) (by rfl)) (pe_fld (pv 1) (by rfl)) (nomark _))))))))))))), ?_⟩
    rcases h with ⟨d, qd, k⟩ | ⟨z, n, rfl, hz, fn, k⟩
    · exact ⟨_, rfl, y, .ref C, _, .ref C, false, rfl, .own C, .base (ty_data qd), kit_other TQ d, _, rfl, k⟩
    obtain ⟨dz, gs, u1, u2, u4, u6, u7, u8, hz, hg, p1, p2, p4, p6, p7, p8⟩ := hz
    obtain ⟨g0, g1, g2, g3, g4, g5, g6, g7, g8, gnm⟩ := hg
    have fit : ∀ {d : PyData}, d ∈ m.parts → SeqAt.shaped d = true := fun hd => (fm _ hd).shaped
    have fit' : ∀ {d : PyData}, d ∈ n.parts → SeqAt.shaped d = true := fun hd => (fn _ hd).shaped
    have m1 : PyData.tuple (m.deeds.map dE) ∈ m.parts := by simp [HM.parts]
    have m2 : PyData.tuple (m.start.map .int) ∈ m.parts := by simp [HM.parts]
    have m4 : PyData.tuple (m.ends.map .int) ∈ m.parts := by simp [HM.parts]
    have m6 : PyData.tuple (m.arrows.map rowE) ∈ m.parts := by simp [HM.parts]
    have m7 : PyData.tuple (m.tests.map rowE) ∈ m.parts := by simp [HM.parts]
    have m8 : m.looks ∈ m.parts := by simp [HM.parts]
    have n1 : PyData.tuple (n.deeds.map dE) ∈ n.parts := by simp [HM.parts]
    have n2 : PyData.tuple (n.start.map .int) ∈ n.parts := by simp [HM.parts]
    have n4 : PyData.tuple (n.ends.map .int) ∈ n.parts := by simp [HM.parts]
    have n6 : PyData.tuple (n.arrows.map rowE) ∈ n.parts := by simp [HM.parts]
    have n7 : PyData.tuple (n.tests.map rowE) ∈ n.parts := by simp [HM.parts]
    have n8 : n.looks ∈ n.parts := by simp [HM.parts]
    have num : ∀ {i j : Int}, decide (V.int i = V.int j) = PyData.eqv (.int i) (.int j) := fun {i j} => by
      rw [eqv_int]
      by_cases e : i = j
      · rw [decide_eq_true e, e]
        exact decide_eq_true rfl
      · rw [decide_eq_false e]
        exact decide_eq_false fun z => e (by injection z)
    unfold sameH at k
    refine ⟨_, rfl, .ref z, .ref C, _, .ref C, true, rfl, .own C, .base (ty_ins TQ.i hz), TQ.i.me, _, rfl, ?_⟩
    refine ⟨_, rfl, x, C, dx, _, _, rfl, hx, T.c, T.people, f0, _, rfl, z, C, dz, _, _, rfl, hz, T.c, T.people, g0, rfl, _, rfl, ?_⟩
    rw [num]
    obtain ⟨k1, k0⟩ := and_step (T := fun b => Q (.bl b) H) k
    rcases bool_ft (PyData.eqv (.int m.people) (.int n.people)) with b | b
    · exact iteNo b (k0 b)
    refine iteYes b ?_
    replace k := k1 b
    refine ⟨_, rfl, x, C, dx, _, _, rfl, hx, T.c, T.deeds, f1, _, rfl, z, C, dz, _, _, rfl, hz, T.c, T.deeds, g1, _, _, dp_shaped (fit m1) q1, dp_shaped (fit' n1) p1, fit m1, fit' n1, _, rfl, ?_⟩
    obtain ⟨k1, k0⟩ := and_step (T := fun b => Q (.bl b) H) k
    rcases bool_ft (PyData.eqv (.tuple (m.deeds.map dE)) (.tuple (n.deeds.map dE))) with b | b
    · exact iteNo b (k0 b)
    refine iteYes b ?_
    replace k := k1 b
    refine ⟨_, rfl, x, C, dx, _, _, rfl, hx, T.c, T.start, f2, _, rfl, z, C, dz, _, _, rfl, hz, T.c, T.start, g2, _, _, dp_shaped (fit m2) q2, dp_shaped (fit' n2) p2, fit m2, fit' n2, _, rfl, ?_⟩
    obtain ⟨k1, k0⟩ := and_step (T := fun b => Q (.bl b) H) k
    rcases bool_ft (PyData.eqv (.tuple (m.start.map .int)) (.tuple (n.start.map .int))) with b | b
    · exact iteNo b (k0 b)
    refine iteYes b ?_
    replace k := k1 b
    refine ⟨_, rfl, x, C, dx, _, _, rfl, hx, T.c, T.places, f3, _, rfl, z, C, dz, _, _, rfl, hz, T.c, T.places, g3, rfl, _, rfl, ?_⟩
    rw [num]
    obtain ⟨k1, k0⟩ := and_step (T := fun b => Q (.bl b) H) k
    rcases bool_ft (PyData.eqv (.int m.places) (.int n.places)) with b | b
    · exact iteNo b (k0 b)
    refine iteYes b ?_
    replace k := k1 b
    refine ⟨_, rfl, x, C, dx, _, _, rfl, hx, T.c, T.ends, f4, _, rfl, z, C, dz, _, _, rfl, hz, T.c, T.ends, g4, _, _, dp_shaped (fit m4) q4, dp_shaped (fit' n4) p4, fit m4, fit' n4, _, rfl, ?_⟩
    obtain ⟨k1, k0⟩ := and_step (T := fun b => Q (.bl b) H) k
    rcases bool_ft (PyData.eqv (.tuple (m.ends.map .int)) (.tuple (n.ends.map .int))) with b | b
    · exact iteNo b (k0 b)
    refine iteYes b ?_
    replace k := k1 b
    refine ⟨_, rfl, x, C, dx, _, _, rfl, hx, T.c, T.logs, f5, _, rfl, z, C, dz, _, _, rfl, hz, T.c, T.logs, g5, rfl, _, rfl, ?_⟩
    rw [num]
    obtain ⟨k1, k0⟩ := and_step (T := fun b => Q (.bl b) H) k
    rcases bool_ft (PyData.eqv (.int m.logs) (.int n.logs)) with b | b
    · exact iteNo b (k0 b)
    refine iteYes b ?_
    replace k := k1 b
    refine ⟨_, rfl, x, C, dx, _, _, rfl, hx, T.c, T.arrows, f6, _, rfl, z, C, dz, _, _, rfl, hz, T.c, T.arrows, g6, _, _, dp_shaped (fit m6) q6, dp_shaped (fit' n6) p6, fit m6, fit' n6, _, rfl, ?_⟩
    obtain ⟨k1, k0⟩ := and_step (T := fun b => Q (.bl b) H) k
    rcases bool_ft (PyData.eqv (.tuple (m.arrows.map rowE)) (.tuple (n.arrows.map rowE))) with b | b
    · exact iteNo b (k0 b)
    refine iteYes b ?_
    replace k := k1 b
    refine ⟨_, rfl, x, C, dx, _, _, rfl, hx, T.c, T.tests, f7, _, rfl, z, C, dz, _, _, rfl, hz, T.c, T.tests, g7, _, _, dp_shaped (fit m7) q7, dp_shaped (fit' n7) p7, fit m7, fit' n7, _, rfl, ?_⟩
    obtain ⟨k1, k0⟩ := and_step (T := fun b => Q (.bl b) H) k
    rcases bool_ft (PyData.eqv (.tuple (m.tests.map rowE)) (.tuple (n.tests.map rowE))) with b | b
    · exact iteNo b (k0 b)
    refine iteYes b ?_
    replace k := k1 b
    exact ⟨_, rfl, x, C, dx, _, _, rfl, hx, T.c, T.looks, f8, _, rfl, z, C, dz, _, _, rfl, hz, T.c, T.looks, g8, _, _, dp_shaped (fit m8) q8, dp_shaped (fit' n8) p8, fit m8, fit' n8, k⟩
end
end KL
set_option Elab.async false
set_option linter.all false
set_option maxRecDepth 100000
set_option maxHeartbeats 16000000
namespace KL
open PySem L2 PySem.KX PySem.Spec PyProof.Rows
/-! ### the value of a form -/
abbrev sValueOf : Stmt := top 14
abbrev sArrowAt : Stmt := top 16
abbrev sFormsAt : Stmt := top 17
abbrev sValuesOf : Stmt := top 18
abbrev sFormAhead : Stmt := top 19
abbrev sArrowsAlong : Stmt := top 20
abbrev sEndFrom : Stmt := top 21
abbrev sNumbersFrom : Stmt := top 22
abbrev sLookedAt : Stmt := top 24
abbrev sLedBack : Stmt := top 25
abbrev sCheckWay : Stmt := top 26
abbrev sEndOf : Stmt := top 27
abbrev sNumbersBehind : Stmt := top 28
theorem not_rest (x : V) (ys : List V) : ¬ (HT.sIx (x :: ys).length 0 (some 1) = 0 ∧ HT.sIx (x :: ys).length (x :: ys).length none = (x :: ys).length) := fun z => by
  have := z.1
  rw [show HT.sIx (x :: ys).length 0 (some 1) = min 1 (x :: ys).length from HT.sIx_nat _ 0 1, List.length_cons] at this
  omega
theorem cut_rest (x : V) (ys : List V) : cutV (x :: ys) (some 1) none = ys := by
  rw [cut_tail]
  rfl
theorem tup_at {H : Hp} {v : V} {ds : List PyData} (q : Dq H v (.tuple ds)) : ∃ a xs, v = .ref a ∧ H a = some (.tup xs) ∧ DqAll H xs ds := by
  cases q with
  | tup h1 h2 => exact ⟨_, _, rfl, h1, h2⟩
theorem ints_inv {H : Hp} : ∀ {ns : List Int} {vs : List V}, DqAll H vs (ns.map PyData.int) → vs = ns.map V.int
  | [], _, h => by
    cases h
    rfl
  | n :: ns, _, h => by
    cases h with
    | cons a b =>
      cases a
      rw [ints_inv b]
      rfl
def prods (as bs : List Int) : List Int := List.zipWith (· * ·) as bs
/-- a form's value for some numbers -/
def valF : List Int → List Int → Int
  | [], _ => 0
  | c :: as, ks => c + (prods as ks).sum
/-- numbers that nothing here comes near to -/
def smI (i : Int) : Prop := -1099511627776 < i ∧ i < 1099511627776
theorem prods_more {as bs : List Int} {i : Nat} {a b : Int} (ha : as[i]? = some a) (hb : bs[i]? = some b) : (prods as bs).take (i + 1) = (prods as bs).take i ++ [a * b] := by
  have : (prods as bs)[i]? = some (a * b) := by
    unfold prods
    rw [List.getElem?_zipWith, ha, hb]
  rw [List.take_add_one, this]
  rfl
theorem prods_len (as bs : List Int) : (prods as bs).length = min as.length bs.length := by
  unfold prods
  rw [List.length_zipWith]
def spValueOf : Sp := fun vs H Q _ => ∃ (v u : V) (ns ks : List Int), vs = [v, u] ∧ Dq H v (.tuple (ns.map .int)) ∧ Dq H u (.tuple (ks.map .int)) ∧ ns ≠ [] ∧ ns.length ≤ 100 ∧ (∀ n ∈ ns, smI n) ∧ ∀ H', Same H H' → Q (.int (valF ns ks)) H'
theorem int_get {ns : List Int} {i : Nat} {v : V} (h : (ns.map V.int)[i]? = some v) : ∃ n, ns[i]? = some n ∧ v = .int n := by
  rw [List.getElem?_map] at h
  cases e : ns[i]? with
  | none =>
    rw [e] at h
    cases h
  | some n =>
    rw [e] at h
    exact ⟨n, rfl, (Option.some.inj h).symm⟩
section
variable {P : Program} {w : World} {K : PySem.W.Frag} {mg : Str → Option Value} {base : Heap}
theorem scValueOf : FnScope ["form", "values", "factor", "value"] ["form", "values"] (defScope sValueOf) := ⟨rfl, rfl, rfl, by decide +kernel, rfl, by decide +kernel, by decide +kernel⟩
theorem ok_valueOf {f : Addr} {fd : FuncData} (F : Fun K "value_of" "value_of" sValueOf f fd) (mz : mg "zip" = none) (ms : mg "sum" = none) : FnOk P w K mg base CX0 1 f fd ["form", "values"] spValueOf := by
  refine F.ok scValueOf (fun vs H Q E h => ?_) (fun cdv A outer s H vs Q E hr h => ?_)
  · obtain ⟨v, u, ns, ks, rfl, _⟩ := h
    rfl
  · obtain ⟨v, u, ns, ks, rfl, hv, hu', ne, nl, sm, k⟩ := h
    have nd := scValueOf.nd
    refine ⟨_, pss_one (ps_ret (pe_op op_add (pe_ix (r := rIxT K) ix_tup (pv 0) pe_int (fun _ _ => rfl)) (pe_callB (cr_sum rfl) (by rfl) ms (by decide +kernel) (pa_cons (pe_lc (own := [("factor", 2), ("value", 3)]) (g := gTup K 2 (gCons (gName 2) (gCons (gName 3) gNil))) (tt := tYes) rfl nd (RZ.pi_zipA (by rfl) mz (pa_cons (pe_slice (r := rSlT K) sl_tup (pv 0) (po_some pe_int) po_none) (pa_cons (pv 1) pa_nil)))
      (blkOk_by (N := ["form", "values", "factor", "value"]) (sc := defScope sValueOf) (by decide +kernel)) (fun _ _ _ _ _ => pg_tup rfl (pgs_cons (pg_name (i := 2) nd rfl (.inl rfl)) (pgs_cons (pg_name (i := 3) nd rfl (.inl rfl)) pgs_nil))) (fun _ _ _ _ _ => pts_nil)
      (fun _ _ _ _ _ => pe_op op_mul (pv 2) (pv 3))) pa_nil)))), ?_⟩
    obtain ⟨a, xs, rfl, ea, qa⟩ := tup_at hv
    obtain ⟨b, ys, rfl, eb, qb⟩ := tup_at hu'
    have ex := ints_inv qa
    have ey := ints_inv qb
    subst ex ey
    cases ns with
    | nil => exact absurd rfl ne
    | cons c as =>
      refine ⟨_, rfl, a, _, 0, .int c, rfl, rfl, SqT.of ea, atI_nat (j := 0) rfl, ?_⟩
      refine ⟨_, rfl, _, rfl, a, _, rfl, SqT.of ea, not_rest _ _, fun d nd' => ?_⟩
      rw [show cutV (List.map V.int (c :: as)) (some 1) none = as.map V.int from cut_rest _ _]
      have S1 := same_new (o := .tup (as.map V.int)) nd'
      have hd : upd H d (.tup (as.map V.int)) d = some (.tup (as.map V.int)) := upd_same
      revert S1 hd
      generalize upd H d (.tup (as.map V.int)) = H1
      intro S1 hd
      refine ⟨_, rfl, d, b, as.map V.int, ks.map V.int, rfl, .inr ⟨SqT.of hd, SqT.of (S1 _ _ eb), fun D nD => ?_⟩⟩
      refine lc_it (walk_zipT (K := K) (a := d) (b := b) (n := min as.length ks.length) (by rw [List.length_map, List.length_map])) (fun i H2 => MadeTo H1 D (((prods as ks).take i).map V.int) H2) ⟨same_new nD, upd_same⟩ (fun i H2 _ M => ⟨SqT.of (M.1 _ _ hd), SqT.of (M.1 _ _ (S1 _ _ eb))⟩) ?_ ?_
      · rintro i _ H2 _ hi M ⟨T, y, z, rfl, nT, rfl, ey, ez⟩
        obtain ⟨n1, e1, rfl⟩ := int_get ey
        obtain ⟨n2, e2, rfl⟩ := int_get ez
        have S2 := same_new (o := .tup [.int n1, .int n2]) nT
        have s1 := sm n1 (List.mem_cons_of_mem _ (List.mem_of_getElem? e1))
        refine ⟨T, [.int n1, .int n2], rfl, SqT.of upd_same, rfl, .int n1, [.int n2], rfl, .int n2, [], rfl, rfl, rfl, ?_⟩
        refine ⟨_, rfl, _, rfl, _, _, rfl, rfl, .inl ⟨by have := s1.1; omega, by have := s1.2; omega⟩, ?_⟩
        have m := M.more (.int (n1 * n2)) nD S2
        refine ⟨_, m.1, ?_, ?_⟩
        · rw [List.length_map, List.length_take, prods_len, sizeLine_eq]
          rw [List.length_cons] at nl
          omega
        · rw [prods_more e1 e2, List.map_append]
          exact m.2
      · intro H2 M
        rw [List.take_of_length_le (by rw [prods_len]; exact Nat.le_refl _)] at M
        exact ⟨D, prods as ks, rfl, SqL.of M.2, _, _, rfl, rfl, k _ (S1.trans M.1)⟩
end
end KL
set_option Elab.async false
set_option linter.all false
set_option maxRecDepth 100000
set_option maxHeartbeats 16000000
namespace KL
open PySem L2 PySem.KX PySem.Spec PyProof.Rows
/-! ### the arrow at a place by a deed -/
def atB (p : Int) (d : Str) (r : Row) : Bool := decide (r.1 = p) && decide (r.2.1 = d)
def HM.arrowAt (m : HM) (p : Int) (d : Str) : Option Row := m.arrows.find? (atB p d)
def spArrowAt (C : Addr) : Sp := fun vs H Q _ => ∃ (B : Hp) (x : Addr) (p : Int) (d : Str) (m : HM), vs = [.ref x, .int p, .str d] ∧ Same B H ∧ HsAt C B x m ∧ (m.arrowAt p d = none → Q .non H) ∧ ∀ r v, m.arrowAt p d = some r → Dq B v (rowE r) → Q v H
theorem row_at {H : Hp} {v : V} {r : Row} (h : Dq H v (rowE r)) : ∃ a vs, v = .ref a ∧ H a = some (.tup (.int r.1 :: .str r.2.1 :: vs)) ∧ DqAll H vs r.2.2 := by
  obtain ⟨a, xs, rfl, ea, qa⟩ := tup_at h
  cases qa with | cons r0 qa =>
  cases qa with | cons r1 qa =>
  cases r0
  cases r1
  exact ⟨a, _, rfl, ea, qa⟩
theorem find_more {α : Type} {f : α → Bool} {l : List α} {i : Nat} {a : α} (h : (l.take i).find? f = none) (e : l[i]? = some a) : (l.take (i + 1)).find? f = if f a = true then some a else none := by
  rw [List.take_add_one, e, List.find?_append, h]
  show (none.or ([a].find? f)) = _
  rw [Option.none_or, List.find?_cons]
  cases f a <;> rfl
theorem find_all {α : Type} {f : α → Bool} {l : List α} {i : Nat} {a : α} (h : (l.take (i + 1)).find? f = some a) : l.find? f = some a := by
  rw [← List.take_append_drop (i + 1) l, List.find?_append, h]
  rfl
section
variable {P : Program} {w : World} {K : PySem.W.Frag} {mg : Str → Option Value} {base : Heap} {C : Addr}
theorem scArrowAt : FnScope ["house", "place", "deed", "arrow"] ["house", "place", "deed"] (defScope sArrowAt) := ⟨rfl, rfl, rfl, by decide +kernel, rfl, by decide +kernel, by decide +kernel⟩
theorem ok_arrowAt {f : Addr} {fd : FuncData} (F : Fun K "arrow_at" "arrow_at" sArrowAt f fd) (T : TxtH K C) : FnOk P w K mg base CX0 1 f fd ["house", "place", "deed"] (spArrowAt C) := by
  refine F.ok scArrowAt (fun vs H Q E h => ?_) (fun cdv A outer s H vs Q E hr h => ?_)
  · obtain ⟨B, x, p, d, m, rfl, _⟩ := h
    rfl
  · obtain ⟨B, x, p, d, m, rfl, SB, hx, kn, ks⟩ := h
    have nd := scArrowAt.nd
    refine ⟨_, pss_cons (ps_for PassesOwn.never rfl (pi_tup (pe_fld (pv 0) (by rfl))) (pg_name (i := 3) nd rfl (.inl rfl))
        (pss_one (ps_if (PW.pt (pw_and (pt_cmpR op_eq (pe_ix (r := rIxT K) ix_tup (pv 3) pe_int (fun _ _ => rfl)) (pv 1) (nomark _)) (pw_and1 (pt_cmpR op_eq (pe_ix (r := rIxT K) ix_tup (pv 3) pe_int (fun _ _ => rfl)) (pv 2) (nomark _))))) (pss_one (ps_ret (pv 3))) pss_nil)))
      (pss_one (ps_ret pe_non)), ?_⟩
    obtain ⟨dx, fs, v1, v2, v4, v6, v7, v8, ex, hf, q1, q2, q4, q6, q7, q8⟩ := hx
    obtain ⟨f0, f1, f2, f3, f4, f5, f6, f7, f8, fnm⟩ := hf
    obtain ⟨a6, xs6, rfl, e6, qa6⟩ := tup_at q6
    have l6 : xs6.length = m.arrows.length := by rw [dq_len qa6, List.length_map]
    refine ⟨_, rfl, x, C, dx, _, _, rfl, SB _ _ ex, T.c, T.arrows, f6, a6, rfl, ⟨_, SqT.of (SB _ _ e6)⟩, ?_⟩
    refine for_tup (K := K) (a := a6) (xs := xs6) (fun i σ H' => H' = H ∧ (m.arrows.take i).find? (atB p d) = none ∧ ∃ o, σ = [some (.ref x), some (.int p), some (.str d), o]) ⟨rfl, rfl, none, rfl⟩ (fun i σ H' _ ⟨e, _⟩ => by subst e; exact SqT.of (SB _ _ e6)) ?_ ?_
    · rintro i y σ H' hy ⟨rfl, no, o, rfl⟩
      obtain ⟨d', hd', hq⟩ := DqAll.at qa6 hy
      rw [List.getElem?_map] at hd'
      cases er : m.arrows[i]? with
      | none =>
        rw [er] at hd'
        cases hd'
      | some r =>
        rw [er] at hd'
        cases hd'
        have fm := find_more no er
        obtain ⟨a, us, rfl, ea, _⟩ := row_at hq
        refine ⟨_, rfl, a, _, 0, .int r.1, rfl, rfl, SqT.of (SB _ _ ea), atI_nat (j := 0) rfl, _, rfl, rfl, _, rfl, ?_⟩
        by_cases h1 : r.1 = p
        · refine iteYes (decide_eq_true (by rw [h1])) ?_
          refine ⟨_, rfl, a, _, 1, .str r.2.1, rfl, rfl, SqT.of (SB _ _ ea), atI_nat (j := 1) rfl, _, rfl, rfl, _, rfl, ?_⟩
          by_cases h2 : r.2.1 = d
          · refine iteYes (decide_eq_true (by rw [h2])) ?_
            have b : atB p d r = true := by
              unfold atB
              rw [decide_eq_true h1, decide_eq_true h2]
              rfl
            rw [if_pos b] at fm
            exact ⟨_, rfl, ks r _ (find_all fm) hq⟩
          · refine iteNo (decide_eq_false fun z => h2 (by injection z)) ?_
            have b : atB p d r = false := by
              unfold atB
              rw [decide_eq_false h2, Bool.and_false]
            rw [if_neg (by rw [b]; decide)] at fm
            exact ⟨rfl, fm, _, rfl⟩
        · refine iteNo (decide_eq_false fun z => h1 (by injection z)) (iteNo rfl ?_)
          have b : atB p d r = false := by
            unfold atB
            rw [decide_eq_false h1]
            rfl
          rw [if_neg (by rw [b]; decide)] at fm
          exact ⟨rfl, fm, _, rfl⟩
    · rintro σ H' ⟨rfl, no, o, rfl⟩
      rw [l6, List.take_length] at no
      exact kn no
end
end KL
set_option Elab.async false
set_option linter.all false
set_option maxRecDepth 100000
set_option maxHeartbeats 16000000
namespace KL
open PySem L2 PySem.KX PySem.Spec PyProof.Rows
/-! ### the forms that are looked at -/
def rowForms (p : Nat) (row : PyData) : List PyData := itemsD ((itemsD row).getD p .none)
def HM.lookForms (m : HM) (p : Nat) : List PyData := (itemsD m.looks).flatMap (rowForms p)
def atP (p : Int) (r : Row) : Bool := decide (r.1 = p)
def tstForm (r : Row) : PyData := r.2.2.getD 0 .none
def HM.testForms (m : HM) (p : Int) : List PyData := (m.tests.filter (atP p)).map tstForm
def HM.formsAt (m : HM) (p : Nat) : List PyData := m.lookForms p ++ m.testForms p
/-- what looks are: rows by people, cells by places, forms -/
theorem RightH.rows {m : HM} (hR : RightH m) : ∃ rows, m.looks = .tuple rows ∧ (rows.length : Int) = m.people ∧ ∀ row ∈ rows, ∃ cells, row = .tuple cells ∧ (cells.length : Int) = m.places ∧ ∀ c ∈ cells, ∃ fs, c = .tuple fs ∧ ∀ f ∈ fs, formD m.start.length f = true := by
  have lk := hR.lk
  revert lk
  generalize m.looks = d
  intro lk
  have lk := Bool.and_eq_true_iff.mp (show (tupD m.people m.people d && (allD (tupD m.places m.places) d && allD (allD (formsD m.kit)) d)) = true from lk)
  obtain ⟨rows, rfl, l1, l2⟩ := tup_of lk.1
  have lk2 := Bool.and_eq_true_iff.mp lk.2
  have a1 := List.all_eq_true.mp (show rows.all (tupD m.places m.places) = true from lk2.1)
  have a2 := List.all_eq_true.mp (show rows.all (allD (formsD m.kit)) = true from lk2.2)
  refine ⟨rows, rfl, by omega, fun row hr => ?_⟩
  obtain ⟨cells, rfl, c1, c2⟩ := tup_of (a1 row hr)
  have a3 := List.all_eq_true.mp (show cells.all (formsD m.kit) = true from a2 _ hr)
  refine ⟨cells, rfl, by omega, fun c hc => ?_⟩
  have f1 := Bool.and_eq_true_iff.mp (show (isTupD c && allD (formD m.kit.n) c) = true from a3 c hc)
  obtain ⟨fs, rfl⟩ := isT_of f1.1
  exact ⟨fs, rfl, fun f hf => List.all_eq_true.mp (show fs.all (formD m.kit.n) = true from f1.2) f hf⟩
theorem wd_item {ds : List PyData} {d : PyData} (h : wd (.tuple ds) ≤ 131) (m : d ∈ ds) : wd d ≤ 131 := by
  have h : max ds.length (wdAll ds) ≤ 131 := h
  have := wdAll_mem m
  omega
theorem wd_few {ds : List PyData} (h : wd (.tuple ds) ≤ 131) : ds.length ≤ 131 := by
  have h : max ds.length (wdAll ds) ≤ 131 := h
  omega
theorem flat_len {f : PyData → List PyData} {n : Nat} : ∀ l : List PyData, (∀ r ∈ l, (f r).length ≤ n) → (l.flatMap f).length ≤ n * l.length
  | [], _ => Nat.le_refl _
  | r :: l, h => by
    have h1 := h r List.mem_cons_self
    have h2 := flat_len l fun x hx => h x (List.mem_cons_of_mem _ hx)
    rw [List.flatMap_cons, List.length_append, List.length_cons, Nat.mul_succ]
    omega
/-- data so far in a list that is being made -/
def DsTo (H0 : Hp) (D : Addr) (ds : List PyData) (H : Hp) : Prop := ∃ vs, MadeTo H0 D vs H ∧ DqAll H0 vs ds
theorem DsTo.start {H : Hp} {D : Addr} (nD : H D = none) : DsTo H D [] (upd H D (.lst [])) := ⟨[], ⟨same_new nD, upd_same⟩, .nil⟩
theorem DsTo.more {H0 H : Hp} {D : Addr} {ds : List PyData} {v : V} {d : PyData} (M : DsTo H0 D ds H) (n : H0 D = none) (hd : Dq H0 v d) (few : ds.length < 1000) : ∃ acc, H D = some (.lst acc) ∧ acc.length < sizeLine ∧ DsTo H0 D (ds ++ [d]) (upd H D (.lst (acc ++ [v]))) := by
  obtain ⟨vs, M, q⟩ := M
  obtain ⟨h1, M2⟩ := M.more v n (Same.refl _)
  exact ⟨vs, h1, by rw [dq_len q, sizeLine_eq]; omega, vs ++ [v], M2, q.snoc hd⟩
theorem DsTo.s {H0 H : Hp} {D : Addr} {ds : List PyData} (M : DsTo H0 D ds H) : Same H0 H := by
  obtain ⟨vs, M, _⟩ := M
  exact M.1
def spFormsAt (C : Addr) : Sp := fun vs H Q _ => ∃ (x : Addr) (p : Nat) (m : HM), vs = [.ref x, .int (p : Int)] ∧ HsAt C H x m ∧ RightH m ∧ FitH m ∧ (p : Int) < m.places ∧ ∀ H' v, Same H H' → Dq H' v (.tuple (m.formsAt p)) → Q v H'
section
variable {P : Program} {w : World} {K : PySem.W.Frag} {mg : Str → Option Value} {base : Heap} {C : Addr}
abbrev nFormsAt : List Str := ["house", "place", "looks", "tests", "row", "form", "test"]
theorem scFormsAt : FnScope nFormsAt ["house", "place"] (defScope sFormsAt) := ⟨rfl, rfl, rfl, by decide +kernel, rfl, by decide +kernel, by decide +kernel⟩
theorem ok_formsAt {f : Addr} {fd : FuncData} (F : Fun K "forms_at" "forms_at" sFormsAt f fd) (T : TxtH K C) (mt : mg "tuple" = none) : FnOk P w K mg base CX0 1 f fd ["house", "place"] (spFormsAt C) := by
  refine F.ok scFormsAt (fun vs H Q E h => ?_) (fun cdv A outer s H vs Q E hr h => ?_)
  · obtain ⟨x, p, m, rfl, _⟩ := h
    rfl
  · obtain ⟨x, p, m, rfl, hx, hR, hF, hp, k⟩ := h
    have nd := scFormsAt.nd
    refine ⟨_, C8.pss_cut (ps_setLc2 (i := 2) (own := [("row", 4), ("form", 5)]) (vs1 := [5]) (g := gName 4) (tt := tYes) (g1 := gName 5) (tt1 := tYes) rfl nd rfl rfl (by rfl) (pi_tup (pe_fld (pv 0) (by rfl))) (blkOk_by (N := nFormsAt) (sc := defScope sFormsAt) (by decide +kernel)) (by decide) (fun _ _ _ _ _ => pg_name (i := 4) nd rfl (.inl rfl)) (fun _ _ _ _ _ => pts_nil)
        (fun _ _ _ _ _ => pi_tupB K rfl (pe_ix (r := rIxT K) ix_tup (pv 4) (pv 1) (fun _ _ => rfl))) (fun _ _ _ _ _ => pg_name (i := 5) nd rfl (.inl rfl)) (fun _ _ _ _ _ => pts_nil) (fun _ _ _ _ _ => pv 5))
      (C8.pss_cut (ps_setLc (i := 3) (own := [("test", 6)]) (g := gName 6) rfl nd rfl rfl (by rfl) (pi_tup (pe_fld (pv 0) (by rfl))) (blkOk_by (N := nFormsAt) (sc := defScope sFormsAt) (by decide +kernel)) (fun _ _ _ _ _ => pg_name (i := 6) nd rfl (.inl rfl))
        (fun _ _ _ _ _ => pts_one (pt_cmpR op_eq (pe_ix (r := rIxT K) ix_tup (pv 6) pe_int (fun _ _ => rfl)) (pv 1) (nomark _))) (fun _ _ _ _ _ => pe_ix (r := rIxT K) ix_tup (pv 6) pe_int (fun _ _ => rfl)))
      (pss_one (ps_ret (pe_tupleOf (by rfl) mt (pe_op op_cat (pv 2) (pv 3)))))), ?_⟩
    obtain ⟨rows, el, lr, hrow⟩ := hR.rows
    have p3 := hR.p3
    obtain ⟨dx, fs, v1, v2, v4, v6, v7, v8, ex, hf, q1, q2, q4, q6, q7, q8⟩ := hx
    obtain ⟨f0, f1, f2, f3, f4, f5, f6, f7, f8, fnm⟩ := hf
    have hw : wd (.tuple rows) ≤ 131 := by
      rw [← el]
      exact (hF _ (by simp [HM.parts])).1.wd
    have q8 : Dq H v8 (.tuple rows) := by
      rw [← el]
      exact q8
    obtain ⟨a8, xs8, rfl, e8, qa8⟩ := tup_at q8
    obtain ⟨a7, xs7, rfl, e7, qa7⟩ := tup_at q7
    have l8 : xs8.length = rows.length := dq_len qa8
    have l7 : xs7.length = m.tests.length := by rw [dq_len qa7, List.length_map]
    have t131 := wd_few (show wd (.tuple (m.tests.map rowE)) ≤ 131 from (hF _ (by simp [HM.parts])).1.wd)
    rw [List.length_map] at t131
    have rf : ∀ row ∈ rows, (rowForms p row).length ≤ 131 := fun row hr => by
      obtain ⟨cells, rfl, lc, hc⟩ := hrow row hr
      unfold rowForms
      show (itemsD (cells.getD p .none)).length ≤ 131
      have hpc : p < cells.length := by omega
      rw [List.getD_eq_getElem?_getD, List.getElem?_eq_getElem hpc]
      obtain ⟨fs, e, _⟩ := hc _ (List.getElem_mem hpc)
      show (itemsD cells[p]).length ≤ 131
      have := wd_item (wd_item hw hr) (List.getElem_mem hpc)
      rw [e] at this ⊢
      exact wd_few this
    have el8 : m.lookForms p = rows.flatMap (rowForms p) := by
      unfold HM.lookForms
      rw [el]
      rfl
    refine ⟨fun σ H' => ∃ q vs, σ = [some (.ref x), some (.int (p : Int)), some (.ref q), none, none, none, none] ∧ Same H H' ∧ H' q = some (.lst vs) ∧ DqAll H' vs (m.lookForms p), ?_, ?_⟩
    · refine ⟨_, rfl, x, C, dx, _, _, rfl, ex, T.c, T.looks, f8, a8, rfl, ⟨_, SqT.of e8⟩, fun D nD => ?_⟩
      refine tup_turns (K := K) (a := a8) (xs := xs8) (fun i H2 => DsTo H D ((rows.take i).flatMap (rowForms p)) H2) (.start nD) (fun i H2 _ M => SqT.of (M.s _ _ e8)) ?_ ?_
      · rintro i y H2 hy M
        obtain ⟨d', hd', hq⟩ := DqAll.at qa8 hy
        have hi := (List.getElem?_eq_some_iff.mp hd').1
        have few := flat_len (rows.take i) fun r hr => rf r (List.mem_of_mem_take hr)
        rw [List.length_take] at few
        have etk : (rows.take (i + 1)).flatMap (rowForms p) = (rows.take i).flatMap (rowForms p) ++ rowForms p d' := by
          rw [List.take_add_one, hd', List.flatMap_append]
          show _ ++ (rowForms p d' ++ []) = _
          rw [List.append_nil]
        have rl := rf d' (List.mem_of_getElem? hd')
        rw [etk]
        obtain ⟨cells, rfl, lc, hc⟩ := hrow d' (List.mem_of_getElem? hd')
        obtain ⟨b, ys, rfl, eb, qb⟩ := tup_at hq
        have hpy : p < ys.length := by
          rw [dq_len qb]
          omega
        have hu : ys[p]? = some ys[p] := List.getElem?_eq_getElem hpy
        obtain ⟨d2, hd2, hq2⟩ := DqAll.at qb hu
        obtain ⟨fs, rfl, _⟩ := hc d2 (List.mem_of_getElem? hd2)
        have erf : rowForms p (.tuple cells) = fs := by
          unfold rowForms
          show itemsD (cells.getD p .none) = fs
          rw [List.getD_eq_getElem?_getD, hd2]
          rfl
        rw [erf] at rl ⊢
        obtain ⟨c, zs, ec', ec, qc⟩ := tup_at hq2
        have lz : zs.length = fs.length := dq_len qc
        revert few M
        generalize (rows.take i).flatMap (rowForms p) = L0
        intro M few
        have hS := M.s
        refine ⟨rfl, _, rfl, _, rfl, b, ys, (p : Int), ys[p], rfl, rfl, SqT.of (hS _ _ eb), atI_nat hu, c, ec', ⟨_, SqT.of (hS _ _ ec)⟩, ?_⟩
        refine tup_turns (K := K) (a := c) (xs := zs) (fun j H3 => DsTo H D (L0 ++ fs.take j) H3) (by rw [List.take_zero, List.append_nil]; exact M) (fun j H3 _ M3 => SqT.of (M3.s _ _ ec)) ?_ ?_
        · rintro j z H3 hz M3
          obtain ⟨d3, hd3, hq3⟩ := DqAll.at qc hz
          obtain ⟨acc, h1, h2, h3⟩ := M3.more nD hq3 (by rw [List.length_append, List.length_take]; omega)
          refine ⟨rfl, _, rfl, acc, h1, h2, ?_⟩
          rw [List.take_add_one, hd3, ← List.append_assoc]
          exact h3
        · rintro H3 M3
          rw [lz, List.take_length] at M3
          exact M3
      · rintro H2 M
        rw [l8, List.take_length, ← el8] at M
        obtain ⟨vs, M, q⟩ := M
        exact ⟨D, vs, rfl, M.1, M.2, DqAll.same M.1 _ _ q⟩
    rintro σ1 H1 ⟨q, vs, rfl, S1, hq, dq⟩
    refine ⟨fun σ H' => ∃ r us, σ = [some (.ref x), some (.int (p : Int)), some (.ref q), some (.ref r), none, none, none] ∧ Same H1 H' ∧ H' r = some (.lst us) ∧ DqAll H' us (m.testForms p), ?_, ?_⟩
    · refine ⟨_, rfl, x, C, dx, _, _, rfl, S1 _ _ ex, T.c, T.tests, f7, a7, rfl, ⟨_, SqT.of (S1 _ _ e7)⟩, fun D nD => ?_⟩
      refine lc_tup (K := K) (a := a7) (xs := xs7) (fun i H2 => DsTo H1 D (((m.tests.take i).filter (atP p)).map tstForm) H2) (.start nD) (fun i H2 _ M => SqT.of (M.s _ _ (S1 _ _ e7))) ?_ ?_
      · rintro i y H2 hy M
        obtain ⟨d', hd', hq'⟩ := DqAll.at qa7 hy
        rw [List.getElem?_map] at hd'
        cases er : m.tests[i]? with
        | none =>
          rw [er] at hd'
          cases hd'
        | some r =>
          rw [er] at hd'
          cases hd'
          have hi := (List.getElem?_eq_some_iff.mp er).1
          have etk : m.tests.take (i + 1) = m.tests.take i ++ [r] := by
            rw [List.take_add_one, er]
            rfl
          obtain ⟨f, lo, hi', e, _, _⟩ := (hR.ta r (List.mem_of_getElem? er)).e
          obtain ⟨a, us, rfl, ea, qa⟩ := row_at (Dq.same S1 _ _ hq')
          rw [e] at qa
          cases qa with | @cons u2 _ _ _ g2 qa =>
          have hS := M.s
          refine ⟨rfl, _, rfl, a, _, 0, .int r.1, rfl, rfl, SqT.of (hS _ _ ea), atI_nat (j := 0) rfl, _, rfl, rfl, _, rfl, ?_⟩
          by_cases h1 : r.1 = p
          · refine iteYes (decide_eq_true (by rw [h1])) ?_
            refine ⟨_, rfl, a, _, 2, u2, rfl, rfl, SqT.of (hS _ _ ea), atI_nat (j := 2) rfl, ?_⟩
            have b : atP p r = true := decide_eq_true h1
            have et : ((m.tests.take (i + 1)).filter (atP p)).map tstForm = ((m.tests.take i).filter (atP p)).map tstForm ++ [f] := by
              rw [etk, List.filter_append, List.filter_cons_of_pos b, List.map_append]
              show _ ++ [r.2.2.getD 0 .none] = _
              rw [e]
              rfl
            rw [et]
            refine M.more nD g2 ?_
            rw [List.length_map]
            refine Nat.lt_of_le_of_lt (List.length_filter_le _ _) ?_
            rw [List.length_take]
            omega
          · refine iteNo (decide_eq_false fun z => h1 (by injection z)) ?_
            have b : ¬ atP p r = true := by
              unfold atP
              rw [decide_eq_false h1]
              decide
            rw [etk, List.filter_append, List.filter_cons_of_neg b, List.filter_nil, List.append_nil]
            exact M
      · rintro H2 M
        rw [l7, List.take_length] at M
        obtain ⟨us, M, q'⟩ := M
        exact ⟨D, us, rfl, M.1, M.2, DqAll.same M.1 _ _ q'⟩
    rintro σ2 H2 ⟨r, us, rfl, S2, hr', dr⟩
    have hq2 := S2 _ _ hq
    have dq2 := DqAll.same S2 _ _ dq
    have n1 : vs.length ≤ 393 := by
      rw [dq_len dq, el8]
      have := flat_len rows rf
      omega
    have n2 : us.length ≤ 131 := by
      rw [dq_len dr]
      unfold HM.testForms
      rw [List.length_map]
      exact Nat.le_trans (List.length_filter_le _ _) t131
    refine ⟨_, rfl, _, rfl, q, r, _, _, rfl, rfl, hq2, hr', by rw [sizeLine_eq]; omega, fun b nb => ?_⟩
    refine .inl ⟨b, _, rfl, SqL.of upd_same, fun e ne => ?_⟩
    have S3 := (same_new (o := .lst (vs ++ us)) nb).trans (same_new (o := .tup (vs ++ us)) ne)
    exact k _ _ ((S1.trans S2).trans S3) (.tup upd_same (DqAll.same S3 _ _ (dq2.app dr)))
end
end KL
set_option Elab.async false
set_option linter.all false
set_option maxRecDepth 100000
set_option maxHeartbeats 16000000
namespace KL
open PySem L2 PySem.KX PySem.Spec PyProof.Rows
/-! ### the values of forms -/
def intOf : PyData → Int
  | .int i => i
  | _ => 0
def intsOf (d : PyData) : List Int := (itemsD d).map intOf
theorem intsOf_tup (ns : List Int) : intsOf (.tuple (ns.map .int)) = ns := by
  show (ns.map PyData.int).map intOf = ns
  rw [List.map_map]
  have : (intOf ∘ PyData.int) = id := rfl
  rw [this, List.map_id]
def valD (ks : List Int) (f : PyData) : Int := valF (intsOf f) ks
/-- a form of n registers, with numbers that are small -/
def FormSm (n : Nat) (f : PyData) : Prop := ∃ ns : List Int, f = .tuple (ns.map .int) ∧ ns.length = n + 1 ∧ ∀ i ∈ ns, smI i
def spValuesOf : Sp := fun vs H Q _ => ∃ (v u : V) (fs : List PyData) (ks : List Int), vs = [v, u] ∧ Dq H v (.tuple fs) ∧ Dq H u (.tuple (ks.map .int)) ∧ (∀ f ∈ fs, FormSm ks.length f) ∧ 1 ≤ ks.length ∧ ks.length ≤ 3 ∧ fs.length ≤ 100 ∧
  ∀ H' v', Same H H' → Dq H' v' (.tuple ((fs.map (valD ks)).map .int)) → Q v' H'
theorem ints_dq {H : Hp} : ∀ ns : List Int, DqAll H (ns.map V.int) (ns.map PyData.int)
  | [] => .nil
  | n :: r => .cons (.int n) (ints_dq r)
section
variable {P : Program} {w : World} {K : PySem.W.Frag} {mg : Str → Option Value} {base : Heap} {g : Addr} {gd : FuncData}
abbrev nValuesOf : List Str := ["forms", "numbers", "x", "y", "z", "constant", "one", "two", "three", "form"]
theorem scValuesOf : FnScope nValuesOf ["forms", "numbers"] (defScope sValuesOf) := ⟨rfl, rfl, rfl, by decide +kernel, rfl, by decide +kernel, by decide +kernel⟩
def rLenS (K : PySem.W.Frag) : List V → Hp → VK → Prop := fun xs H Q => ∃ p ys, xs = [.ref p] ∧ (SqL K H p ys ∨ SqT K H p ys) ∧ Q (.int ys.length) H
theorem cr_lenS {X : Cx} : CallR X (.builtin "len") (rLenS X.K) := call_len_seq
theorem ok_valuesOf {f : Addr} {fd : FuncData} (F : Fun K "values_of" "values_of" sValuesOf f fd) (ml : mg "len" = none) (mt : mg "tuple" = none) (G : FnOk P w K mg base CX0 1 g gd ["form", "values"] spValueOf) (c : Cal K mg "value_of" g gd ["form", "values"]) : FnOk P w K mg base CX0 2 f fd ["forms", "numbers"] spValuesOf := by
  refine F.ok scValuesOf (fun vs H Q E h => ?_) (fun cdv A outer s H vs Q E hr h => ?_)
  · obtain ⟨v, u, fs, ks, rfl, _⟩ := h
    rfl
  · obtain ⟨v, u, fs, ks, rfl, hv, hu', hf, k1, k3, f100, k⟩ := h
    have nd := scValuesOf.nd
    refine ⟨_, pss_cons (ps_if (pt_cmpR op_eq (pe_callB cr_lenS (by rfl) ml PySem.boot_len (pa_cons (pv 1) pa_nil)) pe_int (nomark _))
        (pss_cons (ps_set (i := 2) nd rfl (.inr rfl) (pe_ix (r := rIxT K) ix_tup (pv 1) pe_int (fun _ _ => rfl)))
        (pss_one (ps_ret (pe_tupleOf (by rfl) mt (pe_lc (own := [("constant", 5), ("one", 6)]) (g := gTup K 2 (gCons (gName 5) (gCons (gName 6) gNil))) (tt := tYes) rfl nd (pi_tup (pv 0)) (blkOk_by (N := nValuesOf) (sc := defScope sValuesOf) (by decide +kernel)) (fun _ _ _ _ _ => pg_tup rfl (pgs_cons (pg_name (i := 5) nd rfl (.inl rfl)) (pgs_cons (pg_name (i := 6) nd rfl (.inl rfl)) pgs_nil))) (fun _ _ _ _ _ => pts_nil)
          (fun _ _ _ _ _ => pe_op op_add (pv 5) (pe_op op_mul (pv 6) (pv 2)))))))) pss_nil)
      (pss_cons (ps_if (pt_cmpR op_eq (pe_callB cr_lenS (by rfl) ml PySem.boot_len (pa_cons (pv 1) pa_nil)) pe_int (nomark _))
        (pss_cons (ps_asg (pv 1) (pg_tup rfl (pgs_cons (pg_name (i := 2) nd rfl (.inr rfl)) (pgs_cons (pg_name (i := 3) nd rfl (.inr rfl)) pgs_nil))))
        (pss_one (ps_ret (pe_tupleOf (by rfl) mt (pe_lc (own := [("constant", 5), ("one", 6), ("two", 7)]) (g := gTup K 3 (gCons (gName 5) (gCons (gName 6) (gCons (gName 7) gNil)))) (tt := tYes) rfl nd (pi_tup (pv 0)) (blkOk_by (N := nValuesOf) (sc := defScope sValuesOf) (by decide +kernel)) (fun _ _ _ _ _ => pg_tup rfl (pgs_cons (pg_name (i := 5) nd rfl (.inl rfl)) (pgs_cons (pg_name (i := 6) nd rfl (.inl rfl)) (pgs_cons (pg_name (i := 7) nd rfl (.inl rfl)) pgs_nil)))) (fun _ _ _ _ _ => pts_nil)
          (fun _ _ _ _ _ => pe_op op_add (pe_op op_add (pv 5) (pe_op op_mul (pv 6) (pv 2))) (pe_op op_mul (pv 7) (pv 3)))))))) pss_nil)
      (pss_cons (ps_if (pt_cmpR op_eq (pe_callB cr_lenS (by rfl) ml PySem.boot_len (pa_cons (pv 1) pa_nil)) pe_int (nomark _))
        (pss_cons (ps_asg (pv 1) (pg_tup rfl (pgs_cons (pg_name (i := 2) nd rfl (.inr rfl)) (pgs_cons (pg_name (i := 3) nd rfl (.inr rfl)) (pgs_cons (pg_name (i := 4) nd rfl (.inr rfl)) pgs_nil)))))
        (pss_one (ps_ret (pe_tupleOf (by rfl) mt (pe_lc (own := [("constant", 5), ("one", 6), ("two", 7), ("three", 8)]) (g := gTup K 4 (gCons (gName 5) (gCons (gName 6) (gCons (gName 7) (gCons (gName 8) gNil))))) (tt := tYes) rfl nd (pi_tup (pv 0)) (blkOk_by (N := nValuesOf) (sc := defScope sValuesOf) (by decide +kernel)) (fun _ _ _ _ _ => pg_tup rfl (pgs_cons (pg_name (i := 5) nd rfl (.inl rfl)) (pgs_cons (pg_name (i := 6) nd rfl (.inl rfl)) (pgs_cons (pg_name (i := 7) nd rfl (.inl rfl)) (pgs_cons (pg_name (i := 8) nd rfl (.inl rfl)) pgs_nil))))) (fun _ _ _ _ _ => pts_nil)
          (fun _ _ _ _ _ => pe_op op_add (pe_op op_add (pe_op op_add (pv 5) (pe_op op_mul (pv 6) (pv 2))) (pe_op op_mul (pv 7) (pv 3))) (pe_op op_mul (pv 8) (pv 4)))))))) pss_nil)
      (pss_one (ps_ret (pe_tupleOf (by rfl) mt (pe_lc (own := [("form", 9)]) (g := gName 9) (tt := tYes) rfl nd (pi_tup (pv 0)) (blkOk_by (N := nValuesOf) (sc := defScope sValuesOf) (by decide +kernel)) (fun _ _ _ _ _ => pg_name (i := 9) nd rfl (.inl rfl)) (fun _ _ _ _ _ => pts_nil)
          (fun _ _ _ _ _ => pe_call G hr (by rfl) c.m c.k c.b .nil pass0 (pa_cons (pv 9) (pa_cons (pv 1) pa_nil))))))))), ?_⟩
    obtain ⟨a, xs, rfl, ea, qa⟩ := tup_at hv
    obtain ⟨b, ys, rfl, eb, qb⟩ := tup_at hu'
    have ey := ints_inv qb
    subst ey
    have lx : xs.length = fs.length := dq_len qa
    -- the end of each
    have fin : ∀ {D : Addr} {H2 : Hp}, MadeTo H D (((fs.take fs.length).map (valD ks)).map V.int) H2 → ∃ ys, H2 D = some (.lst ys) ∧ ∀ e, H2 e = none → Q (.ref e) (upd H2 e (.tup ys)) := fun {D H2} M => by
      rw [List.take_length] at M
      exact ⟨_, M.2, fun e ne => k _ _ (M.1.trans (same_new ne)) (.tup upd_same (ints_dq _))⟩
    -- a turn
    have turn : ∀ {D : Addr} {i : Nat} {H2 : Hp} {f : PyData} {n : Int}, H D = none → MadeTo H D (((fs.take i).map (valD ks)).map V.int) H2 → fs[i]? = some f → valD ks f = n →
        ∃ acc, H2 D = some (.lst acc) ∧ acc.length < sizeLine ∧ MadeTo H D (((fs.take (i + 1)).map (valD ks)).map V.int) (upd H2 D (.lst (acc ++ [.int n]))) := fun {D i H2 f n} nD M ef en => by
      obtain ⟨h1, M2⟩ := M.more (V.int n) nD (Same.refl _)
      refine ⟨_, h1, by rw [List.length_map, List.length_map, List.length_take, sizeLine_eq]; omega, ?_⟩
      rw [List.take_add_one, ef, List.map_append, List.map_append]
      show MadeTo H D (_ ++ [V.int (valD ks f)]) _
      rw [en]
      exact M2
    refine ⟨_, rfl, b, _, rfl, .inr (SqT.of eb), rfl, _, rfl, ?_⟩
    rcases ks with _ | ⟨x, _ | ⟨y, _ | ⟨z, _ | ⟨z4, rest⟩⟩⟩⟩
    · exact absurd k1 (by decide)
    ·
      refine iteYes (decide_eq_true rfl) ?_
      refine ⟨_, rfl, b, _, 0, .int x, rfl, rfl, SqT.of eb, atI_nat (j := 0) rfl, ?_⟩
      refine ⟨_, rfl, a, rfl, ⟨_, SqT.of ea⟩, fun D nD => ?_⟩
      refine lc_tup (K := K) (a := a) (xs := xs) (fun i H2 => MadeTo H D (((fs.take i).map (valD [x])).map V.int) H2) ⟨same_new nD, upd_same⟩ (fun i H2 _ M => SqT.of (M.1 _ _ ea)) ?_ ?_
      · rintro i v H2 hy M
        obtain ⟨f, ef, hq⟩ := DqAll.at qa hy
        obtain ⟨ns, rfl, ln, sm⟩ := hf f (List.mem_of_getElem? ef)
        match ns, ln with
        | [c1, a1], _ =>
          obtain ⟨cc, zs, rfl, ec, qc⟩ := tup_at hq
          have ez := ints_inv qc
          subst ez
          have s1 := sm a1 (by simp)
          refine ⟨cc, _, rfl, SqT.of (M.1 _ _ ec), rfl, _, _, rfl, _, _, rfl, rfl, rfl, ?_⟩
          refine ⟨_, rfl, _, rfl, _, rfl, _, _, rfl, rfl, .inl ⟨by have := s1.1; omega, by have := s1.2; omega⟩, _, _, rfl, rfl, turn nD M ef ?_⟩
          show valF (intsOf (.tuple ([c1, a1].map .int))) [x] = _
          rw [intsOf_tup]
          show c1 + (a1 * x + 0) = c1 + a1 * x
          rw [Int.add_zero]
      · rintro H2 M
        rw [lx] at M
        obtain ⟨us, hD, fe⟩ := fin M
        exact .inl ⟨D, us, rfl, SqL.of hD, fe⟩
    ·
      refine iteNo (decide_eq_false (fun z => by injection z with z; simp at z)) ?_
      refine ⟨_, rfl, b, _, rfl, .inr (SqT.of eb), rfl, _, rfl, ?_⟩
      refine iteYes (decide_eq_true rfl) ?_
      refine ⟨_, rfl, b, _, rfl, SqT.of eb, rfl, _, _, rfl, _, _, rfl, rfl, ?_⟩
      refine ⟨_, rfl, a, rfl, ⟨_, SqT.of ea⟩, fun D nD => ?_⟩
      refine lc_tup (K := K) (a := a) (xs := xs) (fun i H2 => MadeTo H D (((fs.take i).map (valD [x, y])).map V.int) H2) ⟨same_new nD, upd_same⟩ (fun i H2 _ M => SqT.of (M.1 _ _ ea)) ?_ ?_
      · rintro i v H2 hy M
        obtain ⟨f, ef, hq⟩ := DqAll.at qa hy
        obtain ⟨ns, rfl, ln, sm⟩ := hf f (List.mem_of_getElem? ef)
        match ns, ln with
        | [c1, a1, a2], _ =>
          obtain ⟨cc, zs, rfl, ec, qc⟩ := tup_at hq
          have ez := ints_inv qc
          subst ez
          have s1 := sm a1 (by simp)
          have s2 := sm a2 (by simp)
          refine ⟨cc, _, rfl, SqT.of (M.1 _ _ ec), rfl, _, _, rfl, _, _, rfl, _, _, rfl, rfl, rfl, ?_⟩
          refine ⟨_, rfl, _, rfl, _, rfl, _, _, rfl, rfl, .inl ⟨by have := s1.1; omega, by have := s1.2; omega⟩, _, _, rfl, rfl, _, rfl, _, rfl, _, _, rfl, rfl, .inl ⟨by have := s2.1; omega, by have := s2.2; omega⟩, _, _, rfl, rfl, turn nD M ef ?_⟩
          show valF (intsOf (.tuple ([c1, a1, a2].map .int))) [x, y] = _
          rw [intsOf_tup]
          show c1 + (a1 * x + (a2 * y + 0)) = c1 + a1 * x + a2 * y
          rw [Int.add_zero, Int.add_assoc]
      · rintro H2 M
        rw [lx] at M
        obtain ⟨us, hD, fe⟩ := fin M
        exact .inl ⟨D, us, rfl, SqL.of hD, fe⟩
    ·
      refine iteNo (decide_eq_false (fun z => by injection z with z; simp at z)) ?_
      refine ⟨_, rfl, b, _, rfl, .inr (SqT.of eb), rfl, _, rfl, ?_⟩
      refine iteNo (decide_eq_false (fun z => by injection z with z; simp at z)) ?_
      refine ⟨_, rfl, b, _, rfl, .inr (SqT.of eb), rfl, _, rfl, ?_⟩
      refine iteYes (decide_eq_true rfl) ?_
      refine ⟨_, rfl, b, _, rfl, SqT.of eb, rfl, _, _, rfl, _, _, rfl, _, _, rfl, rfl, ?_⟩
      refine ⟨_, rfl, a, rfl, ⟨_, SqT.of ea⟩, fun D nD => ?_⟩
      refine lc_tup (K := K) (a := a) (xs := xs) (fun i H2 => MadeTo H D (((fs.take i).map (valD [x, y, z])).map V.int) H2) ⟨same_new nD, upd_same⟩ (fun i H2 _ M => SqT.of (M.1 _ _ ea)) ?_ ?_
      · rintro i v H2 hy M
        obtain ⟨f, ef, hq⟩ := DqAll.at qa hy
        obtain ⟨ns, rfl, ln, sm⟩ := hf f (List.mem_of_getElem? ef)
        match ns, ln with
        | [c1, a1, a2, a3], _ =>
          obtain ⟨cc, zs, rfl, ec, qc⟩ := tup_at hq
          have ez := ints_inv qc
          subst ez
          have s1 := sm a1 (by simp)
          have s2 := sm a2 (by simp)
          have s3 := sm a3 (by simp)
          refine ⟨cc, _, rfl, SqT.of (M.1 _ _ ec), rfl, _, _, rfl, _, _, rfl, _, _, rfl, _, _, rfl, rfl, rfl, ?_⟩
          refine ⟨_, rfl, _, rfl, _, rfl, _, _, rfl, rfl, .inl ⟨by have := s1.1; omega, by have := s1.2; omega⟩, _, _, rfl, rfl, _, rfl, _, rfl, _, _, rfl, rfl, .inl ⟨by have := s2.1; omega, by have := s2.2; omega⟩, _, _, rfl, rfl, _, rfl, _, rfl, _, _, rfl, rfl, .inl ⟨by have := s3.1; omega, by have := s3.2; omega⟩, _, _, rfl, rfl, turn nD M ef ?_⟩
          show valF (intsOf (.tuple ([c1, a1, a2, a3].map .int))) [x, y, z] = _
          rw [intsOf_tup]
          show c1 + (a1 * x + (a2 * y + (a3 * z + 0))) = c1 + a1 * x + a2 * y + a3 * z
          rw [Int.add_zero, Int.add_assoc, Int.add_assoc]
      · rintro H2 M
        rw [lx] at M
        obtain ⟨us, hD, fe⟩ := fin M
        exact .inl ⟨D, us, rfl, SqL.of hD, fe⟩
    · simp only [List.length_cons] at k3
      omega
end
end KL
set_option Elab.async false
set_option linter.all false
set_option maxRecDepth 100000
set_option maxHeartbeats 16000000
namespace KL
open PySem L2 PySem.KX PySem.Spec PyProof.Rows
/-! ### along arrows -/
/-- the arrows along a way, as far as there are some -/
def HM.along (m : HM) : Int → List Str → List Row
  | _, [] => []
  | p, d :: ds => match m.arrowAt p d with
    | none => []
    | some r => r :: m.along (intOf (r.2.2.getD 0 .none)) ds
def rowTo (r : Row) : Int := intOf (r.2.2.getD 0 .none)
/-- the place behind a way -/
def endP (p : Int) (rs : List Row) : Int := rs.foldl (fun _ r => rowTo r) p
theorem along_more (m : HM) : ∀ (ds : List Str) (p : Int) (d : Str), (m.along p ds).length = ds.length → m.along p (ds ++ [d]) = m.along p ds ++ (match m.arrowAt (endP p (m.along p ds)) d with | none => [] | some r => [r])
  | [], p, d, _ => by
    show (match m.arrowAt p d with | none => [] | some r => r :: m.along (intOf (r.2.2.getD 0 .none)) []) = [] ++ _
    rw [List.nil_append]
    show _ = (match m.arrowAt p d with | none => [] | some r => [r])
    cases m.arrowAt p d <;> rfl
  | e :: ds, p, d, h => by
    unfold HM.along at h ⊢
    rw [List.cons_append]
    cases ea : m.arrowAt p e with
    | none =>
      rw [ea] at h
      cases h
    | some r =>
      rw [ea] at h
      have h' : (m.along (intOf (r.2.2.getD 0 .none)) ds).length = ds.length := by
        have : (r :: m.along (intOf (r.2.2.getD 0 .none)) ds).length = (e :: ds).length := h
        simpa using this
      simp only [ea]
      rw [along_more m ds _ d h']
      rfl
theorem along_len (m : HM) : ∀ (ds : List Str) (p : Int), (m.along p ds).length ≤ ds.length
  | [], _ => Nat.le_refl _
  | d :: ds, p => by
    unfold HM.along
    cases m.arrowAt p d with
    | none => exact Nat.zero_le _
    | some r => exact Nat.succ_le_succ (along_len m ds _)
/-- what stands still stands -/
theorem along_stop (m : HM) : ∀ (ds es : List Str) (p : Int), (m.along p ds).length < ds.length → m.along p (ds ++ es) = m.along p ds
  | [], _, _, h => absurd h (by simp [HM.along])
  | d :: ds, es, p, h => by
    rw [List.cons_append]
    unfold HM.along at h ⊢
    cases e : m.arrowAt p d with
    | none => rfl
    | some r =>
      rw [e] at h
      have h' : (m.along (intOf (r.2.2.getD 0 .none)) ds).length < ds.length := by
        have : (r :: m.along (intOf (r.2.2.getD 0 .none)) ds).length < (d :: ds).length := h
        simpa using this
      show r :: _ = r :: _
      rw [along_stop m ds es _ h']
end KL
set_option Elab.async false
set_option linter.all false
set_option maxRecDepth 100000
set_option maxHeartbeats 16000000
namespace KL
open PySem L2 PySem.KX PySem.Spec PyProof.Rows
def wordOf (x : Str) : List Str := x.cps.toList.map fun c => (⟨#[c]⟩ : Str)
theorem wordOf_get {x : Str} {i c : Nat} (h : x.cps[i]? = some c) : (wordOf x)[i]? = some ⟨#[c]⟩ := by
  unfold wordOf
  rw [List.getElem?_map, Array.getElem?_toList, h]
  rfl
theorem wordOf_len (x : Str) : (wordOf x).length = x.cps.size := by simp [wordOf]
def spAlong (C : Addr) : Sp := fun vs H Q _ => ∃ (x : Addr) (p : Int) (y : Str) (m : HM), vs = [.ref x, .int p, .str y] ∧ HsAt C H x m ∧ RightH m ∧ y.cps.size ≤ 100 ∧ ∀ H' a us, Same H H' → H a = none → H' a = some (.lst us) → DqAll H' us ((m.along p (wordOf y)).map rowE) → Q (.ref a) H'
section
variable {P : Program} {w : World} {K : PySem.W.Frag} {mg : Str → Option Value} {base : Heap} {C : Addr} {g : Addr} {gd : FuncData}
abbrev nAlong : List Str := ["house", "place", "way", "taken", "deed", "arrow"]
theorem scAlong : FnScope nAlong ["house", "place", "way"] (defScope sArrowsAlong) := ⟨rfl, rfl, rfl, by decide +kernel, rfl, by decide +kernel, by decide +kernel⟩
theorem ok_along {f : Addr} {fd : FuncData} (F : Fun K "arrows_along" "arrows_along" sArrowsAlong f fd) (G : FnOk P w K mg base CX0 1 g gd ["house", "place", "deed"] (spArrowAt C)) (c : Cal K mg "arrow_at" g gd ["house", "place", "deed"]) : FnOk P w K mg base CX0 2 f fd ["house", "place", "way"] (spAlong C) := by
  refine F.ok scAlong (fun vs H Q E h => ?_) (fun cdv A outer s H vs Q E hr h => ?_)
  · obtain ⟨x, p, y, m, rfl, _⟩ := h
    rfl
  · obtain ⟨x, p, y, m, rfl, hx, hR, hy, k⟩ := h
    have nd := scAlong.nd
    refine ⟨_, pss_cons (ps_set (i := 3) nd rfl (.inl rfl) (pe_lst pa_nil))
      (C8.pss_cut (ps_for PassesOwn.never rfl (pi_str (pv 2)) (pg_name (i := 4) nd rfl (.inl rfl))
        (pss_cons (ps_set (i := 5) nd rfl (.inl rfl) (pe_call G hr (by rfl) c.m c.k c.b .nil pass0 (pa_cons (pv 0) (pa_cons (pv 1) (pa_cons (pv 4) pa_nil)))))
        (pss_cons (ps_if (pt_cmp (pc_isN (pv 5))) (pss_one ps_break) pss_nil)
        (pss_cons (ps_expr (pe_bm PySem.F.plainAttrs_list PySem.F.slot_list_append PySem.F.type_list_append mt_append (pv 3) (pa_cons (pv 5) pa_nil)))
        (pss_one (ps_set (i := 1) nd rfl (.inl rfl) (pe_ix (r := rIxT K) ix_tup (pv 5) pe_int (fun _ _ => rfl))))))))
      (pss_one (ps_ret (pv 3)))), ?_⟩
    refine ⟨(by show 0 ≤ sizeLine; decide), fun a na => ?_⟩
    refine ⟨fun σ H' => ∃ o1 o4 o5, σ = [some (.ref x), o1, some (.str y), some (.ref a), o4, o5] ∧ DsTo H a ((m.along p (wordOf y)).map rowE) H', ?_, ?_⟩
    · refine ⟨_, rfl, y, rfl, for_it walk_str (fun i σ H' => ∃ o4 o5, σ = [some (.ref x), some (.int (endP p (m.along p ((wordOf y).take i)))), some (.str y), some (.ref a), o4, o5] ∧ (m.along p ((wordOf y).take i)).length = ((wordOf y).take i).length ∧ DsTo H a ((m.along p ((wordOf y).take i)).map rowE) H') ⟨none, none, rfl, rfl, .start na⟩ (fun _ _ _ _ _ => trivial) ?_ ?_⟩
      · rintro i v σ H2 H2' hi ⟨o4, o5, rfl, hl, M⟩ ⟨rfl, ch, hc, rfl⟩
        have hw := wordOf_get hc
        have etk : (wordOf y).take (i + 1) = (wordOf y).take i ++ [⟨#[ch]⟩] := by
          rw [List.take_add_one, hw]
          rfl
        have more := along_more m ((wordOf y).take i) p ⟨#[ch]⟩ hl
        rw [← etk] at more
        refine ⟨_, rfl, _, rfl, _, rfl, H, x, _, ⟨#[ch]⟩, m, rfl, M.s, hx, fun no => ?_, fun r v ho hd => ?_⟩
        · rw [no] at more
          refine ⟨_, rfl, _, rfl, iteYes rfl ?_⟩
          have e : m.along p (wordOf y) = m.along p ((wordOf y).take (i + 1)) := by
            have := along_stop m ((wordOf y).take (i + 1)) ((wordOf y).drop (i + 1)) p (by
              rw [more, List.append_nil, hl, etk, List.length_append]
              exact Nat.lt_succ_self _)
            rwa [List.take_append_drop] at this
          rw [e, more, List.append_nil]
          exact ⟨_, _, _, rfl, M⟩
        · rw [ho] at more
          have more : m.along p ((wordOf y).take (i + 1)) = m.along p ((wordOf y).take i) ++ [r] := more
          have mem : r ∈ m.arrows := List.mem_of_find?_eq_some ho
          obtain ⟨tt, fs, ms, er, _⟩ := (hR.aa r mem).e
          have eto : rowTo r = tt := by
            unfold rowTo
            rw [er]
            rfl
          obtain ⟨b, us, rfl, eb, qb⟩ := row_at hd
          rw [er] at qb
          cases qb with | @cons u2 _ _ _ g2 qb =>
          cases g2
          have len : (m.along p ((wordOf y).take i)).length ≤ 100 := by
            have := along_len m ((wordOf y).take i) p
            rw [List.length_take, wordOf_len] at this
            omega
          have hS := M.s
          obtain ⟨acc, h1, h2, M3⟩ := M.more na hd (by rw [List.length_map]; omega)
          refine ⟨_, rfl, _, rfl, iteNo rfl ?_⟩
          refine ⟨_, rfl, .inl ⟨rfl, _, SqL.of h1⟩, _, rfl, a, _, _, rfl, rfl, h1, h2, ?_⟩
          have eb3 := M3.s _ _ eb
          refine ⟨_, rfl, b, _, 2, .int tt, rfl, rfl, SqT.of eb3, atI_nat (j := 2) rfl, ?_⟩
          rw [more]
          refine ⟨some (.str ⟨#[ch]⟩), some (.ref b), ?_, ?_, ?_⟩
          · have : endP p (m.along p ((wordOf y).take i) ++ [r]) = tt := by
              unfold endP
              rw [List.foldl_append]
              exact eto
            rw [this]
            rfl
          · rw [etk, List.length_append, List.length_append, hl]
            rfl
          · rw [List.map_append]
            exact M3
      · rintro σ H2 ⟨o4, o5, rfl, hl, M⟩
        rw [List.take_of_length_le (by rw [wordOf_len]; exact Nat.le_refl _)] at M hl
        rw [List.take_of_length_le (by rw [wordOf_len]; exact Nat.le_refl _)]
        exact ⟨_, _, _, rfl, M⟩
    rintro σ H' ⟨o1, o4, o5, rfl, M⟩
    obtain ⟨us, M, q⟩ := M
    exact ⟨_, rfl, k _ a us M.1 na M.2 (DqAll.same M.1 _ _ q)⟩
end
end KL
set_option Elab.async false
set_option linter.all false
set_option maxRecDepth 100000
set_option maxHeartbeats 16000000
namespace KL
open PySem L2 PySem.KX PySem.Spec PyProof.Rows
/-! ### what a house looks at -/
section
variable {P : Program} {w : World} {K : PySem.W.Frag} {mg : Str → Option Value} {base : Heap} {C : Addr} {g : Addr} {gd : FuncData}
theorem scLookedAt : FnScope ["house", "place"] ["house", "place"] (defScope sLookedAt) := ⟨rfl, rfl, rfl, by decide +kernel, rfl, by decide +kernel, by decide +kernel⟩
theorem ok_lookedAt {f : Addr} {fd : FuncData} (F : Fun K "looked_at" "looked_at" sLookedAt f fd) (G : FnOk P w K mg base CX0 1 g gd ["house", "place"] (spFormsAt C)) (c : Cal K mg "forms_at" g gd ["house", "place"]) : FnOk P w K mg base CX0 2 f fd ["house", "place"] (spFormsAt C) := by
  refine F.ok scLookedAt (fun vs H Q E h => ?_) (fun cdv A outer s H vs Q E hr h => ?_)
  · obtain ⟨x, p, m, rfl, _⟩ := h
    rfl
  · obtain ⟨x, p, m, rfl, h⟩ := h
    exact ⟨_, pss_one (ps_ret (pe_call G hr (by rfl) c.m c.k c.b .nil pass0 (pa_cons (pv 0) (pa_cons (pv 1) pa_nil)))), ⟨_, rfl, _, rfl, x, p, m, rfl, h⟩⟩
/-! ### the numbers behind a way -/
/-- what an arrow makes of numbers -/
def rowVals (ks : List Int) (r : Row) : List Int := (itemsD (r.2.2.getD 1 .none)).map (valD ks)
def valsBehind (ks : List Int) (rs : List Row) : List Int := rs.foldl rowVals ks
end
end KL
set_option Elab.async false
set_option linter.all false
set_option maxRecDepth 100000
set_option maxHeartbeats 16000000
namespace KL
open PySem L2 PySem.KX PySem.Spec PyProof.Rows
/-! ### the place behind a way -/
theorem endP_last (p : Int) (rs : List Row) (r : Row) : endP p (rs ++ [r]) = rowTo r := by
  unfold endP
  rw [List.foldl_append]
  rfl
theorem along_mem (m : HM) : ∀ (ds : List Str) (p : Int) (r : Row), r ∈ m.along p ds → r ∈ m.arrows
  | [], _, _, h => by simp [HM.along] at h
  | d :: ds, p, r, h => by
    unfold HM.along at h
    cases e : m.arrowAt p d with
    | none =>
      rw [e] at h
      cases h
    | some s =>
      rw [e] at h
      rcases List.mem_cons.mp h with rfl | z
      · exact List.mem_of_find?_eq_some e
      · exact along_mem m ds _ r z
def spEndFrom (C : Addr) : Sp := fun vs H Q _ => ∃ (x : Addr) (p : Int) (y : Str) (m : HM), vs = [.ref x, .int p, .str y] ∧ HsAt C H x m ∧ RightH m ∧ y.cps.size ≤ 100 ∧ ∀ H', Same H H' → Q (.int (endP p (m.along p (wordOf y)))) H'
section
variable {P : Program} {w : World} {K : PySem.W.Frag} {mg : Str → Option Value} {base : Heap} {C : Addr} {g : Addr} {gd : FuncData}
theorem scEndFrom : FnScope ["house", "place", "way", "taken"] ["house", "place", "way"] (defScope sEndFrom) := ⟨rfl, rfl, rfl, by decide +kernel, rfl, by decide +kernel, by decide +kernel⟩
theorem ok_endFrom {f : Addr} {fd : FuncData} (F : Fun K "end_from" "end_from" sEndFrom f fd) (G : FnOk P w K mg base CX0 2 g gd ["house", "place", "way"] (spAlong C)) (c : Cal K mg "arrows_along" g gd ["house", "place", "way"]) : FnOk P w K mg base CX0 3 f fd ["house", "place", "way"] (spEndFrom C) := by
  refine F.ok scEndFrom (fun vs H Q E h => ?_) (fun cdv A outer s H vs Q E hr h => ?_)
  · obtain ⟨x, p, y, m, rfl, _⟩ := h
    rfl
  · obtain ⟨x, p, y, m, rfl, hx, hR, hy, k⟩ := h
    have nd := scEndFrom.nd
    refine ⟨_, pss_cons (ps_set (i := 3) nd rfl (.inl rfl) (pe_call G hr (by rfl) c.m c.k c.b .nil pass0 (pa_cons (pv 0) (pa_cons (pv 1) (pa_cons (pv 2) pa_nil)))))
      (pss_one (ps_ret (pe_ifExp (pt_cmpR (op_neNil hr.units) (pv 3) (pe_lst pa_nil) (nomark _)) (pe_ix (r := rIxT K) ix_tup (pe_ix (r := rIxL K) ix_list (pv 3) (pe_un un_neg pe_int) (fun _ _ => rfl)) pe_int (fun _ _ => rfl)) (pv 1)))), ?_⟩
    refine ⟨_, rfl, _, rfl, _, rfl, x, p, y, m, rfl, hx, hR, hy, fun H1 a us S1 na ha q => ?_⟩
    refine ⟨_, rfl, (by show 0 ≤ sizeLine; decide), fun b nb => ?_⟩
    have S2 := same_new (o := .lst []) nb
    have hb : upd H1 b (.lst []) b = some (.lst []) := upd_same
    have ha2 := S2 _ _ ha
    have q2 := DqAll.same S2 _ _ q
    revert S2 hb ha2 q2
    generalize upd H1 b (.lst []) = H2
    intro S2 hb ha2 q2
    refine ⟨a, b, us, rfl, rfl, ha2, hb, _, rfl, ?_⟩
    rcases List.eq_nil_or_concat (m.along p (wordOf y)) with e | ⟨rs, r, e⟩
    · rw [e] at q2
      cases q2
      refine iteNo rfl ⟨_, rfl, ?_⟩
      have := k H2 (S1.trans S2)
      rw [e] at this
      exact this
    · rw [List.concat_eq_append] at e
      have mem : r ∈ m.arrows := along_mem m (wordOf y) p r (by rw [e]; simp)
      obtain ⟨tt, fs, ms, er, _⟩ := (hR.aa r mem).e
      have kk := k H2 (S1.trans S2)
      rw [e, endP_last] at kk
      have eto : rowTo r = tt := by
        unfold rowTo
        rw [er]
        rfl
      rw [eto] at kk
      rw [e, List.map_append] at q2
      have lu := dq_len q2
      rcases List.eq_nil_or_concat us with e0 | ⟨us', u, e0⟩
      · rw [e0] at lu
        simp at lu
      rw [List.concat_eq_append] at e0
      subst e0
      have l1 : us'.length = rs.length := by simpa using lu
      obtain ⟨d', hd', hq⟩ := DqAll.at q2 (show (us' ++ [u])[us'.length]? = some u by simp)
      have ed : d' = rowE r := by
        rw [l1] at hd'
        simpa using hd'.symm
      subst ed
      obtain ⟨bb, zs, rfl, eb, qb⟩ := row_at hq
      rw [er] at qb
      cases qb with | @cons u2 _ _ _ g2 qb =>
      cases g2
      refine iteYes (by simp) ?_
      refine ⟨_, rfl, _, rfl, a, _, -1, .ref bb, rfl, rfl, SqL.of ha2, atI_last _ _, ?_⟩
      exact ⟨bb, _, 2, .int tt, rfl, rfl, SqT.of eb, atI_nat (j := 2) rfl, kk⟩
end
end KL
set_option Elab.async false
set_option linter.all false
set_option maxRecDepth 100000
set_option maxHeartbeats 16000000
namespace KL
open PySem L2 PySem.KX PySem.Spec PyProof.Rows
/-- the arrows' forms have small numbers -/
def SmA (m : HM) : Prop := ∀ r ∈ m.arrows, ∀ f ∈ itemsD (r.2.2.getD 1 .none), FormSm m.start.length f
theorem vals_more (ks : List Int) (rs : List Row) (r : Row) : valsBehind ks (rs ++ [r]) = rowVals (valsBehind ks rs) r := by
  unfold valsBehind
  rw [List.foldl_append]
  rfl
def spNumbersFrom (C : Addr) : Sp := fun vs H Q _ => ∃ (x : Addr) (p : Int) (u : V) (y : Str) (ks : List Int) (m : HM), vs = [.ref x, .int p, u, .str y] ∧ HsAt C H x m ∧ RightH m ∧ SmA m ∧ Dq H u (.tuple (ks.map .int)) ∧ ks.length = m.start.length ∧ y.cps.size ≤ 100 ∧
  ∀ H' v, Same H H' → Dq H' v (.tuple ((valsBehind ks (m.along p (wordOf y))).map .int)) → Q v H'
section
variable {P : Program} {w : World} {K : PySem.W.Frag} {mg : Str → Option Value} {base : Heap} {C : Addr} {g1 g2 : Addr} {d1 d2 : FuncData}
theorem scNumbersFrom : FnScope ["house", "place", "numbers", "way", "arrow"] ["house", "place", "numbers", "way"] (defScope sNumbersFrom) := ⟨rfl, rfl, rfl, by decide +kernel, rfl, by decide +kernel, by decide +kernel⟩
theorem ok_numbersFrom {f : Addr} {fd : FuncData} (F : Fun K "numbers_from" "numbers_from" sNumbersFrom f fd) (G1 : FnOk P w K mg base CX0 2 g1 d1 ["house", "place", "way"] (spAlong C)) (c1 : Cal K mg "arrows_along" g1 d1 ["house", "place", "way"])
    (G2 : FnOk P w K mg base CX0 2 g2 d2 ["forms", "numbers"] spValuesOf) (c2 : Cal K mg "values_of" g2 d2 ["forms", "numbers"]) : FnOk P w K mg base CX0 3 f fd ["house", "place", "numbers", "way"] (spNumbersFrom C) := by
  refine F.ok scNumbersFrom (fun vs H Q E h => ?_) (fun cdv A outer s H vs Q E hr h => ?_)
  · obtain ⟨x, p, u, y, ks, m, rfl, _⟩ := h
    rfl
  · obtain ⟨x, p, u, y, ks, m, rfl, hx, hR, hS, hu', lk, hy, k⟩ := h
    have nd := scNumbersFrom.nd
    refine ⟨_, C8.pss_cut (ps_for PassesOwn.never rfl (pi_list (pe_call G1 hr (by rfl) c1.m c1.k c1.b .nil pass0 (pa_cons (pv 0) (pa_cons (pv 1) (pa_cons (pv 3) pa_nil))))) (pg_name (i := 4) nd rfl (.inl rfl))
        (pss_one (ps_set (i := 2) nd rfl (.inl rfl) (pe_call G2 hr (by rfl) c2.m c2.k c2.b .nil pass0 (pa_cons (pe_ix (r := rIxT K) ix_tup (pv 4) pe_int (fun _ _ => rfl)) (pa_cons (pv 2) pa_nil))))))
      (pss_one (ps_ret (pv 2))), ?_⟩
    have n1 := hR.n1
    have n3 := hR.n3
    refine ⟨fun σ H' => ∃ v o, σ = [some (.ref x), some (.int p), some v, some (.str y), o] ∧ Same H H' ∧ Dq H' v (.tuple ((valsBehind ks (m.along p (wordOf y))).map .int)), ?_, ?_⟩
    · refine ⟨_, rfl, _, rfl, _, rfl, x, p, y, m, rfl, hx, hR, hy, fun H1 a us S1 na ha q => ?_⟩
      have lu : us.length = (m.along p (wordOf y)).length := by rw [dq_len q, List.length_map]
      refine ⟨a, rfl, ⟨_, SqL.of ha⟩, ?_⟩
      refine for_list (K := K) (a := a) (xs := us) (fun i σ H' => ∃ v o, σ = [some (.ref x), some (.int p), some v, some (.str y), o] ∧ Same H1 H' ∧ (valsBehind ks ((m.along p (wordOf y)).take i)).length = m.start.length ∧ Dq H' v (.tuple ((valsBehind ks ((m.along p (wordOf y)).take i)).map .int))) ⟨u, none, rfl, Same.refl _, lk, Dq.same S1 _ _ hu'⟩ (fun i σ H' _ ⟨_, _, _, S, _⟩ => SqL.of (S _ _ ha)) ?_ ?_
      · rintro i z σ H2 hz ⟨v, o, rfl, S2, hl, hd⟩
        obtain ⟨d', hd', hq⟩ := DqAll.at q hz
        rw [List.getElem?_map] at hd'
        cases er : (m.along p (wordOf y))[i]? with
        | none =>
          rw [er] at hd'
          cases hd'
        | some r =>
          rw [er] at hd'
          cases hd'
          have mem := along_mem m (wordOf y) p r (List.mem_of_getElem? er)
          obtain ⟨tt, fs, ms, e, _, _, fl, _⟩ := (hR.aa r mem).e
          have hf : ∀ f ∈ fs, FormSm m.start.length f := fun f hf => hS r mem f (by rw [e]; exact hf)
          obtain ⟨b, zs, rfl, eb, qb⟩ := row_at (Dq.same S2 _ _ hq)
          rw [e] at qb
          cases qb with | cons g0 qb =>
          cases qb with | @cons u3 _ _ _ g3 qb =>
          cases g0
          refine ⟨_, rfl, b, _, 3, u3, rfl, rfl, SqT.of eb, atI_nat (j := 3) rfl, _, rfl, ?_⟩
          refine ⟨u3, v, fs, _, rfl, g3, hd, by rw [hl]; exact hf, by omega, by omega, by omega, fun H3 v' S3 hd' => ?_⟩
          have etk : (m.along p (wordOf y)).take (i + 1) = (m.along p (wordOf y)).take i ++ [r] := by
            rw [List.take_add_one, er]
            rfl
          have erow : rowVals (valsBehind ks ((m.along p (wordOf y)).take i)) r = fs.map (valD (valsBehind ks ((m.along p (wordOf y)).take i))) := by
            unfold rowVals
            rw [e]
            rfl
          refine ⟨v', _, rfl, S2.trans S3, ?_, ?_⟩
          · rw [etk, vals_more, erow, List.length_map]
            exact fl
          · rw [etk, vals_more, erow]
            exact hd'
      · rintro σ H2 ⟨v, o, rfl, S2, hl, hd⟩
        rw [lu, List.take_length] at hd
        exact ⟨v, o, rfl, S1.trans S2, hd⟩
    rintro σ H' ⟨v, o, rfl, S, hd⟩
    exact ⟨_, rfl, k H' v S hd⟩
end
end KL
set_option Elab.async false
set_option linter.all false
set_option maxRecDepth 100000
set_option maxHeartbeats 4000000
namespace KL
open PySem L2 PySem.KX PySem.Spec PyProof.Rows
/-! ### zip of three tuples of one length -/
def ItzT3 (K : PySem.W.Frag) (a b c : Addr) : It :=
  ⟨fun i H => ∃ (xs ys zs : List V) (x y z : V), SqT K H a xs ∧ SqT K H b ys ∧ SqT K H c zs ∧ xs[i]? = some x ∧ ys[i]? = some y ∧ zs[i]? = some z,
    fun i H v H' => ∃ T x y z, v = .ref T ∧ H T = none ∧ H' = upd H T (.tup [x, y, z]) ∧ (∀ xs, SqT K H a xs → xs[i]? = some x) ∧ (∀ ys, SqT K H b ys → ys[i]? = some y) ∧ ∀ zs, SqT K H c zs → zs[i]? = some z,
    fun i H => ∃ xs ys zs : List V, SqT K H a xs ∧ SqT K H b ys ∧ SqT K H c zs ∧ xs.length = i ∧ ys.length = i ∧ zs.length = i⟩
theorem mem6 {c z TI TO i1 i2 i3 : Addr} (h : c ∈ [z, TI, TO, i1, i2, i3]) : c = z ∨ c = TI ∨ c = TO ∨ c = i1 ∨ c = i2 ∨ c = i3 := by simpa using h
theorem turn_zipT3 {P : Program} {w : World} {K : PySem.W.Frag} {elts : List Expr} {kk : Nat} {tpos : Pos} {a b c z TI TO i1 i2 i3 : Addr} (S : ZipSep3 z TI TO i1 i2 i3 [i1, a] [i2, b] [i3, c]) (n1 : a ≠ i1) (n2 : b ≠ i2) (n3 : c ≠ i3) :
    Turn P w K (.Tuple elts kk tpos) (ItzT3 K a b c) [z, TI, TO, i1, i2, i3] z (fun i h => IsZip h z TI TO .none ∧ IsTupOf3 h TI (.ref i1) (.ref i2) (.ref i3) ∧ (∃ x y u, IsTupOf3 h TO x y u) ∧ h.IsTupleIter i1 a i ∧ h.IsTupleIter i2 b i ∧ h.IsTupleIter i3 c i) where
  mem := by simp
  obj := fun i h st e he => by
    obtain ⟨hz, hTI, ⟨x, y, u, hTO⟩, ⟨o1, e1, _, d1⟩, ⟨o2, e2, _, d2⟩, ⟨o3, e3, _, d3⟩⟩ := st
    rcases mem6 he with q | q | q | q | q | q
    · rw [q]; exact ⟨_, hz, fun v q => nomatch q⟩
    · rw [q]; exact ⟨_, hTI, fun v q => nomatch q⟩
    · rw [q]; exact ⟨_, hTO, fun v q => nomatch q⟩
    · rw [q]; exact ⟨o1, e1, fun v q => by rw [d1] at q; cases q⟩
    · rw [q]; exact ⟨o2, e2, fun v q => by rw [d2] at q; cases q⟩
    · rw [q]; exact ⟨o3, e3, fun v q => by rw [d3] at q; cases q⟩
  keep := fun i h h' st k => by
    obtain ⟨hz, hTI, ⟨x, y, u, hTO⟩, h1, h2, h3⟩ := st
    exact ⟨k z (by simp) _ hz, k TI (by simp) _ hTI, ⟨x, y, u, k TO (by simp) _ hTO⟩, h1.at fun o q => k i1 (by simp) o q, h2.at fun o q => k i2 (by simp) o q, h3.at fun o q => k i3 (by simp) o q⟩
  item := by
    intro X hP hw hK hc i pins s σ H E I hf st hg
    subst hP hw hK
    obtain ⟨hz, hTI, ⟨x0, y0, u0, hTO⟩, h1, h2, h3⟩ := st
    obtain ⟨xs, ys, zs, x, y, u, hqx, hqy, hqz, hx, hy, hu⟩ := hg
    obtain ⟨its, rv, p, _⟩ := I.tuple hqx
    obtain ⟨its2, rv2, p2, _⟩ := I.tuple hqy
    obtain ⟨its3, rv3, p3, _⟩ := I.tuple hqz
    obtain ⟨v1, hv1, r1⟩ := rv.get hx
    obtain ⟨v2, hv2, r2⟩ := rv2.get hy
    obtain ⟨v3, hv3, r3⟩ := rv3.get hu
    have w1 : its.toArray[i]? = some v1 := by simpa using hv1
    have w2 : its2.toArray[i]? = some v2 := by simpa using hv2
    have w3 : its3.toArray[i]? = some v3 := by simpa using hv3
    have hh : X.A.in1.handled = none := I.ok.hd hc
    have lt : ∀ {q : Array Value} {v : Value}, q[i]? = some v → i < q.size := fun e => (Array.getElem?_eq_some_iff.mp e).1
    have hzl : z < s.heap.objs.size := Heap.lt_size hz
    refine wpAny_pyNext_zipD3_item S (Draws.tuple hh i1 a n1 its.toArray) (Draws.tuple hh i2 b n2 its2.toArray) (Draws.tuple hh i3 c n3 its3.toArray) hz hTI hTO ⟨h1, p⟩ ⟨h2, p2⟩ ⟨h3, p3⟩ (lt w1) (lt w2) (lt w3) fun y1 y2 y3 h' tk q1 q2 q3 z' TO' d1 d2 d3 hT hsz hk => ?_
    have q1 : its.toArray[i]? = some y1 := q1
    have q2 : its2.toArray[i]? = some y2 := q2
    have q3 : its3.toArray[i]? = some y3 := q3
    rw [w1] at q1
    rw [w2] at q2
    rw [w3] at q3
    cases q1
    cases q2
    cases q3
    refine ⟨_, rfl, wpAny_letOwnedTupleGo_zip (s := { s with heap := h', toks := tk }) z' fun h'' z'' sb => ?_⟩
    have hT2 : h''.get? s.heap.objs.size = some { cls := .type "tuple", data := .seq #[v1, v2, v3] } := (sb.2 _ (Nat.ne_of_gt hzl)).trans hT
    have new : ObjOk X.prog X.w (upd H s.heap.objs.size (.tup [x, y, u])) h'' s.heap.objs.size (.tup [x, y, u]) :=
      ⟨by show 3 ≤ sizeLine; decide, [v1, v2, v3], .cons r1 (.cons r2 (.cons r3 .nil)), ⟨_, hT2, rfl, _, rfl⟩⟩
    have I1 : Inv X pins σ (upd H s.heap.objs.size (.tup [x, y, u])) { s with heap := h'', toks := tk } :=
      I.turnedNew (t' := tk) (ch := [z, TI, TO, i1, i2, i3]) (fun e o hb q => (sb.2 e (fun q' => hb (by simp [q']))).trans (hk e o (fun q' => hb (by simp [q'])) (fun q' => hb (by simp [q'])) (fun q' => hb (by simp [q'])) (fun q' => hb (by simp [q'])) (fun q' => hb (by simp [q'])) q)) hf (Nat.le_refl _) new
    refine ⟨.ref s.heap.objs.size, _, I1, rfl, ⟨_, x, y, u, rfl, I.hok.fresh (Nat.le_refl _), rfl, fun l hl => by rw [I.tuple_inj hl hqx]; exact hx, fun l hl => by rw [I.tuple_inj hl hqy]; exact hy, fun l hl => by rw [I.tuple_inj hl hqz]; exact hu⟩, ⟨z'', ?_, ⟨v1, v2, v3, ?_⟩, ?_, ?_, ?_⟩, fun e hcm => ?_⟩
    · exact (sb.2 _ S.TIz).trans (hk _ _ S.TIz S.TITO S.TIi1 S.TIi2 S.TIi3 hTI)
    · exact (sb.2 _ S.TOz).trans TO'
    · exact d1.1.at fun o q => (sb.2 _ S.zi1.symm).trans q
    · exact d2.1.at fun o q => (sb.2 _ S.zi2.symm).trans q
    · exact d3.1.at fun o q => (sb.2 _ S.zi3.symm).trans q
    · have hlt : e < s.heap.objs.size := by
        rcases mem6 hcm with q | q | q | q | q | q
        · rw [q]; exact hzl
        · rw [q]; exact Heap.lt_size hTI
        · rw [q]; exact Heap.lt_size hTO
        · rw [q]; obtain ⟨_, e1, _⟩ := h1; exact Heap.lt_size e1
        · rw [q]; obtain ⟨_, e2, _⟩ := h2; exact Heap.lt_size e2
        · rw [q]; obtain ⟨_, e3, _⟩ := h3; exact Heap.lt_size e3
      rw [upd_ne (Nat.ne_of_lt hlt)]
      exact (hf e hcm).1
  done := by
    intro X hP hw hK hc i pins s σ H E I hf st hg
    subst hP hw hK
    obtain ⟨hz, hTI, ⟨x0, y0, u0, hTO⟩, h1, h2, h3⟩ := st
    obtain ⟨xs, ys, zs, hqx, hqy, hqz, l1, l2, l3⟩ := hg
    obtain ⟨its, rv, p, _⟩ := I.tuple hqx
    obtain ⟨its2, rv2, p2, _⟩ := I.tuple hqy
    obtain ⟨its3, rv3, p3, _⟩ := I.tuple hqz
    have m1 : its.toArray.size = i := by have := rv.length; simp; omega
    have m2 : its2.toArray.size = i := by have := rv2.length; simp; omega
    have m3 : its3.toArray.size = i := by have := rv3.length; simp; omega
    have hh : X.A.in1.handled = none := I.ok.hd hc
    exact wpAny_pyNext_zipD3_end S (Draws.tuple hh i1 a n1 its.toArray) (Draws.tuple hh i2 b n2 its2.toArray) (Draws.tuple hh i3 c n3 its3.toArray) hz hTI hTO ⟨h1, p⟩ ⟨h2, p2⟩ ⟨h3, p3⟩ (by omega) (by omega) (by omega) (.inl m1.symm) fun h' tk hk => ⟨rfl, I.turnedL (t' := tk) (ch := [z, TI, TO, i1, i2, i3]) (fun e o hb q =>
      hk e o (fun q' => hb (by simp [q'])) (fun q' => hb (by simp [q'])) (fun q' => hb (by simp [q'])) (fun q' => hb (by simp [q'])) (fun q' => hb (by simp [q'])) q) hf⟩
  self := fun A i s Q E st h => wpAny_pyIter_zip st.1 h
def iZipT3 (K : PySem.W.Frag) (ta : TA) : TI := fun σ H R => ta σ H fun vs H1 => ∃ a b c xs ys zs, vs = [.ref a, .ref b, .ref c] ∧ SqT K H1 a xs ∧ SqT K H1 b ys ∧ SqT K H1 c zs ∧ R (ItzT3 K a b c) H1
theorem no2 {x y z : Nat} (h1 : x ≠ y) (h2 : x ≠ z) : x ∉ [y, z] := by simp [h1, h2]
theorem sep3N (n a b c : Nat) (ha : a < n) (hb : b < n) (hc : c < n) : ZipSep3 (n + 5) (n + 3) (n + 4) n (n + 1) (n + 2) [n, a] [n + 1, b] [n + 2, c] where
  TIz := fun h => by have h : n + 3 = n + 5 := h; omega
  TOz := fun h => by have h : n + 4 = n + 5 := h; omega
  TITO := fun h => by have h : n + 3 = n + 4 := h; omega
  TIi1 := fun h => by have h : n + 3 = n := h; omega
  mem1 := List.mem_cons_self
  zf1 := no2 (by omega) (by omega)
  Tf1 := no2 (by omega) (by omega)
  TIi2 := fun h => by have h : n + 3 = n + 1 := h; omega
  mem2 := List.mem_cons_self
  zf2 := no2 (by omega) (by omega)
  Tf2 := no2 (by omega) (by omega)
  TIi3 := fun h => by have h : n + 3 = n + 2 := h; omega
  mem3 := List.mem_cons_self
  zf3 := no2 (by omega) (by omega)
  Tf3 := no2 (by omega) (by omega)
  sep1_2 := no2 (by omega) (by omega)
  sep1_3 := no2 (by omega) (by omega)
  sep2_1 := no2 (by omega) (by omega)
  sep2_3 := no2 (by omega) (by omega)
  sep3_1 := no2 (by omega) (by omega)
  sep3_2 := no2 (by omega) (by omega)
theorem pi_zipT3 {X : Cx} {e e2 e3 : Expr} {ta : TA} {p pos tpos : Pos} {elts : List Expr} {kk : Nat} (hg : Gl X "zip") (hm : X.mg "zip" = none) (ha : PA X [e, e2, e3] ta)
    (hs : starEach [e, e2, e3] X.env = (false, eval e X.env) :: starEach [e2, e3] X.env := by rfl) (hpl : (backTo pos (starEach [e2, e3] X.env)).any (·.1) = false := by rfl) :
    PI X (.Tuple elts kk tpos) (.Call (.Name "zip" p) [e, e2, e3] [] pos) (iZipT3 X.K ta) := by
  refine ⟨fun pins s σ H R I h => ?_⟩
  refine Call_ (ld_blt I hg hm PyProof.Rows.boot_zip (PyProof.Rows.callWith_type1 (thn (ha.run pos pins s σ H _ I h) fun us s1 ⟨vs, H1, I1, r1, q1⟩ => ?_) hs hpl))
  obtain ⟨a, b, c, xs, ys, zs, ex, hqx, hqy, hqz, q⟩ := q1
  subst ex
  cases r1 with
  | cons r rr =>
    cases rr with
    | cons r' rr =>
      cases rr with
      | cons r'' rr =>
      cases rr
      cases r
      cases r'
      cases r''
      have fresh6 : ∀ e, e ∈ [s1.heap.objs.size + 5, s1.heap.objs.size + 3, s1.heap.objs.size + 4, s1.heap.objs.size, s1.heap.objs.size + 1, s1.heap.objs.size + 2] → FpOk X pins H1 e := fun e hcm => by
        have hle : s1.heap.objs.size ≤ e := by
          rcases mem6 hcm with z | z | z | z | z | z
          · rw [z]; exact Nat.le_add_right _ _
          · rw [z]; exact Nat.le_add_right _ _
          · rw [z]; exact Nat.le_add_right _ _
          · rw [z]; exact Nat.le_refl _
          · rw [z]; exact Nat.le_add_right _ _
          · rw [z]; exact Nat.le_add_right _ _
        exact I1.fpOk hle (I1.hok.fresh hle)
      obtain ⟨its, rv, p1, _⟩ := I1.tuple hqx
      obtain ⟨its2, rv2, p2, _⟩ := I1.tuple hqy
      obtain ⟨its3, rv3, p3, _⟩ := I1.tuple hqz
      have l1 : a < s1.heap.objs.size := by obtain ⟨o, h, _⟩ := id p1; exact Heap.lt_size h
      have l2 : b < s1.heap.objs.size := by obtain ⟨o, h, _⟩ := id p2; exact Heap.lt_size h
      have l3 : c < s1.heap.objs.size := by obtain ⟨o, h, _⟩ := id p3; exact Heap.lt_size h
      refine zip_begins3 (begins_tuple a its.toArray) (begins_tuple b its2.toArray) (begins_tuple c its3.toArray) p1 p2 p3 fun h' hz hTI hTO h1 h2 h3 hsz hk => wpAny_pyIter_zip hz ?_
      have I2 : Inv X pins σ H1 { s1 with heap := h' } := I1.kept (t' := s1.toks) hk
      exact ⟨s1.heap.objs.size + 5, [s1.heap.objs.size + 5, s1.heap.objs.size + 3, s1.heap.objs.size + 4, s1.heap.objs.size, s1.heap.objs.size + 1, s1.heap.objs.size + 2], _, _, H1, rfl, I2, turn_zipT3 (sep3N _ _ _ _ l1 l2 l3) (Nat.ne_of_lt l1) (Nat.ne_of_lt (Nat.lt_succ_of_lt l2)) (Nat.ne_of_lt (Nat.lt_succ_of_lt (Nat.lt_succ_of_lt l3))), ⟨hz, hTI, ⟨_, _, _, hTO⟩, ⟨_, h1, rfl, rfl⟩, ⟨_, h2, rfl, rfl⟩, ⟨_, h3, rfl, rfl⟩⟩, fresh6, q⟩
def YTrip (f g h : Nat → Option V) : Nat → Hp → V → Hp → Prop := fun i H v H' => ∃ T x y z, v = .ref T ∧ H T = none ∧ H' = upd H T (.tup [x, y, z]) ∧ f i = some x ∧ g i = some y ∧ h i = some z
theorem walk_zipT3 {K : PySem.W.Frag} {a b c : Addr} {xs ys zs : List V} {n : Nat} (h1 : xs.length = n) (h2 : ys.length = n) (h3 : zs.length = n) : Walk (ItzT3 K a b c) n (fun H => SqT K H a xs ∧ SqT K H b ys ∧ SqT K H c zs) (YTrip (fun i => xs[i]?) (fun i => ys[i]?) fun i => zs[i]?) := by
  refine ⟨fun i _ hi q => ?_, fun _ q => ⟨xs, ys, zs, q.1, q.2.1, q.2.2, h1, h2, h3⟩, fun i H v H' _ q y => ?_⟩
  · have h1 : i < xs.length := by omega
    have h2 : i < ys.length := by omega
    have h3 : i < zs.length := by omega
    exact ⟨xs, ys, zs, xs[i], ys[i], zs[i], q.1, q.2.1, q.2.2, by simp [h1], by simp [h2], by simp [h3]⟩
  · obtain ⟨T, x, z, u, g1, g2, g3, g4, g5, g6⟩ := y
    exact ⟨T, x, z, u, g1, g2, g3, g4 xs q.1, g5 ys q.2.1, g6 zs q.2.2⟩
end KL
set_option Elab.async false
set_option linter.all false
set_option maxRecDepth 100000
set_option maxHeartbeats 16000000
namespace KL
open PySem L2 PySem.KX PySem.Spec PyProof.Rows
/-! ### the form ahead -/
theorem get_list {X : Cx} : PGet X (rIxL X.K) := by
  intro pins s σ H o i ov iv Q I ro ri h
  obtain ⟨p, xs, k, z, rfl, rfl, hq, he, q⟩ := h
  cases ro
  obtain ⟨t, rfl⟩ := ri
  obtain ⟨its, r, pl, hz⟩ := I.list hq
  obtain ⟨j, h1, h2, h3, h4, h5⟩ := atI_get he
  obtain ⟨w, ew, rw'⟩ := r.get h2
  have hl := r.length
  have hn := line63
  have fin : EP X pins σ Q w s := ⟨z, H, I, rw', q⟩
  by_cases h0 : 0 ≤ k
  · have hj : k.toNat = j := by
      rw [seqIndex_of h0 h5] at h1
      exact Option.some.inj h1
    exact wpAny_getItem_list pl.isList h0 (by omega) (by rw [hj]; simpa using ew) fin
  · have hj : (k + (its.toArray.size : Int)).toNat = j := by
      rw [seqIndex_neg (by omega) h4] at h1
      rw [List.size_toArray, ← hl]
      exact Option.some.inj h1
    exact wpAny_getItem_list_neg pl.isList (by omega) (by rw [List.size_toArray] <;> omega) (by omega) (by rw [hj]; simpa using ew) fin
/-- what of a form's factors comes to the forms ahead -/
def ledTo (acc : List Int) : List (Int × List Int) → List Int
  | [] => acc
  | (k, r) :: l => ledTo (List.zipWith (fun a b => a + k * b) acc r) l
def ledF (f : List Int) (rows : List (List Int)) : List Int := match f with
  | [] => []
  | c :: ks => ledTo (c :: List.replicate ks.length 0) (ks.zip rows)
def tupsD (rows : List (List Int)) : PyData := .tuple (rows.map fun r => .tuple (r.map .int))
def spFormAhead : Sp := fun vs H Q _ => ∃ (v u : V) (rows : List (List Int)) (f : List Int), vs = [v, u] ∧ Dq H v (tupsD rows) ∧ Dq H u (.tuple (f.map .int)) ∧ f.length = rows.length + 1 ∧ 1 ≤ rows.length ∧ rows.length ≤ 3 ∧ (∀ r ∈ rows, r.length = rows.length + 1) ∧ (∀ i ∈ f, smI i) ∧
  ∀ H' v', Same H H' → Dq H' v' (.tuple ((ledF f rows).map .int)) → Q v' H'
section
variable {P : Program} {w : World} {K : PySem.W.Frag} {mg : Str → Option Value} {base : Heap}
abbrev nFormAhead : List Str := ["forms", "form", "led", "one", "_", "x", "y", "two", "z", "three"]
theorem scFormAhead : FnScope nFormAhead ["forms", "form"] (defScope sFormAhead) := ⟨rfl, rfl, rfl, by decide +kernel, rfl, by decide +kernel, by decide +kernel⟩
/-- a turn of a list of numbers -/
theorem ints_turn {H0 H : Hp} {D : Addr} {l : List Int} {i : Nat} {n : Int} (nD : H0 D = none) (M : MadeTo H0 D ((l.take i).map V.int) H) (e : l[i]? = some n) (few : l.length ≤ 1000) :
    ∃ acc, H D = some (.lst acc) ∧ acc.length < sizeLine ∧ MadeTo H0 D ((l.take (i + 1)).map V.int) (upd H D (.lst (acc ++ [.int n]))) := by
  obtain ⟨h1, M2⟩ := M.more (V.int n) nD (Same.refl _)
  refine ⟨_, h1, by rw [List.length_map, List.length_take, sizeLine_eq]; omega, ?_⟩
  rw [List.take_add_one, e, List.map_append]
  exact M2
theorem ints_turn2 {H0 H H2 : Hp} {D : Addr} {l : List Int} {i : Nat} {n : Int} (nD : H0 D = none) (M : MadeTo H0 D ((l.take i).map V.int) H) (S : Same H H2) (e : l[i]? = some n) (few : l.length ≤ 1000) :
    ∃ acc, H2 D = some (.lst acc) ∧ acc.length < sizeLine ∧ MadeTo H0 D ((l.take (i + 1)).map V.int) (upd H2 D (.lst (acc ++ [.int n]))) := by
  obtain ⟨h1, M2⟩ := M.more (V.int n) nD S
  refine ⟨_, h1, by rw [List.length_map, List.length_take, sizeLine_eq]; omega, ?_⟩
  rw [List.take_add_one, e, List.map_append]
  exact M2
theorem row_ints {H : Hp} {v : V} {r : List Int} (q : Dq H v (.tuple (r.map .int))) : ∃ a, v = .ref a ∧ H a = some (.tup (r.map V.int)) := by
  obtain ⟨a, xs, rfl, ea, qa⟩ := tup_at q
  exact ⟨a, rfl, by rw [ea, ints_inv qa]⟩
theorem smI_mul {i : Int} (h : smI i) : (-18446744073709551616 < i ∧ i < 18446744073709551616) := ⟨by have := h.1; omega, by have := h.2; omega⟩
theorem ok_formAhead {f : Addr} {fd : FuncData} (F : Fun K "form_ahead" "form_ahead" sFormAhead f fd) (ml : mg "len" = none) (mz : mg "zip" = none) (mt : mg "tuple" = none) : FnOk P w K mg base CX0 1 f fd ["forms", "form"] spFormAhead := by
  refine F.ok scFormAhead (fun vs H Q E h => ?_) (fun cdv A outer s H vs Q E hr h => ?_)
  · obtain ⟨v, u, rows, f, rfl, _⟩ := h
    rfl
  · obtain ⟨v, u, rows, f, rfl, hv, hu', lf, r1, r3, rl, sm, k⟩ := h
    have nd := scFormAhead.nd
    refine ⟨_, C8.pss_cut (ps_if (pt_cmpR op_eq (pe_callB cr_lenS (by rfl) ml PySem.boot_len (pa_cons (pv 0) pa_nil)) pe_int (nomark _))
        (pss_one (ps_setLc (i := 2) (own := [("one", 3)]) (g := gName 3) (tt := tYes) rfl nd rfl rfl (by rfl) (pi_tup (pe_ix (r := rIxT K) ix_tup (pv 0) pe_int (fun _ _ => rfl))) (blkOk_by (N := nFormAhead) (sc := defScope sFormAhead) (by decide +kernel)) (fun _ _ _ _ _ => pg_name (i := 3) nd rfl (.inl rfl)) (fun _ _ _ _ _ => pts_nil)
          (fun _ _ _ _ _ => pe_op op_mul (pe_ix (r := rIxT K) ix_tup (pv 1) pe_int (fun _ _ => rfl)) (pv 3))))
        (pss_one (ps_if (pt_cmpR op_eq (pe_callB cr_lenS (by rfl) ml PySem.boot_len (pa_cons (pv 0) pa_nil)) pe_int (nomark _))
          (pss_cons (ps_asg (pv 1) (pg_tup rfl (pgs_cons (pg_name (i := 4) nd rfl (.inl rfl)) (pgs_cons (pg_name (i := 5) nd rfl (.inr rfl)) (pgs_cons (pg_name (i := 6) nd rfl (.inr rfl)) pgs_nil)))))
          (pss_one (ps_setLc (i := 2) (own := [("one", 3), ("two", 7)]) (g := gTup K 2 (gCons (gName 3) (gCons (gName 7) gNil))) (tt := tYes) rfl nd rfl rfl (by rfl) (RZ.pi_zipA (by rfl) mz (pa_cons (pe_ix (r := rIxT K) ix_tup (pv 0) pe_int (fun _ _ => rfl)) (pa_cons (pe_ix (r := rIxT K) ix_tup (pv 0) pe_int (fun _ _ => rfl)) pa_nil))) (blkOk_by (N := nFormAhead) (sc := defScope sFormAhead) (by decide +kernel)) (fun _ _ _ _ _ => pg_tup rfl (pgs_cons (pg_name (i := 3) nd rfl (.inl rfl)) (pgs_cons (pg_name (i := 7) nd rfl (.inl rfl)) pgs_nil))) (fun _ _ _ _ _ => pts_nil)
            (fun _ _ _ _ _ => pe_op op_add (pe_op op_mul (pv 5) (pv 3)) (pe_op op_mul (pv 6) (pv 7))))))
          (pss_cons (ps_asg (pv 1) (pg_tup rfl (pgs_cons (pg_name (i := 4) nd rfl (.inl rfl)) (pgs_cons (pg_name (i := 5) nd rfl (.inr rfl)) (pgs_cons (pg_name (i := 6) nd rfl (.inr rfl)) (pgs_cons (pg_name (i := 8) nd rfl (.inr rfl)) pgs_nil))))))
          (pss_one (ps_setLc (i := 2) (own := [("one", 3), ("two", 7), ("three", 9)]) (g := gTup K 3 (gCons (gName 3) (gCons (gName 7) (gCons (gName 9) gNil)))) (tt := tYes) rfl nd rfl rfl (by rfl) (pi_zipT3 (by rfl) mz (pa_cons (pe_ix (r := rIxT K) ix_tup (pv 0) pe_int (fun _ _ => rfl)) (pa_cons (pe_ix (r := rIxT K) ix_tup (pv 0) pe_int (fun _ _ => rfl)) (pa_cons (pe_ix (r := rIxT K) ix_tup (pv 0) pe_int (fun _ _ => rfl)) pa_nil)))) (blkOk_by (N := nFormAhead) (sc := defScope sFormAhead) (by decide +kernel)) (fun _ _ _ _ _ => pg_tup rfl (pgs_cons (pg_name (i := 3) nd rfl (.inl rfl)) (pgs_cons (pg_name (i := 7) nd rfl (.inl rfl)) (pgs_cons (pg_name (i := 9) nd rfl (.inl rfl)) pgs_nil)))) (fun _ _ _ _ _ => pts_nil)
            (fun _ _ _ _ _ => pe_op op_add (pe_op op_add (pe_op op_mul (pv 5) (pv 3)) (pe_op op_mul (pv 6) (pv 7))) (pe_op op_mul (pv 8) (pv 9)))))))))
      (pss_cons (ps_augS (pv 2) pe_int get_list (pe_ix (r := rIxT K) ix_tup (pv 1) pe_int (fun _ _ => rfl)) ip_add set_list)
      (pss_one (ps_ret (pe_tupleOf (by rfl) mt (pv 2))))), ?_⟩
    obtain ⟨a, xs, rfl, ea, qa⟩ := tup_at hv
    obtain ⟨b, rfl, eb⟩ := row_ints hu'
    have lx : xs.length = rows.length := by rw [dq_len qa, List.length_map]
    refine ⟨fun σ H' => ∃ D o3 o4 o5 o6 o7 o8 o9 m l, σ = [some (.ref a), some (.ref b), some (.ref D), o3, o4, o5, o6, o7, o8, o9] ∧ H D = none ∧ MadeTo H D ((m :: l).map V.int) H' ∧ ∃ c ks, f = c :: ks ∧ ledF f rows = (m + c) :: l, ?_, ?_⟩
    · refine ⟨_, rfl, a, _, rfl, .inr (SqT.of ea), rfl, _, rfl, ?_⟩
      match rows, f, lf, r1, r3, rl, sm, qa, eb with
      | [ra], [c, k1], _, _, _, rl, sm, qa, eb =>
        match xs, qa with
        | [x1], .cons q1 .nil =>
        obtain ⟨a1, rfl, e1⟩ := row_ints q1
        have l1 := rl ra (by simp)
        refine iteYes (decide_eq_true rfl) ?_
        refine ⟨_, rfl, a, _, 0, .ref a1, rfl, rfl, SqT.of ea, atI_nat (j := 0) rfl, a1, rfl, ⟨_, SqT.of e1⟩, fun D nD => ?_⟩
        refine lc_tup (K := K) (a := a1) (xs := ra.map V.int) (fun i H2 => MadeTo H D (((ra.map (k1 * ·)).take i).map V.int) H2) ⟨same_new nD, upd_same⟩ (fun i H2 _ M => SqT.of (M.1 _ _ e1)) ?_ ?_
        · rintro i y H2 hy M
          obtain ⟨n, en, rfl⟩ := int_get hy
          refine ⟨rfl, _, rfl, b, _, 1, .int k1, rfl, rfl, SqT.of (M.1 _ _ eb), atI_nat (j := 1) rfl, _, rfl, _, _, rfl, rfl, .inl (smI_mul (sm k1 (by simp))), ints_turn nD M (by rw [List.getElem?_map, en]; rfl) (by rw [List.length_map, l1]; simp)⟩
        · rintro H2 M
          rw [List.length_map, List.take_of_length_le (by rw [List.length_map]; exact Nat.le_refl _)] at M
          match ra, l1, M with
          | [p, q], _, M => exact ⟨D, _, _, _, _, _, _, _, k1 * p, [k1 * q], rfl, nD, M, c, [k1], rfl, by
              show [c + k1 * p, 0 + k1 * q] = [k1 * p + c, k1 * q]
              rw [Int.add_comm, Int.zero_add]⟩
      | [ra, rb], [c, k1, k2], _, _, _, rl, sm, qa, eb =>
        match xs, qa with
        | [x1, x2], .cons q1 (.cons q2 .nil) =>
        obtain ⟨a1, rfl, e1⟩ := row_ints q1
        obtain ⟨a2, rfl, e2⟩ := row_ints q2
        have l1 := rl ra (by simp)
        have l2 := rl rb (by simp)
        refine iteNo (decide_eq_false (fun z => by injection z with z; simp at z)) ?_
        refine ⟨_, rfl, a, _, rfl, .inr (SqT.of ea), rfl, _, rfl, ?_⟩
        refine iteYes (decide_eq_true rfl) ?_
        refine ⟨_, rfl, b, _, rfl, SqT.of eb, rfl, _, _, rfl, _, _, rfl, _, _, rfl, rfl, ?_⟩
        refine ⟨_, rfl, a, _, 0, .ref a1, rfl, rfl, SqT.of ea, atI_nat (j := 0) rfl, _, rfl, a, _, 1, .ref a2, rfl, rfl, SqT.of ea, atI_nat (j := 1) rfl, a1, a2, _, _, rfl, .inr ⟨SqT.of e1, SqT.of e2, fun D nD => ?_⟩⟩
        match ra, rb, l1, l2, e1, e2 with
        | [p1, p2, p3], [q1, q2, q3], _, _, e1, e2 =>
        refine lc_it (walk_zipT (K := K) (a := a1) (b := a2) (n := 3) rfl) (fun i H2 => MadeTo H D ((([k1 * p1 + k2 * q1, k1 * p2 + k2 * q2, k1 * p3 + k2 * q3] : List Int).take i).map V.int) H2) ⟨same_new nD, upd_same⟩ (fun i H2 _ M => ⟨SqT.of (M.1 _ _ e1), SqT.of (M.1 _ _ e2)⟩) ?_ ?_
        · rintro i _ H2 _ hi M ⟨T, y, z, rfl, nT, rfl, ey, ez⟩
          obtain ⟨n1, en1, rfl⟩ := int_get (ns := [p1, p2, p3]) ey
          obtain ⟨n2, en2, rfl⟩ := int_get (ns := [q1, q2, q3]) ez
          have S2 := same_new (o := .tup [.int n1, .int n2]) nT
          refine ⟨T, [.int n1, .int n2], rfl, SqT.of upd_same, rfl, .int n1, [.int n2], rfl, .int n2, [], rfl, rfl, rfl, ?_⟩
          refine ⟨_, rfl, _, rfl, _, _, rfl, rfl, .inl (smI_mul (sm k1 (by simp))), _, rfl, _, rfl, _, _, rfl, rfl, .inl (smI_mul (sm k2 (by simp))), _, _, rfl, rfl, ints_turn2 nD M S2 ?_ (by simp)⟩
          match i, hi, en1, en2 with
          | 0, _, en1, en2 => cases en1; cases en2; rfl
          | 1, _, en1, en2 => cases en1; cases en2; rfl
          | 2, _, en1, en2 => cases en1; cases en2; rfl
        · rintro H2 M
          exact ⟨D, _, _, _, _, _, _, _, k1 * p1 + k2 * q1, [k1 * p2 + k2 * q2, k1 * p3 + k2 * q3], rfl, nD, M, c, [k1, k2], rfl, by
            show [c + k1 * p1 + k2 * q1, 0 + k1 * p2 + k2 * q2, 0 + k1 * p3 + k2 * q3] = [k1 * p1 + k2 * q1 + c, k1 * p2 + k2 * q2, k1 * p3 + k2 * q3]
            rw [Int.zero_add, Int.zero_add, show c + k1 * p1 + k2 * q1 = k1 * p1 + k2 * q1 + c by omega]⟩
      | [ra, rb, rc], [c, k1, k2, k3], _, _, _, rl, sm, qa, eb =>
        match xs, qa with
        | [x1, x2, x3], .cons q1 (.cons q2 (.cons q3 .nil)) =>
        obtain ⟨a1, rfl, e1⟩ := row_ints q1
        obtain ⟨a2, rfl, e2⟩ := row_ints q2
        obtain ⟨a3, rfl, e3⟩ := row_ints q3
        have l1 := rl ra (by simp)
        have l2 := rl rb (by simp)
        have l3 := rl rc (by simp)
        refine iteNo (decide_eq_false (fun z => by injection z with z; simp at z)) ?_
        refine ⟨_, rfl, a, _, rfl, .inr (SqT.of ea), rfl, _, rfl, ?_⟩
        refine iteNo (decide_eq_false (fun z => by injection z with z; simp at z)) ?_
        refine ⟨_, rfl, b, _, rfl, SqT.of eb, rfl, _, _, rfl, _, _, rfl, _, _, rfl, _, _, rfl, rfl, ?_⟩
        refine ⟨_, rfl, a, _, 0, .ref a1, rfl, rfl, SqT.of ea, atI_nat (j := 0) rfl, _, rfl, a, _, 1, .ref a2, rfl, rfl, SqT.of ea, atI_nat (j := 1) rfl, _, rfl, a, _, 2, .ref a3, rfl, rfl, SqT.of ea, atI_nat (j := 2) rfl, a1, a2, a3, _, _, _, rfl, SqT.of e1, SqT.of e2, SqT.of e3, fun D nD => ?_⟩
        match ra, rb, rc, l1, l2, l3, e1, e2, e3 with
        | [p1, p2, p3, p4], [q1, q2, q3, q4], [t1, t2, t3, t4], _, _, _, e1, e2, e3 =>
        refine lc_it (walk_zipT3 (K := K) (a := a1) (b := a2) (c := a3) (n := 4) rfl rfl rfl) (fun i H2 => MadeTo H D ((([k1 * p1 + k2 * q1 + k3 * t1, k1 * p2 + k2 * q2 + k3 * t2, k1 * p3 + k2 * q3 + k3 * t3, k1 * p4 + k2 * q4 + k3 * t4] : List Int).take i).map V.int) H2) ⟨same_new nD, upd_same⟩ (fun i H2 _ M => ⟨SqT.of (M.1 _ _ e1), SqT.of (M.1 _ _ e2), SqT.of (M.1 _ _ e3)⟩) ?_ ?_
        · rintro i _ H2 _ hi M ⟨T, y, z, u, rfl, nT, rfl, ey, ez, eu⟩
          obtain ⟨n1, en1, rfl⟩ := int_get (ns := [p1, p2, p3, p4]) ey
          obtain ⟨n2, en2, rfl⟩ := int_get (ns := [q1, q2, q3, q4]) ez
          obtain ⟨n3, en3, rfl⟩ := int_get (ns := [t1, t2, t3, t4]) eu
          have S2 := same_new (o := .tup [.int n1, .int n2, .int n3]) nT
          refine ⟨T, [.int n1, .int n2, .int n3], rfl, SqT.of upd_same, rfl, .int n1, [.int n2, .int n3], rfl, .int n2, [.int n3], rfl, .int n3, [], rfl, rfl, rfl, ?_⟩
          refine ⟨_, rfl, _, rfl, _, _, rfl, rfl, .inl (smI_mul (sm k1 (by simp))), _, rfl, _, rfl, _, _, rfl, rfl, .inl (smI_mul (sm k2 (by simp))), _, _, rfl, rfl, _, rfl, _, rfl, _, _, rfl, rfl, .inl (smI_mul (sm k3 (by simp))), _, _, rfl, rfl, ints_turn2 nD M S2 ?_ (by simp)⟩
          match i, hi, en1, en2, en3 with
          | 0, _, en1, en2, en3 => cases en1; cases en2; cases en3; rfl
          | 1, _, en1, en2, en3 => cases en1; cases en2; cases en3; rfl
          | 2, _, en1, en2, en3 => cases en1; cases en2; cases en3; rfl
          | 3, _, en1, en2, en3 => cases en1; cases en2; cases en3; rfl
        · rintro H2 M
          exact ⟨D, _, _, _, _, _, _, _, k1 * p1 + k2 * q1 + k3 * t1, [k1 * p2 + k2 * q2 + k3 * t2, k1 * p3 + k2 * q3 + k3 * t3, k1 * p4 + k2 * q4 + k3 * t4], rfl, nD, M, c, [k1, k2, k3], rfl, by
            show [c + k1 * p1 + k2 * q1 + k3 * t1, 0 + k1 * p2 + k2 * q2 + k3 * t2, 0 + k1 * p3 + k2 * q3 + k3 * t3, 0 + k1 * p4 + k2 * q4 + k3 * t4] = _
            rw [Int.zero_add, Int.zero_add, Int.zero_add, show c + k1 * p1 + k2 * q1 + k3 * t1 = k1 * p1 + k2 * q1 + k3 * t1 + c by omega]⟩
    rintro σ H' ⟨D, o3, o4, o5, o6, o7, o8, o9, m, l, rfl, nD, M, c, ks, rfl, el⟩
    refine ⟨_, rfl, D, _, 0, .int m, rfl, rfl, SqL.of M.2, atI_nat (j := 0) rfl, ?_⟩
    refine ⟨_, rfl, b, _, 0, .int c, rfl, rfl, SqT.of (M.1 _ _ eb), atI_nat (j := 0) rfl, m, c, rfl, rfl, D, _, 0, 0, rfl, rfl, M.2, (by unfold ixN; rw [if_pos (Int.le_refl 0), if_pos (by rw [List.length_map, List.length_cons]; omega)]; rfl), ?_⟩
    have S1 : Same H (upd H' D (.lst ((V.int m :: l.map V.int).set 0 (.int (m + c))))) := fun x o e => by
      rw [upd_ne (ne_of_none e nD)]
      exact M.1 x o e
    refine ⟨_, rfl, .inl ⟨D, _, rfl, SqL.of upd_same, fun e ne => ?_⟩⟩
    refine k _ _ (S1.trans (same_new ne)) ?_
    rw [el]
    exact .tup upd_same (.cons (.int _) (ints_dq _))
end
end KL
set_option Elab.async false
set_option linter.all false
set_option maxRecDepth 100000
set_option maxHeartbeats 16000000
namespace KL
open PySem L2 PySem.KX PySem.Spec PyProof.Rows
/-! ### led back; a way's end -/
def spLedBack (C : Addr) : Sp := fun vs H Q _ => ∃ (x : Addr) (p : Int) (d : Str) (u : V) (m : HM) (r : Row) (rows : List (List Int)) (f : List Int), vs = [.ref x, .int p, .str d, u] ∧ HsAt C H x m ∧ m.arrowAt p d = some r ∧ (∃ t ms, r.2.2 = [t, tupsD rows, ms]) ∧
  Dq H u (.tuple (f.map .int)) ∧ f.length = rows.length + 1 ∧ 1 ≤ rows.length ∧ rows.length ≤ 3 ∧ (∀ r ∈ rows, r.length = rows.length + 1) ∧ (∀ i ∈ f, smI i) ∧
  ∀ H' v', Same H H' → Dq H' v' (.tuple ((ledF f rows).map .int)) → Q v' H'
/-- no arrow takes the deed at this index -/
structure TxtNA (K : PySem.W.Frag) (mg : Str → Option Value) (CN IN : Addr) : Prop where
  ei : EI K CN IN "index" "NoArrow.__init__"
  ty : PySem.W.typeIn K (.ref CN) = some (.type "type")
  m : mg "NoArrow" = some (.ref CN)
/-- the length that a word's arrows have -/
def HM.taken (m : HM) (y : Str) : Nat := (m.along 0 (wordOf y)).length
theorem taken_le (m : HM) (y : Str) : m.taken y ≤ y.length := by
  have := along_len m (wordOf y) 0
  rw [wordOf_len] at this
  exact this
def spCheckWay (C CN : Addr) : Sp := fun vs H Q E => ∃ (x : Addr) (y : Str) (m : HM), vs = [.ref x, .str y] ∧ HsAt C H x m ∧ RightH m ∧ y.cps.size ≤ 100 ∧ (∀ H', Same H H' → ¬ m.taken y < y.length → Q .non H') ∧
  ∀ H' dd, Same H H' → m.taken y < y.length → H' dd = some (.xd [("index", .int (m.taken y))]) → E (.ref CN) (some dd) H'
def spEndOf (C CN : Addr) : Sp := fun vs H Q E => ∃ (x : Addr) (y : Str) (m : HM), vs = [.ref x, .str y] ∧ HsAt C H x m ∧ RightH m ∧ y.cps.size ≤ 100 ∧ (∀ H', Same H H' → ¬ m.taken y < y.length → Q (.int (endP 0 (m.along 0 (wordOf y)))) H') ∧
  ∀ H' dd, Same H H' → m.taken y < y.length → H' dd = some (.xd [("index", .int (m.taken y))]) → E (.ref CN) (some dd) H'
def spNumbersBehind (C CN : Addr) : Sp := fun vs H Q E => ∃ (x : Addr) (y : Str) (m : HM), vs = [.ref x, .str y] ∧ HsAt C H x m ∧ RightH m ∧ SmA m ∧ y.cps.size ≤ 100 ∧
  (∀ H' v, Same H H' → ¬ m.taken y < y.length → Dq H' v (.tuple ((valsBehind m.start (m.along 0 (wordOf y))).map .int)) → Q v H') ∧
  ∀ H' dd, Same H H' → m.taken y < y.length → H' dd = some (.xd [("index", .int (m.taken y))]) → E (.ref CN) (some dd) H'
section
variable {P : Program} {w : World} {K : PySem.W.Frag} {mg : Str → Option Value} {base : Heap} {C CN IN : Addr}
theorem scLedBack : FnScope ["house", "place", "deed", "form"] ["house", "place", "deed", "form"] (defScope sLedBack) := ⟨rfl, rfl, rfl, by decide +kernel, rfl, by decide +kernel, by decide +kernel⟩
theorem ok_ledBack {f g1 g2 : Addr} {fd d1 d2 : FuncData} (F : Fun K "led_back" "led_back" sLedBack f fd) (G1 : FnOk P w K mg base CX0 1 g1 d1 ["house", "place", "deed"] (spArrowAt C)) (c1 : Cal K mg "arrow_at" g1 d1 ["house", "place", "deed"])
    (G2 : FnOk P w K mg base CX0 1 g2 d2 ["forms", "form"] spFormAhead) (c2 : Cal K mg "form_ahead" g2 d2 ["forms", "form"]) : FnOk P w K mg base CX0 2 f fd ["house", "place", "deed", "form"] (spLedBack C) := by
  refine F.ok scLedBack (fun vs H Q E h => ?_) (fun cdv A outer s H vs Q E hr h => ?_)
  · obtain ⟨x, p, d, u, m, r, rows, f, rfl, _⟩ := h
    rfl
  · obtain ⟨x, p, d, u, m, r, rows, f, rfl, hx, ea, ⟨t, ms, er⟩, hu', lf, r1, r3, rl, sm, k⟩ := h
    refine ⟨_, pss_one (ps_ret (pe_call G2 hr (by rfl) c2.m c2.k c2.b .nil pass0 (pa_cons (pe_ix (r := rIxT K) ix_tup (pe_call G1 hr (by rfl) c1.m c1.k c1.b .nil pass0 (pa_cons (pv 0) (pa_cons (pv 1) (pa_cons (pv 2) pa_nil)))) pe_int (fun _ _ => rfl)) (pa_cons (pv 3) pa_nil)))), ?_⟩
    refine ⟨_, rfl, _, rfl, _, rfl, H, x, p, d, m, rfl, Same.refl _, hx, fun no => (by rw [ea] at no; cases no), fun r' v ho hd => ?_⟩
    rw [ea] at ho
    cases ho
    obtain ⟨b, zs, rfl, eb, qb⟩ := row_at hd
    rw [er] at qb
    cases qb with | cons g0 qb =>
    cases qb with | @cons u3 _ _ _ g3 qb =>
    exact ⟨b, _, 3, u3, rfl, rfl, SqT.of eb, atI_nat (j := 3) rfl, _, rfl, u3, u, rows, f, rfl, g3, hu', lf, r1, r3, rl, sm, k⟩
theorem scCheckWay : FnScope ["house", "way", "taken"] ["house", "way"] (defScope sCheckWay) := ⟨rfl, rfl, rfl, by decide +kernel, rfl, by decide +kernel, by decide +kernel⟩
theorem ok_checkWay {f g : Addr} {fd gd : FuncData} (F : Fun K "check_way" "check_way" sCheckWay f fd) (TE : TxtNA K mg CN IN) (ml : mg "len" = none) (G : FnOk P w K mg base CX0 2 g gd ["house", "place", "way"] (spAlong C)) (c : Cal K mg "arrows_along" g gd ["house", "place", "way"]) : FnOk P w K mg base (L2.CX P w) 3 f fd ["house", "way"] (spCheckWay C CN) := by
  refine fnX F scCheckWay (fun vs H Q E h => ?_) (fun cdv A outer s H vs Q E hr h tk po => ?_)
  · obtain ⟨x, y, m, rfl, _⟩ := h
    rfl
  · obtain ⟨x, y, m, rfl, hx, hR, hy, k, kE⟩ := h
    have hr1 : Room 1 _ := hr.mono (by decide)
    have nd := scCheckWay.nd
    refine ⟨_, pss_cons (ps_set (i := 2) nd rfl (.inl rfl) (pe_callB cr_lenS (by rfl) ml PySem.boot_len (pa_cons (pe_call G hr (by rfl) c.m c.k c.b .nil pass0 (pa_cons (pv 0) (pa_cons pe_int (pa_cons (pv 1) pa_nil)))) pa_nil)))
      (pss_one (ps_if (pt_cmpR op_lt (pv 2) (pe_callB call_len_str (by rfl) ml PySem.boot_len (pa_cons (pv 1) pa_nil)) (nomark _)) (pss_one (ps_raise rfl tk (pmk_ex TE.ei TE.ty TE.m hr1 (by rfl) (pa_cons (pv 2) pa_nil)))) pss_nil)), ?_⟩
    refine ⟨_, rfl, _, rfl, x, 0, y, m, rfl, hx, hR, hy, fun H1 a us S1 na ha q => ?_⟩
    have lu : us.length = m.taken y := by rw [dq_len q, List.length_map]; rfl
    refine ⟨a, us, rfl, .inl (SqL.of ha), ?_⟩
    refine ⟨_, rfl, _, rfl, y, rfl, by rw [sizeLine_eq]; show y.cps.size ≤ _; omega, _, _, rfl, rfl, _, rfl, ?_⟩
    by_cases hl : m.taken y < y.length
    · refine iteYes (by rw [lu]; exact decide_eq_true (by omega)) ?_
      refine ⟨_, rfl, _, rfl, fun dd nd' => ?_⟩
      refine kE _ dd (S1.trans (same_new nd')) hl ?_
      rw [← lu]
      exact upd_same
    · refine iteNo (by rw [lu]; exact decide_eq_false (by omega)) ?_
      exact k H1 S1 hl
theorem scEndOf : FnScope ["house", "way"] ["house", "way"] (defScope sEndOf) := ⟨rfl, rfl, rfl, by decide +kernel, rfl, by decide +kernel, by decide +kernel⟩
theorem ok_endOf {f g1 g2 : Addr} {fd d1 d2 : FuncData} (F : Fun K "end_of" "end_of" sEndOf f fd) (G1 : FnOk P w K mg base (L2.CX P w) 3 g1 d1 ["house", "way"] (spCheckWay C CN)) (c1 : Cal K mg "check_way" g1 d1 ["house", "way"])
    (G2 : FnOk P w K mg base CX0 3 g2 d2 ["house", "place", "way"] (spEndFrom C)) (c2 : Cal K mg "end_from" g2 d2 ["house", "place", "way"]) : FnOk P w K mg base (L2.CX P w) 4 f fd ["house", "way"] (spEndOf C CN) := by
  refine fnX F scEndOf (fun vs H Q E h => ?_) (fun cdv A outer s H vs Q E hr h tk po => ?_)
  · obtain ⟨x, y, m, rfl, _⟩ := h
    rfl
  · obtain ⟨x, y, m, rfl, hx, hR, hy, k, kE⟩ := h
    have ps := passes_call tk (E := E) fun _ _ _ _ z => z
    refine ⟨_, pss_cons (ps_expr (pe_call G1 hr (by rfl) c1.m c1.k c1.b .nil ps (pa_cons (pv 0) (pa_cons (pv 1) pa_nil))))
      (pss_one (ps_ret (pe_call G2 hr (by rfl) c2.m c2.k c2.b .nil pass0 (pa_cons (pv 0) (pa_cons pe_int (pa_cons (pv 1) pa_nil)))))), ?_⟩
    refine ⟨_, rfl, _, rfl, x, y, m, rfl, hx, hR, hy, fun H1 S1 hl => ?_, kE⟩
    exact ⟨_, rfl, _, rfl, x, 0, y, m, rfl, hx.same S1, hR, hy, fun H2 S2 => k H2 (S1.trans S2) hl⟩
theorem scNumbersBehind : FnScope ["house", "way"] ["house", "way"] (defScope sNumbersBehind) := ⟨rfl, rfl, rfl, by decide +kernel, rfl, by decide +kernel, by decide +kernel⟩
theorem ok_numbersBehind {f g1 g2 : Addr} {fd d1 d2 : FuncData} (F : Fun K "numbers_behind" "numbers_behind" sNumbersBehind f fd) (T : TxtH K C) (G1 : FnOk P w K mg base (L2.CX P w) 3 g1 d1 ["house", "way"] (spCheckWay C CN)) (c1 : Cal K mg "check_way" g1 d1 ["house", "way"])
    (G2 : FnOk P w K mg base CX0 3 g2 d2 ["house", "place", "numbers", "way"] (spNumbersFrom C)) (c2 : Cal K mg "numbers_from" g2 d2 ["house", "place", "numbers", "way"]) : FnOk P w K mg base (L2.CX P w) 4 f fd ["house", "way"] (spNumbersBehind C CN) := by
  refine fnX F scNumbersBehind (fun vs H Q E h => ?_) (fun cdv A outer s H vs Q E hr h tk po => ?_)
  · obtain ⟨x, y, m, rfl, _⟩ := h
    rfl
  · obtain ⟨x, y, m, rfl, hx, hR, hS, hy, k, kE⟩ := h
    have ps := passes_call tk (E := E) fun _ _ _ _ z => z
    refine ⟨_, pss_cons (ps_expr (pe_call G1 hr (by rfl) c1.m c1.k c1.b .nil ps (pa_cons (pv 0) (pa_cons (pv 1) pa_nil))))
      (pss_one (ps_ret (pe_call G2 hr (by rfl) c2.m c2.k c2.b .nil pass0 (pa_cons (pv 0) (pa_cons pe_int (pa_cons (pe_fld (pv 0) (by rfl)) (pa_cons (pv 1) pa_nil))))))), ?_⟩
    refine ⟨_, rfl, _, rfl, x, y, m, rfl, hx, hR, hy, fun H1 S1 hl => ?_, kE⟩
    have hx1 := hx.same S1
    obtain ⟨dx, fs, v1, v2, v4, v6, v7, v8, ex, hf, q1, q2, q4, q6, q7, q8⟩ := id hx1
    obtain ⟨f0, f1, f2, f3, f4, f5, f6, f7, f8, fnm⟩ := hf
    exact ⟨_, rfl, _, rfl, x, C, dx, _, _, rfl, ex, T.c, T.start, f2, _, rfl, x, 0, v2, y, m.start, m, rfl, hx1, hR, hS, q2, rfl, hy, fun H2 v S2 hd => k H2 v (S1.trans S2) hl hd⟩
end
end KL
set_option Elab.async false
set_option linter.all false
set_option maxRecDepth 100000
set_option maxHeartbeats 4000000
namespace KL
open PySem L2 PySem.Spec PyProof.Rows
/-! ### xs.extend(t), t a tuple -/
theorem ext_tup (l : Addr) (us : Array Value) (n : Nat) (b : Addr) (ws : Array Value) (m : Nat) (dd : Option Addr) (sl : Array (Option Value)) (c0 : ¬(!us.isEmpty && Builtin.List.listTooLong (us.size + ws.size)) = true) (c1 : us.size ≤ sizeLine) (c2 : us.size + ws.size ≤ sizeLine + 1) :
    Meets (Builtin.«list.extend» ⟨[.ref l, .ref b], []⟩) (fun _ R s => s.heap.get? l = some { cls := .type "list", dict := none, data := .seq us n, slots := #[] } ∧ s.heap.get? b = some ⟨.type "tuple", dd, .seq ws m, sl⟩ ∧
      R (.ok (.ret .none)) { s with heap := s.heap.update l (Obj.mapSeq fun x => x ++ ws), toks := s.toks }) :=
  .of_wp fun prog w A R s hh => by
    obtain ⟨hp, g, d, tk, os⟩ := s
    obtain ⟨hl, hb, hh⟩ := hh
    have f3 := AutoSeq1.sub_list_list
    have f4 := AutoSeq1.sub_tuple_list
    have f2 := AutoSeq1.sub_tuple_tuple
    have f5 := AutoSeq1.sub_list_tuple
    have z : (us ++ ws).size ≤ sizeLine + 1 := by
      rw [Array.size_append]
      exact c2
    wp_walk using (wpAny_updateSeq hl rfl (hz := c1) (_hz' := z)), AutoSeq1.wpAny_loadPart' hl, AutoSeq1.wpAny_loadPart' hb
    exact ⟨_, rfl, hh⟩
def rExtT (K : PySem.W.Frag) : V → List V → Hp → VK → Prop := fun x vs H Q => ∃ l b xs zs, x = .ref l ∧ vs = [.ref b] ∧ H l = some (.lst xs) ∧ SqT K H b zs ∧ xs.length + zs.length ≤ sizeLine ∧ Q .non (upd H l (.lst (xs ++ zs)))
theorem mt_extT {X : Cx} : MtM X "list.extend" (rExtT X.K) := by
  intro pins s σ H x vs v us Q I rx rv h
  obtain ⟨l, b, xs, zs, rfl, rfl, hH, hB, hz, q⟩ := h
  cases rx
  obtain ⟨u, rfl, ru⟩ := rv.one
  cases ru
  obtain ⟨z, its, n, r, hl, e⟩ := I.lstM hH
  obtain ⟨its2, r2, ⟨⟨cls, dd, data, sl⟩, ho, hc, m, hd⟩, hs⟩ := I.tuple hB
  simp only at hc hd
  subst hc hd
  have s1 : its.toArray.size = xs.length := by rw [List.size_toArray, r.length]
  have s2 : its2.toArray.size = zs.length := by rw [List.size_toArray, r2.length]
  have hsz : its.toArray.size + its2.toArray.size ≤ sizeLine := by omega
  have hlong : ¬ (!its.toArray.isEmpty && Builtin.List.listTooLong (its.toArray.size + its2.toArray.size)) = true := by
    rw [notLongL hsz, Bool.and_false]
    exact Bool.false_ne_true
  refine call_meets F.slot_list_extend ⟨_, e, rfl⟩ F.entry_list_extend (F.args_list_extend_2 _ _) (ext_tup l its.toArray n b its2.toArray m dd sl hlong (by omega) (by omega)) ⟨e, ho, ?_⟩
  refine ⟨.non, _, I.lset (its' := its ++ its2) hH e (by simp) (r.append r2) ?_, rfl, q⟩
  rw [List.length_append]
  exact hz
/-! ### dict(xs), xs a list of pairs whose keys are tuples of ints and texts -/
def mergeT (kvs more : List (List Key × V)) : List (List Key × V) := more.foldl (fun acc kv => putK acc kv.1 kv.2) kvs
def rDictT (K : PySem.W.Frag) : List V → Hp → VK → Prop := fun xs H Q => ∃ (a : Addr) (ps : List Addr) (kvs : List (List Key × V)), xs = [.ref a] ∧ SqL K H a (ps.map V.ref) ∧
  Paired (fun p kv => ∃ b, SqT K H p [.ref b, kv.2] ∧ H b = some (.tup (kv.1.map kV))) ps kvs ∧ ∀ p, H p = none → Q (.ref p) (upd H p (.dT (mergeT [] kvs)))
section
variable {X : Cx}
theorem pairs_ofT {pins : List (Addr × Obj)} {σ : L2.St} {H : Hp} {s : Shared} (I : Inv X pins σ H s) : ∀ {ps : List Addr} {kvs : List (List Key × V)}, Paired (fun p kv => ∃ b, SqT X.K H p [.ref b, kv.2] ∧ H b = some (.tup (kv.1.map kV))) ps kvs →
    ∃ xs : List (List Key × Addr × Value), KT H kvs xs ∧ xs.length = ps.length ∧ ∀ (j : Nat) (q : List Key × Addr × Value), xs[j]? = some q → ∃ p, ps[j]? = some p ∧ IsTup s.heap p #[.ref q.2.1, q.2.2] ∧ (tupleKind (mixKind X.prog X.w)).is s.heap q.1 q.2.1
  | _, _, .nil => ⟨[], .nil, rfl, fun j q e => by simp at e⟩
  | _, _, .cons (a := p) (b := kv) h t => by
    obtain ⟨xs, r, hl, hp⟩ := pairs_ofT I t
    obtain ⟨b, h, hb⟩ := h
    obtain ⟨its, rv, ht, _⟩ := I.tuple h
    obtain ⟨u, y, ei, ru, ry⟩ := vals2 rv
    subst ei
    cases (show u = Value.ref b from ru)
    refine ⟨(kv.1, b, y) :: xs, .cons ⟨rfl, hb, ry⟩ r, by rw [List.length_cons, List.length_cons, hl], fun j q e => ?_⟩
    cases j with
    | zero =>
      have e' : (kv.1, b, y) = q := Option.some.inj e
      subst e'
      exact ⟨p, rfl, ht, key_of I.hok hb⟩
    | succ j =>
      obtain ⟨p', e1, e2, e3⟩ := hp j q (by simpa using e)
      exact ⟨p', by simpa using e1, e2, e3⟩
theorem merge_keyed {H : Hp} : ∀ {kvs : List (List Key × V)} {xs : List (List Key × Addr × Value)} {acc : List (List Key × V)} {ys : List (List Key × Addr × Value)}, KT H kvs xs → KT H acc ys → KT H (mergeT acc kvs) (storedAllH ys xs)
  | _, _, _, _, .nil, r => r
  | _, _, _, _, .cons (a := kv) (b := x) h t, r => by
    obtain ⟨h1, h2, h3⟩ := h
    have q := r.put kv.1 h2 h3
    have m := merge_keyed t q
    show KT H (mergeT (putK _ kv.1 kv.2) _) (storedAllH (storedH _ x.1 x.2.1 x.2.2) _)
    rw [← h1]
    exact m
theorem merge_len : ∀ (kvs acc : List (List Key × V)), (mergeT acc kvs).length ≤ acc.length + kvs.length
  | [], acc => Nat.le_refl _
  | kv :: kvs, acc => by
    have h1 := merge_len kvs (putK acc kv.1 kv.2)
    have h2 := length_putK acc kv.1 kv.2
    show (mergeT (putK acc kv.1 kv.2) kvs).length ≤ _
    rw [List.length_cons]
    omega
theorem call_dictT (hc : X.calm = true) (hu : X.A.units + 64 < cLine) : CallR X (.type "dict") (rDictT X.K) := by
  intro pins s σ H xs us Q I r h
  obtain ⟨a, ps, kvs, rfl, hs, hp, q⟩ := h
  obtain ⟨its, rv, pl, hz⟩ := I.list hs
  rw [Vals.ref1 r]
  have ei := refs_at rv
  subst ei
  rw [List.length_map] at hz
  obtain ⟨prs, rel, hl, hpr⟩ := pairs_ofT I hp
  obtain ⟨o, n, ho, hcl, hd, hdat⟩ := pl
  have hm : (s.heap.objs.size == sysModules) = false := beq_eq_false_iff_ne.mpr (Nat.ne_of_gt I.big)
  have lp : (prs.map fun x => (Value.ref x.2.1, x.2.2)).length = prs.length := List.length_map _
  refine call_dict_pairsH (knd := tupleKind (mixKind X.prog X.w)) (ps := prs) (PairArg.list a (ps.map Value.ref).toArray (fun j => ps.getD j 0) (prs.map fun x => (Value.ref x.2.1, x.2.2))) (I.ok.hd hc) (show X.A.units + 1 + 1 < cLine by omega)
    ⟨⟨o, n, ho, hcl, hd, hdat⟩, ?_, fun j k v e => ?_⟩ ⟨lp.symm, fun i key v e => ?_⟩ (fun h' hk x hx => ?_) (by rw [lp, hl]; exact hz) fun h' tk hd' k => ?_
  · rw [lp, hl]
    simp
  · rw [List.getElem?_map] at e
    cases ex : prs[j]? with
    | none =>
      rw [ex] at e
      cases e
    | some x =>
      rw [ex] at e
      have e := Option.some.inj e
      obtain ⟨p, e1, e2, e3⟩ := hpr j x ex
      cases e
      refine ⟨by simp [e1], ?_⟩
      show PairAt s.heap (ps.getD j 0) _ _
      rw [List.getD_eq_getElem?_getD, e1]
      obtain ⟨o', h1, h2, m, h3⟩ := e2
      exact .inl ⟨o', h1, h2, m, h3⟩
  · have e : (prs.map fun x => (Value.ref x.2.1, x.2.2))[i]? = some (key, v) := e
    rw [List.getElem?_map] at e
    cases ex : prs[i]? with
    | none =>
      rw [ex] at e
      cases e
    | some x =>
      rw [ex] at e
      have e := Option.some.inj e
      cases e
      exact ⟨x.1, x.2.1, rfl, rfl⟩
  · obtain ⟨j, hj⟩ := List.mem_iff_getElem?.mp hx
    obtain ⟨p, e1, e2, o', its', m, h1, h2, h3, h4⟩ := hpr j x hj
    refine ⟨o', its', m, hk _ _ (Nat.ne_of_lt (Heap.lt_size h1)) (fun z => nomatch z) h1, h2, h3, h4⟩
  · have hlen : (mergeT [] kvs).length ≤ sizeLine := by
      have h1 := merge_len kvs []
      have h2 : kvs.length = prs.length := Paired.length rel
      rw [List.length_nil] at h1
      omega
    have keep : ∀ b o, s.heap.get? b = some o → h'.get? b = some o := fun b o e => k b o (fun z => nomatch z) e
    have m := merge_keyed rel (.nil : KT H [] [])
    obtain ⟨o', es, ep, d1, d2, d3, d4, _, d5⟩ := hd'
    refine ⟨.ref s.heap.objs.size, upd H s.heap.objs.size (.dT (mergeT [] kvs)), I.laid (t' := tk) keep (Nat.le_refl _) (show ObjOk X.prog X.w _ _ _ (.dT (mergeT [] kvs)) from ⟨hlen, hm, _, m.keeps fun b ys e => ?_, o', es, ep, d1, d2, d3, d4, d5⟩), rfl, q _ (I.hok.fresh (Nat.le_refl _))⟩
    rw [upd_ne (ne_of_none e (I.hok.fresh (Nat.le_refl _)))]
    exact e
end
end KL
set_option Elab.async false
set_option linter.all false
set_option maxRecDepth 100000
set_option maxHeartbeats 4000000
namespace KL
open PySem L2 PySem.Spec PyProof.Rows
/-! ### sets of ints and texts, their order too -/
theorem paired_perm {α β : Type} {R : α → β → Prop} {l l' : List α} (p : l'.Perm l) : ∀ {m : List β}, Paired R l m → ∃ m', m'.Perm m ∧ Paired R l' m' := by
  induction p with
  | nil => intro m h; exact ⟨m, .refl _, h⟩
  | cons x _ ih =>
    intro m h
    cases h with
    | cons h1 h2 =>
      obtain ⟨m', p', q'⟩ := ih h2
      exact ⟨_ :: m', p'.cons _, .cons h1 q'⟩
  | swap x y l =>
    intro m h
    cases h with
    | cons h1 h2 =>
      cases h2 with
      | cons h3 h4 => exact ⟨_ :: _ :: _, .swap _ _ _, .cons h3 (.cons h1 h4)⟩
  | trans _ _ ih1 ih2 =>
    intro m h
    obtain ⟨m', p', q'⟩ := ih2 h
    obtain ⟨m'', p'', q''⟩ := ih1 q'
    exact ⟨m'', p''.trans p', q''⟩
def KeyE (P : Program) (w : World) (e : Int × Value) (k : Key) : Prop := RelV (kV k) e.2 ∧ e.1 = (mixKind P w).hash k
/-- a set that has the keys ks, in some order -/
structure SetKs (P : Program) (w : World) (h : Heap) (a : Addr) (ks : List Key) : Prop where
  ex : ∃ o es ep t, h.get? a = some o ∧ o.ExactSet ∧ o.data = .set es ep t ∧ Paired (KeyE P w) es.toList ks ∧ es.size < scanBound ∧ t.fits es.size = true ∧ Ris t.place.toList ∧ (w.params.followText "set-order" = true ∨ t.led = true)
  nd : ks.Nodup
section
variable {P : Program} {w : World} {A : Around} {E : Value → Shared → Prop} {s : Shared} {a : Addr} {ks : List Key} {h h' : Heap}
theorem SetKs.at (R : SetKs P w h a ks) (k : ∀ o, h.get? a = some o → h'.get? a = some o) : SetKs P w h' a ks := by
  obtain ⟨⟨o, es, ep, t, ho, r⟩, nd⟩ := R
  exact ⟨⟨o, es, ep, t, k o ho, r⟩, nd⟩
theorem elems_of : ∀ {l : List (Int × Value)} {ks : List Key}, Paired (KeyE P w) l ks → ElemsOf (mixKind P w) l
  | _, _, .nil => fun e he => nomatch he
  | _, _, .cons h t => fun e he => by
    rcases List.mem_cons.mp he with z | z
    · subst z
      exact ⟨⟨_, kV_is h.1, h.2⟩, key_scan h.1⟩
    · exact elems_of t e z
theorem is_only {k j : Key} {v : Value} (r : RelV (kV j) v) : (mixKind P w).is k v = true ↔ k = j := by
  constructor
  · intro h
    exact (mixKind P w).inj v k j h (kV_is r)
  · rintro rfl
    exact kV_is r
theorem mem_is {k : Key} : ∀ {l : List (Int × Value)} {ks : List Key}, Paired (KeyE P w) l ks → (k ∈ ks ↔ ∃ e ∈ l, (mixKind P w).is k e.2 = true)
  | _, _, .nil => ⟨fun z => (nomatch z), fun ⟨_, z, _⟩ => (nomatch z)⟩
  | _, _, .cons h t => by
    rw [List.mem_cons, mem_is t]
    constructor
    · rintro (z | ⟨e, h1, h2⟩)
      · exact ⟨_, List.mem_cons_self, (is_only h.1).2 z⟩
      · exact ⟨e, List.mem_cons_of_mem _ h1, h2⟩
    · rintro ⟨e, h1, h2⟩
      rcases List.mem_cons.mp h1 with z | z
      · subst z
        exact .inl ((is_only h.1).1 h2)
      · exact .inr ⟨e, z, h2⟩
/-- what stands in the place of ks when k is put in -/
def PutIn (k : Key) (ks ks' : List Key) : Prop := (k ∈ ks ∧ ks' = ks) ∨ (k ∉ ks ∧ ks'.Perm (k :: ks))
theorem PutIn.mem {k j : Key} {ks ks' : List Key} (h : PutIn k ks ks') : j ∈ ks' ↔ j = k ∨ j ∈ ks := by
  rcases h with ⟨h1, rfl⟩ | ⟨_, h2⟩
  · exact ⟨.inr, fun z => z.elim (fun e => e ▸ h1) id⟩
  · rw [h2.mem_iff, List.mem_cons]
theorem PutIn.len {k : Key} {ks ks' : List Key} (h : PutIn k ks ks') : ks'.length ≤ ks.length + 1 := by
  rcases h with ⟨_, rfl⟩ | ⟨_, h2⟩
  · exact Nat.le_succ _
  · rw [h2.length_eq]
    exact Nat.le_refl _
/-- the entries are stored, and laid anew where the table is too full -/
theorem ks_tail {g : Bool → Sem Unit} {o : Obj} {es es1 : Array (Int × Value)} {ep : Nat} {t t2 : SetTable} {ls : List Key} {dm : Bool} {R : Option Bool → Shared → Prop}
    (hg : ∀ (b : Bool) (s₁ : Shared) (Q' : Unit → Shared → Prop), Q' () s₁ → wpAny (model P w) A (g b) Q' E s₁) (ho : s.heap.get? a = some o) (hx : o.ExactSet) (hd : o.data = .set es ep t)
    (pr : Paired (KeyE P w) es1.toList ls) (nd : ls.Nodup) (hb : es1.size < scanBound) (hf : t2.fits es1.size = true) (hr : Ris t2.place.toList) (hl : w.params.followText "set-order" = true ∨ t2.led = true)
    (hR : ∀ h' ms, Heap.SameBut a s.heap h' → SetKs P w h' a ms → ms.Perm ls → R (some true) { s with heap := h' }) :
    wpAny (model P w) A (do
        storeSet a es1 t2
        if (!dm && t2.tooFull) = true then do
            g (relayAll t2 es1 (SetTable.grown es1.size)).2.2
            storeSet a (relayAll t2 es1 (SetTable.grown es1.size)).1 (relayAll t2 es1 (SetTable.grown es1.size)).2.1
            pure (some true)
          else pure (some true)) R E s := by
  have stored := store_at (es' := es1) (t' := t2) ho hd
  have same := Heap.SameBut.update s.heap a (Obj.putSet es1 t2)
  refine wpAny_bind (wpAny_storeSet_of ho hd ?_ (fits_of_scanBound hb))
  by_cases full : (!dm && t2.tooFull) = true
  · rw [if_pos full]
    have k1 := relayAll_perm t2 es1 (SetTable.grown es1.size)
    have k2 := relayAll_fits t2 es1 (SetTable.grown es1.size)
    have k3 := relayAll_ris t2 es1 (SetTable.grown es1.size)
    have k4 := relayAll_led t2 es1 (SetTable.grown es1.size)
    revert k1 k2 k3 k4
    generalize relayAll t2 es1 (SetTable.grown es1.size) = Z
    obtain ⟨es2, t3, gv⟩ := Z
    intro k1 k2 k3 k4
    dsimp only at k1 k2 k3 k4 ⊢
    obtain ⟨ms, m1, m2⟩ := paired_perm k1 pr
    have sz : es2.size = es1.size := by rw [← Array.length_toList, k1.length_eq, Array.length_toList]
    have b2 : es2.size < scanBound := by omega
    refine wpAny_bind (hg _ _ _ (wpAny_bind (wpAny_storeSet_of stored rfl (wpAny_pure ?_) (fits_of_scanBound b2))))
    refine hR _ ms (same.trans (Heap.SameBut.update _ a _)) ⟨⟨_, es2, _, t3, store_at (es' := es2) (t' := t3) stored rfl, hx, rfl, m2, b2, k2, k3, hl.imp id fun z => ?_⟩, m1.nodup_iff.mpr nd⟩ m1
    rw [k4]
    exact z
  · rw [if_neg full]
    exact wpAny_pure (hR _ ls same ⟨⟨_, es1, _, t2, stored, hx, rfl, pr, hb, hf, hr, hl⟩, nd⟩ (.refl _))
theorem ks_put {k : Key} {u : Value} {Q : Bool → Shared → Prop} (ru : RelV (kV k) u) (R : SetKs P w s.heap a ks) (room : ks.length + 1 < scanBound)
    (hQ : ∀ h' ks' b, Heap.SameBut a s.heap h' → SetKs P w h' a ks' → PutIn k ks ks' → Q b { s with heap := h' }) : wpAny (model P w) A (setAddHashed a u ((mixKind P w).hash k)) Q E s := by
  obtain ⟨⟨o, es, ep, t, ho, hx, hd, pr, hb, hf, hr, hl⟩, nd⟩ := R
  have len : es.size = ks.length := by rw [← Array.length_toList]; exact Paired.length pr
  have isk := kV_is (P := P) (w := w) ru
  have scn := key_scan ru
  have el := elems_of pr
  unfold setAddHashed setAddHashedIn
  refine wpAny_holding (wpAny_bind (wpAny_setState_of ho hd hf ?_))
  dsimp only
  rw [byScan_of scn hb el]
  simp only [↓reduceIte]
  unfold setAddByScan
  refine wpAny_bind (wpAny_bind (wpAny_rule (wpAny_bind (wpAny_setScan_of isk ho hd hf el ?_))))
  cases hfi : List.findIdx? (fun e => (mixKind P w).is k e.2) es.toList with
  | some j =>
    dsimp only
    obtain ⟨hj, pj, _⟩ := List.findIdx?_eq_some_iff_getElem.mp hfi
    have hm : k ∈ ks := (mem_is pr).2 ⟨es.toList[j], List.getElem_mem hj, pj⟩
    exact wpAny_pure (wpAny_pure (hQ s.heap ks _ (Heap.SameBut.refl a s.heap) ⟨⟨o, es, ep, t, ho, hx, hd, pr, hb, hf, hr, hl⟩, nd⟩ (.inl ⟨hm, rfl⟩)))
  | none =>
    dsimp only
    have hm : k ∉ ks := fun z => by
      obtain ⟨e, he, q⟩ := (mem_is pr).1 z
      have c := List.findIdx?_eq_none_iff.mp hfi e he
      rw [q] at c
      cases c
    have gw : ∀ (b : Bool) {s₁ : Shared} {Q' : Unit → Shared → Prop}, Q' () s₁ → wpAny (model P w) A (match b with | true => rule "set.scan.the-table-gave-way" | false => pure ()) Q' E s₁ := fun b s₁ Q' q => by
      cases b
      · exact wpAny_pure q
      · exact wpAny_rule q
    have k1 := layNew_perm t es ((mixKind P w).hash k) u
    have k2 := layNew_fits t es ((mixKind P w).hash k) u
    have k3 := layNew_ris t es ((mixKind P w).hash k) u hr
    have k4 := layNew_led t es ((mixKind P w).hash k) u
    revert k1 k2 k3 k4
    generalize layNew t es ((mixKind P w).hash k) u = Z
    obtain ⟨es1, t1, dm, gv⟩ := Z
    intro k1 k2 k3 k4
    dsimp only at k1 k2 k3 k4 ⊢
    rw [Array.toList_push] at k1
    have k1 : es1.toList.Perm (((mixKind P w).hash k, u) :: es.toList) := k1.trans (List.perm_append_singleton _ _)
    obtain ⟨ls, m1, m2⟩ := paired_perm k1 (m := k :: ks) (.cons ⟨ru, rfl⟩ pr)
    have sz : es1.size = ks.length + 1 := by rw [← Array.length_toList, k1.length_eq, List.length_cons, Array.length_toList, len]
    have b1 : es1.size < scanBound := by omega
    have nd1 : ls.Nodup := m1.nodup_iff.mpr (List.nodup_cons.mpr ⟨hm, nd⟩)
    have led : w.params.followText "set-order" = true ∨ t1.led = true := hl.imp id fun z => by
      rw [k4]
      exact z
    have fin : ∀ b h' ms, Heap.SameBut a s.heap h' → SetKs P w h' a ms → ms.Perm ls → Q b { s with heap := h' } := fun b h' ms sb r pm => hQ h' ms b sb r (.inr ⟨hm, pm.trans m1⟩)
    refine wpAny_bind (gw _ ?_)
    split
    · refine wpAny_bind ?_
      rw [hashByValue_scannable 8 scn]
      refine wpAny_pure ?_
      refine ks_tail (fun b s₁ Q' q => gw b q) ho hx hd m2 nd1 b1 ?_ ?_ ?_ fun h' ms sb r pm => ?_
      · first | exact k2 | (split <;> first | exact k2 | exact SetTable.fits_plain_off k2)
      · first | exact k3 | (split <;> exact k3)
      · first | exact led | (split <;> exact led)
      · dsimp only
        exact wpAny_pure (fin _ h' ms sb r pm)
    · refine wpAny_bind (wpAny_pure ?_)
      simp only [↓reduceIte]
      refine ks_tail (fun b s₁ Q' q => gw b q) ho hx hd m2 nd1 b1 k2 k3 led fun h' ms sb r pm => ?_
      dsimp only
      exact wpAny_pure (fin _ h' ms sb r pm)
end
end KL
set_option Elab.async false
set_option linter.all false
set_option maxRecDepth 100000
set_option maxHeartbeats 4000000
namespace KL
open PySem L2 PySem.Spec PyProof.Rows
section
variable {P : Program} {w : World} {A : Around} {E : Value → Shared → Prop} {s : Shared} {a : Addr}
theorem keep_run {Wn : World} {h : Heap} {a : Addr} {ks : List Key} (R : SetKs P Wn h a ks) {h' : Heap} (e : ∀ o, h.get? a = some o → h'.get? a = some o) : SetKs P Wn h' a ks := R.at e
/-- the items of an iterator are put into the set at D, one behind the other -/
theorem ks_fill {I D : Addr} {fp wr : List Addr} {G : Array GenState → Array GenState → Prop} {n : Nat} {Pv : Nat → Value → Prop} {St : Nat → Shared → Prop} {R : Result → Shared → Prop} (W : WalksS P w A.in1 I fp wr G n Pv St) (hD : D ∉ fp)
    (xs : List Key) (hn : xs.length = n) (hb : n + 1 < scanBound) (hv : ∀ i v, Pv i v → ∃ k, xs[i]? = some k ∧ RelV (kV k) v) (left : Nat) :
    ∀ (i : Nat) (s : Shared) (ks : List Key), i + left = n → St i s → SetKs P w s.heap D ks → (∀ j, j ∈ ks ↔ j ∈ xs.take i) → ks.length ≤ i →
      (∀ s' ks', Moved (D :: wr) G s s' → SetKs P w s'.heap D ks' → (∀ j, j ∈ ks' ↔ j ∈ xs) → ks'.length ≤ n → R (.ok (.ret .none)) s') → codeAny (model P w) A (.builtin "set.update.loop" ⟨[.ref D, .ref I], []⟩) R s := by
  have off : D ∉ wr := fun z => hD (W.sub _ z)
  have more : ∀ b ∈ wr, b ∈ D :: wr := fun b z => List.mem_cons_of_mem _ z
  induction left with
  | zero =>
    intro i s ks e st S hm hl k
    have e : i = n := e
    subst e
    refine codeAny_builtin F.entry_set_update_loop ?_
    rw [Around.under_plainId F.plain_set_update_loop _]
    show wpAny _ A.in1 (pyNext (.ref I) >>= _) _ _ s
    refine wpAny_bind (W.done s _ _ st fun s' mv => ?_)
    show wpAny _ A.in1 (ret Value.none) _ _ s'
    rw [List.take_of_length_le (by omega)] at hm
    exact wpAny_pure (k s' ks (mv.mono more) (S.at fun o q => mv.heap D o off q) hm hl)
  | succ left ih =>
    intro i s ks e st S hm hl k
    refine codeAny_builtin F.entry_set_update_loop ?_
    rw [Around.under_plainId F.plain_set_update_loop _]
    show wpAny _ A.in1 (pyNext (.ref I) >>= _) _ _ s
    refine wpAny_bind (W.item i s _ _ (by omega) st fun v s' hp st' mv => ?_)
    obtain ⟨z, hz, rz⟩ := hv i v hp
    show wpAny _ A.in1 (holding [v] (setAdd D v) >>= _) _ _ s'
    refine wpAny_bind (wpAny_holding ?_)
    unfold setAdd
    refine wpAny_holding (wpAny_bind ((mixKind P w).pyHash (k := z) (kV_is rz) ?_))
    refine ks_put (s := { s' with toks := s'.toks + 1 }) rz (S.at fun o q => mv.heap D o off q) (by omega) fun h' ks' bb sb S2 pu => ?_
    have hm2 : ∀ j, j ∈ ks' ↔ j ∈ xs.take (i + 1) := fun j => by
      rw [pu.mem, hm, List.take_add_one, hz, List.mem_append]
      exact ⟨fun q => q.elim (fun c => .inr (by rw [c]; exact List.mem_singleton.mpr rfl)) .inl, fun q => q.elim .inr fun c => .inl (List.mem_singleton.mp c)⟩
    have hl2 : ks'.length ≤ i + 1 := Nat.le_trans pu.len (by omega)
    refine wpAny_pure ⟨plainId_quiet F.plain_set_update_loop _, ih (i + 1) _ ks' (by omega) (W.frame _ s' _ _ st' (Nat.le_succ _) fun b hb o e => ?_) S2 hm2 hl2 fun s2 ks2 mv2 S3 hm3 hl3 => ?_⟩
    · have nb : b ≠ D := fun c => hD (by rw [← c]; exact hb)
      rw [sb.2 b nb]
      exact e
    · refine k s2 ks2 (Moved.trans W.gtrans ((mv.mono more).then_heap (Nat.le_succ _) fun b o hb e => ?_) mv2) S3 hm3 hl3
      have nb : b ≠ D := fun c => hb (by rw [c]; exact List.mem_cons_self)
      rw [sb.2 b nb]
      exact e
/-- a built-in class called, the check of its __init__ by itself -/
theorem type_made {T newId initId : String} {Bi : Builtin} {args : List Value} {Q Q₁ : Value → Shared → Prop} (tc : TypeCalled T newId initId) (ct : checkTypeCall T ⟨args, []⟩ = pure ()) (en : entryFor table initId = some Bi)
    (nw : codeAny (model P w) A.in1 (.call (.builtin newId) ⟨.type T :: args, []⟩) (wants Q₁ E) s)
    (nx : ∀ obj s₁, Q₁ obj s₁ → s₁.TypeIs obj T ∧ (∀ {A' : Around} {E' : Value → Shared → Prop} {Q' : Unit → Shared → Prop}, Q' () s₁ → wpAny (model P w) A' (checkBuiltinCall initId ⟨obj :: args, []⟩) Q' E' s₁) ∧
      wpAny (model P w) A.in1.in1 (Bi ⟨obj :: args, []⟩)
        (fun fin s' => match fin with | .done f => wants (fun r s₂ => r = .none ∧ Q obj s₂) E (.ok f) s' | .again c' => c'.quiet = true ∧ codeAny (model P w) A.in1 c' (wants (fun r s₂ => r = .none ∧ Q obj s₂) E) s')
        (fun e s' => wants (fun r s₂ => r = .none ∧ Q obj s₂) E (.error e) s') s₁) : wpAny (model P w) A (call (.type T) args) Q E s := by
  obtain ⟨c0, cs, mro⟩ := tc.mro
  have m1 := tc.made
  have m2 := tc.sub
  have m3 := tc.notType
  have m4 := tc.canCreate
  refine wpAny_call (codeAny_of_tree (show wpAny _ _ (callAny (.type T) _) _ _ _ from ?_))
  refine wpAny_pure ⟨Code.quiet_builtin _ (by decide +kernel), codeAny_builtin F.entry_type_call ?_⟩
  rw [Around.under_plain (weight_type_call_type T args []) rfl]
  repeat any_goals (first | assumption | wp_step)

  refine codeAny_mono nw fun r s₁ hr => ?_
  rcases r with e | f
  · exact hr
  · cases f with
    | ret obj =>
      obtain ⟨q1, q2, q3⟩ := nx _ _ hr
      have l1 := tc.init.lookup
      have l2 := tc.init.bind obj
      repeat any_goals (first | assumption | wp_step)

      refine codeAny_mono (codeAny_call_builtin tc.init.plain en (q2 q3)) fun r₂ s₂ h2 => ?_
      rcases r₂ with e | f
      · exact h2
      · cases f with
        | ret r =>
          obtain ⟨rfl, q⟩ := h2
          repeat any_goals (first | assumption | wp_step)
        | _ => exact h2.elim
    | _ => exact hr.elim
theorem back_get : ∀ {xs : List V} {us : List Value} {i : Nat} {v : Value}, Vals xs us → us[i]? = some v → ∃ y, xs[i]? = some y ∧ RelV y v
  | _, _, i, v, .nil, e => by simp at e
  | _, _, 0, v, .cons h _, e => by
    simp at e
    subst e
    exact ⟨_, rfl, h⟩
  | _, _, i + 1, v, .cons _ t, e => by
    obtain ⟨y, q1, q2⟩ := back_get t (i := i) (by simpa using e)
    exact ⟨y, by simpa using q1, q2⟩
theorem call_set_ks {l : Addr} {us : Array Value} {xs : List Key} {Q : Value → Shared → Prop} (hh : A.handled = none) (hl : s.heap.IsList l us) (rv : Vals (xs.map kV) us.toList) (hb : xs.length + 1 < scanBound)
    (h : ∀ h' tk ks, SetKs P w h' s.heap.objs.size ks → (∀ j, j ∈ ks ↔ j ∈ xs) → ks.length ≤ xs.length → (∀ b o, s.heap.get? b = some o → h'.get? b = some o) → Q (.ref s.heap.objs.size) { s with heap := h', toks := tk }) :
    wpAny (model P w) A (call (.type "set") [.ref l]) Q E s := by
  have sz : us.size = xs.length := by
    have := rv.length
    rw [List.length_map] at this
    rw [← Array.length_toList, ← this]
  refine type_made (Q₁ := fun obj s₁ => obj = .ref s.heap.objs.size ∧ s₁ = { s with heap := s.heap.push { cls := .type "set", dict := none, data := .set #[] 0 (.fresh 0 0 (!w.params.followText "set-order")) } }) F.called_set (F.typeCall_set_1 _) F.entry_set_init (code_set_led1 _ ⟨rfl, rfl⟩) ?_
  rintro obj s₁ ⟨rfl, rfl⟩
  have new : (s.heap.push { cls := .type "set", dict := none, data := .set #[] 0 (.fresh 0 0 (!w.params.followText "set-order")) }).get? s.heap.objs.size = some { cls := .type "set", dict := none, data := .set #[] 0 (.fresh 0 0 (!w.params.followText "set-order")) } := Heap.get?_push_size _ rfl
  refine ⟨⟨_, new, rfl⟩, fun q => check_set_init_1 ⟨_, new, rfl⟩ q, ?_⟩
  have hT : Shared.TypeIs { s with heap := s.heap.push { cls := .type "set", dict := none, data := .set #[] 0 (.fresh 0 0 (!w.params.followText "set-order")) } } (.ref s.heap.objs.size) "set" := ⟨_, new, rfl⟩
  obtain ⟨⟨cls, dd, dat, sl⟩, ho, hc, n, hd⟩ := hl
  simp only at hc hd
  subst hc hd
  have ho' : (s.heap.push { cls := .type "set", dict := none, data := .set #[] 0 (.fresh 0 0 (!w.params.followText "set-order")) }).get? l = some { cls := .type "list", dict := dd, data := .seq us n, slots := sl } := Heap.get?_push_of_some _ ho
  have hl' : (s.heap.push { cls := .type "set", dict := none, data := .set #[] 0 (.fresh 0 0 (!w.params.followText "set-order")) }).IsList l us := ⟨_, ho', rfl, n, rfl⟩
  have hz : (s.heap.push { cls := .type "set", dict := none, data := .set #[] 0 (.fresh 0 0 (!w.params.followText "set-order")) }).objs.size = s.heap.objs.size + 1 := Heap.size_push ..
  have b1 := F.sub_list_set
  have b2 := F.sub_list_frozenset
  have b3 : (Value.type "list" == Value.type "dict") = false := by decide
  unfold Builtin.«set.__init__» noKeywords Builtin.Frozenset.updateFrom
  generalize hPI : pyIter = PI
  wp_walk
  subst hPI
  have lS : l < s.heap.objs.size := Heap.lt_size ho
  have nI : l ≠ (s.heap.push { cls := .type "set", dict := none, data := .set #[] 0 (.fresh 0 0 (!w.params.followText "set-order")) }).objs.size := by
    rw [hz]
    exact Nat.ne_of_lt (Nat.lt_succ_of_lt lS)
  have hD : s.heap.objs.size ∉ [(s.heap.push { cls := .type "set", dict := none, data := .set #[] 0 (.fresh 0 0 (!w.params.followText "set-order")) }).objs.size, l] := fun z => by
    rcases List.mem_cons.mp z with z | z
    · rw [hz] at z
      exact Nat.ne_of_lt (Nat.lt_succ_self _) z
    · have := List.mem_singleton.mp z
      exact Nat.ne_of_gt lS this
  have hv : ∀ (i : Nat) (v : Value), us[i]? = some v → ∃ k, xs[i]? = some k ∧ RelV (kV k) v := fun i v e => by
    obtain ⟨k, q, r⟩ : ∃ y, (xs.map kV)[i]? = some y ∧ RelV y v := by
      have e : us.toList[i]? = some v := by rw [Array.getElem?_toList]; exact e
      exact back_get rv e
    rw [List.getElem?_map] at q
    cases ex : xs[i]? with
    | none =>
      rw [ex] at q
      cases q
    | some x =>
      rw [ex] at q
      cases q
      exact ⟨x, rfl, r⟩
  refine wpAny_pyIter_list hl' ?_
  refine wpAny_bind (wpAny_runValue ?_)
  refine ks_fill ((Walks.list (show A.in1.in1.in1.handled = none by simp [hh]) _ l nI us).toS) hD xs sz.symm (by omega) hv us.size 0 _ [] (by omega)
    ⟨⟨_, Heap.get?_push_size _ rfl, rfl, rfl⟩, hl'.push _⟩ ⟨⟨_, #[], 0, _, Heap.get?_push_of_some _ new, ⟨rfl, rfl, rfl⟩, rfl, .nil, by decide, rfl, List.Pairwise.nil, ?_⟩, List.nodup_nil⟩ (fun j => by simp) (Nat.le_refl _) ?_
  · show _ ∨ (!w.params.followText "set-order") = true
    cases w.params.followText "set-order"
    · exact .inr rfl
    · exact .inl rfl
  · intro s' ks mv S hm hk
    obtain ⟨h', g', d', tk', os'⟩ := s'
    have eg : g' = s.gens := mv.gens
    have ed : d' = s.drawn := mv.drawn
    have eo : os' = s.os := mv.os
    subst eg ed eo
    show wpAny _ _ _ _ _ _
    refine wpAny_pure ?_
    show wpAny _ _ (ret Value.none) _ _ _
    refine wpAny_pure ⟨rfl, h h' tk' ks S hm (by omega) fun b o e => ?_⟩
    have bS : b < s.heap.objs.size := Heap.lt_size e
    refine mv.heap b o (fun z => ?_) (Heap.get?_push_of_some _ (Heap.get?_push_of_some _ e))
    rcases List.mem_cons.mp z with z | z
    · exact Nat.ne_of_lt bS z
    · have z := List.mem_singleton.mp z
      rw [hz] at z
      exact Nat.ne_of_lt (Nat.lt_succ_of_lt bS) z
end
end KL
set_option Elab.async false
set_option linter.all false
set_option maxRecDepth 100000
set_option maxHeartbeats 4000000
namespace KL
open PySem L2 PySem.Spec PyProof.Rows
/-- the set of the keys ks -/
def KsO (P : Program) (w : World) (a : Addr) (ks : List Key) : HO := .ext fun h => SetKs P w h a ks
theorem ksO_ok {P : Program} {w : World} {H : Hp} {h : Heap} {a : Addr} {ks : List Key} (R : SetKs P w h a ks) : ObjOk P w H h a (KsO P w a ks) := by
  obtain ⟨⟨o, _, _, _, ho, _⟩, _⟩ := id R
  exact ⟨R, ⟨o, ho⟩, fun _ _ p k => p.at k⟩
def rSetK (K : PySem.W.Frag) (P : Program) (w : World) : List V → Hp → VK → Prop := fun vs H Q => ∃ (a : Addr) (xs : List Key), vs = [V.ref a] ∧ SqL K H a (xs.map kV) ∧ xs.length ≤ 2000 ∧
  ∀ p ks, H p = none → ks.Nodup → (∀ j, j ∈ ks ↔ j ∈ xs) → ks.length ≤ xs.length → Q (.ref p) (upd H p (KsO P w p ks))
/-- sorted(s), s a set of texts -/
def rSortK (P : Program) (w : World) : List V → Hp → VK → Prop := fun vs H Q => ∃ (a : Addr) (ss : List Str), vs = [V.ref a] ∧ H a = some (KsO P w a (ss.map Sum.inr)) ∧
  ∀ (ys : List Str) (p : Addr), ys.Perm ss → ys.Nodup → ys.Pairwise (fun x y => x.cps.toList ≤ y.cps.toList) → H p = none → Q (.ref p) (upd H p (.lst (ys.map V.str)))
theorem paired_map {α β γ : Type} {R : α → γ → Prop} {f : β → γ} : ∀ {l : List α} {m : List β}, Paired R l (m.map f) → Paired (fun x y => R x (f y)) l m
  | _, [], h => by
    cases h
    exact .nil
  | _, y :: m, h => by
    cases h with
    | cons h1 h2 => exact .cons h1 (paired_map h2)
def StrE (u : Value) (x : Str) : Prop := ∃ t, u = .str x t
theorem strs_each : ∀ {l : List (Int × Value)} {ss : List Str} {P : Program} {w : World}, Paired (KeyE P w) l (ss.map Sum.inr) → Paired StrE (l.map (·.2)) ss
  | _, [], _, _, h => by
    cases h
    exact .nil
  | _, x :: ss, _, _, h => by
    cases h with
    | cons h1 h2 => exact .cons h1.1 (strs_each h2)
theorem each_str {h : Heap} {a : Addr} : ∀ {us : List Value} {ss : List Str}, Paired StrE us ss → PySem.W.EachIs StrE us ss ∧ PySem.W.EachIs (fun v b => ∃ as, Reads h v (PyData.str b) as ∧ a ∉ as) us ss
  | _, _, .nil => ⟨.nil, .nil⟩
  | _, _, .cons h t => by
    obtain ⟨q1, q2⟩ := each_str t
    obtain ⟨tk, rfl⟩ := h
    exact ⟨.cons ⟨tk, rfl⟩ q1, .cons ⟨[], .str _ _, fun z => nomatch z⟩ q2⟩
theorem vals_strs : ∀ {us : List Value} {ss : List Str}, PySem.W.EachIs StrE us ss → Vals (ss.map V.str) us
  | _, _, .nil => .nil
  | _, _, .cons h t => .cons h (vals_strs t)
theorem str_le_total (x y : Str) : (decide (x.cps.toList ≤ y.cps.toList) || decide (y.cps.toList ≤ x.cps.toList)) = true := by
  rcases List.le_total x.cps.toList y.cps.toList with h | h
  · rw [decide_eq_true h]
    rfl
  · rw [decide_eq_true h, Bool.or_true]
section
variable {X : Cx}
theorem cr_setK (hc : X.calm = true) : CallR X (.type "set") (rSetK X.K X.prog X.w) := by
  intro pins s σ H vs us Q I r h
  obtain ⟨a, xs, rfl, hs, hz, q⟩ := h
  obtain ⟨its, rv, hl, _⟩ := I.list hs
  rw [Vals.ref1 r]
  refine call_set_ks (xs := xs) (I.ok.hd hc) hl.isList (by simpa using rv) (by unfold scanBound; omega) fun h' tk ks S hm hk keep => ?_
  exact ⟨.ref s.heap.objs.size, upd H s.heap.objs.size (KsO X.prog X.w s.heap.objs.size ks), I.laid (t' := tk) keep (Nat.le_refl _) (ksO_ok S), rfl, q _ ks (I.hok.fresh (Nat.le_refl _)) S.nd hm hk⟩
theorem cr_sortK (hc : X.calm = true) (hu : X.A.units + 64 < cLine) : CallR X (.builtin "sorted") (rSortK X.prog X.w) := by
  intro pins s σ H vs us Q I r h
  obtain ⟨a, ss, rfl, ha, q⟩ := h
  have R : SetKs X.prog X.w s.heap a (ss.map Sum.inr) := (I.hok a _ ha).1
  rw [Vals.ref1 r]
  obtain ⟨⟨o, es, ep, t, ho, hx, hd, pr, hb, hf, hr, hl⟩, nd⟩ := R
  have nds : ss.Nodup := by
    have := nd
    unfold List.Nodup at this ⊢
    rw [List.pairwise_map] at this
    exact this.imp fun h e => h (by rw [e])
  refine Calls.call_function_entry kind_sorted plain_sorted entry_sorted (args_sorted1 _) ?_
  unfold Builtin.«sorted»
  refine wpAny_bind (m := checkCount "sorted" 1 1 _) (wpAny_pure ?_)
  refine wpAny_bind (collect_set (A := X.A.in1) (I.ok.hd hc) ⟨o, ho, hx.1, hd⟩ hf hb hr hl fun s1 out k1 z1 g1 o1 pm => ?_)
  obtain ⟨ms, pms, prm⟩ := paired_perm pm (strs_each pr)
  have lo : out.length = ms.length := Paired.length prm
  have lm : ms.length = es.size := by
    rw [pms.length_eq, ← Array.length_toList, Paired.length pr, List.length_map]
  have lz : out.length ≤ sizeLine := by
    rw [lo, lm]
    exact fits_of_scanBound hb
  refine wpAny_bind (wpAny_newList ?_ lz)
  have hoL : (s1.heap.push (seqObj "list" out.toArray 0)).get? s1.heap.objs.size = some (seqObj "list" out.toArray 0) := Heap.get?_push_size _ rfl
  obtain ⟨e1, e2⟩ := each_str (h := s1.heap.push (seqObj "list" out.toArray 0)) (a := s1.heap.objs.size) prm
  have al : PySem.W.AllAlike (ms.map PyData.str) := PySem.W.AllAlike.of fun _ _ => rfl
  have so : PySem.W.Sortable (ms.map PyData.str) := PySem.W.Sortable.others fun _ => ⟨fun z => (nomatch z), fun _ z => nomatch z⟩
  refine wpAny_bind (wpAny_holding (PySem.W.list_sort_data hoL e1 e2 al so (by rw [← lo]; exact lz) (fun b _ => (by show X.A.units + 1 + 1 + 0 < cLine; omega)) fun srt ls es' => ?_))
  have vv := vals_strs es'
  rw [PySem.W.dataLe_str (k := fun x => x)] at vv
  have pmm : (ms.mergeSort fun a b => decide (a.cps.toList ≤ b.cps.toList)).Perm ms := List.mergeSort_perm _ _
  have pw := List.pairwise_mergeSort (le := fun (a b : Str) => decide (a.cps.toList ≤ b.cps.toList)) (fun x y z h1 h2 => decide_eq_true (List.le_trans (of_decide_eq_true h1) (of_decide_eq_true h2))) (fun x y => str_le_total x y) ms
  obtain ⟨c, hcc⟩ := sortedHeap_at (vs := out) (out := srt.toArray) hoL
  have len : ((ms.mergeSort fun a b => decide (a.cps.toList ≤ b.cps.toList)).map V.str).length ≤ sizeLine := by
    rw [List.length_map, pmm.length_eq, ← lo]
    exact lz
  have keep : ∀ b u, s.heap.get? b = some u → (sortedHeap (s1.heap.push (seqObj "list" out.toArray 0)) s1.heap.objs.size out srt.toArray).get? b = some u := fun b u e => by
    have e1 := k1 b u e
    have lt := Heap.lt_size e1
    rw [sortedHeap_old (Nat.ne_of_lt lt) (by rw [size_push']; exact Nat.lt_succ_of_lt lt)]
    exact Heap.get?_push_of_some _ e1
  have hn : H s1.heap.objs.size = none := I.hok.fresh z1
  have J : Inv X pins σ (upd H s1.heap.objs.size (.lst ((ms.mergeSort fun a b => decide (a.cps.toList ≤ b.cps.toList)).map V.str))) { s with heap := sortedHeap (s1.heap.push (seqObj "list" out.toArray 0)) s1.heap.objs.size out srt.toArray, gens := s1.gens, drawn := s1.drawn, toks := s1.toks } :=
    I.call (ch := []) (Un.laid keep z1 hn) (I.hok.laid keep z1 ⟨len, srt, c, vv, hcc⟩) (by rw [g1]; exact I.bare) (fun _ z => nomatch z)
  have es1 : ({ s1 with heap := sortedHeap (s1.heap.push (seqObj "list" out.toArray 0)) s1.heap.objs.size out srt.toArray } : Shared) = { s with heap := sortedHeap (s1.heap.push (seqObj "list" out.toArray 0)) s1.heap.objs.size out srt.toArray, gens := s1.gens, drawn := s1.drawn, toks := s1.toks } := by
    cases s1
    cases s
    cases o1
    rfl
  refine wpAny_pure ⟨_, rfl, ?_⟩
  rw [es1]
  exact ⟨.ref _, _, J, rfl, q _ _ (pmm.trans pms) ((pmm.trans pms).nodup_iff.mpr nds) (pw.imp fun h => of_decide_eq_true h) hn⟩
end
end KL
set_option Elab.async false
set_option linter.all false
set_option maxRecDepth 100000
set_option maxHeartbeats 4000000
namespace KL
open PySem L2 PySem.Spec PyProof.Rows
/-! ### tuples of ints and texts, looked for in a set -/
/-- numbers, texts and tuples of such -/
inductive PIs (h : Heap) : NestedKey → Value → Prop
  | int (i : Int) (t : Tok) : PIs h (.num i) (.int i t)
  | text (x : Str) (t : Tok) : PIs h (.text x) (.str x t)
  | tup {a : Addr} {o : Obj} {vs : Array Value} {n : Nat} {ks : List NestedKey} : h.get? a = some o → o.cls = .type "tuple" → o.data = .seq vs n → vs.toList.length = ks.length → (∀ (i : Nat) (k : NestedKey) (v : Value), ks[i]? = some k → vs.toList[i]? = some v → PIs h k v) → PIs h (.tup ks) (.ref a)
theorem nested_all {h : Heap} : ∀ {ks : List NestedKey} {vs : List Value}, vs.length = ks.length → (∀ (i : Nat) (k : NestedKey) (v : Value), ks[i]? = some k → vs[i]? = some v → NestedIs h k v) → NestedAll h ks vs
  | [], [], _, _ => .nil
  | [], _ :: _, e, _ => by simp at e
  | _ :: _, [], e, _ => by simp at e
  | k :: ks, v :: vs, e, f => .cons (f 0 k v rfl rfl) (nested_all (by simpa using e) fun i k v h1 h2 => f (i + 1) k v h1 h2)
theorem reads_all {h : Heap} : ∀ {ks : List NestedKey} {vs : List Value}, vs.length = ks.length → (∀ (i : Nat) (k : NestedKey) (v : Value), ks[i]? = some k → vs[i]? = some v → Reads h v k.data []) → ReadsAll h vs (NestedKey.datas ks) []
  | [], [], _, _ => .nil
  | [], _ :: _, e, _ => by simp at e
  | _ :: _, [], e, _ => by simp at e
  | k :: ks, v :: vs, e, f => .cons (as := []) (bs := []) (f 0 k v rfl rfl) (reads_all (by simpa using e) fun i k v h1 h2 => f (i + 1) k v h1 h2)
theorem PIs.nested {h : Heap} {k : NestedKey} {v : Value} (p : PIs h k v) : NestedIs h k v := by
  induction p with
  | int i t => exact .int i t
  | text x t => exact .text x t
  | tup h1 h2 h3 h4 _ ih => exact .tup h1 h2 h3 (nested_all h4 ih)
theorem PIs.reads {h : Heap} {k : NestedKey} {v : Value} (p : PIs h k v) : Reads h v k.data [] := by
  induction p with
  | int i t => exact .int i t
  | text x t => exact .str x t
  | tup h1 h2 h3 h4 _ ih => exact .tuple h1 h2 h3 (reads_all h4 ih)
theorem PIs.at {h h' : Heap} (hk : ∀ a o vs n, h.get? a = some o → o.data = .seq vs n → h'.get? a = some o) {k : NestedKey} {v : Value} (p : PIs h k v) : PIs h' k v := by
  induction p with
  | int i t => exact .int i t
  | text x t => exact .text x t
  | tup h1 h2 h3 h4 _ ih => exact .tup (hk _ _ _ _ h1 h3) h2 h3 h4 ih
abbrev AtK (P : Program) (w : World) (h : Heap) (k : NestedKey) (b : Addr) : Prop := PIs h k (.ref b) ∧ k.depth ≤ 4
abbrev hK (P : Program) (w : World) (k : NestedKey) : Int := k.hash w
theorem kdepth_at : ∀ {ks : List NestedKey} {i : Nat} {k : NestedKey}, ks[i]? = some k → k.depth ≤ NestedKey.depthAll ks
  | k0 :: ks, 0, k, h => by
    cases h
    rw [NestedKey.depthAll]
    exact Nat.le_max_left _ _
  | k0 :: ks, i + 1, k, h => by
    rw [NestedKey.depthAll]
    exact Nat.le_trans (kdepth_at (ks := ks) (i := i) h) (Nat.le_max_right _ _)
section
variable {P : Program} {w : World} {A : Around} {E : Value → Shared → Prop} {s : Shared} {k : NestedKey} {b : Addr}
theorem class_key : ∀ (n : Nat) (k : NestedKey) (v : Value) (Q : Bool → Shared → Prop), PIs s.heap k v → k.depth ≤ n → Q false s → wpAny (model P w) A (ofAClassStatement n v) Q E s
  | n, _, _, Q, .int i t, _, q => by
    rw [show ofAClassStatement n (.int i t) = pure false by cases n <;> rfl]
    exact wpAny_pure q
  | n, _, _, Q, .text x t, _, q => by
    rw [show ofAClassStatement n (.str x t) = pure false by cases n <;> rfl]
    exact wpAny_pure q
  | 0, _, _, Q, .tup (ks := ks) h1 h2 h3 h4 h5, dn, q => by
    rw [NestedKey.depth] at dn
    exact absurd dn (Nat.not_succ_le_zero _)
  | n + 1, _, _, Q, .tup (ks := ks) (vs := vs) h1 h2 h3 h4 h5, dn, q => by
    rw [NestedKey.depth] at dn
    have more := class_key n
    have ty : s.TypeIs (.ref _) "tuple" := ⟨_, h1, h2⟩
    unfold ofAClassStatement
    refine wpAny_bind (wpAny_typeOf ty ?_)
    dsimp only
    simp only [show (("tuple" : String) == "tuple") = true by decide, if_true, Bool.not_true, Bool.false_eq_true, if_false]
    try refine wpAny_bind (wpAny_pure ?_)
    try simp only [Bool.not_true, Bool.false_eq_true, if_false]
    change wpAny _ _ (seqItems? (.ref _) >>= _) _ _ s
    refine wpAny_bind (wpAny_seqItems h1 h3 ?_)
    dsimp only
    refine wpAny_bind ?_
    change wpAny _ _ (forIn vs _ _) _ _ s
    rw [← Array.forIn_toList]
    refine wpAny_forIn_list _ (fun left got s1 => got.1 = none ∧ s1 = s ∧ ∀ v ∈ left, ∃ k', PIs s.heap k' v ∧ k'.depth ≤ n) _ (fun v left got s1 hv => ?_) (fun got s1 hv => ?_) _ _ ⟨rfl, rfl, fun v hv => ?_⟩
    · obtain ⟨g, rfl, fl⟩ := hv
      obtain ⟨k', p', d'⟩ := fl v List.mem_cons_self
      refine wpAny_bind (more k' v _ p' d' ?_)
      simp only [Bool.false_eq_true, if_false]
      exact wpAny_pure ⟨rfl, rfl, fun u hu => fl u (List.mem_cons_of_mem _ hu)⟩
    · obtain ⟨g1, g2⟩ := got
      obtain ⟨g, rfl, _⟩ := hv
      cases (show g1 = none from g)
      exact wpAny_pure q
    · obtain ⟨i, hi, e⟩ := List.getElem_of_mem hv
      have e1 : vs.toList[i]? = some v := by rw [List.getElem?_eq_getElem hi, e]
      have hk : i < ks.length := by rw [← h4]; exact hi
      have e2 : ks[i]? = some ks[i] := List.getElem?_eq_getElem hk
      exact ⟨_, h5 i _ v e2 e1, Nat.le_trans (kdepth_at e2) (Nat.le_of_succ_le_succ dn)⟩
theorem value_key : ∀ (n : Nat) (k : NestedKey) (v : Value) (Q : Bool → Shared → Prop), PIs s.heap k v → (∀ c, Q c s) → wpAny (model P w) A (hashByValue n v) Q E s
  | n, _, _, Q, .int i t, q => by
    rw [show hashByValue n (.int i t) = pure true by cases n <;> rfl]
    exact wpAny_pure (q _)
  | n, _, _, Q, .text x t, q => by
    rw [show hashByValue n (.str x t) = pure false by cases n <;> rfl]
    exact wpAny_pure (q _)
  | 0, _, _, Q, .tup (a := a) h1 h2 h3 h4 h5, q => by
    rw [show hashByValue 0 (.ref a) = pure false by rfl]
    exact wpAny_pure (q _)
  | n + 1, _, _, Q, .tup (ks := ks) (vs := vs) h1 h2 h3 h4 h5, q => by
    have more := value_key n
    have ty : s.TypeIs (.ref _) "tuple" := ⟨_, h1, h2⟩
    unfold hashByValue
    refine wpAny_bind (wpAny_specialOf ty F.slot_tuple_hash.lookup ?_)
    change wpAny _ _ (seqItems? (.ref _) >>= _) _ _ s
    refine wpAny_bind (wpAny_seqItems h1 h3 (wpAny_bind ?_))
    change wpAny _ _ (forIn vs _ _) _ _ s
    rw [← Array.forIn_toList]
    refine wpAny_forIn_list _ (fun left got s1 => got.1 = none ∧ s1 = s ∧ ∀ v ∈ left, ∃ k', PIs s.heap k' v) _ (fun v left got s1 hv => ?_) (fun got s1 hv => ?_) _ _ ⟨rfl, rfl, fun v hv => ?_⟩
    · obtain ⟨g, rfl, fl⟩ := hv
      obtain ⟨k', p'⟩ := fl v List.mem_cons_self
      refine wpAny_bind (more k' v _ p' fun c => ?_)
      cases c with
      | true =>
        simp only [Bool.not_true, Bool.false_eq_true, if_false]
        exact wpAny_pure ⟨rfl, rfl, fun u hu => fl u (List.mem_cons_of_mem _ hu)⟩
      | false =>
        simp only [Bool.not_false, if_true]
        exact wpAny_pure (wpAny_pure (q false))
    · obtain ⟨g1, g2⟩ := got
      obtain ⟨g, rfl, _⟩ := hv
      cases (show g1 = none from g)
      exact wpAny_pure (q true)
    · obtain ⟨i, hi, e⟩ := List.getElem_of_mem hv
      have e1 : vs.toList[i]? = some v := by rw [List.getElem?_eq_getElem hi, e]
      have hk : i < ks.length := by rw [← h4]; exact hi
      exact ⟨_, h5 i _ v (List.getElem?_eq_getElem hk) e1⟩
theorem row_class {Q : Bool → Shared → Prop} (hb : AtK P w s.heap k b) (q : Q false s) : wpAny (model P w) A (ofAClassStatement 8 (.ref b)) Q E s := class_key 8 k _ Q hb.1 (by have := hb.2; omega) q
theorem row_value {Q : Bool → Shared → Prop} (hb : AtK P w s.heap k b) (q : ∀ c, Q c s) : wpAny (model P w) A (hashByValue 8 (.ref b)) Q E s := value_key 8 k _ Q hb.1 q
theorem quietB_key {Q : Bool → Shared → Prop} (hb : AtK P w s.heap k b) (q : Q true s) : wpAny (model P w) A (eqIsQuiet 8 (.ref b)) Q E s := quiet_key k _ 8 s hb.1.nested (by have := hb.2; omega) A E Q q
theorem eqB_key {x y : NestedKey} {a b : Addr} {Q : Bool → Shared → Prop} (hu : A.units + 8 < cLine) (hx : AtK P w s.heap x a) (hy : AtK P w s.heap y b) (h : Q (decide (x = y)) s) : wpAny (model P w) A (PySem.eqBool (.ref a) (.ref b)) Q E s :=
  eqAt_key x y A s _ _ hx.1.nested hy.1.nested (by have := hx.2; omega) _ _ _ _ (by rw [← NestedKey.decide_eq]; exact h)
theorem hash_key {Q : Int → Shared → Prop} (hu : A.units + 8 < cLine) (hb : AtK P w s.heap k b) (h : Q (hK P w k) { s with toks := s.toks + k.draws }) : wpAny (model P w) A (pyHash (.ref b)) Q E s :=
  pyHash_key k _ A s Q hb.1.nested (by have := hb.2; omega) h
/-- a search among such tuples shows nothing of the table -/
theorem row_unseen {Q : Bool → Shared → Prop} {ys : List Value} (hb : AtK P w s.heap k b) (hy : ∀ y ∈ ys, ∃ j c, y = Value.ref c ∧ AtK P w s.heap j c) (q : Q false s) : wpAny (model P w) A (searchCouldBeSeen (.ref b) ys) Q E s := by
  unfold searchCouldBeSeen
  refine wpAny_bind (wpAny_forIn_list _ (fun left got s1 => got.1 = none ∧ s1 = s ∧ ∀ y ∈ left, ∃ j c, y = Value.ref c ∧ AtK P w s.heap j c) _ (fun v left got s1 hv => ?_) (fun got s1 hv => ?_) _ _ ⟨rfl, rfl, hy⟩)
  · obtain ⟨g, rfl, fl⟩ := hv
    obtain ⟨j, c, rfl, hc⟩ := fl v List.mem_cons_self
    have next : ∀ y ∈ left, ∃ j c, y = Value.ref c ∧ AtK P w s1.heap j c := fun u hu => fl u (List.mem_cons_of_mem _ hu)
    dsimp only
    by_cases same : (b == c || (carriedByValue (.ref b) && carriedByValue (.ref c))) = true
    · exact wp_if_pos same (wpAny_pure ⟨rfl, rfl, next⟩)
    · refine wp_if_neg same (wpAny_bind (quietB_key hb ?_))
      simp only [Bool.not_true, Bool.false_eq_true, if_false]
      refine wpAny_bind (quietB_key hc ?_)
      simp only [Bool.not_true, Bool.false_eq_true, if_false]
      refine wpAny_bind (row_class hb ?_)
      simp only [Bool.false_eq_true, if_false]
      refine wpAny_bind (row_class hc ?_)
      simp only [Bool.false_eq_true, if_false]
      exact wpAny_pure ⟨rfl, rfl, next⟩
  · obtain ⟨g1, g2⟩ := got
    obtain ⟨g, rfl, _⟩ := hv
    cases (show g1 = none from g)
    exact wpAny_pure q
/-- it stays where it is when nothing but a set changes -/
theorem row_keeps {h h' : Heap} {a : Addr} {o : Obj} {es : Array (Int × Value)} {ep : Nat} {t : SetTable} (hb : AtK P w h k b) (ho : h.get? a = some o) (hd : o.data = .set es ep t) (sb : Heap.SameBut a h h') : AtK P w h' k b :=
  ⟨hb.1.at fun c u vs n h1 h2 => (sb.2 c fun z => by
    subst z
    cases h1.symm.trans ho
    rw [hd] at h2
    cases h2).trans h1, hb.2⟩
theorem row_more {h h' : Heap} (hb : AtK P w h k b) (up : ∀ c o, h.get? c = some o → h'.get? c = some o) : AtK P w h' k b := ⟨hb.1.at fun c u _ _ h1 _ => up c u h1, hb.2⟩
end
/-! ### a set of such tuples -/
abbrev KRow := Addr × NestedKey
/-- how they stand in it -/
def entK (P : Program) (w : World) (L : List KRow) : List (Int × Value) := L.map fun r => (hK P w r.2, Value.ref r.1)
def hashesK (P : Program) (w : World) (L : List KRow) : List Int := L.map fun r => hK P w r.2
structure RowSet (P : Program) (w : World) (h : Heap) (a : Addr) (L : List KRow) (es : Array (Int × Value)) (ep : Nat) (t : SetTable) : Prop where
  obj : ∃ o, h.get? a = some o ∧ o.ExactSet ∧ o.data = .set es ep t
  ents : es.toList = entK P w L
  table : TabOk t (hashesK P w L)
  once : (L.map (·.2)).Nodup
  rows : ∀ r ∈ L, AtK P w h r.2 r.1
  order : w.params.followText "set-order" = true ∨ t.led = true
  loose : L.length * 5 < t.mask * 3
  few : L.length < 64
section
variable {P : Program} {w : World} {A : Around} {E : Value → Shared → Prop} {s : Shared} {a : Addr} {L : List KRow} {es : Array (Int × Value)} {ep : Nat} {t : SetTable}
theorem ent_len (he : es.toList = entK P w L) : es.size = L.length := by
  rw [← Array.length_toList, he]
  exact List.length_map _
theorem ent_at (he : es.toList = entK P w L) {i : Nat} {r : KRow} (h : L[i]? = some r) : es[i]? = some (hK P w r.2, Value.ref r.1) := by
  rw [← Array.getElem?_toList, he]
  unfold entK
  rw [List.getElem?_map, h]
  rfl
theorem fits_of {hs : List Int} (T : TabOk t hs) {n : Nat} (hn : n = hs.length) (room : n ≤ t.mask) : t.fits n = true := by
  have z := T.sz
  unfold SetTable.fits SetTable.fill
  rw [T.dm, Bool.and_eq_true, beq_iff_eq, decide_eq_true_eq]
  refine ⟨by omega, ?_⟩
  change t.place.size + 0 ≤ t.mask
  omega
theorem RowSet.fits (R : RowSet P w s.heap a L es ep t) : t.fits es.size = true := by
  have z := ent_len R.ents
  have r := R.loose
  exact fits_of R.table (by rw [z]; exact (List.length_map _).symm) (by omega)
theorem firm (T : MaskOk t.mask) : ¬ t.gaveWay = true := by
  unfold SetTable.gaveWay
  rw [mask_odd T]
  decide
end
end KL
set_option Elab.async false
set_option linter.all false
set_option maxRecDepth 100000
set_option maxHeartbeats 4000000
namespace KL
open PySem L2 PySem.Spec PyProof.Rows
/-! ### the search for such a tuple -/
/-- the c-th stop on the way of a hash -/
abbrev stop (t : SetTable) (h : Int) (c : Nat) : SetTable.Probe := nth t.mask (runAt t.mask (SetTable.bits h % (t.mask + 1)) (SetTable.bits h)) c
theorem stop_plain (t : SetTable) (h : Int) : ∀ c, (stop t h c).dummy = none
  | 0 => rfl
  | c + 1 => by
    rw [stop, nth_succ]
    have ih := stop_plain t h c
    unfold adv
    split
    · exact ih
    · exact ih
theorem stop_on (t : SetTable) (h : Int) (c d : Nat) : nth t.mask (stop t h c) d = stop t h (c + d) := (nth_add t.mask c _ d).symm
theorem stop_j (t : SetTable) (h : Int) (c d : Nat) : (nth t.mask (stop t h c) d).j = way t.mask h (c + d) := congrArg SetTable.Probe.j (stop_on t h c d)
section
variable {P : Program} {w : World} {A : Around} {E : Value → Shared → Prop} {s : Shared} {a x : Addr} {L : List KRow} {es : Array (Int × Value)} {ep : Nat} {t : SetTable} {k : NestedKey}
/-- where the tuple may stand, from the c-th stop on -/
def Ahead (P : Program) (w : World) (t : SetTable) (L : List KRow) (k : NestedKey) (K c : Nat) : Prop := ∀ (i : Nat) r, L[i]? = some r → r.2 = k → ∃ d, c ≤ d ∧ d < K ∧ t.place.toList[i]? = some (way t.mask (hK P w k) d)
theorem RowSet.slot_in (R : RowSet P w s.heap a L es ep t) {i j : Nat} (h : t.place.toList[i]? = some j) : ∃ r, L[i]? = some r ∧ r ∈ L := by
  have z := R.table.sz
  have l : i < t.place.toList.length := (List.getElem?_eq_some_iff.mp h).1
  rw [Array.length_toList, z] at l
  have l : i < L.length := by
    rw [hashesK, List.length_map] at l
    exact l
  exact ⟨L[i], List.getElem?_eq_getElem l, List.getElem_mem l⟩
/-- an entry that has the hash is compared; if it is another one, the search goes on behind it -/
theorem seek (R : RowSet P w s.heap a L es ep t) (hx : AtK P w s.heap k x) (hu : A.units + 8 < cLine) {K : Nat} (lim : K < 10 * SetTable.turns t.mask) (free : way t.mask (hK P w k) K ∉ t.place.toList)
    (full : ∀ c, c < K → way t.mask (hK P w k) c ∈ t.place.toList) {Q : SetFound → Shared → Prop} (there : k ∈ L.map (·.2) → Q (.there none) s) (gone : k ∉ L.map (·.2) → Q (.free (way t.mask (hK P w k) K) false) s) :
    ∀ (f c : Nat) (from' : Option SetTable.Probe), from'.getD (t.probeStart (hK P w k)) = stop t (hK P w k) c → c ≤ K → K - c < f → Ahead P w t L k K c → wpAny (model P w) A (setSearchFrom a (.ref x) (hK P w k) true f from') Q E s := by
  intro f
  obtain ⟨o, ho, hex, hd⟩ := R.obj
  have hashes : ∀ (i : Nat) (r : KRow), L[i]? = some r → (fun i => (es[i]?.map (·.1)).getD 0) i = hK P w r.2 := fun i r hr => by
    change (es[i]?.map (·.1)).getD 0 = _
    rw [ent_at R.ents hr]
    rfl
  induction f with
  | zero => intro c _ _ _ z; exact absurd z (Nat.not_lt_zero _)
  | succ f ih =>
    intro c from' start le lt ahead
    rw [setSearchFrom_succ]
    refine wpAny_bind (wpAny_setState_of ho hd R.fits ?_)
    dsimp only
    refine wp_if_neg (firm R.table.mok) ?_
    try refine wpAny_bind (wpAny_pure ?_)
    have cK : c + (K - c) = K := by omega
    -- a stop of the entry sought is never passed
    have kept : ∀ (d i : Nat) (r : KRow), L[i]? = some r → r.2 = k → t.place.toList[i]? = some (way t.mask (hK P w k) d) → c ≤ d → ¬ (∃ n, c + n = d ∧ ∀ i0 : Nat, t.place.toList[i0]? = some (nth t.mask (stop t (hK P w k) c) n).j → (es[i0]?.map (fun e : Int × Value => e.1)).getD 0 ≠ hK P w k) := by
      rintro d i r hr e hi _ ⟨n, rfl, no⟩
      refine no i ?_ ((hashes i r hr).trans (congrArg (hK P w) e))
      rw [stop_j]
      exact hi
    rcases go_spec t R.table.ris R.table.dm (fun i => (es[i]?.map (·.1)).getD 0) (hK P w k) (10 * SetTable.turns t.mask) (K - c) (stop t (hK P w k) c) (stop_plain _ _ _) (by omega)
      (fun q hq => by rw [stop_j]; exact full (c + q) (by omega)) (by rw [stop_j, cK]; exact free) with ⟨q, i, hq, hi, _, no, met⟩ | ⟨no, met⟩
    · have met' : t.probe (fun i => (es[i]?.map (·.1)).getD 0) (hK P w k) (from'.getD (t.probeStart (hK P w k))) = some (.candidate (way t.mask (hK P w k) (c + q)) i (stop t (hK P w k) (c + (q + 1)))) := by
        rw [start, ← stop_j, ← stop_on]
        exact met
      rw [met']
      dsimp only
      rw [stop_j] at hi
      obtain ⟨r, hr, mem⟩ := R.slot_in hi
      have er := ent_at R.ents hr
      have compare : wpAny (model P w) A (searchRest a (.ref x) (hK P w k) true f es t (way t.mask (hK P w k) (c + q)) i (stop t (hK P w k) (c + (q + 1)))) Q E s := by
        unfold searchRest
        rw [er]
        dsimp only
        refine wpAny_bind (wpAny_holding (eqB_key hu (R.rows r mem) hx (wpAny_bind (wpAny_setState_of ho hd R.fits ?_))))
        dsimp only
        by_cases eq : r.2 = k
        · exact wp_if_pos (by simp [eq]) (wpAny_pure (there (List.mem_map.mpr ⟨r, mem, eq⟩)))
        · refine wp_if_neg (by simp [eq]) ?_
          try refine wpAny_bind (wpAny_pure ?_)
          have live : t.slot (way t.mask (hK P w k) (c + q)) = .live i := slot_live R.table.ris hi
          rw [show t.sameMemory t.moves t.mask = some true by unfold SetTable.sameMemory; rw [if_pos (beq_self_eq_true _)]]
          dsimp only
          simp only [if_true, live, er]
          refine wpAny_bind (wpAny_isSame_ref_self (wpAny_bind (wpAny_pure ?_)))
          simp only [if_true]
          refine wp_if_neg (by simp [eq]) (ih (c + (q + 1)) _ rfl (by omega) (by omega) fun i0 r0 h0 e0 => ?_)
          obtain ⟨d, d1, d2, d3⟩ := ahead i0 r0 h0 e0
          refine ⟨d, ?_, d2, d3⟩
          rcases Nat.lt_trichotomy d (c + q) with z | z | z
          · have no' := no (d - c)
            refine absurd ⟨d - c, by omega, fun i1 h1 => ?_⟩ (kept d i0 r0 h0 e0 d3 d1)
            first | exact no' i1 (by omega) h1 | exact no' (by omega) i1 h1
          · exfalso
            rw [z] at d3
            have l2 := slot_live R.table.ris d3
            rw [live] at l2
            injection l2 with l2
            subst l2
            rw [hr] at h0
            cases h0
            exact eq e0
          · omega
      by_cases led : t.led = true
      · refine wp_if_neg (by simp [led]) ?_
        try refine wpAny_bind (wpAny_pure ?_)
        exact compare
      · refine wp_if_pos (by simp [led]) (wpAny_bind (row_unseen hx (fun y hy => ?_) ?_))
        · obtain ⟨e, he, rfl⟩ := List.mem_map.mp hy
          have he : e ∈ es.toList := by
            have h2 : e ∈ es ∧ e.1 = hK P w k := by simpa using he
            simpa using h2.1
          rw [R.ents] at he
          obtain ⟨r0, m0, rfl⟩ := List.mem_map.mp he
          exact ⟨r0.2, r0.1, rfl, R.rows r0 m0⟩
        · refine wp_if_neg (by decide) ?_
          try refine wpAny_bind (wpAny_pure ?_)
          exact compare
    · have met' : t.probe (fun i => (es[i]?.map (·.1)).getD 0) (hK P w k) (from'.getD (t.probeStart (hK P w k))) = some (.empty (way t.mask (hK P w k) K) none) := by
        have e2 : way t.mask (hK P w k) K = (nth t.mask (stop t (hK P w k) c) (K - c)).j := by rw [stop_j, cK]
        rw [start, e2]
        exact met
      rw [met']
      dsimp only
      refine wpAny_pure (gone fun m => ?_)
      obtain ⟨r, mem, e⟩ := List.mem_map.mp m
      obtain ⟨i, hi, ei⟩ := List.getElem_of_mem mem
      have hr : L[i]? = some r := by rw [List.getElem?_eq_getElem hi, ei]
      obtain ⟨d, d1, d2, d3⟩ := ahead i r hr e
      have no' := no (d - c)
      refine kept d i r hr e d3 d1 ⟨d - c, by omega, fun i1 h1 => ?_⟩
      first | exact no' i1 (by omega) h1 | exact no' (by omega) i1 h1
end
end KL
set_option Elab.async false
set_option linter.all false
set_option maxRecDepth 100000
set_option maxHeartbeats 4000000
namespace KL
open PySem L2 PySem.Spec PyProof.Rows
/-! ### one more such tuple -/
theorem all_picked {α : Type} (L : List α) : ∀ n, n ≤ L.length → (List.range n).filterMap (fun i => L[i]?) = L.take n
  | 0, _ => rfl
  | n + 1, h => by
    rw [List.range_succ, List.filterMap_append, all_picked L n (Nat.le_of_succ_le h), List.take_add_one, List.getElem?_eq_getElem h, List.filterMap_cons_some (List.getElem?_eq_getElem h)]
    rfl
theorem picked {α : Type} (L : List α) {o : List Nat} (h : o.Perm (List.range L.length)) : (o.filterMap fun i => L[i]?).Perm L := by
  have e := all_picked L L.length (Nat.le_refl _)
  rw [List.take_length] at e
  exact (h.filterMap _).trans (by rw [e])
section
variable {P : Program} {w : World}
theorem picked_ents {L : List KRow} {es : Array (Int × Value)} (he : es.toList = entK P w L) (o : List Nat) : (o.filterMap fun i => es[i]?) = entK P w (o.filterMap fun i => L[i]?) := by
  unfold entK
  rw [List.map_filterMap]
  congr 1
  funext i
  rw [← Array.getElem?_toList, he]
  unfold entK
  rw [List.getElem?_map]
theorem picked_hashes {L : List KRow} {es : Array (Int × Value)} (he : es.toList = entK P w L) : ∀ {o : List Nat}, (∀ i ∈ o, i < L.length) → hashesK P w (o.filterMap fun i => L[i]?) = o.map fun i => (es.map (·.1)).getD i 0
  | [], _ => rfl
  | i :: o, h => by
    have hi := h i List.mem_cons_self
    rw [List.filterMap_cons_some (List.getElem?_eq_getElem hi), List.map_cons, ← picked_hashes he fun j hj => h j (List.mem_cons_of_mem _ hj)]
    have e : (es.map (·.1))[i]? = some (hK P w (L[i]).2) := by
      rw [Array.getElem?_map, ent_at he (List.getElem?_eq_getElem hi)]
      rfl
    have e2 : (es.map (·.1)).getD i 0 = hK P w (L[i]).2 := by simp [Array.getD_eq_getD_getElem?, e]
    rw [e2]
    rfl
theorem dull {t : SetTable} {hs : List Int} (T : TabOk t hs) (c : Bool) : TabOk (if c = true then t else { t with plain := false }) hs := by
  cases c
  · exact ⟨T.ris, T.dm, T.sz, T.mok, T.bd, T.reach⟩
  · exact T
variable {A : Around} {E : Value → Shared → Prop} {s : Shared} {a x : Addr} {L : List KRow} {es : Array (Int × Value)} {ep : Nat} {t : SetTable} {k : NestedKey}
theorem seek0 (R : RowSet P w s.heap a L es ep t) (hx : AtK P w s.heap k x) (hu : A.units + 8 < cLine) {Q : SetFound → Shared → Prop} (there : k ∈ L.map (·.2) → Q (.there none) s)
    (gone : ∀ K, k ∉ L.map (·.2) → way t.mask (hK P w k) K ∉ t.place.toList → (∀ c, c < K → way t.mask (hK P w k) c ∈ t.place.toList) → Q (.free (way t.mask (hK P w k) K) false) s) :
    wpAny (model P w) A (setSearch a (.ref x) (hK P w k) true) Q E s := by
  have room := R.loose
  have hl : (hashesK P w L).length = L.length := List.length_map _
  obtain ⟨K, lim, free, full⟩ := R.table.first (by rw [hl]; omega) (hK P w k)
  have big : K < 100000 := by
    have : SetTable.turns t.mask ≤ 142 := by
      unfold SetTable.turns
      rcases R.table.mok with e | e | e <;> rw [e] <;> decide
    omega
  unfold setSearch
  refine seek R hx hu lim free full there (fun n => gone K n free full) 100000 0 none rfl (Nat.zero_le _) (by omega) fun i r hr e => ?_
  have h1 : (hashesK P w L)[i]? = some (hK P w k) := by
    unfold hashesK
    rw [List.getElem?_map, hr, ← e]
    rfl
  have h2 : i < t.place.toList.length := by
    rw [Array.length_toList, R.table.sz, hl]
    exact (List.getElem?_eq_some_iff.mp hr).1
  obtain ⟨d, d1, d2⟩ := R.table.before free h1 (List.getElem?_eq_getElem h2)
  exact ⟨d, Nat.zero_le _, d1, by rw [d2]; exact List.getElem?_eq_getElem h2⟩
/-- the table laid anew -/
theorem grow {o : Obj} (ho : s.heap.get? a = some o) (hex : o.ExactSet) (hd : o.data = .set es ep t) (he : es.toList = entK P w L) (T : TabOk t (hashesK P w L)) (fit : L.length ≤ t.mask) (once : (L.map (·.2)).Nodup)
    (rows : ∀ r ∈ L, AtK P w s.heap r.2 r.1) (ord : w.params.followText "set-order" = true ∨ t.led = true) (few : L.length < 64) {want M : Nat} (hw : SetTable.sizeAbove want - 1 = M) (hM : MaskOk M) (small : SetTable.sizeAbove want ≤ 128) (loose : L.length * 5 < M * 3)
    {Q : Unit → Shared → Prop} (q : ∀ h' L' es' ep' t', Heap.SameBut a s.heap h' → RowSet P w h' a L' es' ep' t' → L'.Perm L → Q () { s with heap := h' }) : wpAny (model P w) A (setRelay a want) Q E s := by
  have el := ent_len he
  have hl : (hashesK P w L).length = L.length := List.length_map _
  have fits := fits_of T (n := es.size) (by rw [el, hl]) (by rw [el]; exact fit)
  obtain ⟨t1, ord1, e1, perm, T1, m1, l1, _, _⟩ := relaid_ok t (hs := es.map (·.1)) (wanted := want) hw hM (by rw [Array.size_map, el]; omega)
  rw [Array.size_map, el] at perm
  have pk := picked L perm
  have same : (ord1.filterMap (es[·]?)).toList = entK P w (ord1.toList.filterMap fun i => L[i]?) := by
    rw [← picked_ents he]
    first | exact Array.toList_filterMap .. | simp
  rw [← picked_hashes he fun i hi => List.mem_range.mp (perm.mem_iff.mp hi)] at T1
  generalize ord1.toList.filterMap (fun i => L[i]?) = L1 at pk same T1
  have n1 : (ord1.filterMap (es[·]?)).size = es.size := by rw [ent_len same, pk.length_eq, el]
  rw [setRelay_eq]
  refine wpAny_bind (wpAny_setState_of ho hd fits ?_)
  dsimp only
  refine wp_if_neg (by rw [sizeLine_eq]; omega) ?_
  try refine wpAny_bind (wpAny_pure ?_)
  rw [e1]
  dsimp only
  refine wpAny_bind (wp_if_neg (by rw [n1]; simp) ?_)
  try refine wpAny_bind (wpAny_pure ?_)
  refine wpAny_pure ?_
  dsimp only
  have sb : Heap.SameBut a s.heap (s.heap.update a (Obj.putSet (ord1.filterMap (es[·]?)) t1)) := Heap.SameBut.update ..
  refine wpAny_storeSet_of ho hd (q _ L1 _ (ep + 1) t1 sb ⟨⟨_, store_at ho hd, ⟨hex.1, hex.2.1, hex.2.2⟩, rfl⟩, same, T1, (pk.map (·.2)).nodup_iff.mpr once, fun r hr => row_keeps (rows r (pk.mem_iff.mp hr)) ho hd sb, by rw [l1]; exact ord, ?_, by rw [pk.length_eq]; exact few⟩ pk) (by rw [n1, el, sizeLine_eq]; omega)
  rw [pk.length_eq, m1]
  exact loose
/-- what stands in the set behind it -/
def Joined (x : Addr) (k : NestedKey) (L L' : List KRow) : Prop := (k ∈ L.map (·.2) ∧ L' = L) ∨ (k ∉ L.map (·.2) ∧ L'.Perm ((x, k) :: L))
theorem join (R : RowSet P w s.heap a L es ep t) (hx : AtK P w s.heap k x) (hu : A.units + 8 < cLine) (room : L.length + 1 < 64) {Q : Bool → Shared → Prop}
    (q : ∀ b h' L' es' ep' t', Heap.SameBut a s.heap h' → RowSet P w h' a L' es' ep' t' → Joined x k L L' → Q b { s with heap := h' }) : wpAny (model P w) A (setAddHashed a (.ref x) (hK P w k)) Q E s := by
  obtain ⟨o, ho, hex, hd⟩ := R.obj
  have el := ent_len R.ents
  have hl : (hashesK P w L).length = L.length := List.length_map _
  have loose := R.loose
  unfold setAddHashed
  refine wpAny_holding ?_
  rw [show (100000 : Nat) = 99999 + 1 from rfl, setAddHashedIn_succ]
  refine wpAny_bind (wpAny_setState_of ho hd R.fits ?_)
  dsimp only
  refine wp_if_neg (by simp [byScan, Value.scannable]) ?_
  try refine wpAny_bind (wpAny_pure ?_)
  refine wpAny_bind (seek0 R hx hu (fun m => ?_) fun K n free full => ?_)
  · exact wpAny_pure (q false s.heap L es ep t (Heap.SameBut.refl a s.heap) R (.inl ⟨m, rfl⟩))
  · dsimp only
    refine wpAny_bind (wpAny_setState_of ho hd R.fits ?_)
    dsimp only
    obtain ⟨p1, p2, p3, p4, p5, _, _, _, p9⟩ := R.table.put free full
    generalize t.put (way t.mask (hK P w k) K) = tp at p1 p3 p4 p5 p9 ⊢
    obtain ⟨t1, p⟩ := tp
    dsimp only at p1 p3 p4 p5 p9 ⊢
    subst p1
    generalize SetTable.below t.place (way t.mask (hK P w k) K) = p at p2 p3 ⊢
    have cont : ∀ c : Bool, wpAny (model P w) A (do
        storeSet a (SetTable.insertAt es p (hK P w k, Value.ref x)) (if c = true then t1 else { t1 with plain := false })
        if (!false && (if c = true then t1 else { t1 with plain := false }).tooFull) = true then setRelay a (SetTable.grown (es.size + 1))
        pure true) Q E s := fun c => by
      have T1 := dull p3 c
      have k1 : (if c = true then t1 else { t1 with plain := false }).mask = t.mask ∧ (if c = true then t1 else { t1 with plain := false }).led = t.led ∧ (if c = true then t1 else { t1 with plain := false }).fill = (hashesK P w L).length + 1 := by
        cases c <;> exact ⟨p4, p5, p9⟩
      generalize (if c = true then t1 else { t1 with plain := false }) = t2 at T1 k1 ⊢
      obtain ⟨m2, o2, f2⟩ := k1
      rw [hl] at f2
      have pm : (L.take p ++ (x, k) :: L.drop p).Perm ((x, k) :: L) := put_perm L p (x, k)
      have ie : (SetTable.insertAt es p (hK P w k, Value.ref x)).toList = entK P w (L.take p ++ (x, k) :: L.drop p) := by
        rw [SetTable.toList_insertAt, R.ents]
        unfold entK
        rw [List.map_append, List.map_cons, List.map_take, List.map_drop]
      have ih : hashesK P w (L.take p ++ (x, k) :: L.drop p) = (hashesK P w L).take p ++ hK P w k :: (hashesK P w L).drop p := by
        unfold hashesK
        rw [List.map_append, List.map_cons, List.map_take, List.map_drop]
      rw [← ih] at T1
      have once : ((L.take p ++ (x, k) :: L.drop p).map (·.2)).Nodup := (pm.map (·.2)).nodup_iff.mpr (List.nodup_cons.mpr ⟨n, R.once⟩)
      generalize SetTable.insertAt es p (hK P w k, Value.ref x) = es1 at ie ⊢
      generalize L.take p ++ (x, k) :: L.drop p = L1 at pm T1 once ie
      have l1 : L1.length = L.length + 1 := pm.length_eq
      have e1 := ent_len ie
      refine wpAny_bind (wpAny_storeSet_of ho hd ?_ (by rw [e1, l1, sizeLine_eq]; omega))
      have sb : Heap.SameBut a s.heap (s.heap.update a (Obj.putSet es1 t2)) := Heap.SameBut.update ..
      have ho1 := store_at (es' := es1) (t' := t2) ho hd
      generalize s.heap.update a (Obj.putSet es1 t2) = h1 at sb ho1 ⊢
      have rows1 : ∀ r ∈ L1, AtK P w h1 r.2 r.1 := fun r hr => by
        rcases List.mem_cons.mp (pm.mem_iff.mp hr) with e | hr
        · rw [e]
          exact row_keeps hx ho hd sb
        · exact row_keeps (R.rows r hr) ho hd sb
      have ord1 : w.params.followText "set-order" = true ∨ t2.led = true := by
        rw [o2]
        exact R.order
      by_cases tf : t2.tooFull = true
      · have over : (L.length + 1) * 5 ≥ t.mask * 3 := by
          have h := tf
          unfold SetTable.tooFull at h
          rw [decide_eq_true_eq, f2, m2] at h
          exact h
        have at2 : (t.mask = 7 ∧ L.length = 4) ∨ (t.mask = 31 ∧ L.length = 18) := by
          rcases R.table.mok with e | e | e
          · exact .inl ⟨e, by omega⟩
          · exact .inr ⟨e, by omega⟩
          · exfalso
            omega
        have laid : ∀ M, SetTable.sizeAbove (SetTable.grown (L.length + 1)) - 1 = M → MaskOk M → SetTable.sizeAbove (SetTable.grown (L.length + 1)) ≤ 128 → (L.length + 1) * 5 < M * 3 →
            wpAny (model P w) A (setRelay a (SetTable.grown (L.length + 1))) (fun _ s' => wpAny (model P w) A (pure true) Q E s') E { s with heap := h1 } := fun M q1 q2 q3 q4 =>
          grow (s := { s with heap := h1 }) ho1 ⟨hex.1, hex.2.1, hex.2.2⟩ rfl ie T1 (by rw [l1, m2]; rcases at2 with ⟨z, z2⟩ | ⟨z, z2⟩ <;> omega) once rows1 ord1 (by omega) q1 q2 q3 (by rw [l1]; exact q4) fun h2 L2 es2 ep2 t3 sb2 R2 pm2 =>
            wpAny_pure (q true h2 L2 es2 ep2 t3 (sb.trans sb2) R2 (.inr ⟨n, pm2.trans pm⟩))
        rw [el]
        first
          | (refine wpAny_bind (wp_if_pos (by simp [tf]) ?_)
             rcases at2 with ⟨_, z⟩ | ⟨_, z⟩
             · exact laid 31 (by rw [z, size_20]) (.inr (.inl rfl)) (by rw [z, size_20]; decide) (by omega)
             · exact laid 127 (by rw [z, size_76]) (.inr (.inr rfl)) (by rw [z, size_76]; decide) (by omega))
          | (refine wp_if_pos (by simp [tf]) (wpAny_bind ?_)
             rcases at2 with ⟨_, z⟩ | ⟨_, z⟩
             · exact laid 31 (by rw [z, size_20]) (.inr (.inl rfl)) (by rw [z, size_20]; decide) (by omega)
             · exact laid 127 (by rw [z, size_76]) (.inr (.inr rfl)) (by rw [z, size_76]; decide) (by omega))
      · have fin := q true h1 L1 es1 (ep + 1) t2 sb ⟨⟨_, ho1, ⟨hex.1, hex.2.1, hex.2.2⟩, rfl⟩, ie, T1, once, rows1, ord1, by
          have h := tf
          unfold SetTable.tooFull at h
          rw [decide_eq_true_eq, f2, m2] at h
          rw [l1, m2]
          omega, by omega⟩ (.inr ⟨n, pm⟩)
        first
          | exact wp_if_neg (by simp [tf]) (wpAny_pure fin)
          | exact wpAny_bind (wp_if_neg (by simp [tf]) (wpAny_pure (wpAny_pure fin)))
    by_cases pl : t1.plain = true
    · first
        | exact wpAny_bind (wp_if_pos pl (row_value hx cont))
        | exact wp_if_pos pl (wpAny_bind (row_value hx cont))
    · first
        | exact wpAny_bind (wp_if_neg pl (wpAny_pure (cont true)))
        | exact wp_if_neg pl (wpAny_bind (wpAny_pure (cont true)))
        | exact wp_if_neg pl (cont true)
end
end KL
set_option Elab.async false
set_option linter.all false
set_option maxRecDepth 100000
set_option maxHeartbeats 4000000
namespace KL
open PySem L2 PySem.Spec PyProof.Rows
/-! ### set(xs), xs rows of ints and texts -/
/-- what the first i rows leave in the set -/
structure Took (rs : List KRow) (i : Nat) (L : List KRow) : Prop where
  sub : ∀ r ∈ L, r ∈ rs.take i
  all : ∀ r ∈ rs.take i, r.2 ∈ L.map (·.2)
  len : L.length ≤ i
theorem Took.on {rs L L' : List KRow} {i : Nat} {r : KRow} (g : Took rs i L) (h : rs[i]? = some r) (j : Joined r.1 r.2 L L') : Took rs (i + 1) L' := by
  have et : rs.take (i + 1) = rs.take i ++ [r] := by
    rw [List.take_add_one, h]
    rfl
  rcases j with ⟨m, rfl⟩ | ⟨_, pm⟩
  · refine ⟨fun x hx => ?_, fun x hx => ?_, Nat.le_succ_of_le g.len⟩
    · rw [et]
      exact List.mem_append_left _ (g.sub x hx)
    · rw [et] at hx
      rcases List.mem_append.mp hx with z | z
      · exact g.all x z
      · rw [List.mem_singleton.mp z]
        exact m
  · refine ⟨fun x hx => ?_, fun x hx => ?_, ?_⟩
    · rw [et]
      rcases List.mem_cons.mp (pm.mem_iff.mp hx) with e | z
      · rw [e]
        exact List.mem_append_right _ (List.mem_singleton.mpr rfl)
      · exact List.mem_append_left _ (g.sub x z)
    · rw [(pm.map (·.2)).mem_iff, List.map_cons]
      rw [et] at hx
      rcases List.mem_append.mp hx with z | z
      · exact List.mem_cons_of_mem _ (g.all x z)
      · rw [List.mem_singleton.mp z]
        exact List.mem_cons_self
    · have l := g.len
      rw [pm.length_eq, List.length_cons]
      omega
section
variable {P : Program} {w : World} {A : Around} {E : Value → Shared → Prop} {s : Shared}
theorem RowSet.move {h h' : Heap} {a : Addr} {L : List KRow} {es : Array (Int × Value)} {ep : Nat} {t : SetTable} (R : RowSet P w h a L es ep t) (k : ∀ o, h.get? a = some o → h'.get? a = some o) (rows : ∀ r ∈ L, AtK P w h' r.2 r.1) : RowSet P w h' a L es ep t := by
  obtain ⟨o, ho, r⟩ := R.obj
  exact ⟨⟨o, k o ho, r⟩, R.ents, R.table, R.once, rows, R.order, R.loose, R.few⟩
theorem rows_fill {I D : Addr} {fp wr : List Addr} {G : Array GenState → Array GenState → Prop} {n : Nat} {Pv : Nat → Value → Prop} {St : Nat → Shared → Prop} {R : Result → Shared → Prop} (W : WalksS P w A.in1 I fp wr G n Pv St) (hD : D ∉ fp)
    (rs : List KRow) (hn : rs.length = n) (few : n < 64) (hv : ∀ i v, Pv i v → ∃ r, rs[i]? = some r ∧ v = .ref r.1) (h0 : Heap) (at0 : ∀ r ∈ rs, AtK P w h0 r.2 r.1) (D0 : h0.get? D = none) (w0 : ∀ b ∈ wr, h0.get? b = none) (hu : A.in1.units + 8 < cLine) (left : Nat) :
    ∀ (i : Nat) (s : Shared) (L : List KRow), i + left = n → St i s → (∀ b o, h0.get? b = some o → s.heap.get? b = some o) → (∃ es ep t, RowSet P w s.heap D L es ep t) → Took rs i L →
      (∀ s' L', Moved (D :: wr) G s s' → (∃ es ep t, RowSet P w s'.heap D L' es ep t) → Took rs n L' → R (.ok (.ret .none)) s') → codeAny (model P w) A (.builtin "set.update.loop" ⟨[.ref D, .ref I], []⟩) R s := by
  have off : D ∉ wr := fun z => hD (W.sub _ z)
  have more : ∀ b ∈ wr, b ∈ D :: wr := fun b z => List.mem_cons_of_mem _ z
  have stay : ∀ {s s' : Shared}, Moved wr G s s' → (∀ b o, h0.get? b = some o → s.heap.get? b = some o) → ∀ b o, h0.get? b = some o → s'.heap.get? b = some o := fun mv up b o e => mv.heap b o (fun z => by rw [w0 b z] at e; cases e) (up b o e)
  induction left with
  | zero =>
    intro i s L e st up S g k
    have e : i = n := e
    subst e
    obtain ⟨es, ep, t, S⟩ := S
    refine codeAny_builtin F.entry_set_update_loop ?_
    rw [Around.under_plainId F.plain_set_update_loop _]
    show wpAny _ A.in1 (pyNext (.ref I) >>= _) _ _ s
    refine wpAny_bind (W.done s _ _ st fun s' mv => ?_)
    show wpAny _ A.in1 (ret Value.none) _ _ s'
    exact wpAny_pure (k s' L (mv.mono more) ⟨es, ep, t, S.move (fun o q => mv.heap D o off q) fun r hr => row_more (at0 r (List.mem_of_mem_take (g.sub r hr))) (stay mv up)⟩ g)
  | succ left ih =>
    intro i s L e st up S g k
    obtain ⟨es, ep, t, S⟩ := S
    refine codeAny_builtin F.entry_set_update_loop ?_
    rw [Around.under_plainId F.plain_set_update_loop _]
    show wpAny _ A.in1 (pyNext (.ref I) >>= _) _ _ s
    refine wpAny_bind (W.item i s _ _ (by omega) st fun v s' hp st' mv => ?_)
    obtain ⟨r, hr, rfl⟩ := hv i v hp
    have up2 := stay mv up
    have hx : AtK P w s'.heap r.2 r.1 := row_more (at0 r (List.mem_of_getElem? hr)) up2
    show wpAny _ A.in1 (holding [Value.ref r.1] (setAdd D (.ref r.1)) >>= _) _ _ s'
    refine wpAny_bind (wpAny_holding ?_)
    unfold setAdd
    refine wpAny_holding (wpAny_bind (hash_key hu hx ?_))
    have S1 := S.move (h' := s'.heap) (fun o q => mv.heap D o off q) fun q hq => row_more (at0 q (List.mem_of_mem_take (g.sub q hq))) up2
    refine join (s := { s' with toks := s'.toks + r.2.draws }) S1 hx hu (by have := g.len; omega) fun bb h' L' es' ep' t' sb S2 j => ?_
    have up3 : ∀ b o, h0.get? b = some o → h'.get? b = some o := fun b o e => (sb.2 b fun z => by rw [z, D0] at e; cases e).trans (up2 b o e)
    refine wpAny_pure ⟨plainId_quiet F.plain_set_update_loop _, ih (i + 1) _ L' (by omega) (W.frame _ s' _ _ st' (Nat.le_add_right _ _) fun b hb o e => ?_) up3 ⟨es', ep', t', S2⟩ (g.on hr j) fun s2 L2 mv2 S3 g3 => ?_⟩
    · have nb : b ≠ D := fun c => hD (by rw [← c]; exact hb)
      rw [sb.2 b nb]
      exact e
    · refine k s2 L2 (Moved.trans W.gtrans ((mv.mono more).then_heap (Nat.le_add_right _ _) fun b o hb e => ?_) mv2) S3 g3
      have nb : b ≠ D := fun c => hb (by rw [c]; exact List.mem_cons_self)
      rw [sb.2 b nb]
      exact e
theorem call_set_rows {l : Addr} {us : Array Value} {rs : List KRow} {Q : Value → Shared → Prop} (hh : A.handled = none) (hl : s.heap.IsList l us) (rv : us.toList = rs.map fun r => Value.ref r.1) (at0 : ∀ r ∈ rs, AtK P w s.heap r.2 r.1) (few : rs.length < 64) (hu : A.units + 11 < cLine)
    (h : ∀ h' tk L, (∃ es ep t, RowSet P w h' s.heap.objs.size L es ep t) → Took rs rs.length L → (∀ b o, s.heap.get? b = some o → h'.get? b = some o) → Q (.ref s.heap.objs.size) { s with heap := h', toks := tk }) :
    wpAny (model P w) A (call (.type "set") [.ref l]) Q E s := by
  have sz : us.size = rs.length := by
    rw [← Array.length_toList, rv, List.length_map]
  refine type_made (Q₁ := fun obj s₁ => obj = .ref s.heap.objs.size ∧ s₁ = { s with heap := s.heap.push { cls := .type "set", dict := none, data := .set #[] 0 (.fresh 0 0 (!w.params.followText "set-order")) } }) F.called_set (F.typeCall_set_1 _) F.entry_set_init (code_set_led1 _ ⟨rfl, rfl⟩) ?_
  rintro obj s₁ ⟨rfl, rfl⟩
  have new : (s.heap.push { cls := .type "set", dict := none, data := .set #[] 0 (.fresh 0 0 (!w.params.followText "set-order")) }).get? s.heap.objs.size = some { cls := .type "set", dict := none, data := .set #[] 0 (.fresh 0 0 (!w.params.followText "set-order")) } := Heap.get?_push_size _ rfl
  refine ⟨⟨_, new, rfl⟩, fun q => check_set_init_1 ⟨_, new, rfl⟩ q, ?_⟩
  have hT : Shared.TypeIs { s with heap := s.heap.push { cls := .type "set", dict := none, data := .set #[] 0 (.fresh 0 0 (!w.params.followText "set-order")) } } (.ref s.heap.objs.size) "set" := ⟨_, new, rfl⟩
  obtain ⟨⟨cls, dd, dat, sl⟩, ho, hc, n, hd⟩ := hl
  simp only at hc hd
  subst hc hd
  have ho' : (s.heap.push { cls := .type "set", dict := none, data := .set #[] 0 (.fresh 0 0 (!w.params.followText "set-order")) }).get? l = some { cls := .type "list", dict := dd, data := .seq us n, slots := sl } := Heap.get?_push_of_some _ ho
  have hl' : (s.heap.push { cls := .type "set", dict := none, data := .set #[] 0 (.fresh 0 0 (!w.params.followText "set-order")) }).IsList l us := ⟨_, ho', rfl, n, rfl⟩
  have hz : (s.heap.push { cls := .type "set", dict := none, data := .set #[] 0 (.fresh 0 0 (!w.params.followText "set-order")) }).objs.size = s.heap.objs.size + 1 := Heap.size_push ..
  have b1 := F.sub_list_set
  have b2 := F.sub_list_frozenset
  have b3 : (Value.type "list" == Value.type "dict") = false := by decide
  unfold Builtin.«set.__init__» noKeywords Builtin.Frozenset.updateFrom
  generalize hPI : pyIter = PI
  wp_walk
  subst hPI
  have lS : l < s.heap.objs.size := Heap.lt_size ho
  have nI : l ≠ (s.heap.push { cls := .type "set", dict := none, data := .set #[] 0 (.fresh 0 0 (!w.params.followText "set-order")) }).objs.size := by
    rw [hz]
    exact Nat.ne_of_lt (Nat.lt_succ_of_lt lS)
  have hD : s.heap.objs.size ∉ [(s.heap.push { cls := .type "set", dict := none, data := .set #[] 0 (.fresh 0 0 (!w.params.followText "set-order")) }).objs.size, l] := fun z => by
    rcases List.mem_cons.mp z with z | z
    · rw [hz] at z
      exact Nat.ne_of_lt (Nat.lt_succ_self _) z
    · have := List.mem_singleton.mp z
      exact Nat.ne_of_gt lS this
  have hv : ∀ (i : Nat) (v : Value), us[i]? = some v → ∃ r, rs[i]? = some r ∧ v = .ref r.1 := fun i v e => by
    have e : us.toList[i]? = some v := by rw [Array.getElem?_toList]; exact e
    rw [rv, List.getElem?_map] at e
    cases ex : rs[i]? with
    | none =>
      rw [ex] at e
      cases e
    | some x =>
      rw [ex] at e
      exact ⟨x, rfl, (Option.some.inj e).symm⟩
  have gone : ∀ b, s.heap.objs.size ≤ b → s.heap.get? b = none := fun b hb => by
    cases q : s.heap.get? b with
    | none => rfl
    | some o => exact absurd (Heap.lt_size q) (Nat.not_lt.mpr hb)
  refine wpAny_pyIter_list hl' ?_
  refine wpAny_bind (wpAny_runValue ?_)
  refine rows_fill ((Walks.list (show A.in1.in1.in1.handled = none by simp [hh]) _ l nI us).toS) hD rs sz.symm (by omega) hv s.heap at0 (gone _ (Nat.le_refl _)) (fun b hb => gone b (by
      rw [List.mem_singleton.mp hb, hz]
      exact Nat.le_succ _)) hu us.size 0 _ [] (by omega)
    ⟨⟨_, Heap.get?_push_size _ rfl, rfl, rfl⟩, hl'.push _⟩ (fun b o e => Heap.get?_push_of_some _ (Heap.get?_push_of_some _ e)) ⟨#[], 0, _, ⟨_, Heap.get?_push_of_some _ new, ⟨rfl, rfl, rfl⟩, rfl⟩, rfl, ⟨List.Pairwise.nil, rfl, rfl, .inl rfl, fun x hx => (by cases hx), fun i h j hi => (by simp [hashesK] at hi)⟩, List.nodup_nil, fun r hr => (by cases hr), ?_, (by show 0 * 5 < 7 * 3; decide), (by show 0 < 64; decide)⟩ ⟨fun r hr => (by cases hr), fun r hr => (by simp at hr), Nat.le_refl _⟩ ?_
  · show _ ∨ (!w.params.followText "set-order") = true
    cases w.params.followText "set-order"
    · exact .inr rfl
    · exact .inl rfl
  · intro s' L mv S g
    obtain ⟨h', g', d', tk', os'⟩ := s'
    have eg : g' = s.gens := mv.gens
    have ed : d' = s.drawn := mv.drawn
    have eo : os' = s.os := mv.os
    subst eg ed eo
    show wpAny _ _ _ _ _ _
    refine wpAny_pure ?_
    show wpAny _ _ (ret Value.none) _ _ _
    rw [sz] at g
    refine wpAny_pure ⟨rfl, h h' tk' L S g fun b o e => ?_⟩
    have bS : b < s.heap.objs.size := Heap.lt_size e
    refine mv.heap b o (fun z => ?_) (Heap.get?_push_of_some _ (Heap.get?_push_of_some _ e))
    rcases List.mem_cons.mp z with z | z
    · exact Nat.ne_of_lt bS z
    · have z := List.mem_singleton.mp z
      rw [hz] at z
      exact Nat.ne_of_lt (Nat.lt_succ_of_lt bS) z
end
end KL
set_option Elab.async false
set_option linter.all false
set_option maxRecDepth 100000
set_option maxHeartbeats 4000000
namespace KL
open PySem L2 PySem.Spec PyProof.Rows
/-! ### sets of rows by rule: set(xs), sorted(set) -/
theorem plain_mem : ∀ {ds : List PyData} {d : PyData}, plainAll ds = true → d ∈ ds → plainD d = true
  | e :: ds, d, h, m => by
    have h := Bool.and_eq_true_iff.mp (show (plainD e && plainAll ds) = true from by simpa [plainAll] using h)
    rcases List.mem_cons.mp m with rfl | m
    · exact h.1
    · exact plain_mem h.2 m
mutual
/-- data as a key -/
def keyO : PyData → NestedKey
  | .int i => .num i
  | .str x => .text x
  | .tuple ds => .tup (keysO ds)
  | _ => .none
def keysO : List PyData → List NestedKey
  | [] => []
  | d :: ds => keyO d :: keysO ds
end
mutual
theorem key_data : ∀ d : PyData, plainD d = true → (keyO d).data = d
  | .int _, _ => rfl
  | .str _, _ => rfl
  | .tuple ds, h => by
    rw [keyO, NestedKey.data, keys_data ds (by simpa [plainD] using h)]
  | .none, h => by simp [plainD] at h
  | .bool _, h => by simp [plainD] at h
  | .list _, h => by simp [plainD] at h
  | .dict _, h => by simp [plainD] at h
theorem keys_data : ∀ ds : List PyData, plainAll ds = true → NestedKey.datas (keysO ds) = ds
  | [], _ => rfl
  | d :: ds, h => by
    have h := Bool.and_eq_true_iff.mp (show (plainD d && plainAll ds) = true from by simpa [plainAll] using h)
    rw [keysO, NestedKey.datas, key_data d h.1, keys_data ds h.2]
end
mutual
theorem key_depth : ∀ d : PyData, plainD d = true → (keyO d).depth = d.depth
  | .int _, _ => rfl
  | .str _, _ => rfl
  | .tuple ds, h => by
    rw [keyO, NestedKey.depth, PyData.depth, keys_depth ds (by simpa [plainD] using h)]
  | .none, h => by simp [plainD] at h
  | .bool _, h => by simp [plainD] at h
  | .list _, h => by simp [plainD] at h
  | .dict _, h => by simp [plainD] at h
theorem keys_depth : ∀ ds : List PyData, plainAll ds = true → NestedKey.depthAll (keysO ds) = PyData.depthAll ds
  | [], _ => rfl
  | d :: ds, h => by
    have h := Bool.and_eq_true_iff.mp (show (plainD d && plainAll ds) = true from by simpa [plainAll] using h)
    rw [keysO, NestedKey.depthAll, PyData.depthAll, key_depth d h.1, keys_depth ds h.2]
end
theorem keys_at : ∀ {ds : List PyData} {i : Nat} {k : NestedKey}, (keysO ds)[i]? = some k → ∃ d, ds[i]? = some d ∧ k = keyO d
  | d :: ds, 0, k, h => by
    rw [keysO] at h
    cases h
    exact ⟨d, rfl, rfl⟩
  | d :: ds, i + 1, k, h => by
    rw [keysO] at h
    exact keys_at (ds := ds) (i := i) h
  | [], i, k, h => by
    rw [keysO] at h
    cases h
theorem keys_len : ∀ ds : List PyData, (keysO ds).length = ds.length
  | [] => rfl
  | d :: ds => by rw [keysO, List.length_cons, keys_len ds, List.length_cons]
theorem nest_of {X : Cx} {pins : List (Addr × Obj)} {σ : L2.St} {H : Hp} {s : Shared} (I : Inv X pins σ H s) : ∀ (n : Nat) (d : PyData) (v : V) (u : Value), d.depth ≤ n → plainD d = true → Dq H v d → RelV v u → PIs s.heap (keyO d) u
  | n, .int i, _, u, _, _, .int _, r => by
    obtain ⟨t, rfl⟩ := r
    exact .int i t
  | n, .str x, _, u, _, _, .str _, r => by
    obtain ⟨t, rfl⟩ := r
    exact .text x t
  | 0, .tuple ds, _, u, dn, _, _, r => by
    rw [PyData.depth] at dn
    exact absurd dn (Nat.not_succ_le_zero _)
  | n + 1, .tuple ds, _, u, dn, pl, .tup h1 h2, r => by
    cases r
    rw [PyData.depth] at dn
    obtain ⟨its, rv, p, _⟩ := I.tuple (SqT.of h1)
    obtain ⟨o, ho, hc, m, hd⟩ := p
    refine .tup ho hc hd (by rw [keys_len, List.toList_toArray, ← rv.length, dq_len h2]) fun i k v hk hv => ?_
    obtain ⟨d, hd', rfl⟩ := keys_at hk
    obtain ⟨y, hy, ry⟩ := back_get rv (by simpa using hv)
    obtain ⟨d2, hd2, q⟩ := DqAll.at h2 hy
    rw [hd'] at hd2
    cases hd2
    have pl : plainAll ds = true := by simpa [plainD] using pl
    exact nest_of I n d y v (Nat.le_trans (depth_mem1 (List.mem_of_getElem? hd')) (Nat.le_of_succ_le_succ dn)) (plain_mem pl (List.mem_of_getElem? hd')) q ry
  | _, .none, _, _, _, h, _, _ => by simp [plainD] at h
  | _, .bool _, _, _, _, h, _, _ => by simp [plainD] at h
  | _, .list _, _, _, _, h, _, _ => by simp [plainD] at h
  | _, .dict _, _, _, _, h, _, _ => by simp [plainD] at h
def rowD (k : NestedKey) : PyData := k.data
def RowK (H : Hp) (r : KRow) : Prop := ∃ d, r.2 = keyO d ∧ plainD d = true ∧ d.depth ≤ 4 ∧ Dq H (.ref r.1) d
theorem RowK.same {H H' : Hp} {r : KRow} (S : Same H H') (h : RowK H r) : RowK H' r := by
  obtain ⟨d, a, b, c, e⟩ := h
  exact ⟨d, a, b, c, Dq.same S _ _ e⟩
theorem key_of' {X : Cx} {pins : List (Addr × Obj)} {σ : L2.St} {H : Hp} {s : Shared} (I : Inv X pins σ H s) {r : KRow} (h : RowK H r) : AtK X.prog X.w s.heap r.2 r.1 := by
  obtain ⟨d, e, pl, dp, q⟩ := h
  rw [e]
  exact ⟨nest_of I 4 d _ _ dp pl q rfl, by rw [key_depth d pl]; exact dp⟩
theorem row_dq {H : Hp} {r : KRow} (h : RowK H r) : Dq H (.ref r.1) (rowD r.2) := by
  obtain ⟨d, e, pl, dp, q⟩ := h
  unfold rowD
  rw [e, key_data d pl]
  exact q
theorem AtK.read {P : Program} {w : World} {h : Heap} {k : NestedKey} {b : Addr} (x : AtK P w h k b) : Reads h (.ref b) (rowD k) [] := x.1.reads
structure RowS0 (P : Program) (w : World) (h : Heap) (a : Addr) (L : List KRow) : Prop where
  ex : ∃ es ep t, (∃ o, h.get? a = some o ∧ o.ExactSet ∧ o.data = .set es ep t) ∧ es.toList = entK P w L ∧ TabOk t (hashesK P w L) ∧ (w.params.followText "set-order" = true ∨ t.led = true) ∧ L.length * 5 < t.mask * 3
  once : (L.map (·.2)).Nodup
  few : L.length < 64
def RowsO (P : Program) (w : World) (a : Addr) (L : List KRow) : HO := .ext fun h => RowS0 P w h a L
theorem rowsO_ok {P : Program} {w : World} {H : Hp} {h : Heap} {a : Addr} {L : List KRow} (R : RowS0 P w h a L) : ObjOk P w H h a (RowsO P w a L) := by
  obtain ⟨⟨es, ep, t, ⟨o, ho, r⟩, q⟩, o1, f⟩ := id R
  exact ⟨R, ⟨o, ho⟩, fun _ _ p k => by
    obtain ⟨⟨es, ep, t, ⟨o, ho, r⟩, q⟩, o1, f⟩ := p
    exact ⟨⟨es, ep, t, ⟨o, k o ho, r⟩, q⟩, o1, f⟩⟩
theorem RowSet.bare {P : Program} {w : World} {h : Heap} {a : Addr} {L : List KRow} {es : Array (Int × Value)} {ep : Nat} {t : SetTable} (R : RowSet P w h a L es ep t) : RowS0 P w h a L :=
  ⟨⟨es, ep, t, R.obj, R.ents, R.table, R.order, R.loose⟩, R.once, R.few⟩
def rSetR (K : PySem.W.Frag) (P : Program) (w : World) : List V → Hp → VK → Prop := fun vs H Q => ∃ (a : Addr) (rs : List KRow), vs = [V.ref a] ∧ SqL K H a (rs.map fun r => V.ref r.1) ∧ (∀ r ∈ rs, RowK H r) ∧ rs.length < 64 ∧
  ∀ p L, H p = none → (∀ r ∈ L, r ∈ rs) → (L.map (·.2)).Nodup → (∀ r ∈ rs, r.2 ∈ L.map (·.2)) → Q (.ref p) (upd H p (RowsO P w p L))
def rSortR (P : Program) (w : World) : List V → Hp → VK → Prop := fun vs H Q => ∃ (Hd : Hp) (a : Addr) (L : List KRow), vs = [V.ref a] ∧ H a = some (RowsO P w a L) ∧ Same Hd H ∧ (∀ r ∈ L, RowK Hd r) ∧ (∀ r ∈ L, ∀ r' ∈ L, PySem.W.alike (rowD r.2) (rowD r'.2) = true) ∧ (∀ r ∈ L, ∃ k0 ks, r.2 = .tup (.num k0 :: ks)) ∧
  ∀ (ms : List KRow) (ys : List V) (p : Addr), ms.Perm L → DqAll Hd ys ((ms.map fun r => rowD r.2).mergeSort sleD) → H p = none → Q (.ref p) (upd H p (.lst ys))
theorem refs_vals : ∀ {rs : List KRow} {us : List Value}, Vals (rs.map fun r => V.ref r.1) us → us = rs.map fun r => Value.ref r.1
  | [], _, h => by
    cases h
    rfl
  | r :: rs, _, h => by
    cases h with
    | cons h1 h2 =>
      rw [refs_vals h2]
      cases (show _ = Value.ref r.1 from h1)
      rfl
theorem vals_rows : ∀ rs : List KRow, Vals (rs.map fun r => V.ref r.1) (rs.map fun r => Value.ref r.1)
  | [] => .nil
  | _ :: rs => .cons rfl (vals_rows rs)
theorem paired_rows : ∀ L : List KRow, Paired (fun (v : Value) (r : KRow) => v = .ref r.1) (L.map fun r => Value.ref r.1) L
  | [] => .nil
  | _ :: L => .cons rfl (paired_rows L)
theorem rows_paired : ∀ {out : List Value} {ms : List KRow}, Paired (fun (v : Value) (r : KRow) => v = .ref r.1) out ms → out = ms.map fun r => Value.ref r.1
  | _, _, .nil => rfl
  | _, _, .cons h t => by
    rw [rows_paired t, h]
    rfl
theorem each_rows {R : Value → KRow → Prop} : ∀ (ms : List KRow), (∀ r ∈ ms, R (.ref r.1) r) → PySem.W.EachIs R (ms.map fun r => Value.ref r.1) ms
  | [], _ => .nil
  | r :: ms, h => .cons (h r List.mem_cons_self) (each_rows ms fun x hx => h x (List.mem_cons_of_mem _ hx))
theorem rows_each : ∀ {us : List Value} {ms : List KRow}, PySem.W.EachIs (fun (v : Value) (r : KRow) => v = .ref r.1) us ms → us = ms.map fun r => Value.ref r.1
  | _, _, .nil => rfl
  | _, _, .cons h t => by
    rw [rows_each t, h]
    rfl
section
variable {X : Cx}
theorem cr_setR (hc : X.calm = true) (hu : X.A.units + 64 < cLine) : CallR X (.type "set") (rSetR X.K X.prog X.w) := by
  intro pins s σ H vs us Q I r h
  obtain ⟨a, rs, rfl, hs, rows, few, q⟩ := h
  obtain ⟨its, rv, hl, _⟩ := I.list hs
  rw [Vals.ref1 r]
  refine call_set_rows (rs := rs) (I.ok.hd hc) hl.isList (by rw [← refs_vals rv]) (fun x hx => key_of' I (rows x hx)) few (by omega) fun h' tk L S g keep => ?_
  obtain ⟨es, ep, t, S⟩ := S
  have all := g.all
  have sub := g.sub
  rw [List.take_length] at all sub
  exact ⟨.ref s.heap.objs.size, upd H s.heap.objs.size (RowsO X.prog X.w s.heap.objs.size L), I.laid (t' := tk) keep (Nat.le_refl _) (rowsO_ok S.bare), rfl, q _ L (I.hok.fresh (Nat.le_refl _)) sub S.once all⟩
theorem cr_sortR (hc : X.calm = true) (hu : X.A.units + 64 < cLine) : CallR X (.builtin "sorted") (rSortR X.prog X.w) := by
  intro pins s σ H vs us Q I r h
  obtain ⟨Hd, a, L, rfl, ha, Sd, rowsD, alk, ne, q⟩ := h
  have rows : ∀ r ∈ L, RowK H r := fun r hr => RowK.same Sd (rowsD r hr)
  have R : RowS0 X.prog X.w s.heap a L := (I.hok a _ ha).1
  rw [Vals.ref1 r]
  obtain ⟨⟨es, ep, t, ⟨o, ho, hx, hd⟩, ents, tab, ord, loose⟩, once, few⟩ := R
  have el := ent_len ents
  have at0 : ∀ x ∈ L, AtK X.prog X.w s.heap x.2 x.1 := fun x hx => key_of' I (rows x hx)
  have hf : t.fits es.size = true := fits_of tab (by rw [el]; exact (List.length_map _).symm) (by omega)
  refine Calls.call_function_entry kind_sorted plain_sorted entry_sorted (args_sorted1 _) ?_
  unfold Builtin.«sorted»
  refine wpAny_bind (m := checkCount "sorted" 1 1 _) (wpAny_pure ?_)
  refine wpAny_bind (collect_set (A := X.A.in1) (I.ok.hd hc) ⟨o, ho, hx.1, hd⟩ hf (by unfold scanBound; omega) tab.ris ord fun s1 out k1 z1 g1 o1 pm => ?_)
  have ev : es.toList.map (·.2) = L.map fun r => Value.ref r.1 := by
    rw [ents]
    unfold entK
    rw [List.map_map]
    rfl
  rw [ev] at pm
  obtain ⟨ms, pms, prm⟩ := paired_perm pm (paired_rows L)
  have eo := rows_paired prm
  subst eo
  have lm : ms.length = L.length := pms.length_eq
  have lz : (ms.map fun r => Value.ref r.1).length ≤ sizeLine := by
    rw [List.length_map, sizeLine_eq]
    omega
  refine wpAny_bind (wpAny_newList ?_ lz)
  have hoL : (s1.heap.push (seqObj "list" (ms.map fun r => Value.ref r.1).toArray 0)).get? s1.heap.objs.size = some (seqObj "list" (ms.map fun r => Value.ref r.1).toArray 0) := Heap.get?_push_size _ rfl
  have inL : ∀ x ∈ ms, x ∈ L := fun x hx => pms.mem_iff.mp hx
  have e1 : PySem.W.EachIs (fun (v : Value) (r : KRow) => v = .ref r.1) (ms.map fun r => Value.ref r.1) ms := each_rows ms fun _ _ => rfl
  have e2 : PySem.W.EachIs (fun (v : Value) (r : KRow) => ∃ as, Reads (s1.heap.push (seqObj "list" (ms.map fun r => Value.ref r.1).toArray 0)) v (rowD r.2) as ∧ s1.heap.objs.size ∉ as) (ms.map fun r => Value.ref r.1) ms :=
    each_rows ms fun x hx => ⟨[], (row_more (at0 x (inL x hx)) fun c o e => Heap.get?_push_of_some _ (k1 c o e)).read, fun z => nomatch z⟩
  have al : PySem.W.AllAlike (ms.map fun r => rowD r.2) := fun d hd d' hd' => by
    obtain ⟨x, hx, rfl⟩ := List.mem_map.mp hd
    obtain ⟨y, hy, rfl⟩ := List.mem_map.mp hd'
    exact alk x (inL x hx) y (inL y hy)
  have so : PySem.W.Sortable (ms.map fun r => rowD r.2) := .inl fun d hd => by
    obtain ⟨x, hx, rfl⟩ := List.mem_map.mp hd
    obtain ⟨k0, ks, e⟩ := ne x (inL x hx)
    show ∃ y ys, rowD x.2 = .tuple (y :: ys)
    rw [e]
    exact ⟨_, _, rfl⟩
  refine wpAny_bind (wpAny_holding (PySem.W.list_sort_data hoL e1 e2 al so (by rw [lm, sizeLine_eq]; omega) (fun b hb => (by
    obtain ⟨d, e, pl, dp, _⟩ := rows b (inL b hb)
    show X.A.units + 1 + 1 + (rowD b.2).depth < cLine
    unfold rowD
    rw [e, key_data d pl]
    omega)) fun srt ls es' => ?_))
  have evs := rows_each es'
  have ed : (ms.mergeSort (PySem.W.dataLe false fun r : KRow => rowD r.2)).map (fun r => rowD r.2) = (ms.map fun r => rowD r.2).mergeSort sleD := List.map_mergeSort fun _ _ _ _ => rfl
  have pmm : (ms.mergeSort (PySem.W.dataLe false fun r : KRow => rowD r.2)).Perm ms := List.mergeSort_perm _ _
  generalize ms.mergeSort (PySem.W.dataLe false fun r : KRow => rowD r.2) = ns at evs ed pmm
  subst evs
  obtain ⟨c, hcc⟩ := sortedHeap_at (vs := ms.map fun r => Value.ref r.1) (out := (ns.map fun r => Value.ref r.1).toArray) hoL
  have len : (ns.map fun r => V.ref r.1).length ≤ sizeLine := by
    rw [List.length_map, pmm.length_eq, lm, sizeLine_eq]
    omega
  have keep : ∀ b u, s.heap.get? b = some u → (sortedHeap (s1.heap.push (seqObj "list" (ms.map fun r => Value.ref r.1).toArray 0)) s1.heap.objs.size (ms.map fun r => Value.ref r.1) (ns.map fun r => Value.ref r.1).toArray).get? b = some u := fun b u e => by
    have e1 := k1 b u e
    have lt := Heap.lt_size e1
    rw [sortedHeap_old (Nat.ne_of_lt lt) (by rw [size_push']; exact Nat.lt_succ_of_lt lt)]
    exact Heap.get?_push_of_some _ e1
  have hn : H s1.heap.objs.size = none := I.hok.fresh z1
  have J : Inv X pins σ (upd H s1.heap.objs.size (.lst (ns.map fun r => V.ref r.1))) { s with heap := sortedHeap (s1.heap.push (seqObj "list" (ms.map fun r => Value.ref r.1).toArray 0)) s1.heap.objs.size (ms.map fun r => Value.ref r.1) (ns.map fun r => Value.ref r.1).toArray, gens := s1.gens, drawn := s1.drawn, toks := s1.toks } :=
    I.call (ch := []) (Un.laid keep z1 hn) (I.hok.laid keep z1 ⟨len, _, c, vals_rows ns, hcc⟩) (by rw [g1]; exact I.bare) (fun _ z => nomatch z)
  have es1 : ({ s1 with heap := sortedHeap (s1.heap.push (seqObj "list" (ms.map fun r => Value.ref r.1).toArray 0)) s1.heap.objs.size (ms.map fun r => Value.ref r.1) (ns.map fun r => Value.ref r.1).toArray } : Shared) = { s with heap := sortedHeap (s1.heap.push (seqObj "list" (ms.map fun r => Value.ref r.1).toArray 0)) s1.heap.objs.size (ms.map fun r => Value.ref r.1) (ns.map fun r => Value.ref r.1).toArray, gens := s1.gens, drawn := s1.drawn, toks := s1.toks } := by
    cases s1
    cases s
    cases o1
    rfl
  refine wpAny_pure ⟨_, rfl, ?_⟩
  rw [es1]
  refine ⟨.ref _, _, J, rfl, q ms _ _ pms ?_ hn⟩
  rw [← ed]
  have rowsN : ∀ x ∈ ns, RowK Hd x := fun x hx => rowsD x (inL x (pmm.mem_iff.mp hx))
  clear ed pmm len keep J es1 hcc ls es'
  induction ns with
  | nil => exact .nil
  | cons x ns ih => exact .cons (row_dq (rowsN x List.mem_cons_self)) (ih fun y hy => rowsN y (List.mem_cons_of_mem _ hy))
end
end KL
set_option Elab.async false
set_option linter.all false
set_option maxRecDepth 100000
set_option maxHeartbeats 4000000
namespace KL
open PySem L2 PySem.KX PySem.Spec PyProof.Rows
/-! ### a dict beside the empty one -/
section
variable {prog : Program} {w : World} {A : Around} {E : Value → Shared → Prop} {s : Shared} {a b : Addr}
theorem pairs_nil {nm : String} {oa ob : Obj} {es : Array DictEntry} {ep ep' : Nat} {Q : Bool → Shared → Prop} (ha : (a == sysModules) = false) (hb : (b == sysModules) = false) (hoa : s.heap.get? a = some oa) (hda : oa.data = .dict es ep)
    (hob : s.heap.get? b = some ob) (hdb : ob.data = .dict #[] ep') (h : Q (es.size == 0) s) : wpAny (model prog w) A (Builtin.Dict.samePairs nm a b) Q E s := by
  unfold Builtin.Dict.samePairs Builtin.Dict.showsAll
  rw [if_neg (show ¬ (a == sysModules) = true by rw [ha]; exact Bool.false_ne_true), if_neg (show ¬ (b == sysModules) = true by rw [hb]; exact Bool.false_ne_true)]
  refine wpAny_bind (wpAny_pure (wpAny_bind (wpAny_pure ?_)))
  refine wpAny_bind (wpAny_dictEntries hoa hda ?_)
  dsimp only
  refine wpAny_bind (wpAny_dictEntries hob hdb ?_)
  by_cases hsz : es.size = 0
  case neg =>
    rw [if_pos (by simpa using hsz)]
    have hbf : (es.size == 0) = false := by simpa using hsz
    rw [hbf] at h
    exact wpAny_bind (wpAny_rule (wpAny_pure h))
  case pos =>
    rw [if_neg (by rw [hsz]; simp)]
    refine wpAny_bind (wpAny_dictEpoch hoa hda ?_)
    refine wpAny_bind ?_
    rw [Std.Legacy.Range.forIn_eq_forIn_range']
    simp only [Std.Legacy.Range.size, Nat.sub_zero, Nat.add_sub_cancel, Nat.div_one]
    rw [hsz]
    rw [hsz] at h
    refine wpAny_forIn_list _ (fun rest q s' => s' = s ∧ q = (none, ()) ∧ rest = []) _ ?_ ?_ _ _ ⟨rfl, rfl, rfl⟩
    · rintro x rest q s' ⟨rfl, rfl, e⟩
      cases e
    · rintro q s' ⟨rfl, rfl, _⟩
      exact wpAny_pure h
theorem ne_nil_dict {oa ob : Obj} {es : Array DictEntry} {ep ep' : Nat} {Q : Value → Shared → Prop} (ha : (a == sysModules) = false) (hb : (b == sysModules) = false) (hoa : s.heap.get? a = some oa) (xa : oa.ExactDict) (hda : oa.data = .dict es ep)
    (hob : s.heap.get? b = some ob) (xb : ob.ExactDict) (hdb : ob.data = .dict #[] ep') (hu : A.units < cLine) (h : Q (.bool (!(es.size == 0))) s) : wpAny (model prog w) A (compareOp .NotEq (.ref a) (.ref b)) Q E s := by
  have ta : s.TypeIs (.ref a) "dict" := ⟨oa, hoa, xa.1⟩
  have tb : s.TypeIs (.ref b) "dict" := ⟨ob, hob, xb.1⟩
  refine wpAny_richCompare_same_room (op := .NotEq) ta tb PySem.F.slot_dict_ne (wpAny_call_entry PySem.F.slot_dict_ne ta PySem.F.entry_dict_ne ?_ (PySem.F.args_dict_ne_2 _ _)) hu
  show wpAny _ _ (Builtin.Dict.dictSlotArgs "__ne__" ⟨[.ref a, .ref b], []⟩ >>= _) _ _ s
  refine wpAny_bind ?_
  unfold Builtin.Dict.dictSlotArgs
  refine wpAny_bind (wpAny_notOrdered_dict ta ?_)
  show wpAny _ _ (pure (Value.ref a, Value.ref b)) _ _ s
  refine wpAny_pure ?_
  refine wpAny_bind (wpAny_isInstance (T := "dict") tb PySem.F.sub_dict_dict ?_)
  simp only [Bool.not_true, Bool.false_eq_true, if_false]
  refine wpAny_bind (wpAny_pure (wpAny_bind (wpAny_pure ?_)))
  refine wpAny_bind (pairs_nil ha hb hoa hda hob hdb ?_)
  refine wpAny_pure ⟨_, rfl, ?_, ?_⟩
  · exact fun x => nomatch x
  · simpa using h
end
def rDNil : R2 := fun x y H Q => ∃ a b kvs, x = .ref a ∧ y = .ref b ∧ H a = some (.dT kvs) ∧ H b = some (.dK []) ∧ Q (.bl (!kvs.isEmpty)) H
theorem op_neDNil {X : Cx} (hu : X.A.units + 64 < cLine) : OpR X (compareOp .NotEq) rDNil := by
  intro pins s σ H x y v u Q I rx ry h
  obtain ⟨a, b, kvs, rfl, rfl, ha, hb, q⟩ := h
  cases rx
  cases ry
  obtain ⟨_, la, xs, r, o, es, ep, h1, h2, h3, h4, _⟩ := dt_of I.hok ha
  obtain ⟨_, lb, vs, rv, o2, es2, ep2, k1, k2, k3, _, k4, _⟩ := dk_of I.hok hb
  have z : es2 = #[] := by
    cases rv
    have := k4.length
    have : es2.toList.length = 0 := by simpa using this
    cases es2 with
    | mk l =>
      cases l with
      | nil => rfl
      | cons c l => simp at this
  subst z
  refine ne_nil_dict la lb h1 h2 h3 k1 k2 k3 (by omega) ⟨.bl _, H, I, rfl, ?_⟩
  have e : (es.size == 0) = kvs.isEmpty := by
    have : es.size = kvs.length := by rw [← Array.length_toList, h4, List.length_map, Paired.length r]
    rw [this]
    cases kvs <;> rfl
  rw [e]
  exact q
end KL
set_option Elab.async false
set_option linter.all false
set_option maxRecDepth 100000
set_option maxHeartbeats 8000000
namespace KL
open PySem L2
/-! ### the law's forms -/
theorem rep_zero (n : Nat) : (List.replicate n [V.int 0]).flatten = (List.replicate n (0 : Int)).map V.int := by
  induction n with
  | zero => rfl
  | succ n ih => rw [List.replicate_succ, List.flatten_cons, ih, List.replicate_succ]; rfl
/-- forms, as many as there are registers -/
def FormsOk (size : Int) (i : Nat) (ds : List PyData) : Prop := ds.length = i ∧ ∀ f ∈ ds, FormS size f
theorem FormsOk.start {size : Int} : FormsOk size 0 [] := ⟨rfl, fun _ h => nomatch h⟩
theorem FormsOk.snoc {size : Int} {i : Nat} {ds : List PyData} {f : PyData} (h : FormsOk size i ds) (hf : FormS size f) : FormsOk size (i + 1) (ds ++ [f]) := by
  refine ⟨by simp [h.1], fun x hx => ?_⟩
  rcases List.mem_append.mp hx with z | z
  · exact h.2 x z
  · rw [List.mem_singleton.mp z]
    exact hf
theorem DeckAt.neF {H0 H : Hp} {p l a : Addr} {t : Int} {o : HO} (D : DeckAt H0 H p l t) (h : H0 a = some o) : a ≠ p ∧ a ≠ l := by
  refine ⟨?_, ?_⟩
  · rintro rfl
    rw [D.p0] at h
    cases h
  · rintro rfl
    rw [D.l0] at h
    cases h
/-- a tuple of one number times n -/
theorem repU_go {K : PySem.W.Frag} {p l z : Addr} {H0 H : Hp} {t : Int} {n : Int} {R : VK} (D : DeckAt H0 H p l t) (hz : H0 z = some (.tup [V.int 0])) (n1 : 1 ≤ n) (n3 : n ≤ 100)
    (h : ∀ H0' H' y, Go p l H0 H t H0' H' t 0 → H0' y = some (.tup ((List.replicate n.toNat (0 : Int)).map V.int)) → R (.ref y) H') : rRepU K (.ref z) (.int n) H R := by
  refine ⟨z, n, _, rfl, rfl, SqT.of (D.s _ _ hz), (fun q => nomatch q), n1, by omega, (by show 1 ≤ 1000; decide), fun e => ?_, fun e y ny => ?_⟩
  · subst e
    exact h H0 H z (Go.refl D) hz
  · rw [rep_zero]
    exact h _ _ y ((Go.refl D).new ny) upd_same
def SmallTo (i : Nat) (ds : List PyData) : Prop := ∃ ns : List Int, ds = ns.map .int ∧ ns.length = i ∧ ∀ j ∈ ns, -10 ≤ j ∧ j ≤ 10
theorem SmallTo.zero : SmallTo 0 [] := ⟨[], rfl, rfl, fun _ h => nomatch h⟩
theorem SmallTo.turn {i : Nat} {ds : List PyData} (h : SmallTo i ds) {j : Int} (h1 : -10 ≤ j) (h2 : j ≤ 10) : SmallTo (i + 1) (ds ++ [.int j]) := by
  obtain ⟨ns, rfl, rfl, q⟩ := h
  refine ⟨ns ++ [j], by simp, by simp, fun x hx => ?_⟩
  rcases List.mem_append.mp hx with z | z
  · exact q x z
  · rw [List.mem_singleton.mp z]
    exact ⟨h1, h2⟩
theorem SmallTo.form {i : Nat} {ds : List PyData} (h : SmallTo i ds) {j n : Int} (h1 : -10 ≤ j) (h2 : j ≤ 10) (hn : (i : Int) = n) : FormS n (.tuple (.int j :: ds)) := by
  obtain ⟨ns, rfl, rfl, q⟩ := h
  refine ⟨j :: ns, rfl, by simp; omega, fun x hx => ?_⟩
  rcases List.mem_cons.mp hx with z | z
  · rw [z]
    exact ⟨h1, h2⟩
  · exact q x z
theorem SmallTo.len {i : Nat} {ds : List PyData} (h : SmallTo i ds) : ds.length = i := by
  obtain ⟨ns, rfl, rfl, q⟩ := h
  simp
theorem small_rep (n : Nat) : SmallTo n ((List.replicate n (0 : Int)).map PyData.int) := ⟨_, rfl, by simp, fun j hj => by
  rw [List.mem_replicate] at hj
  omega⟩
theorem ixN_nat {n j : Nat} (h : j < n) : ixN n (j : Int) = some j := by
  unfold ixN
  rw [if_pos (Int.natCast_nonneg j), if_pos (Int.ofNat_lt.mpr h)]
  rfl
def spForms : Sp := fun vs H Q _ => ∃ (H0 : Hp) (p l a : Addr) (t : Int) (ms : List Int), vs = [.ref p, .ref a] ∧ DeckAt H0 H p l t ∧ 0 ≤ t ∧ t < 1000000 ∧ H0 a = some (.lst (ms.map V.int)) ∧ 1 ≤ ms.length ∧ ms.length ≤ 3 ∧ (∀ m ∈ ms, -3 ≤ m ∧ m ≤ 3) ∧
  Gives p l H0 H t 12 (fun d => ∃ fs, d = .tuple fs ∧ FormsOk ms.length ms.length fs) Q
abbrev nForms : List Str := ["_law_deck_here", "_law_mid", "_law_size", "_law_found", "_law_order", "_law_j", "_law_k", "_law_way", "_law_row", "_law_sign"]
theorem ints_at {ns : List Int} {j : Nat} (h : j < ns.length) : (ns.map V.int)[j]? = some (.int ns[j]) := by
  rw [List.getElem?_map, List.getElem?_eq_getElem h]
  rfl
theorem set_ints (ns : List Int) (j : Nat) (x : Int) : (ns.map V.int).set j (.int x) = (ns.set j x).map V.int := by rw [List.map_set]
theorem mem_set_of {ns : List Int} {j : Nat} {x : Int} {P : Int → Prop} (h : ∀ i ∈ ns, P i) (hx : P x) : ∀ i ∈ ns.set j x, P i := fun i hi => by
  rcases List.mem_or_eq_of_mem_set hi with z | z
  · exact h i z
  · rw [z]
    exact hx
theorem rg_ints (n : Nat) : rgV 0 (n : Int) = ((List.range n).map fun i : Nat => (i : Int)).map V.int := by
  unfold rgV
  rw [List.map_map]
  have : ((n : Int) - 0).toNat = n := by omega
  rw [this]
  refine List.map_congr_left fun i _ => ?_
  show V.int (0 + (i : Int)) = V.int (i : Int)
  rw [Int.zero_add]
/-- numbers of registers, in some order -/
def OrdOk (n : Nat) (os : List Int) : Prop := os.length = n ∧ ∀ o ∈ os, 0 ≤ o ∧ o < (n : Int)
def FmA (p l a : Addr) (Hs Hb : Hp) (t : Int) (n : Nat) (c : Int) (σ : L2.St) (H : Hp) : Prop :=
  ∃ t' D O os o5 o6 o7 o8 o9, σ = [some (.ref p), some (.ref a), some (.int (n : Int)), some (.ref D), some (.ref O), o5, o6, o7, o8, o9] ∧ Go p l Hs Hb t Hs H t' c ∧ Own p l D Hb Hs H (.lst []) ∧ Own p l O Hb Hs H (.lst (os.map V.int)) ∧ OrdOk n os ∧ D ≠ O
def FmL (p l a : Addr) (Hs Hb : Hp) (t : Int) (n : Nat) (c : Int) (σ : L2.St) (H : Hp) (i : Nat) : Prop :=
  ∃ H0 t' D O os ys ds o6 o5 o7 o8 o9, σ = [some (.ref p), some (.ref a), some (.int (n : Int)), some (.ref D), some (.ref O), o5, o6, o7, o8, o9] ∧ Go p l Hs Hb t H0 H t' c ∧ Own p l D Hb H0 H (.lst ys) ∧ DqAll H0 ys ds ∧ H0 O = some (.lst (os.map V.int)) ∧ OrdOk n os ∧ FormsOk n i ds
section
variable {P : Program} {w : World} {K : PySem.W.Frag} {mg : Str → Option Value} {base : Heap}
theorem scLForms : FnScope nForms ["_law_deck_here", "_law_mid"] (defScope lForms) := ⟨rfl, rfl, rfl, by decide +kernel, rfl, by decide +kernel, by decide +kernel⟩
theorem ok_lforms {f g : Addr} {fd gd : FuncData} (F : Fun K "_law_forms" "_law_forms" lForms f fd) (T : TxtG mg) (G : FnOk P w K mg base CX0 1 g gd ["_law_deck_here", "_law_below"] spDraw) (c : Cal K mg "_law_draw" g gd ["_law_deck_here", "_law_below"]) :
    FnOk P w K mg base CX0 2 f fd ["_law_deck_here", "_law_mid"] spForms := by
  refine F.ok scLForms (fun vs H Q E h => ?_) (fun cdv A outer s H vs Q E hr h => ?_)
  · obtain ⟨H0, p, l, a, t, ms, rfl, _⟩ := h
    rfl
  · obtain ⟨Hs, p, l, a, t, ms, rfl, D0, t0, t1, hm, m1, m3, mb, k⟩ := h
    have nd := scLForms.nd
    refine ⟨_, C8.pss_cut (ps_par (i := 2) (j := 3) (by rfl) nd rfl rfl (by decide) rfl rfl (pa_cons (pe_callB call_len_seq (by rfl) T.d.len PySem.boot_len (pa_cons (pv 1) pa_nil)) (pa_cons (pe_lst pa_nil) pa_nil)) (by rfl))
      (C8.pss_cut (ps_set (i := 4) nd rfl (.inl rfl) (pe_listRg rfl (by rfl) T.d.list (prg_1 (by rfl) T.range (pv 2))))
      (C8.pss_cut (ps_if (PW.pt (pw_and (pt_cmpR op_gt (pv 2) pe_int (nomark _)) (pw_and1 (pt_cmpR op_eq (pe_call G hr rfl c.m c.k c.b .nil pass0 (pa_cons (pv 0) (pa_cons pe_int pa_nil))) pe_int (nomark _)))))
          (C8.pss_cut (ps_par (i := 5) (j := 6) (by rfl) nd rfl rfl (by decide) rfl rfl (pa_cons (pe_call G hr rfl c.m c.k c.b .nil pass0 (pa_cons (pv 0) (pa_cons (pv 2) pa_nil))) (pa_cons (pe_call G hr rfl c.m c.k c.b .nil pass0 (pa_cons (pv 0) (pa_cons (pv 2) pa_nil))) pa_nil)) (by rfl))
          (pss_one (ps_asg (pe_tup (pa_cons (pe_ix (r := rIxL K) ix_list (pv 4) (pv 6) (fun _ _ => rfl)) (pa_cons (pe_ix (r := rIxL K) ix_list (pv 4) (pv 5) (fun _ _ => rfl)) pa_nil))) (pg_tup rfl (pgs_cons (pg_sub (pv 4) (pv 5) set_list) (pgs_cons (pg_sub (pv 4) (pv 6) set_list) pgs_nil)))))) pss_nil)
      (C8.pss_cut (ps_for PassesOwn.never rfl (pi_range1 (by rfl) T.range (pa_cons (pv 2) pa_nil)) (pg_name (i := 6) nd rfl (.inl rfl))
        (C8.pss_cut (ps_par (i := 7) (j := 8) (by rfl) nd rfl rfl (by decide) rfl rfl (pa_cons (pe_call G hr rfl c.m c.k c.b .nil pass0 (pa_cons (pv 0) (pa_cons pe_int pa_nil))) (pa_cons (pe_op op_rep (pe_lst (pa_cons pe_int pa_nil)) (pv 2)) pa_nil)) (by rfl))
        (pss_one (ps_if (pt_cmpR op_eq (pv 7) pe_int (nomark _))
          (pss_one (ps_expr (pe_bm PySem.F.plainAttrs_list PySem.F.slot_list_append PySem.F.type_list_append mt_append (pv 3) (pa_cons (pe_op (r := rCatA K) op_catA (pe_tup (pa_cons (pe_op op_sub (pe_op op_add (pe_ix (r := rIxL K) ix_list (pv 1) (pv 6) (fun _ _ => rfl)) (pe_call G hr rfl c.m c.k c.b .nil pass0 (pa_cons (pv 0) (pa_cons pe_int pa_nil)))) pe_int) pa_nil)) (pe_op op_repU (pe_tup (pa_cons pe_int pa_nil)) (pv 2))) pa_nil))))
          (C8.pss_cut (ps_set (i := 9) nd rfl (.inl rfl) (pe_ifExp (pt_cmpR op_lt (pv 7) pe_int (nomark _)) (pe_un un_neg pe_int) pe_int))
          (C8.pss_cut (ps_asg (pv 9) (pg_sub (pv 8) (pe_ix (r := rIxL K) ix_list (pv 4) (pv 6) (fun _ _ => rfl)) set_list))
          (pss_one (ps_expr (pe_bm PySem.F.plainAttrs_list PySem.F.slot_list_append PySem.F.type_list_append mt_append (pv 3) (pa_cons (pe_op (r := rCatA K) op_catA (pe_tup (pa_cons (pe_op op_sub (pe_ix (r := rIxL K) ix_list (pv 1) (pv 6) (fun _ _ => rfl)) (pe_op op_mul (pv 9) (pe_ix (r := rIxL K) ix_list (pv 1) (pe_ix (r := rIxL K) ix_list (pv 4) (pv 6) (fun _ _ => rfl)) (fun _ _ => rfl)))) pa_nil)) (pe_tupleOf (by rfl) T.tuple (pv 8))) pa_nil))))))))))
      (pss_one (ps_ret (pe_tupleOf (by rfl) T.tuple (pv 3))))))), ?_⟩
    have hn0 : (1 : Int) ≤ (ms.length : Int) := by omega
    refine ⟨fun σ H1 => ∃ D, σ = [some (.ref p), some (.ref a), some (.int (ms.length : Int)), some (.ref D), none, none, none, none, none, none] ∧ Go p l Hs H t Hs H1 t 0 ∧ Own p l D H Hs H1 (.lst []), ?_, ?_⟩
    · refine ⟨_, rfl, a, _, rfl, .inl (SqL.of (D0.s _ _ hm)), (by show 0 ≤ sizeLine; decide), fun D nD => ?_⟩
      refine ⟨_, _, rfl, D, ?_, (Go.refl D0).put0 nD, Own.start (Go.refl D0) nD⟩
      rw [List.length_map]
      rfl
    rintro σ1 H1 ⟨D, rfl, g1, w1⟩
    refine ⟨FmA p l a Hs H t ms.length 0, ?_, ?_⟩
    · refine ⟨_, rfl, _, rfl, RgOk.of_le (by decide) (by omega) (by decide) (by omega), fun O nO => ?_⟩
      rw [rg_ints]
      refine ⟨t, D, O, _, _, _, _, _, _, rfl, (g1.put0 nO).more (by omega), w1.put nO, Own.start g1 nO, ⟨by rw [List.length_map, List.length_range], fun o ho => ?_⟩, w1.ne nO⟩
      obtain ⟨i, hi, rfl⟩ := List.mem_map.mp ho
      have := List.mem_range.mp hi
      omega
    rintro σ2 H2 ⟨t', D, O, os, o5, o6, o7, o8, o9, rfl, g2, w2, v2, hO, neDO⟩
    have gt0 := g2.t0
    have gt := g2.t1
    refine ⟨FmA p l a Hs H t ms.length 3, ?_, ?_⟩
    · have stop : ∀ (H3 : Hp) (t3 : Int), Go p l Hs H2 t' Hs H3 t3 1 → FmA p l a Hs H t ms.length 3 [some (.ref p), some (.ref a), some (.int (ms.length : Int)), some (.ref D), some (.ref O), o5, o6, o7, o8, o9] H3 := fun H3 t3 g =>
        ⟨t3, D, O, os, _, _, _, _, _, rfl, (g2.trans g).more (by omega), w2.go g, v2.go g, hO, neDO⟩
      refine ⟨_, rfl, _, _, rfl, rfl, _, rfl, ?_⟩
      by_cases hb : (1 : Int) < (ms.length : Int)
      · refine iteYes (decide_eq_true hb) ?_
        refine ⟨_, rfl, Hs, p, l, t', 3, rfl, g2.d, by omega, by omega, by omega, by omega, fun H3 r g3 r0 r1 => ?_⟩
        refine ⟨rfl, _, rfl, ?_⟩
        by_cases e0 : r = 0
        · refine iteYes (decide_eq_true (by rw [e0])) ?_
          refine ⟨fun σ H5 => ∃ (t5 : Int) (j kk : Nat), σ = [some (.ref p), some (.ref a), some (.int (ms.length : Int)), some (.ref D), some (.ref O), some (.int (j : Int)), some (.int (kk : Int)), o7, o8, o9] ∧ Go p l Hs H2 t' Hs H5 t5 3 ∧ j < ms.length ∧ kk < ms.length, ?_, ?_⟩
          · have t3a := g3.t1
            have t3b := g3.t0
            refine ⟨_, rfl, _, rfl, Hs, p, l, _, _, rfl, g3.d, by omega, by omega, by omega, by omega, fun H4 j g4 j0 j1 => ?_⟩
            refine ⟨_, rfl, _, rfl, Hs, p, l, _, _, rfl, g4.d, by omega, by omega, by omega, by omega, fun H5 kk g5 k0 k1 => ?_⟩
            obtain ⟨j, rfl⟩ := Int.eq_ofNat_of_zero_le j0
            obtain ⟨kk, rfl⟩ := Int.eq_ofNat_of_zero_le k0
            exact ⟨_, _, rfl, _, j, kk, rfl, ((g3.trans g4).trans g5).more (by omega), by omega, by omega⟩
          rintro σ5 H5 ⟨t5, j, kk, rfl, g5, hj, hk⟩
          have v5 := v2.go g5
          have w5 := w2.go g5
          have hj' : j < os.length := by rw [hO.1]; exact hj
          have hk' : kk < os.length := by rw [hO.1]; exact hk
          refine ⟨_, rfl, _, rfl, O, _, _, _, rfl, rfl, SqL.of v5.h, atI_nat (ints_at hk'), _, rfl, _, rfl, O, _, _, _, rfl, rfl, SqL.of v5.h, atI_nat (ints_at hj'), (by show 2 ≤ sizeLine; decide), fun tp ntp => ?_⟩
          have g6 := g5.put0 (o := .tup [V.int os[kk], V.int os[j]]) ntp
          have v6 := v5.put (o' := .tup [V.int os[kk], V.int os[j]]) ntp
          have w6 := w5.put (o' := .tup [V.int os[kk], V.int os[j]]) ntp
          refine ⟨tp, _, rfl, SqT.of upd_same, rfl, ?_⟩
          revert g6 v6 w6
          generalize upd H5 tp (.tup [V.int os[kk], V.int os[j]]) = H6
          intro g6 v6 w6
          refine ⟨_, _, rfl, _, rfl, _, rfl, O, _, _, j, rfl, rfl, v6.h, ixN_nat (by rw [List.length_map]; exact hj'), ?_⟩
          rw [set_ints]
          refine ⟨_, _, rfl, _, rfl, _, rfl, O, _, _, kk, rfl, rfl, upd_same, ixN_nat (by rw [List.length_map, List.length_set]; exact hk'), rfl, ?_⟩
          rw [set_ints]
          have g7 := (g2.trans g6).more (n' := 3) (by omega)
          refine ⟨_, D, O, _, _, _, _, _, _, rfl, (g7.setO v6).setO v6.set, (w6.upd neDO).upd neDO, v6.set.set, ⟨by rw [List.length_set, List.length_set]; exact hO.1, ?_⟩, neDO⟩
          exact mem_set_of (mem_set_of hO.2 (hO.2 _ (List.getElem_mem _))) (hO.2 _ (List.getElem_mem _))
        · refine iteNo (decide_eq_false fun z => e0 (by injection z)) ?_
          exact stop H3 _ g3
      · refine iteNo (decide_eq_false hb) (iteNo rfl ?_)
        exact stop H2 t' ((Go.refl g2.d).more (by omega))
    clear g1 w1 g2 w2 v2 hO neDO gt gt0
    rintro σ2 H2 ⟨t', D, O, os, o5, o6, o7, o8, o9, rfl, g2, w2, v2, hO, neDO⟩
    have gt0 := g2.t0
    have gt := g2.t1
    refine ⟨fun σ H' => FmL p l a Hs H t ms.length 9 σ H' ms.length, ?_, ?_⟩
    · refine ⟨_, rfl, _, rfl, by omega, by omega, for_range (fun i σ H' => FmL p l a Hs H t ms.length (3 + 2 * (i : Int)) σ H' i) ?_ ?_ (fun σ H' h => ?_)⟩
      · exact ⟨_, t', D, O, os, [], [], _, _, _, _, _, rfl, (g2.keepO v2).more (by omega), w2.freeze neDO, .nil, upd_same, hO, .start⟩
      · rintro i σ H3 hi ⟨H0, t3, D, O, os, ys, ds, o6, o5, o7, o8, o9, rfl, g, w, q, fO, hO, hF⟩
        have hi : i < ms.length := by omega
        have ta := g.t0
        have tb := g.t1
        have eix : (0 : Int) + (i : Int) = (i : Int) := Int.zero_add _
        rw [eix]
        -- the end of a turn
        have fin : ∀ (H0' H' : Hp) (t4 : Int) (v : V) (c : Int) (es : List PyData) (r7 r8 r9 : Option V), Go p l H0 H3 t3 H0' H' t4 2 → Dq H0' v (.tuple (.int c :: es)) → SmallTo ms.length es → -10 ≤ c → c ≤ 10 →
            ∃ acc, H' D = some (.lst acc) ∧ acc.length < sizeLine ∧ FmL p l a Hs H t ms.length (3 + 2 * ((i + 1 : Nat) : Int)) [some (.ref p), some (.ref a), some (.int (ms.length : Int)), some (.ref D), some (.ref O), o5, some (.int (i : Int)), r7, r8, r9] (upd H' D (.lst (acc ++ [v]))) (i + 1) := by
          intro H0' H' t4 v c es r7 r8 r9 g4 hv hs c0 c1
          have w4 := w.go g4
          refine ⟨ys, w4.h, by rw [dq_len q, hF.1, sizeLine_eq]; omega, H0', t4, D, O, os, _, _, _, _, _, _, _, rfl, ((g.trans g4).more (by omega)).setO w4, w4.set, (DqAll.same g4.s _ _ q).snoc hv, g4.s _ _ fO, hO, hF.snoc (hs.form c0 c1 rfl)⟩
        refine ⟨fun σ H4 => ∃ (t4 way : Int) (r : Addr), σ = [some (.ref p), some (.ref a), some (.int (ms.length : Int)), some (.ref D), some (.ref O), o5, some (.int (i : Int)), some (.int way), some (.ref r), o9] ∧ Go p l H0 H3 t3 H0 H4 t4 1 ∧ Own p l r H3 H0 H4 (.lst ((List.replicate ms.length (0 : Int)).map V.int)), ?_, ?_⟩
        · refine ⟨_, rfl, H0, p, l, t3, 6, rfl, g.d, by omega, by omega, by omega, by omega, fun H4 way g4 w0 w1 => ?_⟩
          refine ⟨(by show 1 ≤ sizeLine; decide), fun z nz => ⟨_, rfl, z, _, [V.int 0], rfl, rfl, upd_same, by omega, by omega, ?_, fun r nr => ?_⟩⟩
          · show 1 * _ ≤ sizeLine
            rw [sizeLine_eq]
            omega
          · have g5 := g4.put0 (o := .lst [V.int 0]) nz
            rw [rep_zero]
            have en : ((ms.length : Int)).toNat = ms.length := by omega
            rw [en]
            exact ⟨_, _, rfl, _, way, r, rfl, g5.put0 nr, Own.start g5 nr⟩
        rintro σ4 H4 ⟨t4, way, r, rfl, g4, wr⟩
        have t4a := g4.t0
        have t4b := g4.t1
        have hm4 : H0 a = some (.lst (ms.map V.int)) := g.s _ _ hm
        have mi := mb _ (List.getElem_mem hi)
        have hio : i < os.length := by rw [hO.1]; exact hi
        have oi := hO.2 _ (List.getElem_mem hio)
        refine ⟨_, rfl, rfl, _, rfl, ?_⟩
        by_cases e0 : way = 0
        · refine iteYes (decide_eq_true (by rw [e0])) ?_
          have w4 := w.go g4
          refine ⟨_, rfl, .inl ⟨rfl, _, SqL.of w4.h⟩, ?_⟩
          refine ⟨_, rfl, _, rfl, a, _, _, _, rfl, rfl, SqL.of (g4.d.s _ _ hm4), atI_nat (ints_at hi), ?_⟩
          refine ⟨_, rfl, H0, p, l, t4, 3, rfl, g4.d, by omega, by omega, by omega, by omega, fun H5 x g5 x0 x1 => ?_⟩
          refine ⟨_, _, rfl, rfl, _, _, rfl, rfl, (by show 1 ≤ sizeLine; decide), fun tp ntp => ?_⟩
          have g6 := (g4.trans g5).new (o := .tup [V.int (ms[i] + x - 1)]) ntp
          have h6 : upd H0 tp (.tup [V.int (ms[i] + x - 1)]) tp = some (.tup [V.int (ms[i] + x - 1)]) := upd_same
          revert g6 h6
          generalize upd H5 tp (.tup [V.int (ms[i] + x - 1)]) = H6
          generalize upd H0 tp (.tup [V.int (ms[i] + x - 1)]) = H06
          intro g6 h6
          refine ⟨(by show 1 ≤ sizeLine; decide), fun z nz => ⟨_, rfl, ?_⟩⟩
          have g7 := g6.new (o := .tup [V.int 0]) nz
          have h7 := same_new (o := .tup [V.int 0]) (g6.d.s.free nz) _ _ h6
          have hz : upd H06 z (.tup [V.int 0]) z = some (.tup [V.int 0]) := upd_same
          revert g7 h7 hz
          generalize upd H6 z (.tup [V.int 0]) = H7
          generalize upd H06 z (.tup [V.int 0]) = H07
          intro g7 h7 hz
          refine repU_go g7.d hz hn0 (by omega) fun H08 H8 y g8 hy => ?_
          have en : ((ms.length : Int)).toNat = ms.length := by omega
          rw [en] at hy
          refine catA_go g8.d (g8.s _ _ h7) hy (.cons (.int _) .nil) (ints_dq _) (by rw [List.length_map, List.length_replicate, sizeLine_eq]; show 1 + _ ≤ _; omega) fun H09 H9 v g9 hv => ?_
          obtain ⟨acc, a1, a2, a3⟩ := fin H09 H9 _ v _ _ _ _ _ (((g7.trans g8).trans g9).more (by omega)) hv (small_rep ms.length) (by omega) (by omega)
          exact ⟨D, _, _, rfl, rfl, a1, a2, a3⟩
        · refine iteNo (decide_eq_false fun z => e0 (by injection z)) ?_
          refine ⟨fun σ H5 => ∃ sg : Int, σ = [some (.ref p), some (.ref a), some (.int (ms.length : Int)), some (.ref D), some (.ref O), o5, some (.int (i : Int)), some (.int way), some (.ref r), some (.int sg)] ∧ H5 = H4 ∧ -1 ≤ sg ∧ sg ≤ 1, ?_, ?_⟩
          · refine ⟨_, rfl, _, _, rfl, rfl, _, rfl, ?_⟩
            by_cases e3 : way < 3
            · exact iteYes (decide_eq_true e3) ⟨_, rfl, -1, rfl, rfl, by omega, by omega⟩
            · exact iteNo (decide_eq_false e3) ⟨1, rfl, rfl, by omega, by omega⟩
          rintro σ5 H5 ⟨sg, rfl, rfl, s0, s1⟩
          obtain ⟨oN, eo⟩ := Int.eq_ofNat_of_zero_le oi.1
          have oN1 : oN < ms.length := by omega
          refine ⟨fun σ H6 => ∃ rs : List Int, σ = [some (.ref p), some (.ref a), some (.int (ms.length : Int)), some (.ref D), some (.ref O), o5, some (.int (i : Int)), some (.int way), some (.ref r), some (.int sg)] ∧ Go p l H0 H3 t3 H0 H6 t4 1 ∧ Own p l r H3 H0 H6 (.lst (rs.map V.int)) ∧ SmallTo ms.length (rs.map PyData.int), ?_, ?_⟩
          · refine ⟨_, rfl, _, rfl, _, rfl, _, rfl, O, _, _, _, rfl, rfl, SqL.of (g4.d.s _ _ fO), atI_nat (ints_at hio), r, _, _, oN, rfl, rfl, wr.h, ?_, ?_⟩
            · rw [eo]
              exact ixN_nat (by rw [List.length_map, List.length_replicate]; exact oN1)
            · rw [set_ints]
              refine ⟨_, rfl, g4.setO wr, wr.set, ⟨_, rfl, by rw [List.length_set, List.length_replicate], ?_⟩⟩
              exact mem_set_of (fun j hj => by rw [List.mem_replicate] at hj; omega) (by omega)
          rintro σ6 H6 ⟨rs, rfl, g6, wr6, hs⟩
          have w6 := w.go g6
          have moN := mb _ (List.getElem_mem oN1)
          refine ⟨_, rfl, .inl ⟨rfl, _, SqL.of w6.h⟩, ?_⟩
          refine ⟨_, rfl, _, rfl, a, _, _, _, rfl, rfl, SqL.of (g6.d.s _ _ hm4), atI_nat (ints_at hi), _, rfl, _, rfl, _, rfl, _, rfl, O, _, _, _, rfl, rfl, SqL.of (g6.d.s _ _ fO), atI_nat (ints_at hio), a, _, _, .int ms[oN], rfl, rfl, SqL.of (g6.d.s _ _ hm4), ?_, ?_⟩
          · rw [eo]
            exact atI_nat (ints_at oN1)
          have bs : -10 ≤ ms[i] - sg * ms[oN] ∧ ms[i] - sg * ms[oN] ≤ 10 := by
            have : sg = -1 ∨ sg = 0 ∨ sg = 1 := by omega
            rcases this with z | z | z <;> rw [z] <;> omega
          refine ⟨_, _, rfl, rfl, .inl ⟨by omega, by omega⟩, _, _, rfl, rfl, (by show 1 ≤ sizeLine; decide), fun tp ntp => ?_⟩
          have g7 := g6.new (o := .tup [V.int (ms[i] - sg * ms[oN])]) ntp
          have wr7 := wr6.new (ob := .tup [V.int (ms[i] - sg * ms[oN])]) ntp
          have h7 : upd H0 tp (.tup [V.int (ms[i] - sg * ms[oN])]) tp = some (.tup [V.int (ms[i] - sg * ms[oN])]) := upd_same
          revert g7 h7 wr7
          generalize upd H6 tp (.tup [V.int (ms[i] - sg * ms[oN])]) = H7
          generalize upd H0 tp (.tup [V.int (ms[i] - sg * ms[oN])]) = H07
          intro g7 wr7 h7
          refine ⟨_, rfl, .inl ⟨r, _, rfl, SqL.of wr7.h, fun e ne => ?_⟩⟩
          have g8 := g7.new (o := .tup (rs.map V.int)) ne
          have h8 := same_new (o := .tup (rs.map V.int)) (g7.d.s.free ne) _ _ h7
          have he : upd H07 e (.tup (rs.map V.int)) e = some (.tup (rs.map V.int)) := upd_same
          have hl := hs.len
          refine catA_go g8.d h8 he (.cons (.int _) .nil) (ints_dq _) (by rw [List.length_map] at hl ⊢; rw [hl, sizeLine_eq]; show 1 + _ ≤ _; omega) fun H09 H9 v g9 hv => ?_
          obtain ⟨acc, a1, a2, a3⟩ := fin H09 H9 _ v _ _ _ _ _ ((g8.trans g9).more (by omega)) hv hs bs.1 bs.2
          exact ⟨D, _, _, rfl, rfl, a1, a2, a3⟩
      · obtain ⟨H0, t3, D, O, os, ys, ds, o6, o5, o7, o8, o9, rfl, g, w, q, fO, hO, hF⟩ := h
        have en : ((ms.length : Int)).toNat = ms.length := by omega
        rw [en] at g hF
        exact ⟨H0, t3, D, O, os, ys, ds, _, _, _, _, _, rfl, g.more (by omega), w, q, fO, hO, hF⟩
    rintro σ3 H3 ⟨H0, t3, D, O, os, ys, ds, o6, o5, o7, o8, o9, rfl, g, w, q, fO, hO, hF⟩
    refine ⟨_, rfl, .inl ⟨D, ys, rfl, SqL.of w.h, fun e ne => ?_⟩⟩
    exact k _ _ _ _ _ ((g.new ne).more (by omega)) (dq_new (g.d.s.free ne) q) ⟨ds, rfl, hF⟩
end
end KL
set_option Elab.async false
set_option linter.all false
set_option maxRecDepth 100000
set_option maxHeartbeats 8000000
namespace KL
open PySem L2
/-! ### what a drawn world is -/
def sgS (c : Nat) : Str := ⟨#[c]⟩
def letsOf (x : Str) : List Str := x.cps.toList.map sgS
theorem lets_len (x : Str) : (letsOf x).length = x.cps.size := by simp [letsOf]
theorem lets_get {x : Str} {i c : Nat} (h : x.cps[i]? = some c) : (letsOf x)[i]? = some (sgS c) := by
  unfold letsOf
  rw [List.getElem?_map, Array.getElem?_toList, h]
  rfl
theorem take_more {α : Type} {l : List α} {i : Nat} {a : α} (h : l[i]? = some a) : l.take (i + 1) = l.take i ++ [a] := by
  rw [List.take_add_one, h]
  rfl
def lets3 : List Str := ["abc", "akz", "pqr"]
structure SignsOk (y : Str) : Prop where
  lt : (letsOf y).Pairwise sLt
  le : ∀ l ∈ letsOf y, letS l = true
  n1 : 1 ≤ y.cps.size
  n3 : y.cps.size ≤ 3
  as : ∀ l ∈ letsOf y, txS l = true
theorem six_take (x : Str) (r : Int) (r0 : 0 ≤ r) : letsOf (cutS x none (some (1 + r))) = (letsOf x).take (1 + r.toNat) := by
  obtain ⟨k, rfl⟩ := Int.eq_ofNat_of_zero_le r0
  have e : (1 : Int) + (k : Int) = ((1 + k : Nat) : Int) := by omega
  have z : ((k : Int)).toNat = k := by omega
  rw [e, z]
  unfold letsOf cutS
  rw [HT.sIx_none, HT.sIx_nat, Nat.sub_zero, List.drop_zero, List.map_take]
  have hl : x.length = (x.cps.toList.map sgS).length := by simp [Str.length]
  rw [hl, Nat.min_comm, List.take_eq_take_min (i := 1 + k)]
  simp
  omega
instance (x y : Str) : Decidable (sLt x y) := inferInstanceAs (Decidable (x.cps.toList < y.cps.toList))
theorem signs_ok {x : Str} (h : x ∈ lets3) {r : Int} (r0 : 0 ≤ r) : SignsOk (cutS x none (some (1 + r))) := by
  have z : (lets3.all fun x => decide ((letsOf x).Pairwise sLt) && ((letsOf x).all (fun l => letS l && txS l) && decide ((letsOf x).length = 3))) = true := by
    decide +kernel
  have z := List.all_eq_true.mp z x h
  have z := Bool.and_eq_true_iff.mp z
  have z2 := Bool.and_eq_true_iff.mp z.2
  have e := six_take x r r0
  have l3 : (letsOf x).length = 3 := of_decide_eq_true z2.2
  have ln : (cutS x none (some (1 + r))).cps.size = min (1 + r.toNat) 3 := by rw [← lets_len, e, List.length_take, l3]
  have al : ∀ l ∈ letsOf (cutS x none (some (1 + r))), letS l = true ∧ txS l = true := fun l hl => by
    rw [e] at hl
    exact Bool.and_eq_true_iff.mp (List.all_eq_true.mp z2.1 l (List.mem_of_mem_take hl))
  refine ⟨?_, fun l hl => (al l hl).1, by omega, by omega, fun l hl => (al l hl).2⟩
  rw [e]
  exact (of_decide_eq_true z.1).sublist (List.take_sublist _ _)
/-- a drawn world -/
structure LW where
  many : Int
  deeds : List (Str × Int)
  count : Int
  logs : Int
  start : List Int
  ends : List Int
  rows : List Row
  tests : List Row
  looks : List (List (List PyData))
def LW.lets (w : LW) : List Str := w.deeds.map (·.1)
def LW.hm (w : LW) : HM := ⟨w.many, w.deeds, w.start, w.count, w.ends, w.logs, w.rows, w.tests, .tuple (w.looks.map fun m => .tuple (m.map PyData.tuple))⟩
/-- an arrow's row: small numbers -/
structure OkR (size : Nat) (count logs : Int) (r : Row) : Prop where
  e : ∃ t fs ms, r.2.2 = [.int t, .tuple fs, .tuple ms] ∧ 0 ≤ t ∧ t < count ∧ FormsOk size size fs ∧ (ms.length : Int) = logs ∧ ∀ x ∈ ms, markD x = true ∧ Gd 20 0 30 x ∧ plainD x = true
structure OkT (size : Nat) (rows : List Row) (r : Row) : Prop where
  e : ∃ f lo hi, r.2.2 = [f, .int lo, .int hi] ∧ FormS size f ∧ -10 ≤ lo ∧ lo ≤ hi ∧ hi ≤ 20
  a : ∃ x ∈ rows, x.1 = r.1 ∧ x.2.1 = r.2.1
structure GoodW (w : LW) : Prop where
  p1 : 1 ≤ w.many
  p3 : w.many ≤ 3
  d1 : 1 ≤ w.deeds.length
  d3 : w.deeds.length ≤ 3
  dl : ∀ l ∈ w.lets, letS l = true ∧ txS l = true
  da : ∀ d ∈ w.deeds, 0 ≤ d.2 ∧ d.2 < w.many
  ds : w.lets.Pairwise sLt
  n1 : 1 ≤ w.start.length
  n3 : w.start.length ≤ 3
  sm : ∀ i ∈ w.start, -20 ≤ i ∧ i ≤ 20
  q1 : 1 ≤ w.count
  q3 : w.count ≤ 3
  ea : ∀ e ∈ w.ends, 0 ≤ e ∧ e < w.count
  es : w.ends.Pairwise (fun a b => a < b)
  g0 : 0 ≤ w.logs
  g2 : w.logs ≤ 2
  rw : w.rows.Pairwise keyLt
  rs : ∀ r ∈ w.rows, 0 ≤ r.1 ∧ r.1 < w.count ∧ r.2.1 ∈ w.lets
  ra : ∀ r ∈ w.rows, OkR w.start.length w.count w.logs r
  rn : w.rows.length ≤ 10
  tt : w.tests.Pairwise (fun a b => ltD (rowE a) (rowE b) = true)
  ta : ∀ r ∈ w.tests, OkT w.start.length w.rows r
  tn : w.tests.length ≤ 3
  kn : (w.looks.length : Int) = w.many
  ka : ∀ m ∈ w.looks, (m.length : Int) = w.count ∧ ∀ c ∈ m, c.length ≤ 3 ∧ ∀ f ∈ c, FormS w.start.length f
theorem FormS.form {n : Int} {d : PyData} (h : FormS n d) : formD n d = true := by
  obtain ⟨ns, rfl, e, _⟩ := h
  show (decide (((ns.map PyData.int).length : Int) = n + 1) && (ns.map PyData.int).all intD) = true
  rw [List.length_map, decide_eq_true e, List.all_map]
  exact List.all_eq_true.mpr fun _ _ => rfl
theorem plain_all_of : ∀ {ds : List PyData}, plainAll ds = true ↔ ∀ d ∈ ds, plainD d = true
  | [] => ⟨fun _ _ h => (nomatch h), fun _ => rfl⟩
  | e :: ds => by
    rw [show plainAll (e :: ds) = (plainD e && plainAll ds) from by simp [plainAll], Bool.and_eq_true, plain_all_of]
    exact ⟨fun h d hd => by
      rcases List.mem_cons.mp hd with rfl | m
      · exact h.1
      · exact h.2 d m, fun h => ⟨h _ List.mem_cons_self, fun d hd => h d (List.mem_cons_of_mem _ hd)⟩⟩
theorem plain_tup {ds : List PyData} (h : ∀ d ∈ ds, plainD d = true) : plainD (.tuple ds) = true := by
  rw [show plainD (.tuple ds) = plainAll ds from by simp [plainD]]
  exact plain_all_of.mpr h
theorem FormS.plain {n : Int} {d : PyData} (h : FormS n d) : plainD d = true := by
  obtain ⟨ns, rfl, e, _⟩ := h
  refine plain_tup fun d hd => ?_
  obtain ⟨i, _, rfl⟩ := List.mem_map.mp hd
  simp [plainD]
theorem plain_int {i : Int} : plainD (.int i) = true := by simp [plainD]
theorem plain_str {x : Str} : plainD (.str x) = true := by simp [plainD]
theorem FormS.sm {n : Nat} {d : PyData} (h : FormS n d) : FormSm n d := by
  obtain ⟨ns, rfl, e, q⟩ := h
  exact ⟨ns, rfl, by omega, fun i hi => by have := q i hi; constructor <;> omega⟩
theorem many_of {n w p W : Nat} {ds : List PyData} (hn : ds.length ≤ n) (h : ∀ d ∈ ds, Gd w p W d) : Many n w p W ds := ⟨hn, h⟩
theorem len_letter {x : Str} (h : letS x = true) : x.length = 1 := by
  unfold letS at h
  exact of_decide_eq_true (Bool.and_eq_true_iff.mp h).1
section
variable {w : LW}
theorem GoodW.right (g : GoodW w) : RightH w.hm where
  p1 := g.p1
  p3 := g.p3
  d1 := g.d1
  d5 := Nat.le_trans g.d3 (by decide)
  da := fun d hd => ⟨(g.dl _ (List.mem_map_of_mem hd)).1, g.da d hd⟩
  ds := List.pairwise_map.mp g.ds
  n1 := g.n1
  n3 := g.n3
  q1 := g.q1
  q3 := g.q3
  ea := g.ea
  es := g.es
  g0 := g.g0
  g2 := g.g2
  aa := fun r hr => by
    obtain ⟨s0, s1, l⟩ := g.rs r hr
    obtain ⟨t, fs, ms, e, t0, t1, hf, ml, hm⟩ := (g.ra r hr).e
    exact ⟨s0, s1, l, t, fs, ms, e, t0, t1, hf.1, fun f h => (hf.2 f h).form, ml, fun x h => (hm x h).1⟩
  as := g.rw
  ta := fun r hr => by
    obtain ⟨⟨f, lo, hi, e, hf, _, le, _⟩, a⟩ := g.ta r hr
    exact ⟨⟨f, lo, hi, e, hf.form, le⟩, a⟩
  ts := g.tt
  lk := by
    have h1 : tupD w.many w.many (.tuple (w.looks.map fun m => PyData.tuple (m.map PyData.tuple))) = true := by
      show (decide (w.many ≤ ((w.looks.map fun m => PyData.tuple (m.map PyData.tuple)).length : Int)) && decide (((w.looks.map fun m => PyData.tuple (m.map PyData.tuple)).length : Int) ≤ w.many)) = true
      have := g.kn
      rw [List.length_map, decide_eq_true (by omega), decide_eq_true (by omega)]
      rfl
    have h2 : (w.looks.map fun m => PyData.tuple (m.map PyData.tuple)).all (tupD w.count w.count) = true := List.all_eq_true.mpr fun d hd => by
      obtain ⟨m, hm, rfl⟩ := List.mem_map.mp hd
      have := (g.ka m hm).1
      show (decide (w.count ≤ ((m.map PyData.tuple).length : Int)) && decide (((m.map PyData.tuple).length : Int) ≤ w.count)) = true
      rw [List.length_map, decide_eq_true (by omega), decide_eq_true (by omega)]
      rfl
    have h3 : (w.looks.map fun m => PyData.tuple (m.map PyData.tuple)).all (allD (formsD w.hm.kit)) = true := List.all_eq_true.mpr fun d hd => by
      obtain ⟨m, hm, rfl⟩ := List.mem_map.mp hd
      refine List.all_eq_true.mpr fun d hd => ?_
      obtain ⟨c, hc, rfl⟩ := List.mem_map.mp hd
      show (true && c.all (formD w.start.length)) = true
      rw [Bool.true_and]
      exact List.all_eq_true.mpr fun f hf => (((g.ka m hm).2 c hc).2 f hf).form
    exact Bool.and_eq_true_iff.mpr ⟨h1, Bool.and_eq_true_iff.mpr ⟨h2, h3⟩⟩
theorem GoodW.sma (g : GoodW w) : SmA w.hm := fun r hr f hf => by
  obtain ⟨t, fs, ms, e, _, _, hF, _⟩ := (g.ra r hr).e
  have hf : f ∈ itemsD (r.2.2.getD 1 .none) := hf
  rw [e] at hf
  exact (hF.2 f hf).sm
theorem GoodW.gdRow (g : GoodW w) {r : Row} (hr : r ∈ w.rows) : Gd 20 3 3000 (rowE r) ∧ plainD (rowE r) = true := by
  obtain ⟨s0, s1, l⟩ := g.rs r hr
  obtain ⟨t, fs, ms, e, t0, t1, hF, ml, hm⟩ := (g.ra r hr).e
  have q3 := g.q3
  have g2 := g.g2
  have n3 := g.n3
  have lt := g.dl _ l
  have f1 : Gd 20 2 500 (.tuple fs) := ((many_of (n := 3) (by rw [hF.1]; exact n3) fun f h => (hF.2 f h).gd (by omega)).tup).mono (by decide) (by decide) (by decide)
  have m1 : Gd 20 1 100 (.tuple ms) := ((many_of (n := 2) (by omega) fun x h => (hm x h).2.1).tup).mono (by decide) (by decide) (by decide)
  unfold rowE
  rw [e]
  refine ⟨((Many.cons (w := 20) (p := 2) (W := 500) ((gd_int (by omega) (by omega)).mono (by decide) (by decide) (by decide)) (Many.cons ((gd_str lt.2 (by rw [len_letter lt.1]; decide)).mono (by decide) (by decide) (by decide)) (Many.cons ((gd_int (by omega) (by omega)).mono (by decide) (by decide) (by decide)) (Many.cons f1 (Many.cons (m1.mono (by decide) (by decide) (by decide)) Many.nil))))).tup).mono (by decide) (by decide) (by decide), ?_⟩
  refine plain_tup fun d hd => ?_
  simp only [List.mem_cons, List.not_mem_nil, or_false] at hd
  rcases hd with rfl | rfl | rfl | rfl | rfl
  · exact plain_int
  · exact plain_str
  · exact plain_int
  · exact plain_tup fun f h => (hF.2 f h).plain
  · exact plain_tup fun x h => (hm x h).2.2
theorem gdTest {size : Nat} {count : Int} {lets : List Str} {rows : List Row} {r : Row} (n3 : size ≤ 3) (q3 : count ≤ 3) (rs : ∀ r ∈ rows, 0 ≤ r.1 ∧ r.1 < count ∧ r.2.1 ∈ lets) (dl : ∀ l ∈ lets, letS l = true ∧ txS l = true) (hr : OkT size rows r) : Gd 20 2 1000 (rowE r) ∧ plainD (rowE r) = true := by
  obtain ⟨⟨f, lo, hi, e, hf, l0, le, h0⟩, y, hy, e1, e2⟩ := hr
  obtain ⟨s0, s1, l⟩ := rs y hy
  rw [e1] at s0 s1
  rw [e2] at l
  have lt := dl _ l
  unfold rowE
  rw [e]
  refine ⟨((Many.cons (w := 20) (p := 1) (W := 140) ((gd_int (by omega) (by omega)).mono (by decide) (by decide) (by decide)) (Many.cons ((gd_str lt.2 (by rw [len_letter lt.1]; decide)).mono (by decide) (by decide) (by decide)) (Many.cons (hf.gd (by omega)) (Many.cons ((gd_int (by omega) (by omega)).mono (by decide) (by decide) (by decide)) (Many.cons ((gd_int (by omega) (by omega)).mono (by decide) (by decide) (by decide)) Many.nil))))).tup).mono (by decide) (by decide) (by decide), ?_⟩
  refine plain_tup fun d hd => ?_
  simp only [List.mem_cons, List.not_mem_nil, or_false] at hd
  rcases hd with rfl | rfl | rfl | rfl | rfl
  · exact plain_int
  · exact plain_str
  · exact hf.plain
  · exact plain_int
  · exact plain_int
theorem GoodW.fit (g : GoodW w) : FitH w.hm := fun d hd => by
  have q3 := g.q3
  have q1 := g.q1
  have g2 := g.g2
  have g0 := g.g0
  have n3 := g.n3
  have p3 := g.p3
  have p1 := g.p1
  have nm : ∀ {i : Int}, -1000 ≤ i → i ≤ 1000 → Fit (.int i) := fun a b => ⟨(gd_int a b).mono (by decide) (by decide) (by decide), plain_int⟩
  have numsF : ∀ {ns : List Int}, ns.length ≤ 3 → (∀ i ∈ ns, -1000 ≤ i ∧ i ≤ 1000) → Fit (.tuple (ns.map .int)) := fun {ns} l h => by
    refine ⟨((many_of (n := 3) (w := 20) (p := 0) (W := 30) (by rw [List.length_map]; exact l) fun d hd => ?_).tup).mono (by decide) (by decide) (by decide), plain_tup fun d hd => ?_⟩
    · obtain ⟨i, hi, rfl⟩ := List.mem_map.mp hd
      exact gd_int (h i hi).1 (h i hi).2
    · obtain ⟨i, hi, rfl⟩ := List.mem_map.mp hd
      exact plain_int
  simp only [HM.parts, List.mem_cons, List.not_mem_nil, or_false] at hd
  rcases hd with rfl | rfl | rfl | rfl | rfl | rfl | rfl | rfl | rfl
  · exact nm (i := w.many) (by omega) (by omega)
  · refine ⟨((many_of (n := 3) (w := 20) (p := 1) (W := 70) (by rw [List.length_map]; exact g.d3) fun d hd => ?_).tup).mono (by decide) (by decide) (by decide), plain_tup fun d hd => ?_⟩
    · obtain ⟨e, he, rfl⟩ := List.mem_map.mp hd
      have lt := g.dl _ (List.mem_map_of_mem he)
      have := g.da e he
      exact ((Many.cons (w := 20) (p := 0) (W := 30) (gd_str lt.2 (by rw [len_letter lt.1]; decide)) (Many.cons (gd_int (by omega) (by omega)) Many.nil)).tup).mono (by decide) (by decide) (by decide)
    · obtain ⟨e, he, rfl⟩ := List.mem_map.mp hd
      refine plain_tup fun d hd => ?_
      simp only [List.mem_cons, List.not_mem_nil, or_false] at hd
      rcases hd with rfl | rfl
      · exact plain_str
      · exact plain_int
  · exact numsF n3 fun i hi => by have := g.sm i hi; omega
  · exact nm (i := w.count) (by omega) (by omega)
  · refine numsF ?_ fun i hi => by have := g.ea i hi; omega
    -- rising numbers below three
    have h := g.es
    have a := g.ea
    show w.ends.length ≤ 3
    generalize w.ends = l at h a
    match l, h, a with
    | [], _, _ => simp
    | [_], _, _ => simp
    | [_, _], _, _ => simp
    | [_, _, _], _, _ => simp
    | x :: y :: z :: u :: l, h, a =>
      exfalso
      obtain ⟨h1, h⟩ := List.pairwise_cons.mp h
      obtain ⟨h2, h⟩ := List.pairwise_cons.mp h
      obtain ⟨h3, h⟩ := List.pairwise_cons.mp h
      have a1 := a x (by simp)
      have a4 := a u (by simp)
      have := h1 y (by simp)
      have := h2 z (by simp)
      have := h3 u (by simp)
      omega
  · exact nm (i := w.logs) (by omega) (by omega)
  · refine ⟨((many_of (n := 10) (w := 20) (p := 3) (W := 3000) (by rw [List.length_map]; exact g.rn) fun d hd => ?_).tup).mono (by decide) (by decide) (by decide), plain_tup fun d hd => ?_⟩
    · obtain ⟨e, he, rfl⟩ := List.mem_map.mp hd
      exact (g.gdRow he).1
    · obtain ⟨e, he, rfl⟩ := List.mem_map.mp hd
      exact (g.gdRow he).2
  · refine ⟨((many_of (n := 3) (w := 20) (p := 2) (W := 1000) (by rw [List.length_map]; exact g.tn) fun d hd => ?_).tup).mono (by decide) (by decide) (by decide), plain_tup fun d hd => ?_⟩
    · obtain ⟨e, he, rfl⟩ := List.mem_map.mp hd
      exact (gdTest n3 q3 g.rs g.dl (g.ta e he)).1
    · obtain ⟨e, he, rfl⟩ := List.mem_map.mp hd
      exact (gdTest n3 q3 g.rs g.dl (g.ta e he)).2
  · refine ⟨((many_of (n := 3) (w := 20) (p := 3) (W := 2000) (by have := g.kn; rw [List.length_map]; omega) fun d hd => ?_).tup).mono (by decide) (by decide) (by decide), plain_tup fun d hd => ?_⟩
    · obtain ⟨m, hm, rfl⟩ := List.mem_map.mp hd
      refine ((many_of (n := 3) (w := 20) (p := 2) (W := 500) (by have := (g.ka m hm).1; rw [List.length_map]; omega) fun d hd => ?_).tup).mono (by decide) (by decide) (by decide)
      obtain ⟨c, hc, rfl⟩ := List.mem_map.mp hd
      exact ((many_of (n := 3) ((g.ka m hm).2 c hc).1 fun f hf => (((g.ka m hm).2 c hc).2 f hf).gd (by omega)).tup).mono (by decide) (by decide) (by decide)
    · obtain ⟨m, hm, rfl⟩ := List.mem_map.mp hd
      refine plain_tup fun d hd => ?_
      obtain ⟨c, hc, rfl⟩ := List.mem_map.mp hd
      exact plain_tup fun f hf => (((g.ka m hm).2 c hc).2 f hf).plain
end
end KL
set_option Elab.async false
set_option linter.all false
set_option maxRecDepth 100000
set_option maxHeartbeats 8000000
namespace KL
open PySem L2
/-! ### a look -/
def spLook : Sp := fun vs H Q _ => ∃ (H0 : Hp) (p l : Addr) (t : Int) (n : Nat), vs = [.ref p, .int (n : Int)] ∧ DeckAt H0 H p l t ∧ 0 ≤ t ∧ t < 1000000 ∧ 1 ≤ n ∧ n ≤ 3 ∧ Gives p l H0 H t 4 (FormS n) Q
def five5 : List Int := [0, 1, 1, -1, 2]
/-- the letters ahead of the j-th one of place i -/
def BefL (L : List Str) (i : Int) (j : Nat) (r : Row) : Prop := r.1 < i ∨ (r.1 = i ∧ r.2.1 ∈ L.take j)
theorem BefL.more {L : List Str} {i : Int} {j j' : Nat} {r : Row} (h : BefL L i j r) (e : j ≤ j') : BefL L i j' r := h.imp id fun ⟨a, b⟩ => ⟨a, (List.take_prefix_take_left e).subset b⟩
theorem BefL.next {L : List Str} {i : Int} {j j' : Nat} {r : Row} (h : BefL L i j r) : BefL L (i + 1) j' r := .inl (by rcases h with h | ⟨h, _⟩ <;> omega)
theorem pair_take {α : Type} {R : α → α → Prop} {L : List α} {j : Nat} {x y : α} (h : L.Pairwise R) (e : L[j]? = some x) (m : y ∈ L.take j) : R y x := by
  have := take_more e
  have p : (L.take (j + 1)).Pairwise R := h.sublist (List.take_sublist _ _)
  rw [this] at p
  exact (List.pairwise_append.mp p).2.2 y m x (List.mem_singleton.mpr rfl)
theorem BefL.lt {L : List Str} (hL : L.Pairwise sLt) {i : Int} {j : Nat} {x : Str} {r : Row} {rest : List PyData} (h : BefL L i j r) (e : L[j]? = some x) : keyLt r (i, x, rest) := by
  rcases h with h | ⟨h, m⟩
  · exact .inl h
  · exact .inr ⟨h, pair_take hL e m⟩
def rowK (r : Row) : List Key := [Sum.inl r.1, Sum.inr r.2.1]
def RowsKV (H : Hp) (kvs : List (List Key × V)) (rows : List Row) : Prop := Paired (fun kv r => kv.1 = rowK r ∧ Dq H kv.2 (.tuple r.2.2)) kvs rows
theorem RowsKV.same {H H' : Hp} {kvs : List (List Key × V)} {rows : List Row} (S : Same H H') (h : RowsKV H kvs rows) : RowsKV H' kvs rows := Paired.mapP h fun _ _ z => ⟨z.1, Dq.same S _ _ z.2⟩
structure RowsTo (L : List Str) (size : Nat) (count logs : Int) (i : Int) (j : Nat) (rows : List Row) : Prop where
  pw : rows.Pairwise keyLt
  bf : ∀ r ∈ rows, BefL L i j r
  ok : ∀ r ∈ rows, 0 ≤ r.1 ∧ r.1 < count ∧ r.2.1 ∈ L
  ra : ∀ r ∈ rows, OkR size count logs r
theorem RowsTo.start {L : List Str} {size : Nat} {count logs i : Int} : RowsTo L size count logs i 0 [] := ⟨.nil, (fun _ h => nomatch h), (fun _ h => nomatch h), (fun _ h => nomatch h)⟩
theorem RowsTo.more {L : List Str} {size : Nat} {count logs i : Int} {j j' : Nat} {rows : List Row} (h : RowsTo L size count logs i j rows) (e : j ≤ j') : RowsTo L size count logs i j' rows := ⟨h.pw, fun r hr => (h.bf r hr).more e, h.ok, h.ra⟩
theorem RowsTo.next {L : List Str} {size : Nat} {count logs i : Int} {j j' : Nat} {rows : List Row} (h : RowsTo L size count logs i j rows) : RowsTo L size count logs (i + 1) j' rows := ⟨h.pw, fun r hr => (h.bf r hr).next, h.ok, h.ra⟩
theorem RowsTo.put {L : List Str} {size : Nat} {count logs i : Int} {j : Nat} {rows : List Row} {x : Str} {rest : List PyData} (h : RowsTo L size count logs i j rows) (hL : L.Pairwise sLt) (e : L[j]? = some x) (i0 : 0 ≤ i) (i1 : i < count) (k : OkR size count logs (i, x, rest)) : RowsTo L size count logs i (j + 1) (rows ++ [(i, x, rest)]) := by
  have both : ∀ {P : Row → Prop}, (∀ r ∈ rows, P r) → P (i, x, rest) → ∀ r ∈ rows ++ [(i, x, rest)], P r := fun a b r hr => by
    rcases List.mem_append.mp hr with z | z
    · exact a r z
    · rw [List.mem_singleton.mp z]
      exact b
  refine ⟨List.pairwise_append.mpr ⟨h.pw, List.pairwise_singleton _ _, fun a ha b hb => ?_⟩, both (fun r hr => (h.bf r hr).more (Nat.le_succ _)) (.inr ⟨rfl, ?_⟩), both h.ok ⟨i0, i1, List.mem_of_getElem? e⟩, both h.ra k⟩
  · rw [List.mem_singleton.mp hb]
    exact (h.bf a ha).lt hL e
  · rw [take_more e]
    exact List.mem_append_right _ (List.mem_singleton.mpr rfl)
theorem key_ne {r s : Row} (h : keyLt r s) : rowK r ≠ rowK s := fun e => by
  unfold rowK at e
  injection e with e1 e2
  injection e1 with e1
  injection e2 with e2 _
  injection e2 with e2
  rcases h with h | ⟨_, h⟩
  · omega
  · exact sLt_ne h e2
theorem putK_new {kvs : List (List Key × V)} {k : List Key} {v : V} (h : ∀ kv ∈ kvs, kv.1 ≠ k) : putK kvs k v = kvs ++ [(k, v)] := by
  unfold putK
  rw [if_neg]
  intro z
  obtain ⟨kv, hm, e⟩ := List.any_eq_true.mp z
  exact h kv hm (of_decide_eq_true e)
theorem RowsKV.mem {H : Hp} {kvs : List (List Key × V)} {rows : List Row} (h : RowsKV H kvs rows) : ∀ kv ∈ kvs, ∃ r ∈ rows, kv.1 = rowK r := by
  induction h with
  | nil => intro _ z; cases z
  | cons a t ih =>
    intro kv hk
    rcases List.mem_cons.mp hk with rfl | hk
    · exact ⟨_, List.mem_cons_self, a.1⟩
    · obtain ⟨r, hr, e⟩ := ih kv hk
      exact ⟨r, List.mem_cons_of_mem _ hr, e⟩
theorem RowsKV.put {H : Hp} {kvs : List (List Key × V)} {rows : List Row} {r : Row} {v : V} (h : RowsKV H kvs rows) (lt : ∀ s ∈ rows, keyLt s r) (hv : Dq H v (.tuple r.2.2)) : RowsKV H (putK kvs (rowK r) v) (rows ++ [r]) := by
  rw [putK_new fun kv hk e => by
    obtain ⟨s, hs, e2⟩ := h.mem kv hk
    exact key_ne (lt s hs) (e2.symm.trans e)]
  exact Paired.snoc h ⟨rfl, hv⟩
theorem RowsKV.len {H : Hp} {kvs : List (List Key × V)} {rows : List Row} (h : RowsKV H kvs rows) : kvs.length = rows.length := Paired.length h
/-- the keys of a world's dict -/
def keys9 : List Key := [Sum.inr "many", Sum.inr "deeds", Sum.inr "count", Sum.inr "logs", Sum.inr "start", Sum.inr "ends", Sum.inr "rows", Sum.inr "tests", Sum.inr "looks"]
def ww (vs : List V) : List (Key × V) := keys9.zip vs
theorem ww_four (a b c d : V) : mergeK [] [(Sum.inr "many", a), (Sum.inr "deeds", b), (Sum.inr "count", c), (Sum.inr "logs", d)] = ww [a, b, c, d] := by rfl
theorem ww_start (a b c d v : V) : putK (ww [a, b, c, d]) (Sum.inr "start") v = ww [a, b, c, d, v] := by rfl
theorem ww_ends (a b c d e v : V) : putK (ww [a, b, c, d, e]) (Sum.inr "ends") v = ww [a, b, c, d, e, v] := by rfl
theorem ww_rows (a b c d e f v : V) : putK (ww [a, b, c, d, e, f]) (Sum.inr "rows") v = ww [a, b, c, d, e, f, v] := by rfl
theorem ww_tests (a b c d e f g v : V) : putK (ww [a, b, c, d, e, f, g]) (Sum.inr "tests") v = ww [a, b, c, d, e, f, g, v] := by rfl
theorem ww_looks (a b c d e f g h v : V) : putK (ww [a, b, c, d, e, f, g, h]) (Sum.inr "looks") v = ww [a, b, c, d, e, f, g, h, v] := by rfl
theorem ww_retest (a b c d e f g h i v : V) : putK (ww [a, b, c, d, e, f, g, h, i]) (Sum.inr "tests") v = ww [a, b, c, d, e, f, g, v, i] := by rfl
def look9 : List (List (List PyData)) → PyData := fun L => .list (L.map fun m => .list (m.map PyData.list))
/-- the parts of a world, in the order of its dict -/
def WParts (H : Hp) (vs : List V) (w : LW) : Prop := ∃ d s e r kvs t k, vs = [.int w.many, d, .int w.count, .int w.logs, s, e, .ref r, t, k] ∧ Dq H d (.list (w.deeds.map dE)) ∧ Dq H s (.list (w.start.map .int)) ∧ Dq H e (.list (w.ends.map .int)) ∧
  H r = some (.dT kvs) ∧ RowsKV H kvs w.rows ∧ Dq H t (.list (w.tests.map rowE)) ∧ Dq H k (look9 w.looks)
section
variable {P : Program} {w : World} {K : PySem.W.Frag} {mg : Str → Option Value} {base : Heap}
theorem scLook : FnScope ["_law_deck_here", "_law_size", "_law_k"] ["_law_deck_here", "_law_size"] (defScope lLook) := ⟨rfl, rfl, rfl, by decide +kernel, rfl, by decide +kernel, by decide +kernel⟩
theorem ok_look {f g1 g2 : Addr} {fd gd1 gd2 : FuncData} (F : Fun K "_law_look" "_law_look" lLook f fd) (T : TxtG mg)
    (G1 : FnOk P w K mg base CX0 1 g1 gd1 ["_law_deck_here", "_law_below"] spDraw) (c1 : Cal K mg "_law_draw" g1 gd1 ["_law_deck_here", "_law_below"])
    (G2 : FnOk P w K mg base CX0 2 g2 gd2 ["_law_deck_here", "_law_some"] spPick) (c2 : Cal K mg "_law_pick" g2 gd2 ["_law_deck_here", "_law_some"]) : FnOk P w K mg base CX0 3 f fd ["_law_deck_here", "_law_size"] spLook := by
  refine F.ok scLook (fun vs H Q E h => ?_) (fun cdv A outer s H vs Q E hr h => ?_)
  · obtain ⟨H0, p, l, t, n, rfl, _⟩ := h
    rfl
  · obtain ⟨H0, p, l, t, n, rfl, D, t0, t1, n1, n3, k⟩ := h
    have r1 : Room 1 _ := hr.mono (by decide)
    have nd := scLook.nd
    refine ⟨_, pss_one (ps_ret (pe_op (r := rCatA K) op_catA (pe_tup (pa_cons (pe_op op_sub (pe_call G1 r1 rfl c1.m c1.k c1.b .nil pass0 (pa_cons (pv 0) (pa_cons pe_int pa_nil))) pe_int) pa_nil))
      (pe_tupleOf (by rfl) T.tuple (pe_lc (own := [("_law_k", 2)]) (g := gName 2) (tt := tYes) rfl nd (pi_range1 (by rfl) T.range (pa_cons (pv 1) pa_nil)) (blkOk_by (N := ["_law_deck_here", "_law_size", "_law_k"]) (sc := defScope lLook) (by decide +kernel)) (fun _ _ _ _ _ => pg_name (i := 2) nd rfl (.inl rfl)) (fun _ _ _ _ _ => pts_nil)
        (fun _ _ _ _ _ => pe_call G2 hr rfl c2.m c2.k c2.b .nil pass0 (pa_cons (pv 0) (pa_cons (pe_lst (pa_cons pe_int (pa_cons pe_int (pa_cons pe_int (pa_cons (pe_un un_neg pe_int) (pa_cons pe_int pa_nil)))))) pa_nil))))))), ?_⟩
    refine ⟨_, rfl, H0, p, l, t, 3, rfl, D, t0, by omega, by omega, by omega, fun H1 x g1' x0 x1 => ?_⟩
    refine ⟨_, _, rfl, rfl, (by show 1 ≤ sizeLine; decide), fun tp ntp => ?_⟩
    have g2' := g1'.new (o := .tup [V.int (x - 1)]) ntp
    have h2 : upd H0 tp (.tup [V.int (x - 1)]) tp = some (.tup [V.int (x - 1)]) := upd_same
    revert g2' h2
    generalize upd H1 tp (.tup [V.int (x - 1)]) = H2
    generalize upd H0 tp (.tup [V.int (x - 1)]) = H02
    intro g2' h2
    have ta := g2'.t0
    have tb := g2'.t1
    refine ⟨_, rfl, (n : Int), rfl, by omega, by omega, fun B nB => ?_⟩
    refine lc_range (fun i H3 => Making p l B H02 H2 (t + 1) 1 SmallTo i H3) (Making.start g2'.d nB SmallTo.zero) ?_ ?_
    · rintro i H3 hi ⟨H03, t3, ys, ds, g3, w3, q3, hP⟩
      have a3 := g3.t0
      have b3 := g3.t1
      refine ⟨rfl, _, rfl, 1, rfl, (by show 5 ≤ sizeLine; decide), fun q nq => ?_⟩
      have g4 := (Go.refl g3.d).put0 (o := .lst [V.int 0, V.int 1, V.int 1, V.int (-1), V.int 2]) nq
      have w4 := Own.start (o := .lst [V.int 0, V.int 1, V.int 1, V.int (-1), V.int 2]) (Go.refl g3.d) nq
      refine ⟨H03, p, l, t3, q, _, rfl, g4.d, by omega, by omega, w4.h, w4.ap, w4.al, by decide, by decide, fun H5 j v g5 hv => ?_⟩
      have hx : v ∈ five5.map V.int := List.mem_of_getElem? hv
      obtain ⟨y, hy, rfl⟩ := List.mem_map.mp hx
      have hb : -10 ≤ y ∧ y ≤ 10 := List.all_eq_true.mp (show (five5.all fun y => decide (-10 ≤ y) && decide (y ≤ 10)) = true from by decide) y hy |> fun z => ⟨of_decide_eq_true (Bool.and_eq_true_iff.mp z).1, of_decide_eq_true (Bool.and_eq_true_iff.mp z).2⟩
      exact Making.turn g3 w3 q3 ((g4.trans g5).more (by omega)) (.int y) (by rw [hP.len]; omega) (hP.turn hb.1 hb.2)
    · rintro H3 ⟨H03, t3, ys, ds, g3, w3, q3, hP⟩
      refine .inl ⟨B, ys, rfl, SqL.of w3.h, fun e ne => ?_⟩
      have en : ((n : Int)).toNat = n := by omega
      rw [en] at hP g3
      have g4 := (g2'.trans g3).new (o := .tup ys) ne
      have h4 := same_new (o := .tup ys) (g3.d.s.free ne) _ _ (g3.s _ _ h2)
      have he : upd H03 e (.tup ys) e = some (.tup ys) := upd_same
      have q4 := DqAll.same (same_new (o := .tup ys) (g3.d.s.free ne)) _ _ q3
      refine catA_go g4.d h4 he (.cons (.int _) .nil) q4 (by rw [dq_len q3, hP.len, sizeLine_eq]; show 1 + _ ≤ _; omega) fun H09 H9 v g9 hv => ?_
      exact k _ _ _ _ _ ((g4.trans g9).more (by omega)) hv (hP.form (by omega) (by omega) rfl)
end
end KL
set_option Elab.async false
set_option linter.all false
set_option maxRecDepth 100000
set_option maxHeartbeats 16000000
namespace KL
open PySem L2
/-! ### a drawn world -/
abbrev nWorld : List Str := ["_law_deck_here", "_law_sizes", "_law_spots", "_law_most_deeds", "_law_size", "_law_count", "_law_many", "_law_mid", "_law_signs", "_law_w", "_law_p", "_law_x", "_law_owner", "_law_there", "_law_forms_now", "_law_marks_now", "_law_k", "_law_j"]
def looksSc : Scope := { kind := ScopeKind.function, names := [(".0", .local), ("_law_p", .local), ("range", .globalImplicit), ("_law_draw", .globalImplicit), ("_law_deck_here", .cell), ("_law_size", .cell)], isGenerator := false, isCoroutine := false }
def IntsP (P : Int → Prop) (i : Nat) (ds : List PyData) : Prop := ∃ ms : List Int, ds = ms.map .int ∧ ms.length = i ∧ ∀ m ∈ ms, P m
theorem IntsP.start {P : Int → Prop} : IntsP P 0 [] := ⟨[], rfl, rfl, fun _ h => nomatch h⟩
theorem IntsP.snoc {P : Int → Prop} {i : Nat} {ds : List PyData} {x : Int} (h : IntsP P i ds) (hx : P x) : IntsP P (i + 1) (ds ++ [.int x]) := by
  obtain ⟨ms, rfl, rfl, q⟩ := h
  refine ⟨ms ++ [x], by simp, by simp, fun m hm => ?_⟩
  rcases List.mem_append.mp hm with z | z
  · exact q m z
  · rw [List.mem_singleton.mp z]
    exact hx
theorem IntsP.len {P : Int → Prop} {i : Nat} {ds : List PyData} (h : IntsP P i ds) : ds.length = i := by
  obtain ⟨ms, rfl, rfl, q⟩ := h
  simp
def EndsTo (i : Nat) (ds : List PyData) : Prop := ∃ es : List Int, ds = es.map .int ∧ es.Pairwise (fun a b => a < b) ∧ (∀ e ∈ es, 0 ≤ e ∧ e < (i : Int)) ∧ es.length ≤ i
theorem EndsTo.start : EndsTo 0 [] := ⟨[], rfl, .nil, (fun _ h => nomatch h), Nat.le_refl _⟩
theorem EndsTo.snoc {i : Nat} {ds : List PyData} (h : EndsTo i ds) : EndsTo (i + 1) (ds ++ [.int (0 + (i : Int))]) := by
  obtain ⟨es, rfl, p, q, n⟩ := h
  refine ⟨es ++ [0 + (i : Int)], by simp, List.pairwise_append.mpr ⟨p, List.pairwise_singleton _ _, fun a ha b hb => ?_⟩, fun e he => ?_, by simp; omega⟩
  · rw [List.mem_singleton.mp hb]
    have := q a ha
    omega
  · rcases List.mem_append.mp he with z | z
    · have := q e z
      omega
    · rw [List.mem_singleton.mp z]
      omega
theorem EndsTo.skip {i : Nat} {ds : List PyData} (h : EndsTo i ds) : EndsTo (i + 1) ds := by
  obtain ⟨es, rfl, p, q, n⟩ := h
  exact ⟨es, rfl, p, fun e he => by have := q e he; omega, by omega⟩
theorem EndsTo.len {i : Nat} {ds : List PyData} (h : EndsTo i ds) : ds.length ≤ i := by
  obtain ⟨es, rfl, p, q, n⟩ := h
  simpa using n
def DeedsTo (many : Int) (y : Str) (i : Nat) (ds : List PyData) : Prop := ∃ dl : List (Str × Int), ds = dl.map dE ∧ dl.map (·.1) = (letsOf y).take i ∧ ∀ d ∈ dl, 0 ≤ d.2 ∧ d.2 < many
theorem DeedsTo.start {many : Int} {y : Str} : DeedsTo many y 0 [] := ⟨[], rfl, rfl, fun _ h => nomatch h⟩
theorem DeedsTo.snoc {many r : Int} {y : Str} {i c : Nat} {ds : List PyData} (h : DeedsTo many y i ds) (e : y.cps[i]? = some c) (r0 : 0 ≤ r) (r1 : r < many) : DeedsTo many y (i + 1) (ds ++ [.tuple [.str ⟨#[c]⟩, .int r]]) := by
  obtain ⟨dl, rfl, e1, q⟩ := h
  refine ⟨dl ++ [(sgS c, r)], by rw [List.map_append]; rfl, by rw [List.map_append, e1, take_more (lets_get e)]; rfl, fun d hd => ?_⟩
  rcases List.mem_append.mp hd with z | z
  · exact q d z
  · rw [List.mem_singleton.mp z]
    exact ⟨r0, r1⟩
theorem DeedsTo.len {many : Int} {y : Str} {i : Nat} {ds : List PyData} (h : DeedsTo many y i ds) : ds.length ≤ i := by
  obtain ⟨dl, rfl, e1, q⟩ := h
  have := congrArg List.length e1
  rw [List.length_map, List.length_take] at this
  rw [List.length_map]
  omega
def MarksTo (i : Nat) (ds : List PyData) : Prop := ds.length = i ∧ ∀ x ∈ ds, markD x = true ∧ Gd 20 0 30 x ∧ plainD x = true
theorem MarksTo.start : MarksTo 0 [] := ⟨rfl, fun _ h => nomatch h⟩
def marks3 : List Str := ["", "x", "y"]
theorem MarksTo.snoc {i : Nat} {ds : List PyData} {x : Str} (h : MarksTo i ds) (hx : x ∈ marks3) : MarksTo (i + 1) (ds ++ [.str x]) := by
  refine ⟨by simp [h.1], fun y hy => ?_⟩
  rcases List.mem_append.mp hy with z | z
  · exact h.2 y z
  · rw [List.mem_singleton.mp z]
    have a := List.all_eq_true.mp (show (marks3.all fun y => markD (.str y) && (txS y && decide (y.length ≤ 2))) = true by decide +kernel) x hx
    have a := Bool.and_eq_true_iff.mp a
    have b := Bool.and_eq_true_iff.mp a.2
    exact ⟨a.1, gd_str b.1 (of_decide_eq_true b.2), plain_str⟩
/-- a list of one's own stays from now on -/
theorem keep_list {p l B : Addr} {Hs Hb H0 H : Hp} {t t' n : Int} {ys : List V} {ds : List PyData} (g : Go p l Hs Hb t H0 H t' n) (w : Own p l B Hb H0 H (.lst ys)) (q : DqAll H0 ys ds) :
    Go p l Hs Hb t (upd H0 B (.lst ys)) H t' n ∧ Dq (upd H0 B (.lst ys)) (.ref B) (.list ds) ∧ Same H0 (upd H0 B (.lst ys)) := ⟨g.keepO w, .lst upd_same (DqAll.same (same_new w.n) _ _ q), same_new w.n⟩
def FormsC (n : Nat) (m : Nat) (i : Nat) (ds : List PyData) : Prop := ∃ L : List (List PyData), ds = L.map PyData.list ∧ L.length = i ∧ ∀ c ∈ L, c.length ≤ m ∧ ∀ f ∈ c, FormS n f
theorem FormsC.start {n m : Nat} : FormsC n m 0 [] := ⟨[], rfl, rfl, fun _ h => nomatch h⟩
theorem FormsC.snoc {n m i : Nat} {ds c : List PyData} (h : FormsC n m i ds) (hc : c.length ≤ m) (hf : ∀ f ∈ c, FormS n f) : FormsC n m (i + 1) (ds ++ [.list c]) := by
  obtain ⟨L, rfl, rfl, q⟩ := h
  refine ⟨L ++ [c], by simp, by simp, fun d hd => ?_⟩
  rcases List.mem_append.mp hd with z | z
  · exact q d z
  · rw [List.mem_singleton.mp z]
    exact ⟨hc, hf⟩
def LooksTo (n : Nat) (count : Int) (i : Nat) (ds : List PyData) : Prop := ∃ L : List (List (List PyData)), ds = L.map (fun m => .list (m.map PyData.list)) ∧ L.length = i ∧ ∀ m ∈ L, (m.length : Int) = count ∧ ∀ c ∈ m, c.length ≤ 3 ∧ ∀ f ∈ c, FormS n f
theorem LooksTo.start {n : Nat} {count : Int} : LooksTo n count 0 [] := ⟨[], rfl, rfl, fun _ h => nomatch h⟩
theorem LooksTo.snoc {n i k : Nat} {count : Int} {ds c : List PyData} (h : LooksTo n count i ds) (hc : FormsC n 3 k c) (e : (k : Int) = count) : LooksTo n count (i + 1) (ds ++ [.list c]) := by
  obtain ⟨L, rfl, rfl, q⟩ := h
  obtain ⟨M, rfl, rfl, r⟩ := hc
  refine ⟨L ++ [M], by simp, by simp, fun d hd => ?_⟩
  rcases List.mem_append.mp hd with z | z
  · exact q d z
  · rw [List.mem_singleton.mp z]
    exact ⟨e, r⟩
theorem LooksTo.len {n i : Nat} {count : Int} {ds : List PyData} (h : LooksTo n count i ds) : ds.length = i := by
  obtain ⟨L, rfl, rfl, q⟩ := h
  simp
def spWorld : Sp := fun vs H Q _ => ∃ (H0 : Hp) (p l : Addr) (t sz sp mo : Int), vs = [.ref p, .int sz, .int sp, .int mo] ∧ DeckAt H0 H p l t ∧ 0 ≤ t ∧ t < 900000 ∧ 1 ≤ sz ∧ sz ≤ 3 ∧ 1 ≤ sp ∧ sp ≤ 3 ∧ 1 ≤ mo ∧ mo ≤ 3 ∧
  ∀ H1 H' t' wd vs' w, Go p l H0 H t H1 H' t' 300 → Own p l wd H H1 H' (.dK (ww vs')) → WParts H1 vs' w → GoodW w → w.tests = [] → Q (.ref wd) H'
/-- the slots in the law's world -/
abbrev sW (p : Addr) (sz sp mo : Int) (n : Nat) (ct my : Int) (B : Addr) (y : Str) (wd : Addr) (r : List (Option V)) : L2.St := [some (.ref p), some (.int sz), some (.int sp), some (.int mo), some (.int (n : Int)), some (.int ct), some (.int my), some (.ref B), some (.str y), some (.ref wd)] ++ r
/-- what is known from the start on -/
structure Kn (n : Nat) (ct my : Int) (B : Addr) (y : Str) (H0 : Hp) : Prop where
  n1 : 1 ≤ n
  n3 : n ≤ 3
  c1 : 1 ≤ ct
  c3 : ct ≤ 3
  m1 : 1 ≤ my
  m2 : my ≤ 2
  b : ∃ ms : List Int, H0 B = some (.lst (ms.map V.int)) ∧ ms.length = n ∧ ∀ m ∈ ms, -2 ≤ m ∧ m ≤ 2
  s : SignsOk y
theorem Kn.same {n : Nat} {ct my : Int} {B : Addr} {y : Str} {H0 H1 : Hp} (h : Kn n ct my B y H0) (S : Same H0 H1) : Kn n ct my B y H1 := by
  obtain ⟨a, b, c, d, e, f, ⟨ms, g, r⟩, i⟩ := h
  exact ⟨a, b, c, d, e, f, ⟨ms, S _ _ g, r⟩, i⟩
theorem wg_deeds {H : Hp} {wd : Addr} {a b c d e f g i k : V} (h : H wd = some (.dK (ww [a, b, c, d, e, f, g, i, k]))) : DGet H wd (.str "deeds") (some b) := DGet.k (k := Sum.inr "deeds") h
theorem wg_many {H : Hp} {wd : Addr} {a b c d e f g i k : V} (h : H wd = some (.dK (ww [a, b, c, d, e, f, g, i, k]))) : DGet H wd (.str "many") (some a) := DGet.k (k := Sum.inr "many") h
theorem wg_count {H : Hp} {wd : Addr} {a b c d e f g i k : V} (h : H wd = some (.dK (ww [a, b, c, d, e, f, g, i, k]))) : DGet H wd (.str "count") (some c) := DGet.k (k := Sum.inr "count") h
theorem wg_logs {H : Hp} {wd : Addr} {a b c d e f g i k : V} (h : H wd = some (.dK (ww [a, b, c, d, e, f, g, i, k]))) : DGet H wd (.str "logs") (some d) := DGet.k (k := Sum.inr "logs") h
theorem wg_start {H : Hp} {wd : Addr} {a b c d e f g i k : V} (h : H wd = some (.dK (ww [a, b, c, d, e, f, g, i, k]))) : DGet H wd (.str "start") (some e) := DGet.k (k := Sum.inr "start") h
theorem wg_ends {H : Hp} {wd : Addr} {a b c d e f g i k : V} (h : H wd = some (.dK (ww [a, b, c, d, e, f, g, i, k]))) : DGet H wd (.str "ends") (some f) := DGet.k (k := Sum.inr "ends") h
theorem wg_rows {H : Hp} {wd : Addr} {a b c d e f g i k : V} (h : H wd = some (.dK (ww [a, b, c, d, e, f, g, i, k]))) : DGet H wd (.str "rows") (some g) := DGet.k (k := Sum.inr "rows") h
theorem wg_tests {H : Hp} {wd : Addr} {a b c d e f g i k : V} (h : H wd = some (.dK (ww [a, b, c, d, e, f, g, i, k]))) : DGet H wd (.str "tests") (some i) := DGet.k (k := Sum.inr "tests") h
theorem wg_looks {H : Hp} {wd : Addr} {a b c d e f g i k : V} (h : H wd = some (.dK (ww [a, b, c, d, e, f, g, i, k]))) : DGet H wd (.str "looks") (some k) := DGet.k (k := Sum.inr "looks") h
/-- in the loops over places and letters -/
def RowsSt (p l : Addr) (Hs Hb H07 : Hp) (t sz sp mo : Int) (n : Nat) (ct my lg : Int) (B wd r tq lk : Addr) (y : Str) (d s e : V) (c i : Int) (j m : Nat) (sl : List (Option V)) (σ : L2.St) (H : Hp) : Prop :=
  ∃ H0 t' kvs rows, σ = sW p sz sp mo n ct my B y wd (sl ++ [none, none]) ∧ Go p l Hs Hb t H0 H t' c ∧ Own p l wd Hb H0 H (.dK (ww [.int my, d, .int ct, .int lg, s, e, .ref r, .ref tq, .ref lk])) ∧ Own p l r Hb H0 H (.dT kvs) ∧ Own p l lk Hb H0 H (.lst []) ∧ Same H07 H0 ∧
    RowsKV H0 kvs rows ∧ RowsTo (letsOf y) n ct lg i j rows ∧ rows.length ≤ m
section
variable {P : Program} {w : World} {K : PySem.W.Frag} {mg : Str → Option Value} {base : Heap}
theorem scWorld : FnScope nWorld ["_law_deck_here", "_law_sizes", "_law_spots", "_law_most_deeds"] (defScope lWorld) := ⟨rfl, rfl, rfl, by decide +kernel, rfl, by decide +kernel, by decide +kernel⟩
theorem ok_world {f g1 g2 g3 g4 : Addr} {fd gd1 gd2 gd3 gd4 : FuncData} (F : Fun K "_law_world" "_law_world" lWorld f fd) (T : TxtG mg)
    (G1 : FnOk P w K mg base CX0 1 g1 gd1 ["_law_deck_here", "_law_below"] spDraw) (c1 : Cal K mg "_law_draw" g1 gd1 ["_law_deck_here", "_law_below"])
    (G2 : FnOk P w K mg base CX0 2 g2 gd2 ["_law_deck_here", "_law_some"] spPick) (c2 : Cal K mg "_law_pick" g2 gd2 ["_law_deck_here", "_law_some"])
    (G3 : FnOk P w K mg base CX0 2 g3 gd3 ["_law_deck_here", "_law_mid"] spForms) (c3 : Cal K mg "_law_forms" g3 gd3 ["_law_deck_here", "_law_mid"])
    (G4 : FnOk P w K mg base CX0 3 g4 gd4 ["_law_deck_here", "_law_size"] spLook) (c4 : Cal K mg "_law_look" g4 gd4 ["_law_deck_here", "_law_size"]) :
    FnOk P w K mg base CX0 4 f fd ["_law_deck_here", "_law_sizes", "_law_spots", "_law_most_deeds"] spWorld := by
  refine F.ok scWorld (fun vs H Q E h => ?_) (fun cdv A outer s H vs Q E hr h => ?_)
  · obtain ⟨H0, p, l, t, sz, sp, mo, rfl, _⟩ := h
    rfl
  · obtain ⟨Hs, p, l, t, sz, sp, mo, rfl, D0, t0, t1, z1, z3, p1, p3, o1, o3, k⟩ := h
    have hu := hu_of hr
    have r1 : Room 1 _ := hr.mono (by decide)
    have r2 : Room 2 _ := hr.mono (by decide)
    have nd := scWorld.nd
    refine ⟨_, C8.pss_cut (ps_asg (pe_tup (pa_cons (pe_op op_add pe_int (pe_call G1 r1 rfl c1.m c1.k c1.b .nil pass0 (pa_cons (pv 0) (pa_cons (pv 1) pa_nil)))) (pa_cons (pe_op op_add pe_int (pe_call G1 r1 rfl c1.m c1.k c1.b .nil pass0 (pa_cons (pv 0) (pa_cons (pv 2) pa_nil)))) pa_nil))) (pg_tup rfl (pgs_cons (pg_name (i := 4) nd rfl (.inr rfl)) (pgs_cons (pg_name (i := 5) nd rfl (.inl rfl)) pgs_nil))))
      (C8.pss_cut (ps_asg (pe_tup (pa_cons (pe_op op_add pe_int (pe_call G1 r1 rfl c1.m c1.k c1.b .nil pass0 (pa_cons (pv 0) (pa_cons pe_int pa_nil)))) (pa_cons (pe_lc (own := [("_law_k", 16)]) (g := gName 16) (tt := tYes) rfl nd (pi_range1 (by rfl) T.range (pa_cons (pv 4) pa_nil)) (blkOk_by (N := nWorld) (sc := defScope lWorld) (by decide +kernel)) (fun _ _ _ _ _ => pg_name (i := 16) nd rfl (.inl rfl)) (fun _ _ _ _ _ => pts_nil)
          (fun _ _ _ _ _ => pe_op op_sub (pe_call G1 r1 rfl c1.m c1.k c1.b .nil pass0 (pa_cons (pv 0) (pa_cons pe_int pa_nil))) pe_int)) pa_nil))) (pg_tup rfl (pgs_cons (pg_name (i := 6) nd rfl (.inr rfl)) (pgs_cons (pg_name (i := 7) nd rfl (.inr rfl)) pgs_nil))))
      (C8.pss_cut (ps_set (i := 8) nd rfl (.inl rfl) (pe_slice (r := rSlS) sl_str (pe_call G2 r2 rfl c2.m c2.k c2.b .nil pass0 (pa_cons (pv 0) (pa_cons (pe_lst (pa_cons pe_str (pa_cons pe_str (pa_cons pe_str pa_nil)))) pa_nil))) po_none (po_some (pe_op op_add pe_int (pe_call G1 r1 rfl c1.m c1.k c1.b .nil pass0 (pa_cons (pv 0) (pa_cons (pv 3) pa_nil)))))))
      (C8.pss_cut (ps_set (i := 9) nd rfl (.inl rfl) (pe_disp (pps_cons pe_str (pv 6) (pps_cons pe_str (pe_lc (own := [("_law_x", 11)]) (g := gName 11) (tt := tYes) rfl nd (pi_str (pv 8)) (blkOk_by (N := nWorld) (sc := defScope lWorld) (by decide +kernel)) (fun _ _ _ _ _ => pg_name (i := 11) nd rfl (.inl rfl)) (fun _ _ _ _ _ => pts_nil)
          (fun _ _ _ _ _ => pe_tup (pa_cons (pv 11) (pa_cons (pe_call G1 r1 rfl c1.m c1.k c1.b .nil pass0 (pa_cons (pv 0) (pa_cons (pv 6) pa_nil))) pa_nil)))) (pps_cons pe_str (pv 5) (pps_cons pe_str (pe_call G1 r1 rfl c1.m c1.k c1.b .nil pass0 (pa_cons (pv 0) (pa_cons pe_int pa_nil))) pps_nil)))) (by rfl) (by rfl) (fun z => by cases z) (by decide)))
      (C8.pss_cut (ps_dput hu (pv 9) pe_str (pe_lc (own := [("_law_k", 16)]) (g := gName 16) (tt := tYes) rfl nd (pi_range1 (by rfl) T.range (pa_cons (pv 4) pa_nil)) (blkOk_by (N := nWorld) (sc := defScope lWorld) (by decide +kernel)) (fun _ _ _ _ _ => pg_name (i := 16) nd rfl (.inl rfl)) (fun _ _ _ _ _ => pts_nil)
          (fun _ _ _ _ _ => pe_op op_sub (pe_op op_add (pe_ix (r := rIxL K) ix_list (pv 7) (pv 16) (fun _ _ => rfl)) (pe_call G1 r1 rfl c1.m c1.k c1.b .nil pass0 (pa_cons (pv 0) (pa_cons pe_int pa_nil)))) pe_int)) rfl)
      (C8.pss_cut (ps_dput hu (pv 9) pe_str (pe_lc (own := [("_law_p", 10)]) (g := gName 10) rfl nd (pi_range1 (by rfl) T.range (pa_cons (pv 5) pa_nil)) (blkOk_by (N := nWorld) (sc := defScope lWorld) (by decide +kernel)) (fun _ _ _ _ _ => pg_name (i := 10) nd rfl (.inl rfl)) (fun _ _ _ _ _ => pts_one (pt_cmpR op_gt (pe_call G1 r1 rfl c1.m c1.k c1.b .nil pass0 (pa_cons (pv 0) (pa_cons pe_int pa_nil))) pe_int (nomark _)))
          (fun _ _ _ _ _ => pv 10)) rfl)
      (C8.pss_cut (ps_asg (pe_tup (pa_cons pe_dnewT (pa_cons (pe_lst pa_nil) (pa_cons (pe_lst pa_nil) pa_nil)))) (pg_tup rfl (pgs_cons (pg_sub (pv 9) pe_str (set_dict hu)) (pgs_cons (pg_sub (pv 9) pe_str (set_dict hu)) (pgs_cons (pg_sub (pv 9) pe_str (set_dict hu)) pgs_nil)))))
      (C8.pss_cut (ps_for PassesOwn.never rfl (pi_range1 (by rfl) T.range (pa_cons (pv 5) pa_nil)) (pg_name (i := 10) nd rfl (.inl rfl))
        (pss_one (ps_for PassesOwn.never rfl (pi_list (pe_dget hu (pv 9) pe_str (fun _ _ => rfl))) (pg_tup rfl (pgs_cons (pg_name (i := 11) nd rfl (.inl rfl)) (pgs_cons (pg_name (i := 12) nd rfl (.inl rfl)) pgs_nil)))
          (pss_one (ps_if (pt_cmpR op_gt (pe_call G1 r1 rfl c1.m c1.k c1.b .nil pass0 (pa_cons (pv 0) (pa_cons pe_int pa_nil))) pe_int (nomark _))
            (C8.pss_cut (ps_par (i := 13) (j := 14) (by rfl) nd rfl rfl (by decide) rfl rfl (pa_cons (pe_call G1 r1 rfl c1.m c1.k c1.b .nil pass0 (pa_cons (pv 0) (pa_cons (pv 5) pa_nil))) (pa_cons (pe_call G3 r2 rfl c3.m c3.k c3.b .nil pass0 (pa_cons (pv 0) (pa_cons (pv 7) pa_nil))) pa_nil)) (by rfl))
            (C8.pss_cut (ps_set (i := 15) nd rfl (.inl rfl) (pe_tupleOf (by rfl) T.tuple (pe_lc (own := [("_law_k", 16)]) (g := gName 16) (tt := tYes) rfl nd (pi_range1 (by rfl) T.range (pa_cons (pe_dget hu (pv 9) pe_str (fun _ _ => rfl)) pa_nil)) (blkOk_by (N := nWorld) (sc := defScope lWorld) (by decide +kernel)) (fun _ _ _ _ _ => pg_name (i := 16) nd rfl (.inl rfl)) (fun _ _ _ _ _ => pts_nil)
              (fun _ _ _ _ _ => pe_call G2 r2 rfl c2.m c2.k c2.b .nil pass0 (pa_cons (pv 0) (pa_cons (pe_lst (pa_cons pe_str (pa_cons pe_str (pa_cons pe_str pa_nil)))) pa_nil))))))
            (pss_one (ps_dput hu (pe_dget hu (pv 9) pe_str (fun _ _ => rfl)) (pe_tup (pa_cons (pv 10) (pa_cons (pv 11) pa_nil))) (pe_tup (pa_cons (pv 13) (pa_cons (pv 14) (pa_cons (pv 15) pa_nil)))) rfl)))) pss_nil)))))
      (C8.pss_cut (ps_for PassesOwn.never rfl (pi_range1 (by rfl) T.range (pa_cons (pv 6) pa_nil)) (pg_name (i := 16) nd rfl (.inl rfl))
        (pss_one (ps_expr (pe_bm PySem.F.plainAttrs_list PySem.F.slot_list_append PySem.F.type_list_append mt_append (pe_dget hu (pv 9) pe_str (fun _ _ => rfl)) (pa_cons
          (pe_lc (own := [("_law_p", 10)]) (g := gName 10) (tt := tYes) rfl nd (pi_range1 (by rfl) T.range (pa_cons (pv 5) pa_nil)) (blkOk_by (N := nWorld) (sc := defScope lWorld) (by decide +kernel)) (fun _ _ _ _ _ => pg_name (i := 10) nd rfl (.inl rfl)) (fun _ _ _ _ _ => pts_nil)
            (fun _ _ _ _ _ => pe_lc (own := [("_law_j", 17)]) (g := gName 17) (tt := tYes) rfl nd (pi_range1 (by rfl) T.range (pa_cons (pe_call G1 r1 rfl c1.m c1.k c1.b .nil pass0 (pa_cons (pv 0) (pa_cons pe_int pa_nil))) pa_nil)) (blkOk_by (N := nWorld) (sc := looksSc) (by decide +kernel)) (fun _ _ _ _ _ => pg_name (i := 17) nd rfl (.inl rfl)) (fun _ _ _ _ _ => pts_nil)
              (fun _ _ _ _ _ => pe_call G4 hr rfl c4.m c4.k c4.b .nil pass0 (pa_cons (pv 0) (pa_cons (pv 4) pa_nil))))) pa_nil)))))
      (pss_one (ps_ret (pv 9))))))))))), ?_⟩
    refine ⟨fun σ H1 => ∃ (t' : Int) (n : Nat) (ct : Int), σ = [some (.ref p), some (.int sz), some (.int sp), some (.int mo), some (.int (n : Int)), some (.int ct), none, none, none, none, none, none, none, none, none, none, none, none] ∧ Go p l Hs H t Hs H1 t' 2 ∧ 1 ≤ n ∧ n ≤ 3 ∧ 1 ≤ ct ∧ ct ≤ 3, ?_, ?_⟩
    · refine ⟨_, rfl, _, rfl, Hs, p, l, t, sz, rfl, D0, t0, by omega, by omega, by omega, fun H1 a ga a0 a1 => ?_⟩
      refine ⟨_, _, rfl, rfl, _, rfl, _, rfl, Hs, p, l, _, sp, rfl, ga.d, by omega, by omega, by omega, by omega, fun H2 b gb b0 b1 => ?_⟩
      refine ⟨_, _, rfl, rfl, (by show 2 ≤ sizeLine; decide), fun tp ntp => ⟨tp, _, rfl, SqT.of upd_same, rfl, _, _, rfl, _, _, rfl, rfl, ?_⟩⟩
      obtain ⟨a, rfl⟩ := Int.eq_ofNat_of_zero_le a0
      refine ⟨_, 1 + a, 1 + b, ?_, ((ga.trans gb).put0 ntp).more (by omega), by omega, by omega, by omega, by omega⟩
      rw [show ((1 + a : Nat) : Int) = 1 + (a : Int) from by omega]
      rfl
    rintro σ1 H1 ⟨t', n, ct, rfl, g, n1, n3, q1, q3⟩
    have gt := g.t1
    have gt0 := g.t0
    refine ⟨fun σ H2 => ∃ (H0 : Hp) (t' my : Int) (B : Addr), σ = [some (.ref p), some (.int sz), some (.int sp), some (.int mo), some (.int (n : Int)), some (.int ct), some (.int my), some (.ref B), none, none, none, none, none, none, none, none, none, none] ∧ Go p l Hs H t H0 H2 t' 6 ∧ 1 ≤ my ∧ my ≤ 2 ∧ ∃ ms : List Int, H0 B = some (.lst (ms.map V.int)) ∧ ms.length = n ∧ ∀ m ∈ ms, -2 ≤ m ∧ m ≤ 2, ?_, ?_⟩
    · refine ⟨_, rfl, Hs, p, l, _, 2, rfl, g.d, by omega, by omega, by omega, by omega, fun H2 a ga a0 a1 => ?_⟩
      have gat := ga.t1
      have gat0 := ga.t0
      refine ⟨_, _, rfl, rfl, _, rfl, (n : Int), rfl, by omega, by omega, fun B nB => ?_⟩
      refine lc_range (fun i H3 => Making p l B Hs H2 (t' + 1) 1 (IntsP fun m => -2 ≤ m ∧ m ≤ 2) i H3) (Making.start ga.d nB IntsP.start) ?_ ?_
      · rintro i H3 hi ⟨H02, t2, ys, ds, g3, w3, q3', hP⟩
        have g3t := g3.t1
        have g3t0 := g3.t0
        refine ⟨rfl, _, rfl, H02, p, l, t2, 5, rfl, g3.d, by omega, by omega, by omega, by omega, fun H4 r g4 r0 r1 => ⟨_, _, rfl, rfl, ?_⟩⟩
        exact Making.turn g3 w3 q3' g4 (.int _) (by rw [hP.len]; omega) (hP.snoc ⟨by omega, by omega⟩)
      · rintro H3 ⟨H02, t2, ys, ds, g3, w3, q3', hP⟩
        obtain ⟨ms, rfl, lm, bm⟩ := hP
        have eys : ys = ms.map V.int := ints_inv q3'
        subst eys
        have gk := (g.trans ga).trans (g3.keepO w3)
        refine ⟨(by show 2 ≤ sizeLine; decide), fun tp ntp => ⟨tp, _, rfl, SqT.of upd_same, rfl, _, _, rfl, _, _, rfl, rfl, ?_⟩⟩
        exact ⟨_, t2, _, B, rfl, (gk.put0 ntp).more (by omega), by omega, by omega, ms, upd_same, by omega, bm⟩
    clear g gt gt0
    rintro σ2 H2 ⟨H02, t2, my, B, rfl, g, m1, m2, hB⟩
    have gt := g.t1
    have gt0 := g.t0
    refine ⟨fun σ H3 => ∃ (t' : Int) (y : Str), σ = [some (.ref p), some (.int sz), some (.int sp), some (.int mo), some (.int (n : Int)), some (.int ct), some (.int my), some (.ref B), some (.str y), none, none, none, none, none, none, none, none, none] ∧ Go p l Hs H t H02 H3 t' 8 ∧ Kn n ct my B y H02, ?_, ?_⟩
    · refine ⟨_, rfl, (by show 3 ≤ sizeLine; decide), fun q nq => ?_⟩
      have g1' := (Go.refl g.d).put0 (o := .lst [V.str "abc", V.str "akz", V.str "pqr"]) nq
      have w1' := Own.start (o := .lst [V.str "abc", V.str "akz", V.str "pqr"]) (Go.refl g.d) nq
      refine ⟨H02, p, l, t2, q, _, rfl, g1'.d, by omega, by omega, w1'.h, w1'.ap, w1'.al, by decide, by decide, fun H4 j v g5 hv => ?_⟩
      have hx : v ∈ lets3.map V.str := List.mem_of_getElem? hv
      obtain ⟨x, hxx, rfl⟩ := List.mem_map.mp hx
      refine ⟨_, rfl, _, rfl, H02, p, l, _, mo, rfl, g5.d, by omega, by omega, by omega, by omega, fun H5 r g6 r0 r1' => ?_⟩
      refine ⟨_, _, rfl, rfl, _, rfl, x, rfl, ?_, ?_⟩
      · have : x.length ≤ 3 := of_decide_eq_true (List.all_eq_true.mp (show (lets3.all fun x => decide (x.length ≤ 3)) = true by decide +kernel) x hxx)
        rw [sizeLine_eq]
        omega
      · exact ⟨_, _, rfl, ((g.trans g1').trans (g5.trans g6)).more (by omega), n1, n3, q1, q3, m1, m2, hB, signs_ok hxx r0⟩
    clear g gt gt0
    rintro σ3 H3 ⟨t3, y, rfl, g, kn⟩
    have gt := g.t1
    have gt0 := g.t0
    have y3 := kn.s.n3
    refine ⟨fun σ H4 => ∃ (H0 : Hp) (t' : Int) (wd : Addr) (d : V) (dl : List (Str × Int)) (lg : Int), σ = sW p sz sp mo n ct my B y wd [none, none, none, none, none, none, none, none] ∧ Go p l Hs H t H0 H4 t' 12 ∧ Own p l wd H H0 H4 (.dK (ww [.int my, d, .int ct, .int lg])) ∧ Kn n ct my B y H0 ∧ Dq H0 d (.list (dl.map dE)) ∧ dl.map (·.1) = letsOf y ∧ (∀ d ∈ dl, 0 ≤ d.2 ∧ d.2 < my) ∧ 0 ≤ lg ∧ lg ≤ 2, ?_, ?_⟩
    · intro wd nwd
      have gw := g.put0 (o := .dK []) nwd
      have ow := Own.start (o := .dK []) g nwd
      revert gw ow
      generalize upd H3 wd (.dK []) = H4
      intro gw ow
      refine ⟨_, rfl, _, rfl, y, rfl, fun C nC => ?_⟩
      refine lc_it walk_str (fun i H5 => Making p l C H02 H4 t3 1 (DeedsTo my y) i H5) (Making.start gw.d nC DeedsTo.start) (fun _ _ _ _ => trivial) ?_ ?_
      · rintro i v H5 H5' hi ⟨H03, t5, ys, ds, g5, w5, q5, hP⟩ ⟨rfl, c, hc, rfl⟩
        have g5t := g5.t1
        have g5t0 := g5.t0
        have hl := hP.len
        refine ⟨rfl, _, rfl, _, rfl, _, rfl, H03, p, l, t5, my, rfl, g5.d, by omega, by omega, by omega, by omega, fun H6 r g6 r0 r1 => ⟨(by show 2 ≤ sizeLine; decide), fun tp ntp => ?_⟩⟩
        have g7 := g6.new (o := .tup [V.str ⟨#[c]⟩, V.int r]) ntp
        exact Making.turn g5 w5 q5 g7 (dq_new (g6.d.s.free ntp) (.cons (.str _) (.cons (.int _) .nil))) (by omega) (hP.snoc hc r0 r1)
      · rintro H5 ⟨H03, t5, ys, ds, g5, w5, q5, hP⟩
        have g5t := g5.t1
        have g5t0 := g5.t0
        refine ⟨_, rfl, _, rfl, H03, p, l, t5, 3, rfl, g5.d, by omega, by omega, by omega, by omega, fun H6 lg g6 l0 l1 => ?_⟩
        have gk := (g5.trans g6).keepO (w5.go g6)
        have ow6 := ow.go gk
        obtain ⟨dl, rfl, e1, q⟩ := hP
        rw [List.take_of_length_le (by rw [lets_len]; exact Nat.le_refl _)] at e1
        refine ⟨ow6.h, [(Sum.inr "many", .int my), (Sum.inr "deeds", .ref C), (Sum.inr "count", .int ct), (Sum.inr "logs", .int lg)], rfl, (by show 4 ≤ 15; decide), ?_⟩
        rw [ww_four]
        exact ⟨_, _, wd, .ref C, dl, lg, rfl, ((gw.trans gk).more (by omega)).setO ow6, ow6.set, kn.same gk.s, .lst upd_same (DqAll.same (same_new w5.n) _ _ q5), e1, q, l0, by omega⟩
    clear g gt gt0 kn
    rintro σ4 H4 ⟨H04, t4, wd, d, dl, lg, rfl, g, ow, kn, hd, e1, ownr, l0, l1⟩
    have gt := g.t1
    have gt0 := g.t0
    refine ⟨fun σ H5 => ∃ (H0 : Hp) (t' : Int) (s : V) (ns : List Int), σ = sW p sz sp mo n ct my B y wd [none, none, none, none, none, none, none, none] ∧ Go p l Hs H t H0 H5 t' 15 ∧ Own p l wd H H0 H5 (.dK (ww [.int my, d, .int ct, .int lg, s])) ∧ Same H04 H0 ∧ Dq H0 s (.list (ns.map .int)) ∧ ns.length = n ∧ ∀ i ∈ ns, -20 ≤ i ∧ i ≤ 20, ?_, ?_⟩
    · obtain ⟨ms, hms, lms, bms⟩ := kn.b
      refine ⟨_, rfl, (n : Int), rfl, by omega, by omega, fun C nC => ?_⟩
      refine lc_range (fun i H5 => Making p l C H04 H4 t4 1 (IntsP fun m => -20 ≤ m ∧ m ≤ 20) i H5) (Making.start g.d nC IntsP.start) ?_ ?_
      · rintro i H5 hi ⟨H05, t5, ys, ds, g5, w5, q5, hP⟩
        have g5t := g5.t1
        have g5t0 := g5.t0
        have hi' : i < ms.length := by omega
        have bi := bms _ (List.getElem_mem hi')
        refine ⟨rfl, _, rfl, _, rfl, B, _, _, .int ms[i], rfl, rfl, SqL.of (g5.d.s _ _ (g5.s _ _ hms)), (by rw [Int.zero_add]; exact atI_nat (ints_at hi')), ?_⟩
        refine ⟨_, rfl, H05, p, l, t5, 4, rfl, g5.d, by omega, by omega, by omega, by omega, fun H6 r g6 r0 r1 => ⟨_, _, rfl, rfl, _, _, rfl, rfl, ?_⟩⟩
        exact Making.turn g5 w5 q5 g6 (.int _) (by rw [hP.len]; omega) (hP.snoc ⟨by omega, by omega⟩)
      · rintro H5 ⟨H05, t5, ys, ds, g5, w5, q5, hP⟩
        have gk := g5.keepO w5
        have ow5 := ow.go gk
        refine ⟨_, rfl, wd, _, rfl, DPut.k (k := Sum.inr "start") ow5.h (by show 4 < sizeLine; decide), ?_⟩
        rw [ww_start]
        obtain ⟨ns, rfl, ln, bn⟩ := hP
        exact ⟨_, t5, .ref C, ns, rfl, ((g.trans gk).more (by omega)).setO ow5, ow5.set, gk.s, .lst upd_same (DqAll.same (same_new w5.n) _ _ q5), by omega, bn⟩
    clear g gt gt0 ow
    rintro σ5 H5 ⟨H05, t5, s, ns, rfl, g, ow, S5, hs, lns, bns⟩
    have gt := g.t1
    have gt0 := g.t0
    refine ⟨fun σ H6 => ∃ (H0 : Hp) (t' : Int) (e : V) (es : List Int), σ = sW p sz sp mo n ct my B y wd [none, none, none, none, none, none, none, none] ∧ Go p l Hs H t H0 H6 t' 18 ∧ Own p l wd H H0 H6 (.dK (ww [.int my, d, .int ct, .int lg, s, e])) ∧ Same H05 H0 ∧ Dq H0 e (.list (es.map .int)) ∧ es.Pairwise (fun a b => a < b) ∧ ∀ e ∈ es, 0 ≤ e ∧ e < ct, ?_, ?_⟩
    · refine ⟨_, rfl, ct, rfl, by omega, by omega, fun C nC => ?_⟩
      refine lc_range (fun i H6 => Making p l C H05 H5 t5 1 EndsTo i H6) (Making.start g.d nC EndsTo.start) ?_ ?_
      · rintro i H6 hi ⟨H06, t6, ys, ds, g6, w6, q6, hP⟩
        have g6t := g6.t1
        have g6t0 := g6.t0
        have hl := hP.len
        refine ⟨rfl, _, rfl, H06, p, l, t6, 3, rfl, g6.d, by omega, by omega, by omega, by omega, fun H7 r g7 r0 r1 => ?_⟩
        refine ⟨_, _, rfl, rfl, _, rfl, ?_⟩
        by_cases e : 0 < r
        · refine iteYes (decide_eq_true e) ⟨_, rfl, ?_⟩
          exact Making.turn g6 w6 q6 g7 (.int _) (by omega) hP.snoc
        · exact iteNo (decide_eq_false e) (Making.skip g6 w6 q6 g7 hP.skip)
      · rintro H6 ⟨H06, t6, ys, ds, g6, w6, q6, hP⟩
        have gk := g6.keepO w6
        have ow6 := ow.go gk
        refine ⟨_, rfl, wd, _, rfl, DPut.k (k := Sum.inr "ends") ow6.h (by show 5 < sizeLine; decide), ?_⟩
        rw [ww_ends]
        obtain ⟨es, rfl, pe, ae, le⟩ := hP
        exact ⟨_, t6, .ref C, es, rfl, ((g.trans gk).more (by omega)).setO ow6, ow6.set, gk.s, .lst upd_same (DqAll.same (same_new w6.n) _ _ q6), pe, fun e he => by have := ae e he; omega⟩
    clear g gt gt0 ow
    rintro σ6 H6 ⟨H06, t6, e, es, rfl, g, ow, S6, he, pes, aes⟩
    have gt := g.t1
    have gt0 := g.t0
    refine ⟨fun σ H7 => ∃ (H0 : Hp) (r tq lk : Addr), σ = sW p sz sp mo n ct my B y wd [none, none, none, none, none, none, none, none] ∧ Go p l Hs H t H0 H7 t6 18 ∧ Own p l wd H H0 H7 (.dK (ww [.int my, d, .int ct, .int lg, s, e, .ref r, .ref tq, .ref lk])) ∧ Own p l r H H0 H7 (.dT []) ∧ Own p l lk H H0 H7 (.lst []) ∧ Same H06 H0 ∧ H0 tq = some (.lst []) ∧ r ≠ wd ∧ lk ≠ wd ∧ lk ≠ r, ?_, ?_⟩
    · intro r nr
      have g7 := g.put0 (o := .dT []) nr
      have r7 := Own.start (o := .dT []) g nr
      have o7 := ow.put (o' := .dT []) nr
      have ne1 := ow.ne nr
      revert g7 r7 o7
      generalize upd H6 r (.dT []) = H7
      intro g7 r7 o7
      refine ⟨(by show 0 ≤ sizeLine; decide), fun tq ntq => ?_⟩
      have g8 := g7.new (o := .lst []) ntq
      have r8 := r7.new (ob := .lst []) ntq
      have o8 := o7.new (ob := .lst []) ntq
      have hq : upd H06 tq (.lst []) tq = some (.lst []) := upd_same
      have S8 := same_new (o := .lst []) (g7.d.s.free ntq)
      revert g8 r8 o8 hq S8
      generalize upd H7 tq (.lst []) = H8
      generalize upd H06 tq (.lst []) = H08
      intro g8 r8 o8 hq S8
      refine ⟨(by show 0 ≤ sizeLine; decide), fun lk nlk => ?_⟩
      have g9 := g8.put0 (o := .lst []) nlk
      have r9 := r8.put (o' := .lst []) nlk
      have o9 := o8.put (o' := .lst []) nlk
      have k9 := Own.start (o := .lst []) g8 nlk
      have ne2 := o8.ne nlk
      have ne3 := r8.ne nlk
      revert g9 r9 o9 k9
      generalize upd H8 lk (.lst []) = H9
      intro g9 r9 o9 k9
      refine ⟨(by show 3 ≤ sizeLine; decide), fun tp ntp => ⟨tp, _, rfl, SqT.of upd_same, rfl, _, _, rfl, ?_⟩⟩
      have g10 := g9.put0 (o := .tup [V.ref r, V.ref tq, V.ref lk]) ntp
      have r10 := r9.put (o' := .tup [V.ref r, V.ref tq, V.ref lk]) ntp
      have o10 := o9.put (o' := .tup [V.ref r, V.ref tq, V.ref lk]) ntp
      have k10 := k9.put (o' := .tup [V.ref r, V.ref tq, V.ref lk]) ntp
      revert g10 r10 o10 k10
      generalize upd H9 tp (.tup [V.ref r, V.ref tq, V.ref lk]) = H10
      intro g10 r10 o10 k10
      refine ⟨_, rfl, wd, _, rfl, DPut.k (k := Sum.inr "rows") o10.h (by show 6 < sizeLine; decide), _, _, rfl, _, rfl, wd, _, rfl, DPut.k (k := Sum.inr "tests") upd_same (by show 7 < sizeLine; decide), _, _, rfl, _, rfl, wd, _, rfl, DPut.k (k := Sum.inr "looks") upd_same (by show 8 < sizeLine; decide), rfl, ?_⟩
      rw [ww_rows, ww_tests, ww_looks]
      exact ⟨H08, r, tq, lk, rfl, (((g10.setO o10).setO o10.set).setO o10.set.set), o10.set.set.set, ((r10.upd ne1.symm).upd ne1.symm).upd ne1.symm, ((k10.upd ne2.symm).upd ne2.symm).upd ne2.symm, S8, hq, ne1.symm, ne2.symm, ne3.symm⟩
    clear g gt gt0 ow
    rintro σ7 H7 ⟨H07, r, tq, lk, rfl, g, ow, orr, ok, S7, hq, nr, nk, nkr⟩
    have ST := (S5.trans S6).trans S7
    have kn7 := kn.same ST
    have hd7 := Dq.same ST _ _ hd
    obtain ⟨C, cs, ed, hC, hcs⟩ : ∃ C cs, d = .ref C ∧ H07 C = some (.lst cs) ∧ DqAll H07 cs (dl.map dE) := by
      cases hd7 with
      | lst a b => exact ⟨_, _, rfl, a, b⟩
    have lc : cs.length = dl.length := by rw [dq_len hcs, List.length_map]
    have ld : dl.length = y.cps.size := by rw [← lets_len, ← e1, List.length_map]
    subst ed
    refine ⟨fun σ H8 => ∃ o1 o2 o3 o4 o5 o6, RowsSt p l Hs H H07 t sz sp mo n ct my lg B wd r tq lk y (.ref C) s e 162 ct 0 9 [o1, o2, o3, o4, o5, o6] σ H8, ?_, ?_⟩
    · refine ⟨_, rfl, ct, rfl, by omega, by omega, for_range (fun i σ H' => ∃ o1 o2 o3 o4 o5 o6, RowsSt p l Hs H H07 t sz sp mo n ct my lg B wd r tq lk y (.ref C) s e (18 + 48 * (i : Int)) (i : Int) 0 (3 * i) [o1, o2, o3, o4, o5, o6] σ H') ?_ ?_ ?_⟩
      · exact ⟨none, none, none, none, none, none, H07, t6, [], [], rfl, g.more (by omega), ow, orr, ok, Same.refl _, .nil, .start, Nat.le_refl _⟩
      · rintro i σ H8 hi ⟨o1, o2, o3, o4, o5, o6, H08, t8, kvs, rows, rfl, g8, ow8, or8, ok8, S8, hkv, hR, ln⟩
        have hi3 : i < 3 := by omega
        refine ⟨_, rfl, wd, _, rfl, wg_deeds ow8.h, C, rfl, ⟨_, SqL.of (g8.d.s _ _ (S8 _ _ hC))⟩, for_list (K := K) (a := C) (xs := cs) (fun j σ H' => ∃ o2 o3 o4 o5 o6, RowsSt p l Hs H H07 t sz sp mo n ct my lg B wd r tq lk y (.ref C) s e (18 + 48 * (i : Int) + 16 * (j : Int)) (i : Int) j (3 * i + j) [some (.int (i : Int)), o2, o3, o4, o5, o6] σ H') ?_ ?_ ?_ ?_⟩
        · exact ⟨o2, o3, o4, o5, o6, H08, t8, kvs, rows, by rw [Int.zero_add]; rfl, g8.more (by omega), ow8, or8, ok8, S8, hkv, hR, by omega⟩
        · rintro j σ H' hj ⟨_, _, _, _, _, H0', t', kvs', rows', rfl, g', _, _, _, S', _⟩
          exact SqL.of (g'.d.s _ _ (S' _ _ hC))
        · rintro j v σ H9 hv ⟨p2, p3', p4, p5, p6, H09, t9, kvs, rows, rfl, g9, ow9, or9, ok9, S9, hkv, hR, ln⟩
          have hj : j < cs.length := (List.getElem?_eq_some_iff.mp hv).1
          have g9t := g9.t1
          have g9t0 := g9.t0
          obtain ⟨d', hd', hq'⟩ := DqAll.at hcs hv
          rw [List.getElem?_map] at hd'
          obtain ⟨⟨x, ow'⟩, hx, rfl⟩ : ∃ a, dl[j]? = some a ∧ d' = dE a := by
            cases z : dl[j]? with
            | none =>
              rw [z] at hd'
              cases hd'
            | some a =>
              rw [z] at hd'
              exact ⟨a, rfl, (Option.some.inj hd').symm⟩
          have eL : (letsOf y)[j]? = some x := by
            rw [← e1, List.getElem?_map, hx]
            rfl
          obtain ⟨b, us, rfl, eb, qb⟩ := tup_at hq'
          cases qb with | cons u0 qb =>
          cases qb with | cons u1 qb =>
          cases qb
          cases u0
          cases u1
          refine ⟨b, _, rfl, SqT.of (g9.d.s _ _ (S9 _ _ eb)), rfl, _, _, rfl, _, _, rfl, rfl, ?_⟩
          refine ⟨_, rfl, H09, p, l, t9, 6, rfl, g9.d, by omega, by omega, by omega, by omega, fun H10 rr g10 r0 r1' => ⟨_, _, rfl, rfl, _, rfl, ?_⟩⟩
          have g11 := g9.trans g10
          have ow11 := ow9.go g10
          have or11 := or9.go g10
          have ok11 := ok9.go g10
          by_cases er : 0 < rr
          · refine iteYes (decide_eq_true er) ?_
            obtain ⟨ms, hms, lms, bms⟩ := kn7.b
            refine ⟨fun σ H12 => ∃ (H012 : Hp) (t12 th : Int) (fv : V) (fs : List PyData), σ = sW p sz sp mo n ct my B y wd [some (.int (i : Int)), some (.str x), some (.int ow'), some (.int th), some fv, p6, none, none] ∧ Go p l H09 H9 t9 H012 H12 t12 14 ∧ 0 ≤ th ∧ th < ct ∧ Dq H012 fv (.tuple fs) ∧ FormsOk n n fs, ?_, ?_⟩
            · refine ⟨_, rfl, _, rfl, H09, p, l, _, ct, rfl, g10.d, by omega, by omega, by omega, by omega, fun H11 th g12 th0 th1 => ?_⟩
              refine ⟨_, rfl, _, rfl, H09, p, l, B, _, ms, rfl, g12.d, by omega, by omega, S9 _ _ hms, by omega, by omega, fun m hm => by have := bms m hm; omega, fun H1 H' t' v d gg hv hG => ?_⟩
              obtain ⟨fs, rfl, hF⟩ := hG
              rw [lms] at hF
              exact ⟨_, _, rfl, H1, t', th, v, fs, rfl, ((g10.trans g12).trans gg).more (by omega), th0, th1, hv, hF⟩
            rintro σ12 H12 ⟨H012, t12, th, fv, fs, rfl, g12, th0, th1, hfv, hF⟩
            have ow12 := ow9.go g12
            have g12t := g12.t1
            have g12t0 := g12.t0
            refine ⟨fun σ H13 => ∃ (H013 : Hp) (t13 : Int) (mv : V) (ms' : List PyData), σ = sW p sz sp mo n ct my B y wd [some (.int (i : Int)), some (.str x), some (.int ow'), some (.int th), some fv, some mv, none, none] ∧ Go p l H012 H12 t12 H013 H13 t13 2 ∧ Dq H013 mv (.tuple ms') ∧ (ms'.length : Int) = lg ∧ ∀ x ∈ ms', markD x = true ∧ Gd 20 0 30 x ∧ plainD x = true, ?_, ?_⟩
            · refine ⟨_, rfl, wd, _, rfl, wg_logs ow12.h, lg, rfl, by omega, by omega, fun M nM => ?_⟩
              refine lc_range (fun i H5 => Making p l M H012 H12 t12 1 MarksTo i H5) (Making.start g12.d nM MarksTo.start) ?_ ?_
              · rintro i' H13 hi' ⟨H03, t3, ys, ds, g3, w3, q3', hP⟩
                have a3 := g3.t0
                have b3 := g3.t1
                refine ⟨rfl, _, rfl, (by show 3 ≤ sizeLine; decide), fun q nq => ?_⟩
                have g4 := (Go.refl g3.d).put0 (o := .lst [V.str "", V.str "x", V.str "y"]) nq
                have w4 := Own.start (o := .lst [V.str "", V.str "x", V.str "y"]) (Go.refl g3.d) nq
                refine ⟨H03, p, l, t3, q, _, rfl, g4.d, by omega, by omega, w4.h, w4.ap, w4.al, by decide, by decide, fun H5 j v g5 hv => ?_⟩
                have hx : v ∈ marks3.map V.str := List.mem_of_getElem? hv
                obtain ⟨z, hz, rfl⟩ := List.mem_map.mp hx
                exact Making.turn g3 w3 q3' ((g4.trans g5).more (by omega)) (.str z) (by rw [hP.1]; omega) (hP.snoc hz)
              · rintro H13 ⟨H03, t3, ys, ds, g3, w3, q3', hP⟩
                refine .inl ⟨M, ys, rfl, SqL.of w3.h, fun e ne => ?_⟩
                exact ⟨_, t3, .ref e, ds, rfl, (g3.new ne).more (by omega), dq_new (g3.d.s.free ne) q3', by rw [hP.1]; omega, hP.2⟩
            rintro σ13 H13 ⟨H013, t13, mv, ms', rfl, g13, hmv, lmv, amv⟩
            have hfv3 := Dq.same g13.s _ _ hfv
            have gA := g12.trans g13
            have owA := ow9.go gA
            have orA := or9.go gA
            have okA := ok9.go gA
            refine ⟨_, rfl, _, rfl, _, rfl, (by show 3 ≤ sizeLine; decide), fun q nq => ?_⟩
            have gB := gA.new (o := .tup [V.int th, fv, mv]) nq
            have owB := owA.new (ob := .tup [V.int th, fv, mv]) nq
            have orB := orA.new (ob := .tup [V.int th, fv, mv]) nq
            have okB := okA.new (ob := .tup [V.int th, fv, mv]) nq
            have hqv : Dq (upd H013 q (.tup [V.int th, fv, mv])) (.ref q) (.tuple [.int th, .tuple fs, .tuple ms']) := dq_new (gA.d.s.free nq) (.cons (.int th) (.cons hfv3 (.cons hmv .nil)))
            revert gB owB orB okB hqv
            generalize upd H13 q (.tup [V.int th, fv, mv]) = H14
            generalize upd H013 q (.tup [V.int th, fv, mv]) = H014
            intro gB owB orB okB hqv
            refine ⟨_, rfl, wd, _, rfl, wg_rows owB.h, _, rfl, _, rfl, (by show 2 ≤ sizeLine; decide), fun kq nkq => ?_⟩
            have gC := gB.put0 (o := .tup [V.int (i : Int), V.str x]) nkq
            have owC := owB.put (o' := .tup [V.int (i : Int), V.str x]) nkq
            have orC := orB.put (o' := .tup [V.int (i : Int), V.str x]) nkq
            have okC := okB.put (o' := .tup [V.int (i : Int), V.str x]) nkq
            have lk := hkv.len
            refine ⟨r, _, rfl, DPut.t (k := [Sum.inl (i : Int), Sum.inr x]) orC.h upd_same (by rw [lk, sizeLine_eq]; omega), ?_⟩
            revert gC owC orC okC
            generalize upd H14 kq (.tup [V.int (i : Int), V.str x]) = H15
            intro gC owC orC okC
            have okr : OkR n ct lg ((i : Int), x, [.int th, .tuple fs, .tuple ms']) := ⟨th, fs, ms', rfl, th0, th1, hF, lmv, amv⟩
            have hR2 := hR.put kn7.s.lt eL (by omega) (by omega) okr
            have hkv2 := (hkv.same gB.s).put (r := ((i : Int), x, [.int th, .tuple fs, .tuple ms'])) (v := .ref q) (fun s hs => (hR.bf s hs).lt kn7.s.lt eL) hqv
            exact ⟨some (.str x), some (.int ow'), some (.int th), some fv, some mv, H014, t13, _, _, rfl, ((g9.trans gC).more (by omega)).setO orC, owC.upd nr.symm, orC.set, okC.upd nkr, S9.trans gB.s, hkv2, hR2, by rw [List.length_append, List.length_singleton]; omega⟩
          · refine iteNo (decide_eq_false er) ?_
            exact ⟨some (.str x), some (.int ow'), p4, p5, p6, H09, _, kvs, rows, rfl, g11.more (by omega), ow11, or11, ok11, S9, hkv, hR.more (Nat.le_succ _), by omega⟩
        · rintro σ H' ⟨p2, p3', p4, p5, p6, H09, t9, kvs, rows, rfl, g9, ow9, or9, ok9, S9, hkv, hR, ln⟩
          exact ⟨_, p2, p3', p4, p5, p6, H09, t9, kvs, rows, rfl, g9.more (by omega), ow9, or9, ok9, S9, hkv, (by
            have := hR.next (j' := 0)
            rw [show ((i + 1 : Nat) : Int) = (i : Int) + 1 from by omega]
            exact this), by omega⟩
      · rintro σ H' ⟨o1, o2, o3, o4, o5, o6, H08, t8, kvs, rows, rfl, g8, ow8, or8, ok8, S8, hkv, hR, ln⟩
        exact ⟨o1, o2, o3, o4, o5, o6, H08, t8, kvs, rows, rfl, g8.more (by omega), ow8, or8, ok8, S8, hkv, (by
          rw [show ((ct.toNat : Nat) : Int) = ct from by omega] at hR
          exact hR), by omega⟩
    clear g ow orr ok
    rintro σ8 H8 ⟨o1, o2, o3, o4, o5, o6, H08, t8, kvs, rows, rfl, g, ow, orr, ok, S8, hkv, hR, ln⟩
    have gr := g.keepO orr
    have owr := ow.freeze (ob := .dT kvs) nr.symm
    have okr := ok.freeze (ob := .dT kvs) nkr
    have hrr : upd H08 r (.dT kvs) r = some (.dT kvs) := upd_same
    have Sr := S8.trans (same_new (o := .dT kvs) orr.n)
    have hkvr := hkv.same (same_new (o := .dT kvs) orr.n)
    revert gr owr okr hrr Sr hkvr
    generalize upd H08 r (.dT kvs) = H0r
    intro gr owr okr hrr Sr hkvr
    clear g ow orr ok S8 hkv
    refine ⟨fun σ H9 => ∃ (H0 : Hp) (t9 : Int) (ys : List V) (dk : List PyData) (σr : List (Option V)), σ = sW p sz sp mo n ct my B y wd σr ∧ Go p l Hs H t H0 H9 t9 300 ∧ Own p l wd H H0 H9 (.dK (ww [.int my, .ref C, .int ct, .int lg, s, e, .ref r, .ref tq, .ref lk])) ∧ Own p l lk H H0 H9 (.lst ys) ∧ Same H0r H0 ∧ DqAll H0 ys dk ∧ LooksTo n ct my.toNat dk, ?_, ?_⟩
    · refine ⟨_, rfl, my, rfl, by omega, by omega, for_range (fun i σ H' => ∃ (o7 : Option V) (H0 : Hp) (t9 : Int) (ys : List V) (dk : List PyData), σ = sW p sz sp mo n ct my B y wd [o1, o2, o3, o4, o5, o6, o7, none] ∧ Go p l Hs H t H0 H' t9 (162 + 45 * (i : Int)) ∧ Own p l wd H H0 H' (.dK (ww [.int my, .ref C, .int ct, .int lg, s, e, .ref r, .ref tq, .ref lk])) ∧ Own p l lk H H0 H' (.lst ys) ∧ Same H0r H0 ∧ DqAll H0 ys dk ∧ LooksTo n ct i dk) ?_ ?_ ?_⟩
      · exact ⟨none, H0r, t8, [], [], rfl, gr.more (by omega), owr, okr, Same.refl _, .nil, .start⟩
      · rintro i σ H9 hi ⟨o7, H09, t9, ys, dk, rfl, g9, ow9, ok9, S9, q9, hL⟩
        have g9t := g9.t1
        have g9t0 := g9.t0
        have ll := hL.len
        refine ⟨_, rfl, wd, _, rfl, wg_looks ow9.h, .inl ⟨rfl, _, SqL.of ok9.h⟩, ?_⟩
        refine ⟨_, rfl, ct, rfl, by omega, by omega, fun M nM => ?_⟩
        refine lc_range (fun j H10 => Making p l M H09 H9 t9 15 (FormsC n 3) j H10) (Making.start g9.d nM FormsC.start) ?_ ?_
        · rintro j H10 hj ⟨H010, t10, zs, ds, g10, w10, q10, hP⟩
          have g10t := g10.t1
          have g10t0 := g10.t0
          refine ⟨rfl, _, rfl, H010, p, l, t10, 3, rfl, g10.d, by omega, by omega, by omega, by omega, fun H11 m g11 m0 m1' => ?_⟩
          refine ⟨m, rfl, by omega, by omega, fun M2 nM2 => ?_⟩
          refine lc_range (fun k' H12 => Making p l M2 H010 H11 (t10 + 1) 4 (FormsOk n) k' H12) (Making.start g11.d nM2 FormsOk.start) ?_ ?_
          · rintro k' H12 hk ⟨H012, t12, us, es', g12, w12, q12, hP2⟩
            have g12t := g12.t1
            have g12t0 := g12.t0
            have kb : (k' : Int) < 2 := by omega
            refine ⟨rfl, _, rfl, _, rfl, H012, p, l, t12, n, rfl, g12.d, by omega, by omega, n1, n3, fun H1 H' t' v d gg hv hG => ?_⟩
            exact Making.turn g12 w12 q12 gg hv (by rw [hP2.1]; omega) (hP2.snoc hG)
          · rintro H12 ⟨H012, t12, us, es', g12, w12, q12, hP2⟩
            have gk := g11.trans (g12.keepO w12)
            obtain ⟨L, rfl, eL, _⟩ := id hP
            exact Making.turn g10 w10 q10 (gk.more (by omega)) (.lst upd_same (DqAll.same (same_new w12.n) _ _ q12)) (by rw [List.length_map, eL]; omega) (hP.snoc (by rw [hP2.1]; omega) hP2.2)
        · rintro H10 ⟨H010, t10, zs, ds, g10, w10, q10, hP⟩
          have gk := g10.keepO w10
          have ok10 := ok9.go gk
          have ow10 := ow9.go gk
          have q10' := DqAll.same gk.s _ _ q9
          have hM : Dq (upd H010 M (.lst zs)) (.ref M) (.list ds) := .lst upd_same (DqAll.same (same_new w10.n) _ _ q10)
          refine ⟨lk, _, _, rfl, rfl, ok10.h, by rw [dq_len q9, ll, sizeLine_eq]; omega, ?_⟩
          exact ⟨_, _, t10, _, _, rfl, ((g9.trans gk).more (by omega)).setO ok10, ow10.upd nk.symm, ok10.set, S9.trans gk.s, q10'.snoc hM, hL.snoc hP (by omega)⟩
      · rintro σ H' ⟨o7, H0, t9, ys, dk, rfl, g9, ow9, ok9, S9, q9, hL⟩
        exact ⟨H0, t9, ys, dk, _, rfl, g9.more (by omega), ow9, ok9, S9, q9, hL⟩
    rintro σ9 H9 ⟨H09, t9, ys, dk, σr, rfl, g, ow, ok, S9, q9, L, rfl, eL, aL⟩
    have gk := g.keepO ok
    have owk := ow.freeze (ob := .lst ys) nk.symm
    have SL := same_new (o := .lst ys) ok.n
    have SA := Sr.trans (S9.trans SL)
    refine ⟨_, rfl, k _ _ _ wd _ ⟨my, dl, ct, lg, ns, es, rows, [], L⟩ gk owk ⟨.ref C, s, e, r, kvs, .ref tq, .ref lk, rfl, .lst (SA _ _ hC) (DqAll.same SA _ _ hcs), Dq.same ((S6.trans S7).trans SA) _ _ hs, Dq.same (S7.trans SA) _ _ he, SL _ _ (S9 _ _ hrr), (hkvr.same S9).same SL, .lst (SA _ _ hq) .nil, .lst upd_same (DqAll.same SL _ _ q9)⟩ ?_ rfl⟩
    have lsE : (⟨my, dl, ct, lg, ns, es, rows, [], L⟩ : LW).lets = letsOf y := e1
    have d1 := kn.s.n1
    exact { p1 := m1, p3 := by show my ≤ 3; omega, d1 := by show 1 ≤ dl.length; omega, d3 := by show dl.length ≤ 3; omega, dl := fun l hl => by rw [lsE] at hl; exact ⟨kn.s.le l hl, kn.s.as l hl⟩, da := ownr, ds := by rw [lsE]; exact kn.s.lt, n1 := by show 1 ≤ ns.length; omega, n3 := by show ns.length ≤ 3; omega, sm := bns, q1 := q1, q3 := q3, ea := aes, es := pes, g0 := l0, g2 := l1, rw := hR.pw, rs := fun r hr => by rw [lsE]; exact hR.ok r hr, ra := fun r hr => by show OkR ns.length ct lg r; rw [lns]; exact hR.ra r hr, rn := by show rows.length ≤ 10; omega, tt := .nil, ta := fun _ h => (nomatch h), tn := Nat.zero_le _, kn := by show (L.length : Int) = my; omega, ka := fun m hm => by show _ ∧ _; rw [lns]; exact aL m hm }
end
end KL
set_option Elab.async false
set_option linter.all false
set_option maxRecDepth 100000
set_option maxHeartbeats 8000000
namespace KL
open PySem L2 PySem.KX PySem.Spec PyProof.Rows
/-! ### the order of data that are alike -/
theorem ld_int (a b : Int) : PySem.W.dataLt (.int a) (.int b) = decide (a < b) := by
  show PyProof.Rows.lexLt itemOrd [Sum.inl a] [Sum.inl b] = _
  simp [PyProof.Rows.lexLt, itemLt]
theorem ld_nil : PyProof.Rows.lexLt itemOrd (PySem.W.keyToksAll []) (PySem.W.keyToksAll []) = false := PyProof.Rows.lex_irrefl _
theorem ld_some (y : PyData) (ys : List PyData) : PyProof.Rows.lexLt itemOrd (PySem.W.keyToksAll []) (PySem.W.keyToksAll (y :: ys)) = true := by
  rw [PySem.W.toks_all_cons, show PySem.W.keyToksAll [] = [Sum.inl 0] from by rw [PySem.W.keyToksAll]]
  rw [PySem.W.lex_atom (by simp)]
  simp [PyProof.Rows.lexLt, itemLt]
theorem ld_none (x : PyData) (xs : List PyData) : PyProof.Rows.lexLt itemOrd (PySem.W.keyToksAll (x :: xs)) (PySem.W.keyToksAll []) = false := by
  rw [PySem.W.toks_all_cons, show PySem.W.keyToksAll [] = [Sum.inl 0] from by rw [PySem.W.keyToksAll]]
  rw [PySem.W.lex_atom (by simp)]
  simp [PyProof.Rows.lexLt, itemLt]
mutual
theorem lt_alike : ∀ (x y : PyData), plainD x = true → plainD y = true → PySem.W.alike x y = true → ltD x y = PySem.W.dataLt x y
  | .int a, y, _, _, h => by
    cases y with
    | int b => rw [ld_int]; rfl
    | _ => simp [PySem.W.alike] at h
  | .str a, y, _, _, h => by
    cases y with
    | str b => rw [PySem.W.dataLt_str]; rfl
    | _ => simp [PySem.W.alike] at h
  | .tuple xs, y, px, py, h => by
    cases y with
    | tuple ys =>
      have e := lt_alikes xs ys (by simpa [plainD] using px) (by simpa [plainD] using py) (by simpa [PySem.W.alike] using h)
      show ltAll xs ys = PyProof.Rows.lexLt itemOrd (PySem.W.keyToksAll xs) (PySem.W.keyToksAll ys)
      exact e
    | _ => simp [PySem.W.alike] at h
  | .none, _, h, _, _ => by simp [plainD] at h
  | .bool _, _, h, _, _ => by simp [plainD] at h
  | .list _, _, h, _, _ => by simp [plainD] at h
  | .dict _, _, h, _, _ => by simp [plainD] at h
theorem lt_alikes : ∀ (xs ys : List PyData), plainAll xs = true → plainAll ys = true → PySem.W.alikeAll xs ys = true → ltAll xs ys = PyProof.Rows.lexLt itemOrd (PySem.W.keyToksAll xs) (PySem.W.keyToksAll ys)
  | [], [], _, _, _ => ld_nil.symm
  | [], y :: ys, _, _, _ => (ld_some y ys).symm
  | x :: xs, [], _, _, _ => (ld_none x xs).symm
  | x :: xs, y :: ys, px, py, h => by
    have px := Bool.and_eq_true_iff.mp (show (plainD x && plainAll xs) = true from by simpa [plainAll] using px)
    have py := Bool.and_eq_true_iff.mp (show (plainD y && plainAll ys) = true from by simpa [plainAll] using py)
    have h := PySem.W.alike_all_cons h
    show (if PyData.eqv x y = true then ltAll xs ys else ltD x y) = _
    cases e : PyData.eqv x y with
    | true =>
      rw [PySem.W.dataLt_all_yes h.1 e, if_pos rfl]
      exact lt_alikes xs ys px.2 py.2 h.2
    | false =>
      rw [PySem.W.dataLt_all_no h.1 e, if_neg (by decide)]
      exact lt_alike x y px.1 py.1 h.1
end
theorem sle_not (d e : PyData) : sleD d e = !PySem.W.dataLt e d := rfl
theorem toks_inj {x y : PyData} (h : PySem.W.alike x y = true) (e : PySem.W.keyToks x = PySem.W.keyToks y) : PyData.eqv x y = true := by
  cases z : PyData.eqv x y with
  | true => rfl
  | false =>
    have q := (PySem.W.toks_eqv x y h).2 z [.inl 0] [.inl 1]
    rw [e, PySem.W.lex_pre] at q
    rw [show PyProof.Rows.lexLt itemOrd (PySem.W.keyToks y) (PySem.W.keyToks y) = false from PyProof.Rows.lex_irrefl _] at q
    exact absurd q (by decide)
theorem sle_anti {d e : PyData} (pd : plainD d = true) (pe : plainD e = true) (al : PySem.W.alike d e = true) (h1 : sleD d e = true) (h2 : sleD e d = true) : d = e := by
  rw [sle_not] at h1 h2
  refine plain_eq d e pd pe (toks_inj al ?_)
  have a : PySem.W.dataLt e d = false := by simpa using h1
  have b : PySem.W.dataLt d e = false := by simpa using h2
  exact (listOrd itemOrd).total _ _ b a
theorem sle_total : PySem.W.TotalLe sleD := PySem.W.sortLe_total (listOrd itemOrd) false fun b => PySem.W.keyToks (id b)
/-- sorted and none twice: rising -/
theorem rise_of {l : List PyData} (pl : ∀ d ∈ l, plainD d = true) (al : ∀ d ∈ l, ∀ e ∈ l, PySem.W.alike d e = true) (nd : l.Nodup) (so : l.Pairwise fun a b => sleD a b = true) : l.Pairwise fun a b => ltD a b = true := by
  have h : l.Pairwise fun a b => sleD a b = true ∧ a ≠ b := so.and nd
  refine List.Pairwise.imp_of_mem (fun {a b} ha hb z => ?_) h
  rw [lt_alike a b (pl a ha) (pl b hb) (al a ha b hb)]
  cases y : PySem.W.dataLt a b with
  | true => rfl
  | false =>
    have : sleD b a = true := by rw [sle_not, y]; rfl
    exact absurd (sle_anti (pl a ha) (pl b hb) (al a ha b hb) z.1 this) z.2
theorem alike_numbers : ∀ {ns ms : List Int}, PySem.W.alikeAll (ns.map .int) (ms.map .int) = true
  | [], _ => by simp [PySem.W.alikeAll]
  | _ :: _, [] => by simp [PySem.W.alikeAll]
  | n :: ns, m :: ms => by
    rw [List.map_cons, List.map_cons, PySem.W.alikeAll, alike_numbers]
    simp [PySem.W.alike]
theorem alike_form {n m : Int} {d e : PyData} (h : FormS n d) (k : FormS m e) : PySem.W.alike d e = true := by
  obtain ⟨ns, rfl, _⟩ := h
  obtain ⟨ms, rfl, _⟩ := k
  rw [PySem.W.alike]
  exact alike_numbers
theorem alike_test {n : Nat} {rows : List Row} {r s : Row} (h : OkT n rows r) (k : OkT n rows s) : PySem.W.alike (rowE r) (rowE s) = true := by
  obtain ⟨⟨f, lo, hi, e, hf, _⟩, _⟩ := h
  obtain ⟨⟨f', lo', hi', e', hf', _⟩, _⟩ := k
  unfold rowE
  rw [e, e']
  simp [PySem.W.alike, PySem.W.alikeAll, alike_form hf hf']
def keyE (r : Row) : PyData := .tuple [.int r.1, .str r.2.1]
theorem alike_key (r s : Row) : PySem.W.alike (keyE r) (keyE s) = true := by simp [keyE, PySem.W.alike, PySem.W.alikeAll]
theorem plain_key (r : Row) : plainD (keyE r) = true := by simp [keyE, plainD, plainAll]
theorem key_sle {r s : Row} (h : keyLt r s) : sleD (keyE r) (keyE s) = true := by
  have e : ltD (keyE r) (keyE s) = true := key_lt h
  rw [lt_alike _ _ (plain_key r) (plain_key s) (alike_key r s)] at e
  rcases sle_total.total (keyE r) (keyE s) with z | z
  · exact z
  · rw [sle_not, e] at z
    cases z
/-- keys that rise are sorted -/
theorem keys_sorted {rows : List Row} (h : rows.Pairwise keyLt) : (rows.map keyE).mergeSort sleD = rows.map keyE :=
  List.mergeSort_of_pairwise (List.pairwise_map.mpr (h.imp fun z => key_sle z))
/-- the keys of a dict of rows, as data -/
theorem isKeys_dq {H0 H : Hp} : ∀ {kvs : List (List Key × V)} {bs : List Addr} {rows : List Row}, IsKeys H kvs bs → RowsKV H0 kvs rows → DqAll H (bs.map V.ref) (rows.map keyE)
  | _, _, _, .nil, .nil => .nil
  | _, _, _, .cons a t, .cons b u => by
    have a : H _ = some (.tup (_ : List V)) := a
    rw [b.1] at a
    exact .cons (.tup a (.cons (.int _) (.cons (.str _) .nil))) (isKeys_dq t u)
end KL
set_option Elab.async false
set_option linter.all false
set_option maxRecDepth 100000
set_option maxHeartbeats 16000000
namespace KL
open PySem L2 PySem.KX PySem.Spec PyProof.Rows
/-! ### a world with tests -/
def WAt (H : Hp) (wd : Addr) (w : LW) : Prop := ∃ vs, H wd = some (.dK (ww vs)) ∧ WParts H vs w
theorem WParts.same {H H' : Hp} {vs : List V} {w : LW} (S : Same H H') (h : WParts H vs w) : WParts H' vs w := by
  obtain ⟨d, s, e, r, kvs, t, k, rfl, q1, q2, q3, q4, q5, q6, q7⟩ := h
  exact ⟨d, s, e, r, kvs, t, k, rfl, Dq.same S _ _ q1, Dq.same S _ _ q2, Dq.same S _ _ q3, S _ _ q4, q5.same S, Dq.same S _ _ q6, Dq.same S _ _ q7⟩
theorem WAt.same {H H' : Hp} {wd : Addr} {w : LW} (S : Same H H') (h : WAt H wd w) : WAt H' wd w := by
  obtain ⟨vs, a, b⟩ := h
  exact ⟨vs, S _ _ a, b.same S⟩
def spTested : Sp := fun vs H Q _ => ∃ (H0 : Hp) (p l wd : Addr) (t : Int) (vs' : List V) (w : LW), vs = [.ref p, .ref wd] ∧ DeckAt H0 H p l t ∧ 0 ≤ t ∧ t < 900000 ∧ H wd = some (.dK (ww vs')) ∧ H0 wd = none ∧ WParts H0 vs' w ∧ GoodW w ∧ w.tests = [] ∧
  ∀ H1 H' t' w', DeckAt H1 H' p l t' → Same H0 H1 → t ≤ t' → t' ≤ t + 50 → WAt H1 wd w' → GoodW w' → Q (.ref wd) H'
abbrev nTested : List Str := ["_law_deck_here", "_law_w", "_law_found", "_law_go", "_law_p", "_law_x", "_law_low"]
theorem DeckAt.notT {H0 H : Hp} {p l a : Addr} {t : Int} {xs : List V} (D : DeckAt H0 H p l t) (h : H a = some (.tup xs)) : a ≠ p ∧ a ≠ l := by
  obtain ⟨ns, m, hp, hl, _⟩ := D.d
  refine ⟨?_, ?_⟩
  · rintro rfl
    rw [hp] at h
    cases h
  · rintro rfl
    rw [hl] at h
    cases h
/-- tuples in a list as rows of a set -/
theorem rowsK_of {H : Hp} : ∀ {ds : List PyData} {ys : List V}, DqAll H ys ds → (∀ d ∈ ds, ∃ es, d = .tuple es) → (∀ d ∈ ds, plainD d = true ∧ d.depth ≤ 4) → ∃ rs : List KRow, ys = rs.map (fun r => V.ref r.1) ∧ (∀ r ∈ rs, RowK H r) ∧ rs.map (·.2) = ds.map keyO
  | [], _, .nil, _, _ => ⟨[], rfl, (fun _ h => nomatch h), rfl⟩
  | d :: ds, y :: ys, .cons a b, h1, h2 => by
    obtain ⟨rs, rfl, q, e⟩ := rowsK_of b (fun x hx => h1 x (.tail _ hx)) (fun x hx => h2 x (.tail _ hx))
    obtain ⟨es, rfl⟩ := h1 d (.head _)
    obtain ⟨ad, xs, rfl, _, _⟩ := tup_at a
    obtain ⟨pl, dp⟩ := h2 _ (.head _)
    refine ⟨(ad, keyO (.tuple es)) :: rs, rfl, fun r hr => ?_, by rw [List.map_cons, List.map_cons, e]⟩
    rcases List.mem_cons.mp hr with rfl | hr
    · exact ⟨_, rfl, pl, dp, a⟩
    · exact q r hr
theorem tx_keys {w : LW} (g : GoodW w) : txAll (w.rows.map keyE) = true := txAll_of (n := 10) (w := 20) (p := 1) (W := 100) (many_of (by rw [List.length_map]; exact g.rn) fun d hd => by
  obtain ⟨r, hr, rfl⟩ := List.mem_map.mp hd
  obtain ⟨s0, s1, l⟩ := g.rs r hr
  have q3 := g.q3
  have lt := g.dl _ l
  exact ((Many.cons (w := 20) (p := 0) (W := 30) (gd_int (by omega) (by omega)) (Many.cons (gd_str lt.2 (by rw [len_letter lt.1]; decide)) Many.nil)).tup).mono (by decide) (by decide) (by decide))
theorem depth_few : ∀ {ds : List PyData} {n : Nat}, (∀ d ∈ ds, d.depth ≤ n) → PyData.depthAll ds ≤ n
  | [], n, _ => Nat.zero_le n
  | d :: ds, n, h => by
    rw [PyData.depthAll]
    exact Nat.max_le.mpr ⟨h d (.head _), depth_few fun x hx => h x (.tail _ hx)⟩
def TestsTo (w : LW) (i : Nat) (ts : List Row) : Prop := ts.length = i ∧ ∀ r ∈ ts, OkT w.start.length w.rows r
theorem nodup_few {α : Type} [DecidableEq α] : ∀ {l m : List α}, l.Nodup → (∀ x ∈ l, x ∈ m) → l.length ≤ m.length
  | [], _, _, _ => Nat.zero_le _
  | x :: l, m, hn, hs => by
    obtain ⟨h1, h2⟩ := List.nodup_cons.mp hn
    have hx : x ∈ m := hs x List.mem_cons_self
    have ih := nodup_few (l := l) (m := m.erase x) h2 fun y hy => by
      have hne : y ≠ x := fun e => h1 (e ▸ hy)
      exact (List.mem_erase_of_ne hne).2 (hs y (List.mem_cons_of_mem _ hy))
    have e := List.length_erase_of_mem hx
    have hp : 0 < m.length := List.length_pos_of_mem hx
    rw [List.length_cons]
    omega
/-- the value of a part is cut to what is said of it -/
def tCutE (te : TE) : TE := fun σ H Q => ∃ R : VK, te σ H R ∧ ∀ v H', R v H' → Q v H'
theorem pe_cut {X : Cx} {e : Expr} {te : TE} (h : PE X e te) : PE X e (tCutE te) := ⟨fun pins s σ H Q I hw => by
  obtain ⟨R, h1, h2⟩ := hw
  exact thn (h.run pins s σ H R I h1) fun v s1 ⟨x, H1, I1, r, q⟩ => ⟨x, H1, I1, r, h2 _ _ q⟩⟩
/-- what sorted makes of a set of tests -/
theorem tests_made {w : LW} (g : GoodW w) (g0 : w.tests = []) {ts : List Row} (h : TestsTo w ts.length ts) (h3 : ts.length ≤ 3) {L ms : List KRow} (sub : ∀ r ∈ L, r.2 ∈ ts.map fun r => keyO (rowE r)) (nd : (L.map (·.2)).Nodup) (pm : ms.Perm L) :
    ∃ us : List Row, ((ms.map fun r => rowD r.2).mergeSort sleD) = us.map rowE ∧ GoodW { w with tests := us } := by
  have pl : ∀ r ∈ ts, plainD (rowE r) = true := fun r hr => (gdTest g.n3 g.q3 g.rs g.dl (h.2 r hr)).2
  have each : ∀ r ∈ ms, ∃ u ∈ ts, rowD r.2 = rowE u ∧ r.2 = keyO (rowE u) := fun r hr => by
    obtain ⟨u, hu', e⟩ := List.mem_map.mp (sub r (pm.mem_iff.mp hr))
    exact ⟨u, hu', by unfold rowD; rw [← e, key_data _ (pl u hu')], e.symm⟩
  have back : ∀ d ∈ (ms.map fun r => rowD r.2).mergeSort sleD, ∃ u ∈ ts, d = rowE u := fun d hd => by
    obtain ⟨r, hr, rfl⟩ := List.mem_map.mp ((List.mergeSort_perm _ _).mem_iff.mp hd)
    obtain ⟨u, hu', e, _⟩ := each r hr
    exact ⟨u, hu', e⟩
  have lst : ∀ l : List PyData, (∀ d ∈ l, ∃ u ∈ ts, d = rowE u) → ∃ us : List Row, l = us.map rowE ∧ ∀ u ∈ us, u ∈ ts := fun l => by
    induction l with
    | nil => exact fun _ => ⟨[], rfl, fun _ h => nomatch h⟩
    | cons d l ih =>
      intro hl
      obtain ⟨us, e, a⟩ := ih fun d hd => hl d (.tail _ hd)
      obtain ⟨u, hu', e2⟩ := hl d (.head _)
      exact ⟨u :: us, by rw [e, e2]; rfl, fun x hx => by
        rcases List.mem_cons.mp hx with rfl | hx
        · exact hu'
        · exact a x hx⟩
  obtain ⟨us, eu, hus⟩ := lst _ back
  refine ⟨us, eu, ?_⟩
  have ndm : (ms.map (·.2)).Nodup := (pm.map (·.2)).nodup_iff.mpr nd
  have ndD : (ms.map fun r => rowD r.2).Nodup := by
    unfold List.Nodup at ndm ⊢
    rw [List.pairwise_map] at ndm ⊢
    refine List.Pairwise.imp_of_mem (fun {a b} ha hb ne e => ne ?_) ndm
    obtain ⟨u, hu1, e1, k1⟩ := each a ha
    obtain ⟨v, hv1, e2, k2⟩ := each b hb
    rw [e1, e2] at e
    rw [k1, k2, e]
  have ndS : ((ms.map fun r => rowD r.2).mergeSort sleD).Nodup := (List.mergeSort_perm _ _).nodup_iff.mpr ndD
  have so : ((ms.map fun r => rowD r.2).mergeSort sleD).Pairwise fun a b => sleD a b = true := List.pairwise_mergeSort (fun a b c => sle_total.trans a b c) (fun a b => by rcases sle_total.total a b with z | z <;> simp [z]) _
  have up := rise_of (fun d hd => by obtain ⟨u, hu', rfl⟩ := back d hd; exact pl u hu') (fun d hd e he => by
    obtain ⟨u, hu', rfl⟩ := back d hd
    obtain ⟨v, hv', rfl⟩ := back e he
    exact alike_test (h.2 u hu') (h.2 v hv')) ndS so
  have len : us.length ≤ 3 := by
    have a := congrArg List.length eu
    rw [List.length_mergeSort, List.length_map, List.length_map] at a
    have lk : L.length ≤ ts.length := by
      have : (L.map (·.2)).length ≤ (ts.map fun r => keyO (rowE r)).length := nodup_few nd fun x hx => by
        obtain ⟨r, hr, rfl⟩ := List.mem_map.mp hx
        exact sub r hr
      rwa [List.length_map, List.length_map] at this
    have := pm.length_eq
    omega
  rw [eu] at up
  exact { g with tt := List.pairwise_map.mp up, ta := fun r hr => h.2 r (hus r hr), tn := len }
section
variable {P : Program} {w : World} {K : PySem.W.Frag} {mg : Str → Option Value} {base : Heap}
structure TxtS (mg : Str → Option Value) : Prop where
  g : TxtG mg
  sorted : mg "sorted" = none
  set : mg "set" = none
theorem scTested : FnScope nTested ["_law_deck_here", "_law_w"] (defScope lTested) := ⟨rfl, rfl, rfl, by decide +kernel, rfl, by decide +kernel, by decide +kernel⟩
theorem ok_tested {f g1 g2 g3 : Addr} {fd gd1 gd2 gd3 : FuncData} (F : Fun K "_law_tested" "_law_tested" lTested f fd) (T : TxtS mg)
    (G1 : FnOk P w K mg base CX0 1 g1 gd1 ["_law_deck_here", "_law_below"] spDraw) (c1 : Cal K mg "_law_draw" g1 gd1 ["_law_deck_here", "_law_below"])
    (G2 : FnOk P w K mg base CX0 2 g2 gd2 ["_law_deck_here", "_law_some"] spPick) (c2 : Cal K mg "_law_pick" g2 gd2 ["_law_deck_here", "_law_some"])
    (G3 : FnOk P w K mg base CX0 3 g3 gd3 ["_law_deck_here", "_law_size"] spLook) (c3 : Cal K mg "_law_look" g3 gd3 ["_law_deck_here", "_law_size"]) :
    FnOk P w K mg base CX0 4 f fd ["_law_deck_here", "_law_w"] spTested := by
  refine F.ok scTested (fun vs H Q E h => ?_) (fun cdv A outer s H vs Q E hr h => ?_)
  · obtain ⟨H0, p, l, wd, t, vs', w, rfl, _⟩ := h
    rfl
  · obtain ⟨Hs, p, l, wd, t, vs', lw, rfl, D0, t0, t1, hw, h0w, hP, gw, gt0, k⟩ := h
    have hu := hu_of hr
    have r1 : Room 1 _ := hr.mono (by decide)
    have r2 : Room 2 _ := hr.mono (by decide)
    have nd := scTested.nd
    refine ⟨_, C8.pss_cut (ps_set (i := 2) nd rfl (.inl rfl) (pe_lst pa_nil))
      (C8.pss_cut (ps_for PassesOwn.never rfl (pi_range1 (by rfl) T.g.range (pa_cons (pe_cut (pe_ifExp (pt_cmpR (op_neDNil hr.units) (pe_dget hu (pv 1) pe_str (fun _ _ => rfl)) pe_dnewK (nomark _)) (pe_call G1 r1 rfl c1.m c1.k c1.b .nil pass0 (pa_cons (pv 0) (pa_cons pe_int pa_nil))) pe_int)) pa_nil)) (pg_name (i := 3) nd rfl (.inl rfl))
        (C8.pss_cut (ps_asg (pe_call G2 r2 rfl c2.m c2.k c2.b .nil pass0 (pa_cons (pv 0) (pa_cons (pe_callB (cr_sortedQ hr.units) (by rfl) T.sorted (by decide +kernel) (pa_cons (pe_callTy (call_list_dT rfl) (by rfl) T.g.d.list (by decide +kernel) (pa_cons (pe_dget hu (pv 1) pe_str (fun _ _ => rfl)) pa_nil)) pa_nil)) pa_nil))) (pg_tup rfl (pgs_cons (pg_name (i := 4) nd rfl (.inl rfl)) (pgs_cons (pg_name (i := 5) nd rfl (.inl rfl)) pgs_nil))))
        (C8.pss_cut (ps_set (i := 6) nd rfl (.inl rfl) (pe_op op_sub (pe_call G1 r1 rfl c1.m c1.k c1.b .nil pass0 (pa_cons (pv 0) (pa_cons pe_int pa_nil))) pe_int))
        (pss_one (ps_expr (pe_bm PySem.F.plainAttrs_list PySem.F.slot_list_append PySem.F.type_list_append mt_append (pv 2) (pa_cons (pe_tup (pa_cons (pv 4) (pa_cons (pv 5) (pa_cons (pe_call G3 hr rfl c3.m c3.k c3.b .nil pass0 (pa_cons (pv 0) (pa_cons (pe_callB call_len_seq (by rfl) T.g.d.len PySem.boot_len (pa_cons (pe_dget hu (pv 1) pe_str (fun _ _ => rfl)) pa_nil)) pa_nil))) (pa_cons (pv 6) (pa_cons (pe_op op_add (pv 6) (pe_call G1 r1 rfl c1.m c1.k c1.b .nil pass0 (pa_cons (pv 0) (pa_cons pe_int pa_nil)))) pa_nil)))))) pa_nil)))))))
      (C8.pss_cut (ps_dput hu (pv 1) pe_str (pe_callB (cr_sortR rfl hr.units) (by rfl) T.sorted (by decide +kernel) (pa_cons (pe_callTy (cr_setR rfl hr.units) (by rfl) T.set (by decide +kernel) (pa_cons (pv 2) pa_nil)) pa_nil)) rfl)
      (pss_one (ps_ret (pv 1))))), ?_⟩
    obtain ⟨d, s', e, r, kvs, tq, lk, rfl, q1, q2, q3, q4, q5, q6, q7⟩ := id hP
    have wne : wd ≠ p ∧ wd ≠ l := by
      obtain ⟨ns, m, hp, hl, _⟩ := D0.d
      refine ⟨?_, ?_⟩
      · rintro rfl
        rw [hp] at hw
        injection hw with hw
        injection hw with hw
        cases hw
      · rintro rfl
        rw [hl] at hw
        cases hw
    refine ⟨fun σ H1 => ∃ D, σ = [some (.ref p), some (.ref wd), some (.ref D), none, none, none, none] ∧ Go p l Hs H t Hs H1 t 0 ∧ Own p l D H Hs H1 (.lst []), ?_, ?_⟩
    · exact ⟨(by show 0 ≤ sizeLine; decide), fun D nD => ⟨D, rfl, (Go.refl D0).put0 nD, Own.start (Go.refl D0) nD⟩⟩
    rintro σ1 H1 ⟨D, rfl, g1', w1'⟩
    refine ⟨fun σ H2 => ∃ (H0 : Hp) (t' : Int) (ys : List V) (ts : List Row) (σr : List (Option V)), σ = [some (.ref p), some (.ref wd), some (.ref D)] ++ σr ∧ Go p l Hs H t H0 H2 t' 40 ∧ Own p l D H H0 H2 (.lst ys) ∧ DqAll H0 ys (ts.map rowE) ∧ TestsTo lw ts.length ts ∧ ts.length ≤ 3, ?_, ?_⟩
    · refine ⟨fun v H' => ∃ (n t3 : Int), v = .int n ∧ Go p l Hs H t Hs H' t3 1 ∧ Own p l D H Hs H' (.lst []) ∧ 0 ≤ n ∧ n ≤ 3 ∧ (n ≠ 0 → kvs ≠ []), ?_, ?_⟩
      · refine ⟨_, rfl, wd, _, rfl, wg_rows (g1'.f _ _ wne.1 wne.2 hw), fun z nz => ?_⟩
        have g2' := g1'.put0 (o := .dK []) nz
        have w2' := w1'.put (o' := .dK []) nz
        refine ⟨r, z, kvs, rfl, rfl, g2'.d.s _ _ q4, upd_same, _, rfl, ?_⟩
        revert g2' w2'
        generalize upd H1 z (.dK []) = H2
        intro g2' w2'
        cases ek : kvs.isEmpty with
        | true => exact iteNo rfl ⟨0, t, rfl, g2'.more (by omega), w2', by omega, by omega, fun z => absurd rfl z⟩
        | false =>
          refine iteYes rfl ⟨_, rfl, Hs, p, l, t, 4, rfl, g2'.d, t0, by omega, by omega, by omega, fun H3 n g3 n0 n1 => ?_⟩
          exact ⟨n, _, rfl, (g2'.trans g3).more (by omega), w2'.go g3, n0, by omega, fun _ z => by rw [z] at ek; cases ek⟩
      rintro v H3 ⟨n, t3, rfl, g3, w3, n0, n3, nk⟩
      refine ⟨n, rfl, by omega, by omega, for_range (fun i σ H' => ∃ (H0 : Hp) (t' : Int) (ys : List V) (ts : List Row) (o3 o4 o5 o6 : Option V), σ = [some (.ref p), some (.ref wd), some (.ref D), o3, o4, o5, o6] ∧ Go p l Hs H t H0 H' t' (1 + 8 * (i : Int)) ∧ Own p l D H H0 H' (.lst ys) ∧ DqAll H0 ys (ts.map rowE) ∧ TestsTo lw i ts) ?_ ?_ ?_⟩
      · exact ⟨Hs, t3, [], [], none, none, none, none, rfl, g3.more (by omega), w3, .nil, rfl, fun _ h => nomatch h⟩
      · rintro i σ H4 hi ⟨H04, t4, ys, ts, o3, o4, o5, o6, rfl, g4, w4, q, hT⟩
        have i3 : (i : Int) < 3 := by omega
        have kne : kvs ≠ [] := nk (by omega)
        have g4t := g4.t1
        have g4t0 := g4.t0
        have hkv4 := q5.same g4.s
        -- a row is picked
        refine ⟨fun σ H5 => ∃ (H05 : Hp) (t5 : Int) (row : Row), σ = [some (.ref p), some (.ref wd), some (.ref D), some (.int (0 + (i : Int))), some (.int row.1), some (.str row.2.1), o6] ∧ Go p l H04 H4 t4 H05 H5 t5 1 ∧ row ∈ lw.rows, ?_, ?_⟩
        · refine ⟨_, rfl, _, rfl, wd, _, rfl, wg_rows (g4.f _ _ wne.1 wne.2 hw), r, kvs, rfl, .inl (g4.d.s _ _ (g4.s _ _ q4)), fun u bs nu hk => ?_⟩
          have hdq := isKeys_dq hk hkv4
          have lb : bs.length = lw.rows.length := by
            have := dq_len hdq
            rwa [List.length_map, List.length_map] at this
          have rn := gw.rn
          have rp : 0 < lw.rows.length := by
            rw [← q5.len]
            exact List.length_pos_iff.mpr kne
          have Su := same_new (o := .lst (bs.map V.ref)) nu
          have gu := (Go.refl g4.d).put0 (o := .lst (bs.map V.ref)) nu
          have hu1 : upd H4 u (.lst (bs.map V.ref)) u = some (.lst (bs.map V.ref)) := upd_same
          have hdu := DqAll.same Su _ _ hdq
          revert gu hu1 hdu
          generalize upd H4 u (.lst (bs.map V.ref)) = H5
          intro gu hu1 hdu
          refine ⟨H5, u, _, _, rfl, SqL.of hu1, Same.refl _, hdu, ?_, ?_, ?_, ?_, fun zs q hzs nq => ?_⟩
          · exact lay_plains _ (plain_all_of.mpr fun d hd => by obtain ⟨x, _, rfl⟩ := List.mem_map.mp hd; exact plain_key x) (tx_keys gw)
          · intro d hd e he
            obtain ⟨x, _, rfl⟩ := List.mem_map.mp hd
            obtain ⟨y, _, rfl⟩ := List.mem_map.mp he
            exact alike_key x y
          · exact .inl fun d hd => by obtain ⟨x, _, rfl⟩ := List.mem_map.mp hd; exact ⟨_, _, rfl⟩
          · refine depth_few fun d hd => ?_
            obtain ⟨x, _, rfl⟩ := List.mem_map.mp hd
            show 1 ≤ 20
            decide
          · rw [keys_sorted gw.rw] at hzs
            have lz := dq_len hzs
            rw [List.length_map] at lz
            have gq := gu.put0 (o := .lst zs) nq
            have wq := Own.start (o := .lst zs) gu nq
            refine ⟨H04, p, l, t4, q, zs, rfl, gq.d, by omega, by omega, wq.h, wq.ap, wq.al, by omega, by omega, fun H6 j v g6 hv => ?_⟩
            obtain ⟨d', hd', hq'⟩ := DqAll.at hzs hv
            rw [List.getElem?_map] at hd'
            cases er : lw.rows[j]? with
            | none =>
              rw [er] at hd'
              cases hd'
            | some row =>
              rw [er] at hd'
              cases hd'
              obtain ⟨b, us, rfl, eb, qb⟩ := tup_at hq'
              cases qb with | cons u0 qb =>
              cases qb with | cons u1 qb =>
              cases qb
              cases u0
              cases u1
              have eb2 : upd H5 q (.lst zs) b = some (.tup [.int row.1, .str row.2.1]) := (same_new nq) _ _ eb
              obtain ⟨bp, bl⟩ := gq.d.notT eb2
              refine ⟨b, _, rfl, SqT.of (g6.f _ _ bp bl eb2), rfl, _, _, rfl, _, _, rfl, rfl, ?_⟩
              exact ⟨H04, _, row, rfl, (gq.trans g6).more (by omega), List.mem_of_getElem? er⟩
        rintro σ5 H5 ⟨H05, t5, row, rfl, g5, hrow⟩
        have g5t := g5.t1
        have g5t0 := g5.t0
        refine ⟨fun σ H6 => ∃ (t6 lo : Int), σ = [some (.ref p), some (.ref wd), some (.ref D), some (.int (0 + (i : Int))), some (.int row.1), some (.str row.2.1), some (.int lo)] ∧ Go p l H04 H4 t4 H05 H6 t6 2 ∧ -3 ≤ lo ∧ lo ≤ 1, ?_, ?_⟩
        · refine ⟨_, rfl, H05, p, l, t5, 5, rfl, g5.d, by omega, by omega, by omega, by omega, fun H6 x g6 x0 x1 => ?_⟩
          exact ⟨_, _, rfl, rfl, _, _, rfl, (g5.trans g6).more (by omega), by omega, by omega⟩
        rintro σ6 H6 ⟨t6, lo, rfl, g6, lo0, lo1⟩
        have g6t := g6.t1
        have g6t0 := g6.t0
        have w6 := w4.go g6
        have GA := g4.trans g6
        refine ⟨_, rfl, .inl ⟨rfl, _, SqL.of w6.h⟩, ?_⟩
        obtain ⟨sa, ss, rfl, hsa, hss⟩ : ∃ sa ss, s' = .ref sa ∧ Hs sa = some (.lst ss) ∧ DqAll Hs ss (lw.start.map .int) := by
          cases q2 with
          | lst a b => exact ⟨_, _, rfl, a, b⟩
        have lss : ss.length = lw.start.length := by rw [dq_len hss, List.length_map]
        refine ⟨_, rfl, _, rfl, _, rfl, _, rfl, wd, _, rfl, wg_start (GA.f _ _ wne.1 wne.2 hw), sa, ss, rfl, .inl (SqL.of (g6.d.s _ _ (GA.s _ _ hsa))), ?_⟩
        refine ⟨H05, p, l, t6, lw.start.length, by rw [lss]; rfl, g6.d, by omega, by omega, gw.n1, gw.n3, fun H07 H7 t7 fv f g7 hf hF => ?_⟩
        have g7t := g7.t1
        have g7t0 := g7.t0
        refine ⟨_, rfl, _, rfl, _, rfl, H07, p, l, t7, 4, rfl, g7.d, by omega, by omega, by omega, by omega, fun H8 x g8 x0 x1 => ?_⟩
        refine ⟨_, _, rfl, rfl, (by show 5 ≤ sizeLine; decide), fun tp ntp => ?_⟩
        have gB := ((g6.trans g7).trans g8).new (o := .tup [V.int row.1, V.str row.2.1, fv, V.int lo, V.int (lo + x)]) ntp
        have wB := w4.go gB
        have hB : Dq (upd H07 tp (.tup [V.int row.1, V.str row.2.1, fv, V.int lo, V.int (lo + x)])) (.ref tp) (rowE (row.1, row.2.1, [f, .int lo, .int (lo + x)])) := dq_new (g8.d.s.free ntp) (.cons (.int _) (.cons (.str _) (.cons hf (.cons (.int _) (.cons (.int _) .nil)))))
        refine ⟨D, _, _, rfl, rfl, wB.h, by rw [dq_len q, List.length_map, hT.1, sizeLine_eq]; omega, ?_⟩
        refine ⟨_, _, _, ts ++ [(row.1, row.2.1, [f, .int lo, .int (lo + x)])], _, _, _, _, rfl, ((g4.trans gB).more (by omega)).setO wB, wB.set, by rw [List.map_append]; exact (DqAll.same gB.s _ _ q).snoc hB, by rw [List.length_append, hT.1]; rfl, fun r hr => ?_⟩
        rcases List.mem_append.mp hr with z | z
        · exact hT.2 r z
        · rw [List.mem_singleton.mp z]
          exact ⟨⟨f, lo, lo + x, rfl, hF, by omega, by omega, by omega⟩, row, hrow, rfl, rfl⟩
      · rintro σ H' ⟨H04, t4, ys, ts, o3, o4, o5, o6, rfl, g4, w4, q, hT⟩
        have e := hT.1
        exact ⟨H04, t4, ys, ts, [o3, o4, o5, o6], rfl, g4.more (by omega), w4, q, ⟨rfl, hT.2⟩, by omega⟩
    rintro σ2 H2 ⟨H02, t2, ys, ts, σr, rfl, g, ow, q, hT, h3⟩
    have gt := g.t1
    have gtt := g.t0
    refine ⟨fun σ H3 => ∃ (H03 : Hp) (w' : LW), σ = [some (.ref p), some (.ref wd), some (.ref D)] ++ σr ∧ DeckAt H03 H3 p l t2 ∧ Same Hs H03 ∧ WAt H03 wd w' ∧ GoodW w', ?_, ?_⟩
    · have pd : ∀ d ∈ ts.map rowE, plainD d = true ∧ d.depth ≤ 4 := fun d hd => by
        obtain ⟨x, hx, rfl⟩ := List.mem_map.mp hd
        have := gdTest gw.n3 gw.q3 gw.rs gw.dl (hT.2 x hx)
        exact ⟨this.2, Nat.le_trans this.1.dp (by decide)⟩
      obtain ⟨rs, rfl, hrs, ers⟩ := rowsK_of q (fun d hd => by obtain ⟨x, _, rfl⟩ := List.mem_map.mp hd; exact ⟨_, rfl⟩) pd
      have hrs2 : ∀ r ∈ rs, RowK H2 r := fun r hr => by
        obtain ⟨d, a, b, c, e⟩ := hrs r hr
        exact ⟨d, a, b, c, Dq.same g.d.s _ _ e⟩
      have lrs : rs.length = ts.length := by
        have := congrArg List.length ers
        rwa [List.length_map, List.length_map, List.length_map] at this
      refine ⟨_, rfl, D, rs, rfl, SqL.of ow.h, hrs2, by omega, fun z L nz sub ndL all => ?_⟩
      have Sz := same_new (o := RowsO P w z L) nz
      have gz := g.put0 (o := RowsO P w z L) nz
      have subK : ∀ r ∈ L, r.2 ∈ ts.map fun r => keyO (rowE r) := fun r hr => by
        have : r.2 ∈ rs.map (·.2) := List.mem_map_of_mem (sub r hr)
        rw [ers, List.map_map] at this
        exact this
      refine ⟨H02, z, L, rfl, upd_same, g.d.s.trans Sz, fun r hr => hrs r (sub r hr), fun r hr r' hr' => ?_, fun r hr => ?_, fun ms zs y pm hzs ny => ?_⟩
      · obtain ⟨u, hu1, e1⟩ := List.mem_map.mp (subK r hr)
        obtain ⟨v, hv1, e2⟩ := List.mem_map.mp (subK r' hr')
        unfold rowD
        rw [← e1, ← e2, key_data _ (pd _ (List.mem_map_of_mem hu1)).1, key_data _ (pd _ (List.mem_map_of_mem hv1)).1]
        exact alike_test (hT.2 u hu1) (hT.2 v hv1)
      · obtain ⟨u, hu1, e1⟩ := List.mem_map.mp (subK r hr)
        rw [← e1]
        exact ⟨u.1, keysO (.str u.2.1 :: u.2.2), by rw [rowE, keyO, keysO, keyO]⟩
      · obtain ⟨us, eus, gw'⟩ := tests_made gw gt0 hT h3 subK ndL pm
        rw [eus] at hzs
        have gy := gz.new (o := .lst zs) ny
        have hy : Dq (upd H02 y (.lst zs)) (.ref y) (.list (us.map rowE)) := .lst upd_same (DqAll.same (same_new (gz.d.s.free ny)) _ _ hzs)
        have Sy := same_new (o := .lst zs) (gz.d.s.free ny)
        revert gy hy Sy
        generalize upd H02 y (.lst zs) = H04
        intro gy hy Sy
        have hw4 := gy.f _ _ wne.1 wne.2 hw
        have n4 : H04 wd = none := gy.o _ h0w (by rw [hw]; simp)
        refine ⟨_, rfl, wd, _, rfl, DPut.k (k := Sum.inr "tests") hw4 (by show 9 < sizeLine; decide), ?_⟩
        rw [ww_retest]
        have D4 := (gy.d.put (o := .dK (ww [.int lw.many, d, .int lw.count, .int lw.logs, s', e, .ref r, .ref y, lk])) wne.1 wne.2 n4).keep wne.1 wne.2 upd_same
        have S5 := same_new (o := .dK (ww [.int lw.many, d, .int lw.count, .int lw.logs, s', e, .ref r, .ref y, lk])) n4
        have SA := gy.s.trans S5
        refine ⟨_, { lw with tests := us }, rfl, D4, SA, ⟨_, upd_same, ?_⟩, gw'⟩
        exact ⟨d, s', e, r, kvs, .ref y, lk, rfl, Dq.same SA _ _ q1, Dq.same SA _ _ q2, Dq.same SA _ _ q3, SA _ _ q4, q5.same SA, Dq.same S5 _ _ hy, Dq.same SA _ _ q7⟩
    rintro σ3 H3 ⟨H03, w', rfl, D3, S3, hW, gW⟩
    exact ⟨_, rfl, k H03 H3 t2 w' D3 S3 (by omega) (by omega) hW gW⟩
end
end KL
set_option Elab.async false
set_option linter.all false
set_option maxRecDepth 100000
set_option maxHeartbeats 16000000
namespace KL
open PySem L2 PySem.KX PySem.Spec PyProof.Rows
/-! ### the house of a world -/
mutual
/-- plain data does not lean on a list -/
theorem Dq.updL {H : Hp} {a : Addr} {us : List V} {o : HO} (ha : H a = some (.lst us)) : ∀ (d : PyData) (v : V), plainD d = true → Dq H v d → Dq (upd H a o) v d
  | .int _, _, _, h => by
    cases h
    exact .int _
  | .str _, _, _, h => by
    cases h
    exact .str _
  | .tuple ds, _, hp, h => by
    cases h with
    | tup q r => exact .tup (by rw [upd_ne (fun z => by rw [z, ha] at q; cases q)]; exact q) (DqAll.updL ha ds _ (by simpa [plainD] using hp) r)
  | .none, _, hp, _ => by simp [plainD] at hp
  | .bool _, _, hp, _ => by simp [plainD] at hp
  | .list _, _, hp, _ => by simp [plainD] at hp
  | .dict _, _, hp, _ => by simp [plainD] at hp
theorem DqAll.updL {H : Hp} {a : Addr} {us : List V} {o : HO} (ha : H a = some (.lst us)) : ∀ (ds : List PyData) (vs : List V), plainAll ds = true → DqAll H vs ds → DqAll (upd H a o) vs ds
  | [], _, _, h => by
    cases h
    exact .nil
  | d :: ds, _, hp, h => by
    have hp' := Bool.and_eq_true_iff.mp (show (plainD d && plainAll ds) = true from by simpa [plainAll] using hp)
    cases h with
    | cons q r => exact .cons (Dq.updL ha d _ hp'.1 q) (DqAll.updL ha ds _ hp'.2 r)
end
/-- a list of plain data that is being made -/
def MadeD (H0 : Hp) (D : Addr) (ds : List PyData) (H : Hp) : Prop := ∃ vs, MadeTo H0 D vs H ∧ DqAll H vs ds ∧ plainAll ds = true
theorem MadeD.start {H : Hp} {D : Addr} (nD : H D = none) : MadeD H D [] (upd H D (.lst [])) := ⟨[], ⟨same_new nD, upd_same⟩, .nil, rfl⟩
theorem MadeD.s {H0 H : Hp} {D : Addr} {ds : List PyData} (M : MadeD H0 D ds H) : Same H0 H := M.choose_spec.1.1
theorem MadeD.more {H0 H H' : Hp} {D : Addr} {ds : List PyData} {v : V} {d : PyData} (M : MadeD H0 D ds H) (n : H0 D = none) (S : Same H H') (hd : Dq H' v d) (pl : plainD d = true) (few : ds.length < 1000) :
    ∃ acc, H' D = some (.lst acc) ∧ acc.length < sizeLine ∧ MadeD H0 D (ds ++ [d]) (upd H' D (.lst (acc ++ [v]))) := by
  obtain ⟨vs, M, q, p⟩ := M
  obtain ⟨h1, M2⟩ := M.more v n S
  refine ⟨vs, h1, by rw [dq_len q, sizeLine_eq]; omega, vs ++ [v], M2, ?_, ?_⟩
  · exact DqAll.updL h1 _ _ (plain_all_of.mpr fun x hx => by
      rcases List.mem_append.mp hx with z | z
      · exact plain_all_of.mp p x z
      · rw [List.mem_singleton.mp z]; exact pl) ((DqAll.same S _ _ q).snoc hd)
  · exact plain_all_of.mpr fun x hx => by
      rcases List.mem_append.mp hx with z | z
      · exact plain_all_of.mp p x z
      · rw [List.mem_singleton.mp z]; exact pl
theorem catA_same {K : PySem.W.Frag} {a b : Addr} {H : Hp} {xs ys : List V} {ds es : List PyData} {R : VK} (ha : H a = some (.tup xs)) (hb : H b = some (.tup ys)) (qa : DqAll H xs ds) (qb : DqAll H ys es) (hz : xs.length + ys.length ≤ sizeLine)
    (h : ∀ H' v', Same H H' → Dq H' v' (.tuple (ds ++ es)) → R v' H') : rCatA K (.ref a) (.ref b) H R := by
  refine ⟨a, b, xs, ys, rfl, rfl, SqT.of ha, SqT.of hb, hz, fun z => ?_, fun _ z => ?_, fun _ _ r nr => ?_⟩
  · subst z
    cases qa
    exact h _ _ (Same.refl _) (.tup hb qb)
  · subst z
    cases qb
    rw [List.append_nil] at h
    exact h _ _ (Same.refl _) (.tup ha qa)
  · exact h _ _ (same_new nr) (dq_new nr (qa.app qb))
theorem valV_row {H : Hp} : ∀ {kvs : List (List Key × V)} {rows : List Row} {row : Row}, RowsKV H kvs rows → rows.Pairwise keyLt → row ∈ rows → ∃ v, valV kvs (rowK row) = some v ∧ Dq H v (.tuple row.2.2)
  | [], [], row, .nil, _, m => nomatch m
  | kv :: kvs, r0 :: rows, row, .cons a t, pw, m => by
    obtain ⟨h1, h2⟩ := List.pairwise_cons.mp pw
    rcases List.mem_cons.mp m with rfl | m
    · exact ⟨_, valV_pos a.1, a.2⟩
    · obtain ⟨v, e, q⟩ := valV_row t h2 m
      refine ⟨v, ?_, q⟩
      have ne : kv.1 ≠ rowK row := fun z => key_ne (h1 row m) (a.1.symm.trans z)
      unfold valV at e ⊢
      rw [List.find?_cons_of_neg (by simpa using ne)]
      exact e
theorem pe_tupleOfB {X : Cx} {a : Expr} {ta : TE} {p pos : Pos} (K : PySem.W.Frag) (hK : X.K = K) (hg : Gl X "tuple") (hm : X.mg "tuple" = none) (ha : PE X a ta) (na : starEach [a] X.env = (false, eval a X.env) :: starEach [] X.env := by rfl) :
    PE X (.Call (.Name "tuple" p) [a] [] pos) (tThen ta (kTup K)) := by
  rw [← hK]
  exact pe_tupleOf hg hm ha na
theorem pi_listB {X : Cx} {tg l : Expr} {tl : TE} (K : PySem.W.Frag) (hK : X.K = K) (he : PE X l tl) : PI X tg l (iList K tl) := by
  rw [← hK]
  exact pi_list he
theorem list_at {H : Hp} {v : V} {ds : List PyData} (q : Dq H v (.list ds)) : ∃ a xs, v = .ref a ∧ H a = some (.lst xs) ∧ DqAll H xs ds := by
  cases q with
  | lst h1 h2 => exact ⟨_, _, rfl, h1, h2⟩
theorem kTup_list {K : PySem.W.Frag} {H : Hp} {v : V} {ds : List PyData} {Q : VK} (q : Dq H v (.list ds)) (h : ∀ H' v', Same H H' → Dq H' v' (.tuple ds) → Q v' H') : kTup K v H Q := by
  obtain ⟨a, xs, rfl, ha, qa⟩ := list_at q
  exact .inl ⟨a, xs, rfl, SqL.of ha, fun e ne => h _ _ (same_new ne) (dq_new ne qa)⟩
def mineSc : Scope := { kind := ScopeKind.function, names := [(".0", .local), ("_law_mine", .local), ("tuple", .globalImplicit)], isGenerator := false, isCoroutine := false }
abbrev nLHouse : List Str := ["_law_w", "_law_rows", "_law_looks_now", "_law_p", "_law_x", "_law_some", "_law_mine"]
abbrev pInit9 : List Str := ["self", "people", "deeds", "start", "places", "ends", "logs", "arrows", "tests", "looks"]
theorem Fit.sm {d : PyData} (h : Fit d) : smB d = true := (sm_wd d (Nat.le_trans h.1.wd (by decide))).1
theorem fit_small {m : HM} (h : FitH m) : (smB (.int m.people) && smB (.tuple (m.deeds.map dE)) && smB (.tuple (m.start.map .int)) && smB (.int m.places) && smB (.tuple (m.ends.map .int)) && smB (.int m.logs) && smB (.tuple (m.arrows.map rowE)) && smB (.tuple (m.tests.map rowE)) && smB m.looks) = true := by
  have a : ∀ d ∈ m.parts, smB d = true := fun d hd => (h d hd).sm
  unfold HM.parts at a
  rw [a (.int m.people) (by simp), a (.tuple (m.deeds.map dE)) (by simp), a (.tuple (m.start.map .int)) (by simp), a (.int m.places) (by simp), a (.tuple (m.ends.map .int)) (by simp), a (.int m.logs) (by simp), a (.tuple (m.arrows.map rowE)) (by simp), a (.tuple (m.tests.map rowE)) (by simp), a m.looks (by simp)]
  rfl
def spLHouse (C : Addr) : Sp := fun vs H Q _ => ∃ (wd : Addr) (w : LW), vs = [.ref wd] ∧ WAt H wd w ∧ GoodW w ∧ ∀ H' x, Same H H' → HsAt C H' x w.hm → Q (.ref x) H'
section
variable {P : Program} {w : World} {K : PySem.W.Frag} {mg : Str → Option Value} {base : Heap} {C CB fI : Addr} {dI : FuncData}
theorem scLHouse : FnScope nLHouse ["_law_w"] (defScope lHouse) := ⟨rfl, rfl, rfl, by decide +kernel, rfl, by decide +kernel, by decide +kernel⟩
theorem ok_lhouse {f : Addr} {fd : FuncData} (F : Fun K "_law_house" "_law_house" lHouse f fd) (T : TxtS mg) (mC : mg "House" = some (.ref C)) (G : FnOk P w K mg base (L2.CX P w) 6 fI dI pInit9 (spInit C CB)) (M : Mk K C fI) (bI : L2.Binds K dI pInit9 []) :
    FnOk P w K mg base CX0 8 f fd ["_law_w"] (spLHouse C) := by
  refine F.ok scLHouse (fun vs H Q E h => ?_) (fun cdv A outer s H vs Q E hr h => ?_)
  · obtain ⟨wd, w, rfl, _⟩ := h
    rfl
  · obtain ⟨wd, lw, rfl, hW, gw, k⟩ := h
    have nd := scLHouse.nd
    have hu := hu_of hr
    have mt := T.g.tuple
    refine ⟨_, C8.pss_cut (ps_set (i := 1) nd rfl (.inl rfl) (pe_tupleOf (by rfl) mt (pe_lc (own := [("_law_p", 3), ("_law_x", 4)]) (g := gTup K 2 (gCons (gName 3) (gCons (gName 4) gNil))) (tt := tYes) rfl nd (pi_list (pe_callB (cr_sortedQ hr.units) (by rfl) T.sorted (by decide +kernel) (pa_cons (pe_callTy (call_list_dT rfl) (by rfl) T.g.d.list (by decide +kernel) (pa_cons (pe_dget hu (pv 0) pe_str (fun _ _ => rfl)) pa_nil)) pa_nil))) (blkOk_by (N := nLHouse) (sc := defScope lHouse) (by decide +kernel)) (fun _ _ _ _ _ => pg_tup rfl (pgs_cons (pg_name (i := 3) nd rfl (.inl rfl)) (pgs_cons (pg_name (i := 4) nd rfl (.inl rfl)) pgs_nil))) (fun _ _ _ _ _ => pts_nil)
        (fun _ _ _ _ _ => pe_op (r := rCatA K) op_catA (pe_tup (pa_cons (pv 3) (pa_cons (pv 4) pa_nil))) (pe_dget hu (pe_dget hu (pv 0) pe_str (fun _ _ => rfl)) (pe_tup (pa_cons (pv 3) (pa_cons (pv 4) pa_nil))) (fun _ _ => rfl))))))
      (C8.pss_cut (ps_set (i := 2) nd rfl (.inl rfl) (pe_tupleOf (by rfl) mt (pe_lc (own := [("_law_mine", 6)]) (g := gName 6) (tt := tYes) rfl nd (pi_list (pe_dget hu (pv 0) pe_str (fun _ _ => rfl))) (blkOk_by (N := nLHouse) (sc := defScope lHouse) (by decide +kernel)) (fun _ _ _ _ _ => pg_name (i := 6) nd rfl (.inl rfl)) (fun _ _ _ _ _ => pts_nil)
        (fun _ _ _ _ _ => pe_tupleOfB K rfl (by rfl) mt (pe_lc (own := [("_law_some", 5)]) (g := gName 5) (tt := tYes) rfl nd (pi_listB K rfl (pv 6)) (blkOk_by (N := nLHouse) (sc := mineSc) (by decide +kernel)) (fun _ _ _ _ _ => pg_name (i := 5) nd rfl (.inl rfl)) (fun _ _ _ _ _ => pts_nil)
          (fun _ _ _ _ _ => pe_tupleOfB K rfl (by rfl) mt (pv 5)))))))
      (pss_one (ps_ret (pe_make M G hr (by rfl) mC bI .nil passL (pa_cons (pe_dget hu (pv 0) pe_str (fun _ _ => rfl)) (pa_cons (pe_tupleOf (by rfl) mt (pe_dget hu (pv 0) pe_str (fun _ _ => rfl))) (pa_cons (pe_tupleOf (by rfl) mt (pe_dget hu (pv 0) pe_str (fun _ _ => rfl))) (pa_cons (pe_dget hu (pv 0) pe_str (fun _ _ => rfl)) (pa_cons (pe_tupleOf (by rfl) mt (pe_dget hu (pv 0) pe_str (fun _ _ => rfl))) (pa_cons (pe_dget hu (pv 0) pe_str (fun _ _ => rfl)) (pa_cons (pv 1) (pa_cons (pe_tupleOf (by rfl) mt (pe_dget hu (pv 0) pe_str (fun _ _ => rfl))) (pa_cons (pv 2) pa_nil))))))))))))), ?_⟩
    obtain ⟨vs', hw, hP⟩ := hW
    obtain ⟨d, s', e, r, kvs, tq, lk, rfl, q1, q2, q3, q4, q5, q6, q7⟩ := id hP
    have rn := gw.rn
    refine ⟨fun σ H1 => ∃ v1, σ = [some (.ref wd), some v1, none, none, none, none, none] ∧ Same H H1 ∧ Dq H1 v1 (.tuple (lw.rows.map rowE)), ?_, ?_⟩
    · refine ⟨_, rfl, wd, _, rfl, wg_rows hw, r, kvs, rfl, .inl q4, fun u bs nu hk => ?_⟩
      have hdq := isKeys_dq hk q5
      have Su := same_new (o := .lst (bs.map V.ref)) nu
      have hu1 : upd H u (.lst (bs.map V.ref)) u = some (.lst (bs.map V.ref)) := upd_same
      have hdu := DqAll.same Su _ _ hdq
      revert Su hu1 hdu
      generalize upd H u (.lst (bs.map V.ref)) = H1
      intro Su hu1 hdu
      refine ⟨H1, u, _, _, rfl, SqL.of hu1, Same.refl _, hdu, ?_, ?_, ?_, ?_, fun zs q hzs nq => ?_⟩
      · exact lay_plains _ (plain_all_of.mpr fun d hd => by obtain ⟨x, _, rfl⟩ := List.mem_map.mp hd; exact plain_key x) (tx_keys gw)
      · intro d hd e he
        obtain ⟨x, _, rfl⟩ := List.mem_map.mp hd
        obtain ⟨y, _, rfl⟩ := List.mem_map.mp he
        exact alike_key x y
      · exact .inl fun d hd => by obtain ⟨x, _, rfl⟩ := List.mem_map.mp hd; exact ⟨_, _, rfl⟩
      · refine depth_few fun d hd => ?_
        obtain ⟨x, _, rfl⟩ := List.mem_map.mp hd
        show 1 ≤ 20
        decide
      · rw [keys_sorted gw.rw] at hzs
        have lz := dq_len hzs
        rw [List.length_map] at lz
        have Sq := same_new (o := .lst zs) nq
        have hq : upd H1 q (.lst zs) q = some (.lst zs) := upd_same
        have hzs2 := DqAll.same Sq _ _ hzs
        have S2 := Su.trans Sq
        revert hq hzs2 S2
        generalize upd H1 q (.lst zs) = H2
        intro hq hzs2 S2
        refine ⟨q, rfl, ⟨_, SqL.of hq⟩, fun D nD => ?_⟩
        refine lc_list (K := K) (a := q) (xs := zs) (fun i H3 => MadeD H2 D ((lw.rows.take i).map rowE) H3) (.start nD) (fun i H3 _ M => SqL.of (M.s _ _ hq)) ?_ ?_
        · rintro i v H3 hv M
          obtain ⟨d', hd', hq'⟩ := DqAll.at hzs2 hv
          rw [List.getElem?_map] at hd'
          cases er : lw.rows[i]? with
          | none =>
            rw [er] at hd'
            cases hd'
          | some row =>
            rw [er] at hd'
            cases hd'
            have mem := List.mem_of_getElem? er
            obtain ⟨b, us, rfl, eb, qb⟩ := tup_at hq'
            cases qb with | cons u0 qb =>
            cases qb with | cons u1 qb =>
            cases qb
            cases u0
            cases u1
            have S3 := M.s
            have SA := S2.trans S3
            refine ⟨b, _, rfl, SqT.of (S3 _ _ eb), rfl, _, _, rfl, _, _, rfl, rfl, rfl, ?_⟩
            refine ⟨_, rfl, _, rfl, (by show 2 ≤ sizeLine; decide), fun tp ntp => ?_⟩
            have S4 := same_new (o := .tup [V.int row.1, V.str row.2.1]) ntp
            have h4 : upd H3 tp (.tup [V.int row.1, V.str row.2.1]) tp = some (.tup [V.int row.1, V.str row.2.1]) := upd_same
            revert S4 h4
            generalize upd H3 tp (.tup [V.int row.1, V.str row.2.1]) = H4
            intro S4 h4
            refine ⟨_, rfl, wd, _, rfl, wg_rows ((SA.trans S4) _ _ hw), _, rfl, _, rfl, (by show 2 ≤ sizeLine; decide), fun kq nkq => ?_⟩
            have S5 := same_new (o := .tup [V.int row.1, V.str row.2.1]) nkq
            have h5 : upd H4 kq (.tup [V.int row.1, V.str row.2.1]) kq = some (.tup ((rowK row).map kV)) := upd_same
            have h45 := S5 _ _ h4
            revert S5 h5 h45
            generalize upd H4 kq (.tup [V.int row.1, V.str row.2.1]) = H5
            intro S5 h5 h45
            have SB := (SA.trans S4).trans S5
            obtain ⟨v, ev, qv⟩ := valV_row q5 gw.rw mem
            refine ⟨r, v, rfl, (by have := DGet.t (SB _ _ q4) h5; rwa [ev] at this), ?_⟩
            obtain ⟨b2, ys2, rfl, eb2, qb2⟩ := tup_at (Dq.same SB _ _ qv)
            obtain ⟨t, fs, ms, er3, _⟩ := (gw.ra row mem).e
            refine catA_same h45 eb2 (.cons (.int _) (.cons (.str _) .nil)) qb2 (by have := dq_len qb2; rw [er3] at this; rw [this, sizeLine_eq]; show 2 + 3 ≤ 16777216; decide) fun H6 v6 S6 hv6 => ?_
            rw [take_more er, List.map_append]
            exact M.more nD ((S4.trans S5).trans S6) hv6 (gw.gdRow mem).2 (by rw [List.length_map, List.length_take]; omega)
        · rintro H3 M
          rw [lz, List.take_length] at M
          obtain ⟨us, M, qu, _⟩ := M
          refine .inl ⟨D, us, rfl, SqL.of M.2, fun e ne => ?_⟩
          exact ⟨.ref e, rfl, (S2.trans M.1).trans (same_new ne), dq_new ne qu⟩
    rintro σ1 H1 ⟨v1, rfl, S1, hv1⟩
    obtain ⟨la, ls, rfl, hla, hls⟩ := list_at q7
    have lls : ls.length = lw.looks.length := by rw [dq_len hls, List.length_map]
    have kn := gw.kn
    have p3 := gw.p3
    have q3' := gw.q3
    refine ⟨fun σ H2 => ∃ v2, σ = [some (.ref wd), some v1, some v2, none, none, none, none] ∧ Same H1 H2 ∧ Dq H2 v2 (.tuple (lw.looks.map fun m => .tuple (m.map PyData.tuple))), ?_, ?_⟩
    · refine ⟨_, rfl, wd, _, rfl, wg_looks (S1 _ _ hw), la, rfl, ⟨_, SqL.of (S1 _ _ hla)⟩, fun D nD => ?_⟩
      refine lc_list (K := K) (a := la) (xs := ls) (fun i H3 => MadeD H1 D ((lw.looks.take i).map fun m => .tuple (m.map PyData.tuple)) H3) (.start nD) (fun i H3 _ M => SqL.of (M.s _ _ (S1 _ _ hla))) ?_ ?_
      · rintro i v H3 hv M
        obtain ⟨d', hd', hq'⟩ := DqAll.at hls hv
        rw [List.getElem?_map] at hd'
        cases em : lw.looks[i]? with
        | none =>
          rw [em] at hd'
          cases hd'
        | some m =>
          rw [em] at hd'
          cases hd'
          have mem := List.mem_of_getElem? em
          obtain ⟨ml, mf⟩ := gw.ka m mem
          have S3 := M.s
          obtain ⟨ma, mz, rfl, hma, hmz⟩ := list_at (Dq.same (S1.trans S3) _ _ hq')
          have lmz : mz.length = m.length := by rw [dq_len hmz, List.length_map]
          refine ⟨rfl, _, rfl, ma, rfl, ⟨_, SqL.of hma⟩, fun D2 nD2 => ?_⟩
          refine lc_list (K := K) (a := ma) (xs := mz) (fun j H4 => MadeD H3 D2 ((m.take j).map PyData.tuple) H4) (.start nD2) (fun j H4 _ M2 => SqL.of (M2.s _ _ hma)) ?_ ?_
          · rintro j v H4 hv M2
            obtain ⟨d'', hd'', hq''⟩ := DqAll.at hmz hv
            rw [List.getElem?_map] at hd''
            cases ec : m[j]? with
            | none =>
              rw [ec] at hd''
              cases hd''
            | some c =>
              rw [ec] at hd''
              cases hd''
              have hc := mf c (List.mem_of_getElem? ec)
              have S4 := M2.s
              refine ⟨rfl, _, rfl, kTup_list (Dq.same S4 _ _ hq'') fun H5 v5 S5 hv5 => ?_⟩
              rw [take_more ec, List.map_append]
              exact M2.more nD2 S5 hv5 (plain_tup fun f hf => (hc.2 f hf).plain) (by rw [List.length_map, List.length_take]; omega)
          · rintro H4 M2
            rw [lmz, List.take_length] at M2
            obtain ⟨us, M2, qu, _⟩ := M2
            refine .inl ⟨D2, us, rfl, SqL.of M2.2, fun e ne => ?_⟩
            rw [take_more em, List.map_append]
            exact M.more nD (M2.1.trans (same_new ne)) (dq_new ne qu) (plain_tup fun d hd => by
              obtain ⟨c, hc, rfl⟩ := List.mem_map.mp hd
              exact plain_tup fun f hf => ((mf c hc).2 f hf).plain) (by rw [List.length_map, List.length_take]; omega)
      · rintro H3 M
        rw [lls, List.take_length] at M
        obtain ⟨us, M, qu, _⟩ := M
        refine .inl ⟨D, us, rfl, SqL.of M.2, fun e ne => ?_⟩
        exact ⟨.ref e, rfl, M.1.trans (same_new ne), dq_new ne qu⟩
    rintro σ2 H2 ⟨v2, rfl, S2, hv2⟩
    have SS := S1.trans S2
    refine ⟨_, rfl, wd, _, rfl, wg_many (SS _ _ hw), ?_⟩
    refine ⟨_, rfl, wd, _, rfl, wg_deeds (SS _ _ hw), kTup_list (Dq.same SS _ _ q1) fun H3 v3 S3 hv3 => ?_⟩
    have SS3 := SS.trans S3
    refine ⟨_, rfl, wd, _, rfl, wg_start (SS3 _ _ hw), kTup_list (Dq.same SS3 _ _ q2) fun H4 v4 S4 hv4 => ?_⟩
    have SS4 := SS3.trans S4
    refine ⟨_, rfl, wd, _, rfl, wg_count (SS4 _ _ hw), ?_⟩
    refine ⟨_, rfl, wd, _, rfl, wg_ends (SS4 _ _ hw), kTup_list (Dq.same SS4 _ _ q3) fun H5 v5 S5 hv5 => ?_⟩
    have SS5 := SS4.trans S5
    refine ⟨_, rfl, wd, _, rfl, wg_logs (SS5 _ _ hw), _, rfl, ?_⟩
    refine ⟨_, rfl, wd, _, rfl, wg_tests (SS5 _ _ hw), kTup_list (Dq.same SS5 _ _ q6) fun H6 v6 S6 hv6 => ⟨_, rfl, ?_⟩⟩
    have SS6 := SS5.trans S6
    have t36 := (S4.trans S5).trans S6
    have t26 := (S3.trans t36)
    have z1 := Dq.same (S2.trans t26) _ _ hv1
    have z2 := Dq.same t26 _ _ hv2
    have z3 := Dq.same t36 _ _ hv3
    have z4 := Dq.same (S5.trans S6) _ _ hv4
    have z5 := Dq.same S6 _ _ hv5
    refine fun y dy ny ndy ne => ?_
    have SY : Same H6 (upd (upd H6 dy (.own y)) y (.ins C dy [])) := fun b o e => by
      rw [upd_ne (ne_of_none e ny), upd_ne (ne_of_none e ndy)]
      exact e
    refine ⟨H6, y, dy, _, _, _, _, _, _, _, _, _, _, _, _, _, _, _, _, _, _, rfl, SY, ny, upd_same, .int _, z3, z4, .int _, z5, .int _, z1, hv6, z2, fit_small gw.fit, fun _ H' fs S hy hf => ?_, fun it e => ?_⟩
    · exact ⟨rfl, k H' y (SS6.trans S) ⟨dy, fs, _, _, _, _, _, _, hy, hf, Dq.same S _ _ z3, Dq.same S _ _ z4, Dq.same S _ _ z5, Dq.same S _ _ z1, Dq.same S _ _ hv6, Dq.same S _ _ z2⟩⟩
    · have z : lw.hm.due = some it := e
      rw [gw.right.due] at z
      cases z
end
end KL
set_option Elab.async false
set_option linter.all false
set_option maxRecDepth 100000
set_option maxHeartbeats 4000000
namespace KL
open PySem L2 PySem.KX PySem.Spec PyProof.Rows
/-! ### enumerate of a text -/
theorem meets_enum1 {v : Value} {o : Obj} {H : Heap → Prop} (B : Begins v o H) :
    Meets (Builtin.«enumerate.__new__» ⟨[.type "enumerate", v], []⟩) (fun _ R s => H s.heap ∧
      R (.ok (.ret (.ref (s.heap.push o).objs.size))) { s with heap := (s.heap.push o).push { cls := .type "enumerate", data := .fields #[.none, .bool false, .ref s.heap.objs.size, rawInt 0, .none, .none] } }) :=
  .of_wp fun prog w A R s h => by
    obtain ⟨hp, g, d, tk, os⟩ := s; obtain ⟨h1, h⟩ := h
    have hsub := sub_enumerate
    have q1 : ∀ {A' : Around} {E : Value → Shared → Prop} {Q : Value → Shared → Prop}, Q (.ref hp.objs.size) ⟨hp.push o, g, d, tk, os⟩ → wpAny (model prog w) A' (pyIter v) Q E ⟨hp, g, d, tk, os⟩ :=
      fun q => B.iter prog w _ _ ⟨hp, g, d, tk, os⟩ _ h1 q
    wp_walk using q1
    refine wpAny_stack_any fun st => wpAny_pure ?_
    split
    · rename_i c _ _ _ _ _
      cases (c == Value.type "enumerate")
      · wp_walk using q1
        exact ⟨_, rfl, h⟩
      · wp_walk using q1
        exact ⟨_, rfl, h⟩
    · wp_walk using q1
      exact ⟨_, rfl, h⟩
section
variable {prog : Program} {w : World} {A : Around} {E : Value → Shared → Prop} {s : Shared}
theorem enum_begins1 {v : Value} {o : Obj} {H : Heap → Prop} {Q : Value → Shared → Prop} (B : Begins v o H) (h1 : H s.heap)
    (h : ∀ h', IsEnum h' (s.heap.objs.size + 1) s.heap.objs.size 0 .none → h'.get? s.heap.objs.size = some o → h'.objs.size = s.heap.objs.size + 2 →
      (∀ b o, s.heap.get? b = some o → h'.get? b = some o) → Q (.ref (s.heap.objs.size + 1)) { s with heap := h' }) :
    wpAny (model prog w) A (call (.type "enumerate") [v]) Q E s := by
  refine callType_new F.called_enumerate (by decide) (F.typeCall_enumerate_1 _) (F.newCall_enumerate_1 _) (fun obj => F.args_object_init_2 obj _) F.entry_enumerate_new
    (meets_enum1 B) ⟨h1, ?_⟩
  have hz : (s.heap.push o).objs.size = s.heap.objs.size + 1 := Heap.size_push ..
  show _ ∧ _
  rw [hz]
  have he : IsEnum ((s.heap.push o).push { cls := .type "enumerate", data := .fields #[.none, .bool false, .ref s.heap.objs.size, rawInt 0, .none, .none] }) (s.heap.objs.size + 1) s.heap.objs.size 0 .none := by
    have := Heap.get?_push_size (s.heap.push o) (o := { cls := .type "enumerate", data := .fields #[.none, .bool false, .ref s.heap.objs.size, rawInt 0, .none, .none] }) rfl
    rw [hz] at this; exact this
  refine ⟨⟨_, he, rfl⟩, h _ he (Heap.get?_push_of_some _ (Heap.get?_push_size _ B.free)) (by rw [Heap.size_push, hz]) fun b o x => Heap.get?_push_of_some _ (Heap.get?_push_of_some _ x)⟩
end
/-- the signs of a text, each in a new pair behind its number -/
def IteX (x : Str) : It :=
  ⟨fun i _ => i < x.cps.size, fun i H v H' => ∃ T c, v = .ref T ∧ H T = none ∧ H' = upd H T (.tup [.int (i : Nat), .str ⟨#[c]⟩]) ∧ x.cps[i]? = some c, fun i _ => x.cps.size = i⟩
theorem turn_enumX {P : Program} {w : World} {K : PySem.W.Frag} {elts : List Expr} {kk : Nat} {tpos : Pos} (x : Str) (t : Tok) (e it : Addr) :
    Turn P w K (.Tuple elts kk tpos) (IteX x) [e, it] e (fun i h => (∃ old, IsEnum h e it ((i : Nat) : Int) old) ∧ h.IsStrIter it (strIterType x) x t i ∧ e ≠ it) where
  mem := by simp
  obj := fun i h st b hb => by
    obtain ⟨⟨old, he⟩, ⟨o, ho, hc, hd⟩, _⟩ := st
    have e' : b = e ∨ b = it := by simpa using hb
    rcases e' with z | z
    · rw [z]; exact ⟨_, he, fun v q => nomatch q⟩
    · rw [z]; exact ⟨o, ho, fun v q => by rw [hd] at q; cases q⟩
  keep := fun i h h' st k => let ⟨⟨old, he⟩, hi, hne⟩ := st; ⟨⟨old, k e (by simp) _ he⟩, (let ⟨o, ho, r⟩ := hi; ⟨o, k it (by simp) o ho, r⟩), hne⟩
  item := by
    intro X hP hw hK hc i pins s σ H E I hf st hg
    subst hP hw hK
    obtain ⟨⟨old, he⟩, hit, hne⟩ := st
    have hg : i < x.cps.size := hg
    have hel : e < s.heap.objs.size := Heap.lt_size he
    have hil : it < s.heap.objs.size := by obtain ⟨_, q, _⟩ := hit; exact Heap.lt_size q
    refine wpAny_pyNext_enum_itemD (Draws.text (prog := X.prog) (w := X.w) (A := X.A.in1) (I.ok.hd hc) it x t) he hit hg hne (by simp [hne]) fun y h' tk hy ho hst hT hsz hk => ?_
    obtain ⟨c, u, hcu, rfl⟩ := hy
    refine ⟨_, rfl, wpAny_letOwnedTupleGo_enum (s := { s with heap := h', toks := tk + 1 }) ho fun h'' he' sb => ?_⟩
    have hT2 : h''.get? s.heap.objs.size = some { cls := .type "tuple", data := .seq #[.int ((i : Nat) : Int) tk, .str ⟨#[c]⟩ u] } := (sb.2 _ (Nat.ne_of_gt hel)).trans hT
    have new : ObjOk X.prog X.w (upd H s.heap.objs.size (.tup [.int ((i : Nat) : Int), .str ⟨#[c]⟩])) h'' s.heap.objs.size (.tup [.int ((i : Nat) : Int), .str ⟨#[c]⟩]) :=
      ⟨by show 2 ≤ sizeLine; decide, [.int ((i : Nat) : Int) tk, .str ⟨#[c]⟩ u], .cons ⟨_, rfl⟩ (.cons ⟨_, rfl⟩ .nil), ⟨_, hT2, rfl, _, rfl⟩⟩
    have I1 : Inv X pins σ (upd H s.heap.objs.size (.tup [.int ((i : Nat) : Int), .str ⟨#[c]⟩])) { s with heap := h'', toks := tk + 1 } :=
      I.turnedNew (ch := [e, it]) (fun b ob hb q => (sb.2 b (fun z => hb (by simp [z]))).trans (hk b ob (fun z => hb (by simp [z])) (fun z => hb (by simp [z])) q)) hf (Nat.le_refl _) new
    refine ⟨.ref s.heap.objs.size, _, I1, rfl, ⟨_, c, rfl, I.hok.fresh (Nat.le_refl _), rfl, hcu⟩, ⟨⟨.str ⟨#[c]⟩ u, ?_⟩, (let ⟨o, ho, r⟩ := hst; ⟨o, (sb.2 it (Ne.symm hne)).trans ho, r⟩), hne⟩, fun b hb => ?_⟩
    · have e1 : ((i + 1 : Nat) : Int) = (i : Int) + 1 := by omega
      rw [e1]; exact he'
    · have hb' : b < s.heap.objs.size := by
        have e' : b = e ∨ b = it := by simpa using hb
        rcases e' with z | z
        · rw [z]; exact hel
        · rw [z]; exact hil
      rw [upd_ne (Nat.ne_of_lt hb')]
      exact (hf b hb).1
  done := by
    intro X hP hw hK hc i pins s σ H E I hf st hg
    subst hP hw hK
    obtain ⟨⟨old, he⟩, hit, hne⟩ := st
    have hg : x.cps.size = i := hg
    obtain ⟨f0, f1, f2, f3, f4, f5⟩ := hf it (by simp)
    refine wpAny_pyNext_enum_endD (Draws.text (prog := X.prog) (w := X.w) (A := X.A.in1) (I.ok.hd hc) it x t) he (by rw [hg]; exact hit) fun h' eb => ?_
    exact ⟨rfl, I.turned (t' := s.toks) (fun b o hb q => eb b o hb q) f0 f1 f3 f4 f5⟩
  self := fun A i s Q E st h => let ⟨⟨_, he⟩, _⟩ := st; wpAny_pyIter_enum he h
def iEnumX (ta : TA) : TI := fun σ H R => ta σ H fun vs H1 => ∃ x, vs = [.str x] ∧ R (IteX x) H1
theorem pi_enumX {X : Cx} {e : Expr} {ta : TA} {p pos tpos : Pos} {elts : List Expr} {kk : Nat} (hg : Gl X "enumerate") (hm : X.mg "enumerate" = none) (ha : PA X [e] ta) (hs : starEach [e] X.env = [(false, eval e X.env)] := by rfl) :
    PI X (.Tuple elts kk tpos) (.Call (.Name "enumerate" p) [e] [] pos) (iEnumX ta) := by
  refine ⟨fun pins s σ H R I h => ?_⟩
  refine Call_ (ld_blt I hg hm boot_enumerate (PyProof.Rows.callWith_type1 (thn (ha.run pos pins s σ H _ I h) fun us s1 ⟨vs, H1, I1, r1, q1⟩ => ?_) hs rfl))
  obtain ⟨x, ex, q⟩ := q1
  subst ex
  cases r1 with
  | cons r rr =>
    cases rr
    obtain ⟨t, rfl⟩ := r
    refine enum_begins1 (begins_text x t) trivial fun h' he hit hsz hk => wpAny_pyIter_enum he ?_
    have I3 : Inv X pins σ H1 { s1 with heap := h' } := I1.kept (t' := s1.toks) hk
    refine ⟨s1.heap.objs.size + 1, [s1.heap.objs.size + 1, s1.heap.objs.size], _, _, H1, rfl, I3, turn_enumX x t (s1.heap.objs.size + 1) s1.heap.objs.size, ⟨⟨.none, he⟩, ⟨_, hit, rfl, rfl⟩, Nat.succ_ne_self _⟩, fun b hb => ?_, q⟩
    have e' : b = s1.heap.objs.size + 1 ∨ b = s1.heap.objs.size := by simpa using hb
    have hle : s1.heap.objs.size ≤ b := by
      rcases e' with z | z
      · rw [z]; exact Nat.le_add_right _ _
      · rw [z]; exact Nat.le_refl _
    exact I1.fpOk hle (I1.hok.fresh hle)
theorem walk_enumX {x : Str} : Walk (IteX x) x.cps.size (fun _ => True) (YPair (fun i => some (.int (i : Nat))) (fun i => (x.cps[i]?).map fun c => .str ⟨#[c]⟩)) := by
  refine ⟨fun i _ hi _ => hi, fun _ _ => rfl, fun i H v H' _ q y => ?_⟩
  obtain ⟨T, c, h1, h2, h3, h4⟩ := y
  exact ⟨T, .int (i : Nat), .str ⟨#[c]⟩, h1, h2, h3, rfl, by show (x.cps[i]?).map _ = _; rw [h4]; rfl⟩
end KL
set_option Elab.async false
set_option linter.all false
set_option maxRecDepth 100000
set_option maxHeartbeats 16000000
namespace KL
open PySem L2 PySem.KX PySem.Spec PyProof.Rows
/-! ### the law's own going -/
theorem pss_dead {X : Cx} {st : List Stmt} : PSs X st (fun _ _ _ => False) := ⟨fun _ _ _ _ _ _ h => h.elim⟩
theorem atB_key (p : Int) (x : Str) (r : Row) : atB p x r = true ↔ rowK r = [Sum.inl p, Sum.inr x] := by
  unfold atB rowK
  constructor
  · intro h
    have h := Bool.and_eq_true_iff.mp h
    rw [of_decide_eq_true h.1, of_decide_eq_true h.2]
  · intro h
    injection h with h1 h2
    injection h1 with h1
    injection h2 with h2 _
    injection h2 with h2
    rw [decide_eq_true h1, decide_eq_true h2]
    rfl
theorem valV_arrow {H : Hp} (p : Int) (x : Str) : ∀ {kvs : List (List Key × V)} {rows : List Row}, RowsKV H kvs rows → (rows.find? (atB p x) = none → valV kvs [Sum.inl p, Sum.inr x] = none) ∧ ∀ r, rows.find? (atB p x) = some r → ∃ v, valV kvs [Sum.inl p, Sum.inr x] = some v ∧ Dq H v (.tuple r.2.2)
  | [], [], .nil => ⟨fun _ => rfl, fun r h => by cases h⟩
  | kv :: kvs, r0 :: rows, .cons a t => by
    obtain ⟨h1, h2⟩ := valV_arrow p x t
    cases e : atB p x r0 with
    | true =>
      have ek : kv.1 = [Sum.inl p, Sum.inr x] := a.1.trans ((atB_key p x r0).mp e)
      refine ⟨fun h => ?_, fun r h => ?_⟩
      · rw [List.find?_cons, e] at h
        cases h
      · rw [List.find?_cons, e] at h
        cases h
        exact ⟨_, valV_pos ek, a.2⟩
    | false =>
      have ne : kv.1 ≠ [Sum.inl p, Sum.inr x] := fun z => by
        have := (atB_key p x r0).mpr (a.1.symm.trans z)
        rw [e] at this
        cases this
      have sk : valV (kv :: kvs) [Sum.inl p, Sum.inr x] = valV kvs [Sum.inl p, Sum.inr x] := by
        unfold valV
        rw [List.find?_cons_of_neg (by simpa using ne)]
      rw [sk, List.find?_cons, e]
      exact ⟨h1, h2⟩
theorem sma_row {w : LW} (g : GoodW w) {r : Row} (hr : r ∈ w.rows) {f : PyData} (hf : f ∈ itemsD (r.2.2.getD 1 .none)) : FormSm w.start.length f := g.sma r hr f hf
/-- a place with numbers -/
def hereD (p : Int) (ks : List Int) : PyData := .tuple [.int p, .tuple (ks.map .int)]
def spStep : Sp := fun vs H Q _ => ∃ (wd : Addr) (hv : V) (x : Str) (p : Int) (ks : List Int) (w : LW), vs = [.ref wd, hv, .str x, .bl false] ∧ WAt H wd w ∧ GoodW w ∧ Dq H hv (hereD p ks) ∧ ks.length = w.start.length ∧
  (w.hm.arrowAt p x = none → ∀ H', Same H H' → Q .non H') ∧ ∀ r, w.hm.arrowAt p x = some r → ∀ H' v, Same H H' → Dq H' v (hereD (rowTo r) (rowVals ks r)) → Q v H'
def spLooks : Sp := fun vs H Q _ => ∃ (wd : Addr) (p : Nat) (w : LW), vs = [.ref wd, .int (p : Int)] ∧ WAt H wd w ∧ GoodW w ∧ (p : Int) < w.count ∧ ∀ H' v, Same H H' → Dq H' v (.tuple (w.hm.formsAt p)) → Q v H'
abbrev nStep : List Str := ["_law_w", "_law_here", "_law_x", "_law_is_asked", "_law_p", "_law_at", "_law_q", "_law_y", "_law_one", "_law_low", "_law_high", "_law_there", "_law_some", "_law_marks_now"]
abbrev nLooks : List Str := ["_law_w", "_law_p", "_law_found", "_law_mine", "_law_q", "_law_x", "_law_one", "_law_low", "_law_high"]
section
variable {P : Program} {w : World} {K : PySem.W.Frag} {mg : Str → Option Value} {base : Heap}
theorem scLValue : FnScope ["_law_one", "_law_at", "_law_x", "_law_y"] ["_law_one", "_law_at"] (defScope lValue) := ⟨rfl, rfl, rfl, by decide +kernel, rfl, by decide +kernel, by decide +kernel⟩
theorem ok_lvalue {f : Addr} {fd : FuncData} (F : Fun K "_law_value" "_law_value" lValue f fd) (mz : mg "zip" = none) (ms : mg "sum" = none) : FnOk P w K mg base CX0 1 f fd ["_law_one", "_law_at"] spValueOf := by
  refine F.ok scLValue (fun vs H Q E h => ?_) (fun cdv A outer s H vs Q E hr h => ?_)
  · obtain ⟨v, u, ns, ks, rfl, _⟩ := h
    rfl
  · obtain ⟨v, u, ns, ks, rfl, hv, hu', ne, nl, sm, k⟩ := h
    have nd := scLValue.nd
    refine ⟨_, pss_one (ps_ret (pe_op op_add (pe_ix (r := rIxT K) ix_tup (pv 0) pe_int (fun _ _ => rfl)) (pe_callB (cr_sum rfl) (by rfl) ms (by decide +kernel) (pa_cons (pe_lc (own := [("_law_x", 2), ("_law_y", 3)]) (g := gTup K 2 (gCons (gName 2) (gCons (gName 3) gNil))) (tt := tYes) rfl nd (RZ.pi_zipA (by rfl) mz (pa_cons (pe_slice (r := rSlT K) sl_tup (pv 0) (po_some pe_int) po_none) (pa_cons (pv 1) pa_nil)))
      (blkOk_by (N := ["_law_one", "_law_at", "_law_x", "_law_y"]) (sc := defScope lValue) (by decide +kernel)) (fun _ _ _ _ _ => pg_tup rfl (pgs_cons (pg_name (i := 2) nd rfl (.inl rfl)) (pgs_cons (pg_name (i := 3) nd rfl (.inl rfl)) pgs_nil))) (fun _ _ _ _ _ => pts_nil)
      (fun _ _ _ _ _ => pe_op op_mul (pv 2) (pv 3))) pa_nil)))), ?_⟩
    obtain ⟨a, xs, rfl, ea, qa⟩ := tup_at hv
    obtain ⟨b, ys, rfl, eb, qb⟩ := tup_at hu'
    have ex := ints_inv qa
    have ey := ints_inv qb
    subst ex ey
    cases ns with
    | nil => exact absurd rfl ne
    | cons c as =>
      refine ⟨_, rfl, a, _, 0, .int c, rfl, rfl, SqT.of ea, atI_nat (j := 0) rfl, ?_⟩
      refine ⟨_, rfl, _, rfl, a, _, rfl, SqT.of ea, not_rest _ _, fun d nd' => ?_⟩
      rw [show cutV (List.map V.int (c :: as)) (some 1) none = as.map V.int from cut_rest _ _]
      have S1 := same_new (o := .tup (as.map V.int)) nd'
      have hd : upd H d (.tup (as.map V.int)) d = some (.tup (as.map V.int)) := upd_same
      revert S1 hd
      generalize upd H d (.tup (as.map V.int)) = H1
      intro S1 hd
      refine ⟨_, rfl, d, b, as.map V.int, ks.map V.int, rfl, .inr ⟨SqT.of hd, SqT.of (S1 _ _ eb), fun D nD => ?_⟩⟩
      refine lc_it (walk_zipT (K := K) (a := d) (b := b) (n := min as.length ks.length) (by rw [List.length_map, List.length_map])) (fun i H2 => MadeTo H1 D (((prods as ks).take i).map V.int) H2) ⟨same_new nD, upd_same⟩ (fun i H2 _ M => ⟨SqT.of (M.1 _ _ hd), SqT.of (M.1 _ _ (S1 _ _ eb))⟩) ?_ ?_
      · rintro i _ H2 _ hi M ⟨T, y, z, rfl, nT, rfl, ey, ez⟩
        obtain ⟨n1, e1, rfl⟩ := int_get ey
        obtain ⟨n2, e2, rfl⟩ := int_get ez
        have S2 := same_new (o := .tup [.int n1, .int n2]) nT
        have s1 := sm n1 (List.mem_cons_of_mem _ (List.mem_of_getElem? e1))
        refine ⟨T, [.int n1, .int n2], rfl, SqT.of upd_same, rfl, .int n1, [.int n2], rfl, .int n2, [], rfl, rfl, rfl, ?_⟩
        refine ⟨_, rfl, _, rfl, _, _, rfl, rfl, .inl ⟨by have := s1.1; omega, by have := s1.2; omega⟩, ?_⟩
        have m := M.more (.int (n1 * n2)) nD S2
        refine ⟨_, m.1, ?_, ?_⟩
        · rw [List.length_map, List.length_take, prods_len, sizeLine_eq]
          rw [List.length_cons] at nl
          omega
        · rw [prods_more e1 e2, List.map_append]
          exact m.2
      · intro H2 M
        rw [List.take_of_length_le (by rw [prods_len]; exact Nat.le_refl _)] at M
        exact ⟨D, prods as ks, rfl, SqL.of M.2, _, _, rfl, rfl, k _ (S1.trans M.1)⟩

theorem scStep : FnScope nStep ["_law_w", "_law_here", "_law_x", "_law_is_asked"] (defScope lStep) := ⟨rfl, rfl, rfl, by decide +kernel, rfl, by decide +kernel, by decide +kernel⟩
theorem ok_step {f g : Addr} {fd gd : FuncData} (F : Fun K "_law_step" "_law_step" lStep f fd) (mt : mg "tuple" = none) (G : FnOk P w K mg base CX0 1 g gd ["_law_one", "_law_at"] spValueOf) (c : Cal K mg "_law_value" g gd ["_law_one", "_law_at"]) : FnOk P w K mg base CX0 2 f fd ["_law_w", "_law_here", "_law_x", "_law_is_asked"] spStep := by
  refine F.ok scStep (fun vs H Q E h => ?_) (fun cdv A outer s H vs Q E hr h => ?_)
  · obtain ⟨wd, hv, x, p, ks, w, rfl, _⟩ := h
    rfl
  · obtain ⟨wd, hv, x, p, ks, lw, rfl, ⟨vs', hw, hP⟩, gw, hh, lk, k0, k1⟩ := h
    have nd := scStep.nd
    have hu := hu_of hr
    refine ⟨_, pss_cons (ps_asg (pv 1) (pg_tup rfl (pgs_cons (pg_name (i := 4) nd rfl (.inl rfl)) (pgs_cons (pg_name (i := 5) nd rfl (.inr rfl)) pgs_nil))))
      (pss_cons (ps_if (pt_cmp (pc_dnotin hu (pe_tup (pa_cons (pv 4) (pa_cons (pv 2) pa_nil))) (pe_dget hu (pv 0) pe_str (fun _ _ => rfl)))) (pss_one (ps_ret pe_non)) pss_nil)
      (pss_cons (ps_if (pt_val (pv 3)) pss_dead pss_nil)
      (pss_cons (ps_asg (pe_dget hu (pe_dget hu (pv 0) pe_str (fun _ _ => rfl)) (pe_tup (pa_cons (pv 4) (pa_cons (pv 2) pa_nil))) (fun _ _ => rfl)) (pg_tup rfl (pgs_cons (pg_name (i := 11) nd rfl (.inl rfl)) (pgs_cons (pg_name (i := 12) nd rfl (.inl rfl)) (pgs_cons (pg_name (i := 13) nd rfl (.inl rfl)) pgs_nil)))))
      (pss_one (ps_ret (pe_tup (pa_cons (pv 11) (pa_cons (pe_tupleOf (by rfl) mt (pe_lc (own := [("_law_one", 8)]) (g := gName 8) (tt := tYes) rfl nd (pi_tup (pv 12)) (blkOk_by (N := nStep) (sc := defScope lStep) (by decide +kernel)) (fun _ _ _ _ _ => pg_name (i := 8) nd rfl (.inl rfl)) (fun _ _ _ _ _ => pts_nil)
        (fun _ _ _ _ _ => pe_call G hr rfl c.m c.k c.b .nil pass0 (pa_cons (pv 8) (pa_cons (pv 5) pa_nil))))) pa_nil)))))))), ?_⟩
    obtain ⟨d, s', e, r, kvs, tq, lk', rfl, q1, q2, q3, q4, q5, q6, q7⟩ := id hP
    obtain ⟨a, xs, rfl, ea, qa⟩ := tup_at hh
    cases qa with | cons u0 qa =>
    cases qa with | @cons kv _ _ _ u1 qa =>
    cases qa
    cases u0
    refine ⟨_, rfl, a, _, rfl, SqT.of ea, rfl, _, _, rfl, _, _, rfl, rfl, ?_⟩
    obtain ⟨n0, n1⟩ := valV_arrow p x q5
    refine ⟨_, rfl, _, rfl, (by show 2 ≤ sizeLine; decide), fun kq nkq => ?_⟩
    have S1 := same_new (o := .tup [V.int p, V.str x]) nkq
    have h1 : upd H kq (.tup [V.int p, V.str x]) kq = some (.tup (([Sum.inl p, Sum.inr x] : List Key).map kV)) := upd_same
    revert S1 h1
    generalize upd H kq (.tup [V.int p, V.str x]) = H1
    intro S1 h1
    refine ⟨_, rfl, wd, _, rfl, wg_rows (S1 _ _ hw), r, _, rfl, DGet.t (S1 _ _ q4) h1, ?_⟩
    cases er : lw.hm.arrowAt p x with
    | none =>
      rw [n0 er]
      exact ⟨true, rfl, iteYes rfl (k0 er H1 S1)⟩
    | some row =>
      obtain ⟨v, ev, hv⟩ := n1 row er
      rw [ev]
      refine ⟨false, rfl, iteNo rfl ?_⟩
      refine ⟨_, rfl, false, rfl, iteNo rfl ?_⟩
      refine ⟨_, rfl, wd, _, rfl, wg_rows (S1 _ _ hw), _, rfl, _, rfl, (by show 2 ≤ sizeLine; decide), fun kq2 nkq2 => ?_⟩
      have S2 := same_new (o := .tup [V.int p, V.str x]) nkq2
      have h2 : upd H1 kq2 (.tup [V.int p, V.str x]) kq2 = some (.tup (([Sum.inl p, Sum.inr x] : List Key).map kV)) := upd_same
      revert S2 h2
      generalize upd H1 kq2 (.tup [V.int p, V.str x]) = H2
      intro S2 h2
      have SS := S1.trans S2
      have mem : row ∈ lw.rows := List.mem_of_find?_eq_some er
      obtain ⟨t, fs, ms, e3, t0, t1, hF, _⟩ := (gw.ra row mem).e
      rw [e3] at hv
      obtain ⟨b, us, rfl, eb, qb⟩ := tup_at (Dq.same SS _ _ hv)
      cases qb with | cons w0 qb =>
      cases qb with | @cons fv _ _ _ w1 qb =>
      cases qb with | @cons mv _ _ _ w2 qb =>
      cases qb
      cases w0
      obtain ⟨fa, fz, rfl, hfa, hfz⟩ := tup_at w1
      have lfz : fz.length = fs.length := dq_len hfz
      refine ⟨r, _, rfl, (by have := DGet.t (SS _ _ q4) h2; rwa [ev] at this), b, _, rfl, SqT.of eb, rfl, _, _, rfl, _, _, rfl, _, _, rfl, rfl, ?_⟩
      refine ⟨_, rfl, _, rfl, fa, rfl, ⟨_, SqT.of hfa⟩, fun D nD => ?_⟩
      have sm : ∀ f ∈ fs, FormSm ks.length f := fun f hf => by
        rw [lk]
        exact (hF.2 f hf).sm
      refine lc_tup (K := K) (a := fa) (xs := fz) (fun i H3 => MadeTo H2 D (((fs.take i).map (valD ks)).map V.int) H3) ⟨same_new nD, upd_same⟩ (fun i H3 _ M => SqT.of (M.1 _ _ hfa)) ?_ ?_
      · rintro i v H3 hv M
        obtain ⟨f, ef, hq⟩ := DqAll.at hfz hv
        obtain ⟨ns, rfl, ln, sn⟩ := sm f (List.mem_of_getElem? ef)
        refine ⟨rfl, _, rfl, _, rfl, v, kv, ns, ks, rfl, Dq.same M.1 _ _ hq, Dq.same (SS.trans M.1) _ _ u1, by intro z; rw [z] at ln; simp at ln, by have := gw.n3; omega, sn, fun H4 S4 => ?_⟩
        obtain ⟨h1, M2⟩ := M.more (V.int (valF ns ks)) nD S4
        refine ⟨_, h1, by rw [List.length_map, List.length_map, List.length_take, sizeLine_eq]; have := hF.1; have := gw.n3; omega, ?_⟩
        rw [take_more ef, List.map_append, List.map_append]
        show MadeTo H2 D (_ ++ [V.int (valD ks (.tuple (ns.map .int)))]) _
        unfold valD
        rw [intsOf_tup]
        exact M2
      · rintro H3 M
        rw [lfz, List.take_length] at M
        refine .inl ⟨D, _, rfl, SqL.of M.2, fun e1 ne1 => ?_⟩
        refine ⟨(by show 2 ≤ sizeLine; decide), fun e2 ne2 => ?_⟩
        have S3 := (SS.trans M.1).trans (same_new (o := .tup ((fs.map (valD ks)).map V.int)) ne1)
        have d1 : Dq (upd H3 e1 (.tup ((fs.map (valD ks)).map V.int))) (.ref e1) (.tuple ((fs.map (valD ks)).map .int)) := .tup upd_same (ints_dq _)
        have et : rowTo row = t := by
          unfold rowTo
          rw [e3]
          rfl
        have ef : rowVals ks row = fs.map (valD ks) := by
          unfold rowVals
          rw [e3]
          rfl
        refine k1 row er _ _ (S3.trans (same_new ne2)) ?_
        rw [et, ef]
        exact dq_new ne2 (.cons (.int _) (.cons d1 .nil))
end
end KL
set_option Elab.async false
set_option linter.all false
set_option maxRecDepth 100000
set_option maxHeartbeats 16000000
namespace KL
open PySem L2 PySem.KX PySem.Spec PyProof.Rows
/-! ### the law's looks, the law's walk -/
theorem MadeTo.ext {H0 H : Hp} {D : Addr} {bs zs : List V} (n : H0 D = none) (M : MadeTo H0 D bs H) : MadeTo H0 D (bs ++ zs) (upd H D (.lst (bs ++ zs))) :=
  ⟨fun x o e => by
    rw [upd_ne (ne_of_none e n)]
    exact M.1 _ _ e, upd_same⟩
theorem rowForms_at {m : List (List PyData)} {p : Nat} {c : List PyData} (e : m[p]? = some c) : rowForms p (.tuple (m.map PyData.tuple)) = c := by
  unfold rowForms
  show itemsD ((m.map PyData.tuple).getD p .none) = c
  rw [List.getD_eq_getElem?_getD, List.getElem?_map, e]
  rfl
def spWalked : Sp := fun vs H Q _ => ∃ (wd : Addr) (y : Str) (w : LW), vs = [.ref wd, .str y] ∧ WAt H wd w ∧ GoodW w ∧ y.cps.size ≤ 100 ∧ (w.hm.taken y < y.length → ∀ H', Same H H' → Q (.int (w.hm.taken y)) H') ∧
  (¬ w.hm.taken y < y.length → ∀ H' v, Same H H' → Dq H' v (hereD (endP 0 (w.hm.along 0 (wordOf y))) (valsBehind w.start (w.hm.along 0 (wordOf y)))) → Q v H')
abbrev nWalked : List Str := ["_law_w", "_law_word", "_law_here", "_law_k", "_law_x"]
section
variable {P : Program} {w : World} {K : PySem.W.Frag} {mg : Str → Option Value} {base : Heap}
theorem scLLooks : FnScope nLooks ["_law_w", "_law_p"] (defScope lLooks) := ⟨rfl, rfl, rfl, by decide +kernel, rfl, by decide +kernel, by decide +kernel⟩
theorem ok_llooks {f : Addr} {fd : FuncData} (F : Fun K "_law_looks" "_law_looks" lLooks f fd) (mt : mg "tuple" = none) : FnOk P w K mg base CX0 1 f fd ["_law_w", "_law_p"] spLooks := by
  refine F.ok scLLooks (fun vs H Q E h => ?_) (fun cdv A outer s H vs Q E hr h => ?_)
  · obtain ⟨wd, p, w, rfl, _⟩ := h
    rfl
  · obtain ⟨wd, p, lw, rfl, ⟨vs', hw, hP⟩, gw, hp, k⟩ := h
    have nd := scLLooks.nd
    have hu := hu_of hr
    refine ⟨_, pss_cons (ps_set (i := 2) nd rfl (.inl rfl) (pe_lst pa_nil))
      (C8.pss_cut (ps_for PassesOwn.never rfl (pi_list (pe_dget hu (pv 0) pe_str (fun _ _ => rfl))) (pg_name (i := 3) nd rfl (.inl rfl))
        (pss_one (ps_expr (pe_bm PySem.F.plainAttrs_list PySem.F.slot_list_extend PySem.F.type_list_extend mt_extend (pv 2) (pa_cons (pe_ix (r := rIxL K) ix_list (pv 3) (pv 1) (fun _ _ => rfl)) pa_nil)))))
      (pss_one (ps_ret (pe_tupleOf (by rfl) mt (pe_op op_cat (pv 2) (pe_lc (own := [("_law_q", 4), ("_law_x", 5), ("_law_one", 6), ("_law_low", 7), ("_law_high", 8)]) (g := gTup K 5 (gCons (gName 4) (gCons (gName 5) (gCons (gName 6) (gCons (gName 7) (gCons (gName 8) gNil)))))) rfl nd (pi_list (pe_dget hu (pv 0) pe_str (fun _ _ => rfl))) (blkOk_by (N := nLooks) (sc := defScope lLooks) (by decide +kernel)) (fun _ _ _ _ _ => pg_tup rfl (pgs_cons (pg_name (i := 4) nd rfl (.inl rfl)) (pgs_cons (pg_name (i := 5) nd rfl (.inl rfl)) (pgs_cons (pg_name (i := 6) nd rfl (.inl rfl)) (pgs_cons (pg_name (i := 7) nd rfl (.inl rfl)) (pgs_cons (pg_name (i := 8) nd rfl (.inl rfl)) pgs_nil))))))
        (fun _ _ _ _ _ => pts_one (pt_cmpR op_eq (pv 4) (pv 1) (nomark _))) (fun _ _ _ _ _ => pv 6))))))), ?_⟩
    obtain ⟨d, s', e, r, kvs, tq, lk', rfl, q1, q2, q3, q4, q5, q6, q7⟩ := id hP
    obtain ⟨la, ls, rfl, hla, hls⟩ := list_at q7
    obtain ⟨ta, ts, rfl, hta, hts⟩ := list_at q6
    have lls : ls.length = lw.looks.length := by rw [dq_len hls, List.length_map]
    have lts : ts.length = lw.tests.length := by rw [dq_len hts, List.length_map]
    have kn := gw.kn
    have p3 := gw.p3
    have tn := gw.tn
    refine ⟨(by show 0 ≤ sizeLine; decide), fun D nD => ?_⟩
    refine ⟨fun σ H' => ∃ o3 ys, σ = [some (.ref wd), some (.int (p : Int)), some (.ref D), o3, none, none, none, none, none] ∧ MadeTo H D ys H' ∧ DqAll H ys (lw.hm.lookForms p) ∧ ys.length ≤ 9, ?_, ?_⟩
    · refine ⟨_, rfl, wd, _, rfl, wg_looks (same_new nD _ _ hw), la, rfl, ⟨_, SqL.of (same_new nD _ _ hla)⟩, ?_⟩
      refine for_list (K := K) (a := la) (xs := ls) (fun i σ H' => ∃ o3 ys, σ = [some (.ref wd), some (.int (p : Int)), some (.ref D), o3, none, none, none, none, none] ∧ MadeTo H D ys H' ∧ DqAll H ys (((lw.looks.take i).map fun m => PyData.tuple (m.map PyData.tuple)).flatMap (rowForms p)) ∧ ys.length ≤ 3 * i) ?_ ?_ ?_ ?_
      · exact ⟨none, [], rfl, ⟨same_new nD, upd_same⟩, .nil, Nat.zero_le _⟩
      · rintro i σ H' _ ⟨o3, ys, rfl, M, _⟩
        exact SqL.of (M.1 _ _ hla)
      · rintro i v σ H' hv ⟨o3, ys, rfl, M, q, ly⟩
        obtain ⟨d', hd', hq'⟩ := DqAll.at hls hv
        rw [List.getElem?_map] at hd'
        cases em : lw.looks[i]? with
        | none =>
          rw [em] at hd'
          cases hd'
        | some m =>
          rw [em] at hd'
          cases hd'
          obtain ⟨ml, mf⟩ := gw.ka m (List.mem_of_getElem? em)
          obtain ⟨ma, mz, rfl, hma, hmz⟩ := list_at hq'
          have lmz : mz.length = m.length := by rw [dq_len hmz, List.length_map]
          have hpm : p < m.length := by omega
          have hpz : p < mz.length := by omega
          have ez : mz[p]? = some mz[p] := List.getElem?_eq_getElem hpz
          obtain ⟨d2, hd2, hq2⟩ := DqAll.at hmz ez
          rw [List.getElem?_map, List.getElem?_eq_getElem hpm] at hd2
          cases hd2
          obtain ⟨ca, cz, ec, hca, hcz⟩ := list_at hq2
          have lcz : cz.length ≤ 3 := by rw [dq_len hcz]; exact (mf _ (List.getElem_mem hpm)).1
          have hi := (List.getElem?_eq_some_iff.mp em).1
          refine ⟨_, rfl, .inl ⟨rfl, _, SqL.of M.2⟩, _, rfl, _, rfl, ma, mz, (p : Int), .ref ca, rfl, rfl, SqL.of (M.1 _ _ hma), ?_, D, ca, ys, cz, rfl, rfl, M.2, M.1 _ _ hca, by rw [sizeLine_eq]; omega, ?_⟩
          · rw [← ec]
            exact atI_nat ez
          · refine ⟨some (.ref ma), ys ++ cz, rfl, M.ext nD, ?_, by rw [List.length_append]; omega⟩
            rw [take_more em, List.map_append, List.flatMap_append]
            refine q.app ?_
            show DqAll H cz (rowForms p (.tuple (m.map PyData.tuple)) ++ [])
            rw [List.append_nil, rowForms_at (List.getElem?_eq_getElem hpm)]
            exact hcz
      · rintro σ H' ⟨o3, ys, rfl, M, q, ly⟩
        rw [lls, List.take_length] at q
        exact ⟨o3, ys, rfl, M, q, by omega⟩
    rintro σ1 H1 ⟨o3, ys, rfl, M, q, ly⟩
    refine ⟨_, rfl, _, rfl, wd, _, rfl, wg_tests (M.1 _ _ hw), ta, rfl, ⟨_, SqL.of (M.1 _ _ hta)⟩, fun D2 nD2 => ?_⟩
    refine lc_list (K := K) (a := ta) (xs := ts) (fun i H3 => DsTo H1 D2 (((lw.tests.take i).filter (atP p)).map tstForm) H3) (.start nD2) (fun i H3 _ M3 => SqL.of (M3.s _ _ (M.1 _ _ hta))) ?_ ?_
    · rintro i v H3 hv M3
      obtain ⟨d', hd', hq'⟩ := DqAll.at hts hv
      rw [List.getElem?_map] at hd'
      cases er : lw.tests[i]? with
      | none =>
        rw [er] at hd'
        cases hd'
      | some row =>
        rw [er] at hd'
        cases hd'
        have hi := (List.getElem?_eq_some_iff.mp er).1
        obtain ⟨⟨f, lo, hi', e3, _⟩, _⟩ := gw.ta row (List.mem_of_getElem? er)
        obtain ⟨b, us, rfl, eb, qb⟩ := row_at (Dq.same M.1 _ _ hq')
        rw [e3] at qb
        cases qb with | @cons fv _ _ _ w0 qb =>
        cases qb with | @cons lv _ _ _ w1 qb =>
        cases qb with | @cons hv' _ _ _ w2 qb =>
        cases qb
        have S3 := M3.s
        refine ⟨b, _, rfl, SqT.of (S3 _ _ eb), rfl, _, _, rfl, _, _, rfl, _, _, rfl, _, _, rfl, _, _, rfl, rfl, rfl, ?_⟩
        refine ⟨_, rfl, _, rfl, rfl, _, rfl, ?_⟩
        by_cases h1 : row.1 = (p : Int)
        · refine iteYes (decide_eq_true (by rw [h1])) ⟨_, rfl, ?_⟩
          have b1 : atP p row = true := decide_eq_true h1
          have et : ((lw.tests.take (i + 1)).filter (atP p)).map tstForm = ((lw.tests.take i).filter (atP p)).map tstForm ++ [f] := by
            rw [take_more er, List.filter_append, List.filter_cons_of_pos b1, List.map_append]
            show _ ++ [row.2.2.getD 0 .none] = _
            rw [e3]
            rfl
          rw [et]
          refine M3.more nD2 w0 ?_
          rw [List.length_map]
          refine Nat.lt_of_le_of_lt (List.length_filter_le _ _) ?_
          rw [List.length_take]
          omega
        · refine iteNo (decide_eq_false fun z => h1 (by injection z)) ?_
          have b1 : ¬ atP p row = true := fun z => h1 (of_decide_eq_true z)
          rw [take_more er, List.filter_append, List.filter_cons_of_neg b1]
          show DsTo H1 D2 ((((lw.tests.take i).filter (atP p)) ++ []).map tstForm) H3
          rw [List.append_nil]
          exact M3
    · rintro H3 M3
      rw [lts, List.take_length] at M3
      obtain ⟨zs, M3, q3'⟩ := M3
      have hD := M3.1 _ _ M.2
      have lz : zs.length ≤ 3 := by
        rw [dq_len q3', List.length_map]
        exact Nat.le_trans (List.length_filter_le _ _) tn
      refine ⟨D, D2, ys, zs, rfl, rfl, hD, M3.2, by rw [sizeLine_eq]; omega, fun e1 ne1 => ?_⟩
      refine .inl ⟨e1, _, rfl, SqL.of upd_same, fun e2 ne2 => ?_⟩
      have SA := M.1.trans (M3.1.trans (same_new (o := .lst (ys ++ zs)) ne1))
      have SB := M3.1.trans (same_new (o := .lst (ys ++ zs)) ne1)
      refine k _ _ (SA.trans (same_new ne2)) (dq_new ne2 ?_)
      exact (DqAll.same SA _ _ q).app (DqAll.same SB _ _ q3')
theorem scWalked : FnScope nWalked ["_law_w", "_law_word"] (defScope lWalked) := ⟨rfl, rfl, rfl, by decide +kernel, rfl, by decide +kernel, by decide +kernel⟩
theorem ok_walked {f g : Addr} {fd gd : FuncData} (F : Fun K "_law_walked" "_law_walked" lWalked f fd) (mt : mg "tuple" = none) (me : mg "enumerate" = none) (G : FnOk P w K mg base CX0 2 g gd ["_law_w", "_law_here", "_law_x", "_law_is_asked"] spStep) (c : Cal K mg "_law_step" g gd ["_law_w", "_law_here", "_law_x", "_law_is_asked"]) : FnOk P w K mg base CX0 3 f fd ["_law_w", "_law_word"] spWalked := by
  refine F.ok scWalked (fun vs H Q E h => ?_) (fun cdv A outer s H vs Q E hr h => ?_)
  · obtain ⟨wd, y, w, rfl, _⟩ := h
    rfl
  · obtain ⟨wd, y, lw, rfl, hW, gw, hy, k0, k1⟩ := h
    have nd := scWalked.nd
    have hu := hu_of hr
    obtain ⟨vs', hw, hP⟩ := id hW
    refine ⟨_, C8.pss_cut (ps_set (i := 2) nd rfl (.inl rfl) (pe_tup (pa_cons pe_int (pa_cons (pe_tupleOf (by rfl) mt (pe_dget hu (pv 0) pe_str (fun _ _ => rfl))) pa_nil))))
      (C8.pss_cut (ps_for PassesOwn.never rfl (pi_enumX (by rfl) me (pa_cons (pv 1) pa_nil)) (pg_tup rfl (pgs_cons (pg_name (i := 3) nd rfl (.inl rfl)) (pgs_cons (pg_name (i := 4) nd rfl (.inl rfl)) pgs_nil)))
        (pss_cons (ps_set (i := 2) nd rfl (.inl rfl) (pe_call G hr (by rfl) c.m c.k c.b .nil pass0 (pa_cons (pv 0) (pa_cons (pv 2) (pa_cons (pv 4) (pa_cons pe_bl pa_nil))))))
        (pss_one (ps_if (pt_cmp (pc_isN (pv 2))) (pss_one (ps_ret (pv 3))) pss_nil))))
      (pss_one (ps_ret (pv 2)))), ?_⟩
    obtain ⟨d, s', e, r, kvs, tq, lk', rfl, q1, q2, q3, q4, q5, q6, q7⟩ := id hP
    refine ⟨fun σ H1 => ∃ v, σ = [some (.ref wd), some (.str y), some v, none, none] ∧ Same H H1 ∧ Dq H1 v (hereD 0 lw.start), ?_, ?_⟩
    · refine ⟨_, rfl, wd, _, rfl, wg_start hw, kTup_list q2 fun H1 v1 S1 hv1 => ⟨(by show 2 ≤ sizeLine; decide), fun e1 ne1 => ?_⟩⟩
      exact ⟨.ref e1, rfl, S1.trans (same_new ne1), dq_new ne1 (.cons (.int _) (.cons hv1 .nil))⟩
    rintro σ1 H1 ⟨v, rfl, S1, hv⟩
    have full : (wordOf y).take y.cps.size = wordOf y := List.take_of_length_le (by rw [wordOf_len]; exact Nat.le_refl _)
    have vlen : ∀ (rs : List Row) (ks : List Int), ks.length = lw.start.length → (∀ r ∈ rs, r ∈ lw.rows) → (valsBehind ks rs).length = lw.start.length := fun rs => by
      induction rs with
      | nil => exact fun ks h _ => h
      | cons r rs ih =>
        intro ks h hm
        refine ih (rowVals ks r) ?_ fun x hx => hm x (.tail _ hx)
        unfold rowVals
        obtain ⟨t, fs, ms, e3, _, _, hF, _⟩ := (gw.ra r (hm r (.head _))).e
        rw [List.length_map, e3]
        exact hF.1
    refine ⟨fun σ H2 => ∃ v o3 o4, σ = [some (.ref wd), some (.str y), some v, o3, o4] ∧ Same H H2 ∧ ¬ lw.hm.taken y < y.length ∧ Dq H2 v (hereD (endP 0 (lw.hm.along 0 (wordOf y))) (valsBehind lw.start (lw.hm.along 0 (wordOf y)))), ?_, ?_⟩
    · refine ⟨_, rfl, y, rfl, for_it walk_enumX (fun i σ H2 => ∃ v o3 o4, σ = [some (.ref wd), some (.str y), some v, o3, o4] ∧ Same H H2 ∧ (lw.hm.along 0 ((wordOf y).take i)).length = ((wordOf y).take i).length ∧ Dq H2 v (hereD (endP 0 (lw.hm.along 0 ((wordOf y).take i))) (valsBehind lw.start (lw.hm.along 0 ((wordOf y).take i))))) ⟨v, none, none, rfl, S1, rfl, hv⟩ (fun _ _ _ _ _ => trivial) ?_ ?_⟩
      · rintro i u σ H2 H2' hi ⟨v, o3, o4, rfl, S2, hl, hv⟩ ⟨T, a, b, rfl, nT, rfl, ea, eb⟩
        cases ea
        have ec : ∃ ch, y.cps[i]? = some ch ∧ b = .str ⟨#[ch]⟩ := by
          have eb : (y.cps[i]?).map (fun c => V.str ⟨#[c]⟩) = some b := eb
          cases z : y.cps[i]? with
          | none =>
            rw [z] at eb
            cases eb
          | some ch =>
            rw [z] at eb
            exact ⟨ch, rfl, (Option.some.inj eb).symm⟩
        obtain ⟨ch, hc, rfl⟩ := ec
        have hwd := wordOf_get hc
        have etk : (wordOf y).take (i + 1) = (wordOf y).take i ++ [⟨#[ch]⟩] := take_more hwd
        have more := along_more lw.hm ((wordOf y).take i) 0 ⟨#[ch]⟩ hl
        rw [← etk] at more
        have li : ((wordOf y).take i).length = i := by rw [List.length_take, wordOf_len]; omega
        have ST := same_new (o := .tup [V.int (i : Nat), V.str ⟨#[ch]⟩]) nT
        refine ⟨T, _, rfl, SqT.of upd_same, rfl, _, _, rfl, _, _, rfl, rfl, ?_⟩
        have SA := S2.trans ST
        refine ⟨_, rfl, _, rfl, _, rfl, wd, v, ⟨#[ch]⟩, _, _, lw, rfl, hW.same SA, gw, Dq.same ST _ _ hv, ?_, fun no H3 S3 => ?_, fun row ho H3 v3 S3 hv3 => ?_⟩
        · exact vlen _ _ rfl fun r hr => along_mem lw.hm _ _ r hr
        · rw [no] at more
          refine ⟨_, rfl, _, rfl, iteYes rfl ⟨_, rfl, ?_⟩⟩
          have e : lw.hm.along 0 (wordOf y) = lw.hm.along 0 ((wordOf y).take (i + 1)) := by
            have := along_stop lw.hm ((wordOf y).take (i + 1)) ((wordOf y).drop (i + 1)) 0 (by
              rw [more, List.append_nil, hl, etk, List.length_append]
              exact Nat.lt_succ_self _)
            rwa [List.take_append_drop] at this
          have et : lw.hm.taken y = i := by
            unfold HM.taken
            rw [e, more, List.append_nil, hl, li]
          have := k0 (by rw [et]; exact hi) H3 (SA.trans S3)
          rw [et] at this
          exact this
        · rw [ho] at more
          have more : lw.hm.along 0 ((wordOf y).take (i + 1)) = lw.hm.along 0 ((wordOf y).take i) ++ [row] := more
          refine ⟨_, rfl, _, rfl, ?_⟩
          obtain ⟨ha, hz, e5, _, _⟩ := tup_at hv3
          subst e5
          refine iteNo rfl ?_
          refine ⟨_, some (.int (i : Nat)), some (.str ⟨#[ch]⟩), rfl, SA.trans S3, ?_, ?_⟩
          · rw [more, List.length_append, hl, etk, List.length_append]
            rfl
          · rw [more, vals_more, endP_last]
            exact hv3
      · rintro σ H2 ⟨v, o3, o4, rfl, S2, hl, hv⟩
        rw [full] at hl hv
        refine ⟨v, o3, o4, rfl, S2, ?_, hv⟩
        unfold HM.taken
        rw [hl, wordOf_len]
        exact Nat.lt_irrefl _
    rintro σ2 H2 ⟨v, o3, o4, rfl, S2, nt, hv⟩
    exact ⟨_, rfl, k1 nt H2 v S2 hv⟩
end
end KL
set_option Elab.async false
set_option linter.all false
set_option maxRecDepth 100000
set_option maxHeartbeats 16000000
namespace KL
open PySem L2 PySem.KX PySem.Spec PyProof.Rows
/-! ### calls by keyword alone -/
theorem passAt0 {X : Cx} (σ : L2.St) : PassesAt CX0 X σ E0 := fun pins H s e s' I c => pass0 pins σ H s e s' I c
section
variable {X : Cx} {CX : CXT} {k : Nat} {f : Addr} {fd : FuncData} {ps ks : List Str} {sp : Sp} {E : L2.St → XK} {x : Str} {p pos : Pos} {kws : List Keyword} {tk : TA} {g : List Value → List Value → List Value} {gV : List V → List V → List V}
def tCallKS0 (sp : Sp) (gV : List V → List V → List V) (E : L2.St → XK) (tk : TA) : TE := fun σ H Q => tk σ H fun zs H2 => sp (gV [] zs) H2 Q (E σ)
theorem run_fnkS {pins : List (Addr × Obj)} {σ : L2.St} {H : Hp} {s : Shared} {Q : VK} {us ws : List Value} {vs zs : List V} (F : FnOk X.prog X.w X.K X.mg X.base CX k f fd ps sp) (hr : Room k X.A) (hb : KBinds X.K fd ps ks g gV) (hx : PassesAt CX X σ (E σ))
    (I : Inv X pins σ H s) (r : Vals vs us) (rz : Vals zs ws) (h : sp (gV vs zs) H Q (E σ)) : wpAny (model X.prog X.w) X.A (call (.ref f) us (ks.zip ws)) (EP X pins σ Q) X.xe s := by
  have r2 := hb.rel r rz
  have hl : (g us ws).length = ps.length := by rw [← r2.length]; exact F.len _ _ _ _ h
  refine wpAny_call (codeAny_mono (F.run X.A X.stack s H ⟨us, ks.zip ws⟩ (g us ws) (gV vs zs) Q (E σ) hr I.env0 (hb.to s us ws I.kIn hl) r2 h) fun r s' hq => ?_)
  cases r with
  | error e => exact hx pins H s e s' I hq
  | ok fl =>
    cases fl with
    | ret u => exact I.after hq
    | next => exact False.elim hq
    | brk => exact False.elim hq
    | cont => exact False.elim hq
theorem pe_callKS0 (F : FnOk X.prog X.w X.K X.mg X.base CX k f fd ps sp) (hr : Room k X.A) (hg : Gl X x) (hm : X.mg x = some (.ref f)) (hk : PySem.W.keepIn X.K (.ref f) = true) (hb : KBinds X.K fd ps ks g gV) (hx : ∀ σ, PassesAt CX X σ (E σ)) (hkw : PK X kws tk)
    (hall : (backToKw pos (keywordEach kws X.env)).all (·.1.isSome) = true := by rfl) (hks : (backToKw pos (keywordEach kws X.env)).filterMap (·.1) = ks := by rfl) (hdb : (x == ("__debug__" : Str)) = false := by decide)
    (hpl : ((backTo pos (starEach [] X.env)).any (·.1) || (backToKw pos (keywordEach kws X.env)).any (·.1.isNone)) = false := by rfl) :
    PE X (.Call (.Name x p) [] kws pos) (tCallKS0 sp gV E tk) := by
  refine ⟨fun pins s σ H Q I h => ?_⟩
  refine wpAny_Call_Name_kw (ld_glob I hg hm ?_ hdb)
  refine PySem.W.callWith_KW0 (first := []) (h₀ := X.base) I.ok.mod.kin hk hall (thn (hkw.run pos pins s σ H _ I h) fun ws s2 ⟨zs, H2, I2, rz, q2⟩ => ⟨I2.kIn, ?_⟩) hpl
  rw [hks]
  exact run_fnkS (us := []) (vs := []) F hr hb (hx σ) I2 .nil rz q2
end
def gR : List Value → List Value → List Value
  | [], ws => ws.reverse
  | _ :: _, _ => []
def gRV : List V → List V → List V
  | [], ws => ws.reverse
  | _ :: _, _ => []
def gS : List Value → List Value → List Value
  | [], ws => ws
  | _ :: _, _ => []
def gSV : List V → List V → List V
  | [], ws => ws
  | _ :: _, _ => []
theorem kb_rev {K : PySem.W.Frag} {fd : FuncData} {ps ks : List Str} (n : ps ≠ []) (h : ∀ ws : List Value, ws.length = ps.length → bindArgs fd ⟨[], ks.zip ws⟩ = pure (ps.zip ws.reverse)) : KBinds K fd ps ks gR gRV :=
  ⟨fun s us ws _ hl => by
    cases us with
    | nil => exact .of_eq (h ws (by rw [← hl]; exact (List.length_reverse).symm))
    | cons u us =>
      have hl : 0 = ps.length := hl
      exact absurd (List.length_eq_zero_iff.mp hl.symm) n, fun {vs us zs ws} r rz => by
    cases r with
    | nil => exact vals_rev rz
    | cons a b => exact .nil⟩
theorem kb_same {K : PySem.W.Frag} {fd : FuncData} {ps ks : List Str} (n : ps ≠ []) (h : ∀ ws : List Value, ws.length = ps.length → bindArgs fd ⟨[], ks.zip ws⟩ = pure (ps.zip ws)) : KBinds K fd ps ks gS gSV :=
  ⟨fun s us ws _ hl => by
    cases us with
    | nil => exact .of_eq (h ws hl)
    | cons u us =>
      have hl : 0 = ps.length := hl
      exact absurd (List.length_eq_zero_iff.mp hl.symm) n, fun {vs us zs ws} r rz => by
    cases r with
    | nil => exact rz
    | cons a b => exact .nil⟩
/-! ### what is told of a word -/
def heardD (m : HM) (y : Str) : PyData := if m.taken y < y.length then .list [.str "none", .int (m.taken y), .bool true] else .list [.int (endP 0 (m.along 0 (wordOf y))), .tuple ((valsBehind m.start (m.along 0 (wordOf y))).map .int)]
def spHeard (C : Addr) : Sp := fun vs H Q _ => ∃ (x : Addr) (y : Str) (nm : Bool) (m : HM), vs = [.ref x, .str y, .bl nm] ∧ HsAt C H x m ∧ RightH m ∧ SmA m ∧ y.cps.size ≤ 100 ∧ ∀ H' v', Same H H' → Dq H' v' (heardD m y) → Q v' H'
abbrev nHeard : List Str := ["_law_code", "_law_word", "_law_is_named", "_law_found", "e"]
structure TxtHd (K : PySem.W.Frag) (mg : Str → Option Value) (CN IN CH : Addr) : Prop where
  e : TxtNA K mg CN IN
  ex : PySem.W.exmOne K (.ref CN) (.ref CN) = some true
  mH : mg "HouseError" = some (.ref CH)
  isH : PySem.W.kitOne K (.ref CN) (.ref CH) = some true
  isi : mg "isinstance" = none
def tSuH (K : PySem.W.Frag) (CN CH : Addr) (a : Addr) (cls : Value) (d : Option Addr) : TS := tAsg (tLst (tCons (tC (.str "none")) (tCons (tXf a cls d CN "index" (tVar 4)) (tCons (tCB (rIsX K a cls d) (tCons (tVar 4) (tCons (tC (.ref CH)) tNil))) tNil)))) (gName 3)
def sHeardS : List Stmt := match (defBody lHeard).getD 1 (.Pass ⟨0, 0, 0, 0⟩) with
  | .Try _ [.ExceptHandler _ _ b _] _ _ _ => b
  | _ => []
section
variable {P : Program} {w : World} {K : PySem.W.Frag} {mg : Str → Option Value} {base : Heap} {C CN IN CH : Addr} {g1 g2 : Addr} {d1 d2 : FuncData}
theorem scHeard : FnScope nHeard ["_law_code", "_law_word", "_law_is_named"] (defScope lHeard) := ⟨rfl, rfl, rfl, by decide +kernel, rfl, by decide +kernel, by decide +kernel⟩
theorem ok_heard {f : Addr} {fd : FuncData} (F : Fun K "_law_heard" "_law_heard" lHeard f fd) (T : TxtHd K mg CN IN CH)
    (G1 : FnOk P w K mg base (L2.CX P w) 4 g1 d1 ["house", "way"] (spEndOf C CN)) (c1 : Cal K mg "end_of" g1 d1 ["house", "way"]) (k1 : KBinds K d1 ["house", "way"] ["house", "way"] gS gSV)
    (G2 : FnOk P w K mg base (L2.CX P w) 4 g2 d2 ["house", "way"] (spNumbersBehind C CN)) (c2 : Cal K mg "numbers_behind" g2 d2 ["house", "way"]) (k2 : KBinds K d2 ["house", "way"] ["way", "house"] gR gRV) : FnOk P w K mg base CX0 5 f fd ["_law_code", "_law_word", "_law_is_named"] (spHeard C) := by
  refine F.ok scHeard (fun vs H Q E h => ?_) (fun cdv A outer s H vs Q E hr h => ?_)
  · obtain ⟨x, y, nm, m, rfl, _⟩ := h
    rfl
  · obtain ⟨x, y, nm, m, rfl, hx, hR, hS, hy, k⟩ := h
    have nd := scHeard.nd
    let X0 : Cx := (cxOf CX0 P w K mg base nHeard "_law_heard" (defScope lHeard) f cdv A outer s H E).nox
    have su : ∀ (a : Addr) (oe : Obj) (cls : Value) (d : Option Addr) (pn : List (Addr × Obj)), Zc cls d oe → (∃ vs, oe.data = .fields vs) → PSs (X0.suite a ((a, oe) :: pn)) sHeardS (tSuH K CN CH a cls d) := fun a oe cls d pn hz hf =>
      pss_one (ps_set (i := 3) nd rfl (.inl rfl) (pe_lst (pa_cons pe_str (pa_cons (pe_xf (X := X0) (n := "index") (C := CN) ⟨T.e.ei.c.is.hg, T.e.ei.c.is.hk, T.e.ei.c.is.hs, T.e.ei.c.hd⟩ T.e.ei.nf hz hf (pv 4)) (pa_cons (pe_callB (call_isX (X := X0) hz hf) (by rfl) T.isi (by decide +kernel) (pa_cons (pv 4) (pa_cons (pe_glob (v := .ref CH) (by rfl) T.mH rfl) pa_nil))) pa_nil)))))
    refine ⟨_, pss_cons (ps_set (i := 3) nd rfl (.inl rfl) pe_non)
      (pss_cons (ps_try_as (X := X0) (i := 4) (ts := tSuH K CN CH) (Wout := fun _ _ _ _ => False) rfl rfl nd rfl rfl ⟨rfl, by decide, .inl T.e.m⟩ takes0 (fun W pn xe tk _ =>
        pss_one (X := X0.tr pn xe) (ps_if (X := X0.tr pn xe) (pt_val (X := X0.tr pn xe) (pv (X := X0.tr pn xe) 2))
          (pss_one (X := X0.tr pn xe) (ps_set (X := X0.tr pn xe) (i := 3) nd rfl (.inl rfl) (pe_lst (X := X0.tr pn xe) (pa_cons (X := X0.tr pn xe) (pe_callKS0 (X := X0.tr pn xe) G1 hr (by rfl) c1.m c1.k k1 (passAt tk) (pk_cons (X := X0.tr pn xe) (pv (X := X0.tr pn xe) 0) (pk_cons (X := X0.tr pn xe) (pv (X := X0.tr pn xe) 1) pk_nil)))
            (pa_cons (X := X0.tr pn xe) (pe_callKS0 (X := X0.tr pn xe) G2 hr (by rfl) c2.m c2.k k2 (passAt tk) (pk_cons (X := X0.tr pn xe) (pv (X := X0.tr pn xe) 1) (pk_cons (X := X0.tr pn xe) (pv (X := X0.tr pn xe) 0) pk_nil))) pa_nil)))))
          (pss_one (X := X0.tr pn xe) (ps_set (X := X0.tr pn xe) (i := 3) nd rfl (.inl rfl) (pe_lst (X := X0.tr pn xe) (pa_cons (X := X0.tr pn xe) (pe_callS (X := X0.tr pn xe) G1 hr (by rfl) c1.m c1.k c1.b (passAt tk) (pa_cons (X := X0.tr pn xe) (pv (X := X0.tr pn xe) 0) (pa_cons (X := X0.tr pn xe) (pv (X := X0.tr pn xe) 1) pa_nil)))
            (pa_cons (X := X0.tr pn xe) (pe_callS (X := X0.tr pn xe) G2 hr (by rfl) c2.m c2.k c2.b (passAt tk) (pa_cons (X := X0.tr pn xe) (pv (X := X0.tr pn xe) 0) (pa_cons (X := X0.tr pn xe) (pv (X := X0.tr pn xe) 1) pa_nil))) pa_nil))))))) su)
      (pss_one (ps_ret (pv 3)))), ?_⟩
    refine ⟨_, rfl, nm, rfl, ?_⟩
    by_cases hn : nm = true
    · refine iteYes hn ⟨_, rfl, _, rfl, x, y, m, rfl, hx, hR, hy, fun H1 S1 nl => ?_, fun H' dd SH hl hdd => ⟨true, T.ex, fun _ a ha => ?_, fun z => nomatch z⟩⟩
      · refine ⟨_, rfl, _, rfl, x, y, m, rfl, hx.same S1, hR, hS, hy, fun H2 v S2 _ hv => ?_, fun H' dd SH hl => absurd hl nl⟩
        refine ⟨(by show 2 ≤ sizeLine; decide), fun l nl2 => ⟨_, rfl, k _ _ ((S1.trans S2).trans (same_new nl2)) ?_⟩⟩
        unfold heardD
        rw [if_neg nl]
        exact .lst upd_same (.cons (.int _) (.cons (Dq.same (same_new nl2) _ _ hv) .nil))
      · refine ⟨_, rfl, rfl, rfl, dd, _, _, rfl, hdd, rfl, _, rfl, CN, dd, _, .ref CH, _, true, rfl, rfl, rfl, hdd, T.e.ei.c, .own CH, T.isH, (by show 3 ≤ sizeLine; decide), fun l nl => ⟨_, rfl, k _ _ (SH.trans (same_new nl)) ?_⟩⟩
        unfold heardD
        rw [if_pos hl]
        exact .lst upd_same (.cons (.str _) (.cons (.int _) (.cons (.bl _) .nil)))
    · refine iteNo (by simpa using hn) ⟨_, rfl, _, rfl, x, y, m, rfl, hx, hR, hy, fun H1 S1 nl => ?_, fun H' dd SH hl hdd => ⟨true, T.ex, fun _ a ha => ?_, fun z => nomatch z⟩⟩
      · refine ⟨_, rfl, _, rfl, x, y, m, rfl, hx.same S1, hR, hS, hy, fun H2 v S2 _ hv => ?_, fun H' dd SH hl => absurd hl nl⟩
        refine ⟨(by show 2 ≤ sizeLine; decide), fun l nl2 => ⟨_, rfl, k _ _ ((S1.trans S2).trans (same_new nl2)) ?_⟩⟩
        unfold heardD
        rw [if_neg nl]
        exact .lst upd_same (.cons (.int _) (.cons (Dq.same (same_new nl2) _ _ hv) .nil))
      · refine ⟨_, rfl, rfl, rfl, dd, _, _, rfl, hdd, rfl, _, rfl, CN, dd, _, .ref CH, _, true, rfl, rfl, rfl, hdd, T.e.ei.c, .own CH, T.isH, (by show 3 ≤ sizeLine; decide), fun l nl => ⟨_, rfl, k _ _ (SH.trans (same_new nl)) ?_⟩⟩
        unfold heardD
        rw [if_pos hl]
        exact .lst upd_same (.cons (.str _) (.cons (.int _) (.cons (.bl _) .nil)))
end
end KL
set_option Elab.async false
set_option linter.all false
set_option maxRecDepth 100000
set_option maxHeartbeats 4000000
namespace KL
open PySem L2 PySem.KX PySem.Spec PyProof.Rows
/-! ### enumerate of a tuple -/
/-- the tuple at a as it stands, each item in a new pair behind its number -/
def IteT (K : PySem.W.Frag) (a : Addr) : It :=
  ⟨fun i H => ∃ (xs : List V) (x : V), SqT K H a xs ∧ xs[i]? = some x, fun i H v H' => ∃ T x, v = .ref T ∧ H T = none ∧ H' = upd H T (.tup [.int (i : Nat), x]) ∧ ∀ xs, SqT K H a xs → xs[i]? = some x, fun i H => ∃ xs : List V, SqT K H a xs ∧ xs.length ≤ i⟩
theorem turn_enumT {P : Program} {w : World} {K : PySem.W.Frag} {elts : List Expr} {kk : Nat} {tpos : Pos} (a e it : Addr) :
    Turn P w K (.Tuple elts kk tpos) (IteT K a) [e, it] e (fun i h => (∃ old, IsEnum h e it ((i : Nat) : Int) old) ∧ h.IsTupleIter it a i ∧ e ≠ it) where
  mem := by simp
  obj := fun i h st b hb => by
    obtain ⟨⟨old, he⟩, ⟨o, ho, hc, hd⟩, _⟩ := st
    have e' : b = e ∨ b = it := by simpa using hb
    rcases e' with z | z
    · rw [z]; exact ⟨_, he, fun v q => nomatch q⟩
    · rw [z]; exact ⟨o, ho, fun v q => by rw [hd] at q; cases q⟩
  keep := fun i h h' st k => let ⟨⟨old, he⟩, hi, hne⟩ := st; ⟨⟨old, k e (by simp) _ he⟩, hi.at fun o q => k it (by simp) o q, hne⟩
  item := by
    intro X hP hw hK hc i pins s σ H E I hf st hg
    subst hP hw hK
    obtain ⟨⟨old, he⟩, hit, hne⟩ := st
    obtain ⟨xs, x, hq, hx⟩ := hg
    obtain ⟨its, rv, p, hz⟩ := I.tuple hq
    have p : s.heap.IsTuple a its.toArray := p
    obtain ⟨u, hu, ru⟩ := rv.get hx
    have hel : e < s.heap.objs.size := Heap.lt_size he
    have hil : it < s.heap.objs.size := by obtain ⟨_, q, _⟩ := hit; exact Heap.lt_size q
    have hai : a ≠ it := fun z => by
      obtain ⟨o, ho, hc', _⟩ := p
      obtain ⟨o2, ho2, hc2, _⟩ := hit
      rw [z, ho2] at ho
      cases ho
      rw [hc2] at hc'
      injection hc' with z2
      exact absurd z2 (by decide)
    have hea : e ≠ a := fun z => by
      obtain ⟨o, ho, hc', _⟩ := p
      have he' := he
      unfold IsEnum at he'
      rw [z, ho] at he'
      injection he' with z1
      rw [z1] at hc'
      injection hc' with z2
      exact absurd z2 (by decide)
    have ul : its.toArray[i]? = some u := by simpa using hu
    have hlt : i < its.toArray.size := by
      rcases Nat.lt_or_ge i its.toArray.size with h | h
      · exact h
      · rw [Array.getElem?_eq_none h] at ul
        cases ul
    refine wpAny_pyNext_enum_itemC (Draws.tuple (prog := X.prog) (w := X.w) (A := X.A.in1) (I.ok.hd hc) it a hai its.toArray) he ⟨hit, p⟩ hlt hne (by simp [hne, hea]) fun y h' tk hy ho hst hT hsz hk => ?_
    have ey : y = u := by
      have hy : its.toArray[i]? = some y := hy
      rw [ul] at hy
      exact (Option.some.inj hy).symm
    subst ey
    have hit' := hst.1
    refine ⟨_, rfl, wpAny_letOwnedTupleGo_enum (s := { s with heap := h', toks := tk + 1 }) ho fun h'' he' sb => ?_⟩
    have hT2 : h''.get? s.heap.objs.size = some { cls := .type "tuple", data := .seq #[.int ((i : Nat) : Int) tk, y] } := (sb.2 _ (Nat.ne_of_gt hel)).trans hT
    have new : ObjOk X.prog X.w (upd H s.heap.objs.size (.tup [.int ((i : Nat) : Int), x])) h'' s.heap.objs.size (.tup [.int ((i : Nat) : Int), x]) :=
      ⟨by show 2 ≤ sizeLine; decide, [.int ((i : Nat) : Int) tk, y], .cons ⟨_, rfl⟩ (.cons ru .nil), ⟨_, hT2, rfl, _, rfl⟩⟩
    have I1 : Inv X pins σ (upd H s.heap.objs.size (.tup [.int ((i : Nat) : Int), x])) { s with heap := h'', toks := tk + 1 } :=
      I.turnedNew (ch := [e, it]) (fun b ob hb q => (sb.2 b (fun z => hb (by simp [z]))).trans (hk b ob (fun z => hb (by simp [z])) (fun z => hb (by simp [z])) q)) hf (Nat.le_refl _) new
    refine ⟨.ref s.heap.objs.size, _, I1, rfl, ⟨_, x, rfl, I.hok.fresh (Nat.le_refl _), rfl, fun ys hy => by rw [I.tuple_inj hy hq]; exact hx⟩, ⟨⟨y, ?_⟩, hit'.at fun o q => (sb.2 it (Ne.symm hne)).trans q, hne⟩, fun b hb => ?_⟩
    · have e1 : ((i + 1 : Nat) : Int) = (i : Int) + 1 := by omega
      rw [e1]; exact he'
    · have hb' : b < s.heap.objs.size := by
        have e' : b = e ∨ b = it := by simpa using hb
        rcases e' with z | z
        · rw [z]; exact hel
        · rw [z]; exact hil
      rw [upd_ne (Nat.ne_of_lt hb')]
      exact (hf b hb).1
  done := by
    intro X hP hw hK hc i pins s σ H E I hf st hg
    subst hP hw hK
    obtain ⟨⟨old, he⟩, hit, hne⟩ := st
    obtain ⟨xs, hq, hx⟩ := hg
    obtain ⟨its, rv, p, hz⟩ := I.tuple hq
    have p : s.heap.IsTuple a its.toArray := p
    obtain ⟨f0, f1, f2, f3, f4, f5⟩ := hf it (by simp)
    have hl := rv.length
    have hT : s.TypeIs (.ref e) "enumerate" := ⟨_, he, rfl⟩
    unfold pyNext
    refine wpAny_bind (wpAny_attempt (wpAny_callSpecial?_slot (name := Str.ofString "__next__") hT F.slot_enumerate_next
      (wpAny_call_entry F.slot_enumerate_next hT F.entry_enumerate_next ?_ (F.args_enumerate_next_1 _))))
    show wpAny _ _ (field (.ref e) 2 >>= _) _ _ _
    refine wpAny_bind (wpAny_field he rfl (x := .ref it) rfl ?_)
    refine wpAny_bind (wpAny_nextOf_tuple_end (I.ok.hd hc) hit p (by simp; omega) fun h' x eb hx' => ?_)
    obtain ⟨o, ho, hc⟩ := hx'
    refine wpAny_bind (wpAny_isInstance (T := "StopIteration") (b := true) ⟨o, ho, hc⟩ isSubtype_stop ?_)
    exact wpAny_pure ⟨rfl, I.turned (t' := s.toks) (fun b o hb q => eb b o hb q) f0 f1 f3 f4 f5⟩
  self := fun A i s Q E st h => let ⟨⟨_, he⟩, _⟩ := st; wpAny_pyIter_enum he h
def iEnumT (K : PySem.W.Frag) (ta : TA) : TI := fun σ H R => ta σ H fun vs H1 => ∃ a xs, vs = [.ref a] ∧ SqT K H1 a xs ∧ R (IteT K a) H1
theorem pi_enumT {X : Cx} {e : Expr} {ta : TA} {p pos tpos : Pos} {elts : List Expr} {kk : Nat} (hg : Gl X "enumerate") (hm : X.mg "enumerate" = none) (ha : PA X [e] ta) (hs : starEach [e] X.env = [(false, eval e X.env)] := by rfl) :
    PI X (.Tuple elts kk tpos) (.Call (.Name "enumerate" p) [e] [] pos) (iEnumT X.K ta) := by
  refine ⟨fun pins s σ H R I h => ?_⟩
  refine Call_ (ld_blt I hg hm boot_enumerate (PyProof.Rows.callWith_type1 (thn (ha.run pos pins s σ H _ I h) fun us s1 ⟨vs, H1, I1, r1, q1⟩ => ?_) hs rfl))
  obtain ⟨a, xs, ex, hq, q⟩ := q1
  subst ex
  cases r1 with
  | cons r rr =>
    cases rr
    cases r
    obtain ⟨its, rv, p', hz⟩ := I1.tuple hq
    refine enum_begins1 (begins_tuple a its.toArray) p' fun h' he hit hsz hk => wpAny_pyIter_enum he ?_
    have I3 : Inv X pins σ H1 { s1 with heap := h' } := I1.kept (t' := s1.toks) hk
    refine ⟨s1.heap.objs.size + 1, [s1.heap.objs.size + 1, s1.heap.objs.size], _, _, H1, rfl, I3, turn_enumT a (s1.heap.objs.size + 1) s1.heap.objs.size, ⟨⟨.none, he⟩, ⟨_, hit, rfl, rfl⟩, Nat.succ_ne_self _⟩, fun b hb => ?_, q⟩
    have e' : b = s1.heap.objs.size + 1 ∨ b = s1.heap.objs.size := by simpa using hb
    have hle : s1.heap.objs.size ≤ b := by
      rcases e' with z | z
      · rw [z]; exact Nat.le_add_right _ _
      · rw [z]; exact Nat.le_refl _
    exact I1.fpOk hle (I1.hok.fresh hle)
theorem walk_enumT {K : PySem.W.Frag} {a : Addr} {xs : List V} : Walk (IteT K a) xs.length (fun H => SqT K H a xs) (YPair (fun i => some (.int (i : Nat))) (fun i => xs[i]?)) := by
  refine ⟨fun i _ hi q => ⟨xs, xs[i], q, by simp [hi]⟩, fun _ q => ⟨xs, q, Nat.le_refl _⟩, fun i H v H' _ q y => ?_⟩
  obtain ⟨T, x, h1, h2, h3, h4⟩ := y
  exact ⟨T, .int (i : Nat), x, h1, h2, h3, rfl, h4 xs q⟩
/-- the turns of a walk inside a comprehension -/
theorem walk_turns {J : It} {n : Nat} {G : Hp → Prop} {Y : Nat → Hp → V → Hp → Prop} (w : Walk J n G Y) {body : (Hp → Prop) → V → Hp → Prop} {Hs : Hp} {Qd : Hp → Prop} (Pv : Nat → Hp → Prop) (h0 : Pv 0 Hs) (hl : ∀ i H, i ≤ n → Pv i H → G H)
    (hs : ∀ i x H H', i < n → Pv i H → Y i H x H' → body (Pv (i + 1)) x H') (hd : ∀ H, Pv n H → Qd H) :
    ∃ W : Nat → Nat → Hp → Prop, (∃ m, W 0 m Hs) ∧ ∀ i m H, W i m H →
      (J.stop i H ∧ Qd H) ∨ (J.go i H ∧ ∃ Nx : Hp → Prop, (∀ H', Nx H' → ∃ m', m' < m ∧ W (i + 1) m' H') ∧ ∀ x H', J.yld i H x H' → body Nx x H') := by
  refine ⟨fun i m H => m = n - i ∧ i ≤ n ∧ Pv i H, ⟨n, by simp, Nat.zero_le _, h0⟩, ?_⟩
  rintro i m H ⟨rfl, hi, p⟩
  have q := hl i H hi p
  by_cases hlt : i < n
  · exact .inr ⟨w.goes i H hlt q, Pv (i + 1), fun H' p' => ⟨n - (i + 1), by omega, rfl, hlt, p'⟩, fun x H' y => hs i x H H' hlt p (w.yields i H x H' hlt q y)⟩
  · have e : i = n := by omega
    subst e
    exact .inl ⟨w.stops H q, hd H p⟩
end KL
set_option Elab.async false
set_option linter.all false
set_option maxRecDepth 100000
set_option maxHeartbeats 16000000
namespace KL
open PySem L2 PySem.KX PySem.Spec PyProof.Rows
/-! ### the law's form led back -/
def addF (k : Int) (a b : Int) : Int := a + k * b
theorem ledTo_snoc {k : Int} {r : List Int} : ∀ (l : List (Int × List Int)) (acc : List Int), ledTo acc (l ++ [(k, r)]) = List.zipWith (addF k) (ledTo acc l) r
  | [], _ => rfl
  | (k1, r1) :: l, acc => ledTo_snoc l _
theorem ledTo_len {n : Nat} : ∀ (l : List (Int × List Int)) (acc : List Int), acc.length = n → (∀ r ∈ l, r.2.length = n) → (ledTo acc l).length = n
  | [], _, h, _ => h
  | (k, r) :: l, acc, h, hr => ledTo_len l _ (by rw [List.length_zipWith, h, hr _ (.head _), Nat.min_self]) fun r hm => hr r (.tail _ hm)
/-- a list whose first items are done -/
def midL (k : Int) (acc r : List Int) (i : Nat) : List Int := (List.zipWith (addF k) acc r).take i ++ acc.drop i
theorem mid_zero (k : Int) (acc r : List Int) : midL k acc r 0 = acc := rfl
theorem mid_end {k : Int} {acc r : List Int} (h : acc.length = r.length) : midL k acc r r.length = List.zipWith (addF k) acc r := by
  unfold midL
  rw [List.take_of_length_le (by rw [List.length_zipWith, h, Nat.min_self]; exact Nat.le_refl _), List.drop_of_length_le (by omega), List.append_nil]
theorem mid_len {k : Int} {acc r : List Int} {i : Nat} (h : acc.length = r.length) (hi : i ≤ r.length) : (midL k acc r i).length = r.length := by
  unfold midL
  rw [List.length_append, List.length_take, List.length_zipWith, List.length_drop, h, Nat.min_self]
  omega
theorem mid_get {k : Int} {acc r : List Int} {i : Nat} {a : Int} (h : acc.length = r.length) (hi : i < r.length) (e : acc[i]? = some a) : (midL k acc r i)[i]? = some a := by
  unfold midL
  have l1 : ((List.zipWith (addF k) acc r).take i).length = i := by
    rw [List.length_take, List.length_zipWith, h, Nat.min_self]
    omega
  rw [List.getElem?_append_right (by omega), l1, Nat.sub_self, List.getElem?_drop, Nat.add_zero]
  exact e
theorem mid_set {k : Int} {acc r : List Int} {i : Nat} {a b : Int} (h : acc.length = r.length) (ea : acc[i]? = some a) (eb : r[i]? = some b) : (midL k acc r i).set i (a + k * b) = midL k acc r (i + 1) := by
  have hi : i < r.length := (List.getElem?_eq_some_iff.mp eb).1
  unfold midL
  have l1 : ((List.zipWith (addF k) acc r).take i).length = i := by
    rw [List.length_take, List.length_zipWith, h, Nat.min_self]
    omega
  have ez : (List.zipWith (addF k) acc r)[i]? = some (a + k * b) := by
    rw [List.getElem?_zipWith, ea, eb]
    rfl
  have ed : acc.drop i = a :: acc.drop (i + 1) := by
    obtain ⟨hi', e⟩ := List.getElem?_eq_some_iff.mp ea
    rw [List.drop_eq_getElem_cons hi', e]
  rw [take_more ez, ed, List.set_append_right _ _ (by omega), l1, Nat.sub_self, List.append_assoc]
  rfl
def spBack : Sp := fun vs H Q _ => ∃ (wd : Addr) (p : Int) (x : Str) (u : V) (w : LW) (r : Row) (rows : List (List Int)) (f : List Int), vs = [.ref wd, .int p, .str x, u] ∧ WAt H wd w ∧ GoodW w ∧ w.hm.arrowAt p x = some r ∧ (∃ t ms, r.2.2 = [t, tupsD rows, ms]) ∧
  Dq H u (.tuple (f.map .int)) ∧ f.length = rows.length + 1 ∧ w.start.length = rows.length ∧ (∀ r ∈ rows, r.length = rows.length + 1) ∧ (∀ i ∈ f, smI i) ∧
  ∀ H' v', Same H H' → Dq H' v' (.tuple ((ledF f rows).map .int)) → Q v' H'
abbrev nBack : List Str := ["_law_w", "_law_p", "_law_x", "_law_one", "_law_found", "_law_much", "_law_form_now", "_law_k", "_law_number"]
section
variable {P : Program} {w : World} {K : PySem.W.Frag} {mg : Str → Option Value} {base : Heap}
theorem scBack : FnScope nBack ["_law_w", "_law_p", "_law_x", "_law_one"] (defScope lBack) := ⟨rfl, rfl, rfl, by decide +kernel, rfl, by decide +kernel, by decide +kernel⟩
theorem ok_back {f : Addr} {fd : FuncData} (F : Fun K "_law_back" "_law_back" lBack f fd) (mt : mg "tuple" = none) (ml : mg "len" = none) (mz : mg "zip" = none) (me : mg "enumerate" = none) : FnOk P w K mg base CX0 1 f fd ["_law_w", "_law_p", "_law_x", "_law_one"] spBack := by
  refine F.ok scBack (fun vs H Q E h => ?_) (fun cdv A outer s H vs Q E hr h => ?_)
  · obtain ⟨wd, p, x, u, w, r, rows, f, rfl, _⟩ := h
    rfl
  · obtain ⟨wd, p, x, u, lw, r, rows, f, rfl, ⟨vs', hw, hP⟩, gw, ea, ⟨t, ms, er⟩, hu', lf, ls, rl, sm, k⟩ := h
    have nd := scBack.nd
    have hu := hu_of hr
    have n3 := gw.n3
    have n1 := gw.n1
    refine ⟨_, C8.pss_cut (ps_set (i := 4) nd rfl (.inl rfl) (pe_op op_cat (pe_lst (pa_cons (pe_ix (r := rIxT K) ix_tup (pv 3) pe_int (fun _ _ => rfl)) pa_nil)) (pe_op op_rep (pe_lst (pa_cons pe_int pa_nil)) (pe_callB call_len_seq (by rfl) ml PySem.boot_len (pa_cons (pe_dget hu (pv 0) pe_str (fun _ _ => rfl)) pa_nil)))))
      (C8.pss_cut (ps_for PassesOwn.never rfl (RZ.pi_zipA (by rfl) mz (pa_cons (pe_slice (r := rSlT K) sl_tup (pv 3) (po_some pe_int) po_none) (pa_cons (pe_ix (r := rIxT K) ix_tup (pe_dget hu (pe_dget hu (pv 0) pe_str (fun _ _ => rfl)) (pe_tup (pa_cons (pv 1) (pa_cons (pv 2) pa_nil))) (fun _ _ => rfl)) pe_int (fun _ _ => rfl)) pa_nil)))
          (pg_tup rfl (pgs_cons (pg_name (i := 5) nd rfl (.inl rfl)) (pgs_cons (pg_name (i := 6) nd rfl (.inl rfl)) pgs_nil)))
        (pss_one (ps_for PassesOwn.never rfl (pi_enumT (by rfl) me (pa_cons (pv 6) pa_nil)) (pg_tup rfl (pgs_cons (pg_name (i := 7) nd rfl (.inl rfl)) (pgs_cons (pg_name (i := 8) nd rfl (.inl rfl)) pgs_nil)))
          (pss_one (ps_asg (pe_op op_add (pe_ix (r := rIxL K) ix_list (pv 4) (pv 7) (fun _ _ => rfl)) (pe_op op_mul (pv 5) (pv 8))) (pg_sub (pv 4) (pv 7) set_list))))))
      (pss_one (ps_ret (pe_tupleOf (by rfl) mt (pv 4))))), ?_⟩
    obtain ⟨d, s', e, r', kvs, tq, lk', rfl, q1, q2, q3, q4, q5, q6, q7⟩ := id hP
    obtain ⟨a, xs, rfl, ha, qa⟩ := tup_at hu'
    have ex := ints_inv qa
    subst ex
    match f, lf, sm, ha with
    | c :: ks, lf, sm, ha =>
    have lk : ks.length = rows.length := by simpa using lf
    obtain ⟨v, ev, hv⟩ := (valV_arrow p x q5).2 r ea
    obtain ⟨b, us, rfl, eb, qb⟩ := tup_at hv
    rw [er] at qb
    cases qb with | cons w0 qb =>
    cases qb with | @cons fv _ _ _ w1 qb =>
    cases qb with | cons w2 qb =>
    cases qb
    obtain ⟨fa, fz, rfl, hfa, hfz⟩ := tup_at w1
    have lfz : fz.length = rows.length := by rw [dq_len hfz, List.length_map]
    have row_of : ∀ {i : Nat} {z : V}, fz[i]? = some z → ∃ (m : Addr) (ro : List Int), z = .ref m ∧ rows[i]? = some ro ∧ H m = some (.tup (ro.map V.int)) := by
      intro i z hz
      obtain ⟨d', hd', hq'⟩ := DqAll.at hfz hz
      rw [List.getElem?_map] at hd'
      cases em : rows[i]? with
      | none =>
        rw [em] at hd'
        cases hd'
      | some ro =>
        rw [em] at hd'
        cases hd'
        obtain ⟨m, rfl, hm⟩ := row_ints hq'
        exact ⟨m, ro, rfl, rfl, hm⟩
    refine ⟨fun σ H1 => ∃ D, σ = [some (.ref wd), some (.int p), some (.str x), some (.ref a), some (.ref D), none, none, none, none] ∧ H D = none ∧ MadeTo H D ((c :: List.replicate ks.length 0).map V.int) H1, ?_, ?_⟩
    · refine ⟨_, rfl, a, _, 0, .int c, rfl, rfl, SqT.of ha, atI_nat (j := 0) rfl, (by show 1 ≤ sizeLine; decide), fun l1 n1' => ?_⟩
      have S1 := same_new (o := .lst [V.int c]) n1'
      have h1 : upd H l1 (.lst [V.int c]) l1 = some (.lst [V.int c]) := upd_same
      revert S1 h1
      generalize upd H l1 (.lst [V.int c]) = H1
      intro S1 h1
      refine ⟨(by show 1 ≤ sizeLine; decide), fun l2 n2 => ?_⟩
      have S2 := same_new (o := .lst [V.int 0]) n2
      have h2 : upd H1 l2 (.lst [V.int 0]) l2 = some (.lst [V.int 0]) := upd_same
      revert S2 h2
      generalize upd H1 l2 (.lst [V.int 0]) = H2
      intro S2 h2
      obtain ⟨sa, ss, rfl, hsa, hss⟩ := list_at q2
      have lss : ss.length = ks.length := by rw [dq_len hss, List.length_map, ls, lk]
      have SS := S1.trans S2
      refine ⟨_, rfl, wd, _, rfl, wg_start (SS _ _ hw), sa, _, rfl, .inl (SqL.of (SS _ _ hsa)), l2, _, [V.int 0], rfl, rfl, h2, by omega, by omega, ?_, fun l3 n3' => ?_⟩
      · show 1 * _ ≤ sizeLine
        rw [sizeLine_eq]
        omega
      · have S3 := same_new (o := .lst (List.replicate ((ss.length : Int)).toNat [V.int 0]).flatten) n3'
        refine ⟨l1, l3, _, _, rfl, rfl, S3 _ _ (S2 _ _ h1), upd_same, ?_, fun D nD => ?_⟩
        · rw [rep_zero, List.length_map, List.length_replicate, sizeLine_eq]
          show 1 + _ ≤ _
          omega
        · have SD := (SS.trans S3).trans (same_new (o := .lst ([V.int c] ++ (List.replicate ((ss.length : Int)).toNat [V.int 0]).flatten)) nD)
          refine ⟨D, rfl, ?_, SD, ?_⟩
          · cases z : H D with
            | none => rfl
            | some o =>
              have := S3 _ _ (SS _ _ z)
              rw [nD] at this
              cases this
          · rw [upd_same, rep_zero, show ((ss.length : Int)).toNat = ks.length by omega]
            rfl
    rintro σ1 H1 ⟨D, rfl, nD, M1⟩
    have lens : ∀ i, (ledTo (c :: List.replicate ks.length 0) ((ks.zip rows).take i)).length = rows.length + 1 := fun i => ledTo_len _ _ (by rw [List.length_cons, List.length_replicate, lk]) fun r hr => rl _ (List.of_mem_zip (List.mem_of_mem_take hr)).2
    refine ⟨fun σ H2 => ∃ o5 o6 o7 o8, σ = [some (.ref wd), some (.int p), some (.str x), some (.ref a), some (.ref D), o5, o6, o7, o8] ∧ MadeTo H D ((ledF (c :: ks) rows).map V.int) H2, ?_, ?_⟩
    · refine ⟨_, rfl, _, rfl, a, _, rfl, SqT.of (M1.1 _ _ ha), not_rest _ _, fun sd nsd => ?_⟩
      rw [show cutV (List.map V.int (c :: ks)) (some 1) none = ks.map V.int from cut_rest _ _]
      have S2 := same_new (o := .tup (ks.map V.int)) nsd
      have hd : upd H1 sd (.tup (ks.map V.int)) sd = some (.tup (ks.map V.int)) := upd_same
      have M2 : MadeTo H D ((c :: List.replicate ks.length 0).map V.int) (upd H1 sd (.tup (ks.map V.int))) := ⟨M1.1.trans S2, S2 _ _ M1.2⟩
      revert hd M2
      generalize upd H1 sd (.tup (ks.map V.int)) = H2
      intro hd M2
      refine ⟨_, rfl, wd, _, rfl, wg_rows (M2.1 _ _ hw), _, rfl, _, rfl, (by show 2 ≤ sizeLine; decide), fun kq nkq => ?_⟩
      have S3 := same_new (o := .tup [V.int p, V.str x]) nkq
      have hk : upd H2 kq (.tup [V.int p, V.str x]) kq = some (.tup (([Sum.inl p, Sum.inr x] : List Key).map kV)) := upd_same
      have M3 : MadeTo H D ((c :: List.replicate ks.length 0).map V.int) (upd H2 kq (.tup [V.int p, V.str x])) := ⟨M2.1.trans S3, S3 _ _ M2.2⟩
      have hd := S3 _ _ hd
      revert hd M3 hk
      generalize upd H2 kq (.tup [V.int p, V.str x]) = H3
      intro hk M3 hd
      have nsdD : sd ≠ D := fun z => by
        rw [z, M3.2] at hd
        cases hd
      refine ⟨r', _, rfl, (by have := DGet.t (M3.1 _ _ q4) hk; rwa [ev] at this), b, _, 1, .ref fa, rfl, rfl, SqT.of (M3.1 _ _ eb), atI_nat (j := 1) rfl, sd, fa, ks.map V.int, fz, rfl, .inr ⟨SqT.of hd, SqT.of (M3.1 _ _ hfa), ?_⟩⟩
      refine for_it (walk_zipT (K := K) (a := sd) (b := fa) (xs := ks.map V.int) (ys := fz) (n := rows.length) (by rw [List.length_map]; omega)) (fun i σ H4 => ∃ o5 o6 o7 o8, σ = [some (.ref wd), some (.int p), some (.str x), some (.ref a), some (.ref D), o5, o6, o7, o8] ∧ MadeTo H D ((ledTo (c :: List.replicate ks.length 0) ((ks.zip rows).take i)).map V.int) H4 ∧ H4 sd = some (.tup (ks.map V.int))) ⟨none, none, none, none, rfl, M3, hd⟩ ?_ ?_ ?_
      · rintro i σ H4 _ ⟨o5, o6, o7, o8, rfl, M4, h4⟩
        exact ⟨SqT.of h4, SqT.of (M4.1 _ _ hfa)⟩
      · rintro i u σ H4 H4' hi ⟨o5, o6, o7, o8, rfl, M4, h4⟩ ⟨T, y, z, rfl, nT, rfl, ey, ez⟩
        obtain ⟨n1, e1, rfl⟩ := int_get ey
        obtain ⟨m, ro, rfl, e2, hm⟩ := row_of ez
        have S5 := same_new (o := .tup [.int n1, .ref m]) nT
        have s1 := sm n1 (List.mem_cons_of_mem _ (List.mem_of_getElem? e1))
        have lro := rl ro (List.mem_of_getElem? e2)
        have eacc := lens i
        have etk : ledTo (c :: List.replicate ks.length 0) ((ks.zip rows).take (i + 1)) = List.zipWith (addF n1) (ledTo (c :: List.replicate ks.length 0) ((ks.zip rows).take i)) ro := by
          rw [take_more (a := (n1, ro)) (by rw [List.getElem?_zip_eq_some]; exact ⟨e1, e2⟩), ledTo_snoc]
        rw [etk]
        revert M4 eacc
        generalize ledTo (c :: List.replicate ks.length 0) ((ks.zip rows).take i) = acc
        intro M4 eacc
        have M5 : MadeTo H D (acc.map V.int) (upd H4 T (.tup [.int n1, .ref m])) := ⟨M4.1.trans S5, S5 _ _ M4.2⟩
        have h5 := S5 _ _ h4
        refine ⟨T, _, rfl, SqT.of upd_same, rfl, _, _, rfl, _, _, rfl, rfl, ?_⟩
        revert M5 h5
        generalize upd H4 T (.tup [.int n1, .ref m]) = H5
        intro M5 h5
        have lar : acc.length = ro.length := by omega
        refine ⟨_, rfl, m, _, rfl, SqT.of (M5.1 _ _ hm), ?_⟩
        refine for_it (walk_enumT (K := K) (a := m) (xs := ro.map V.int)) (fun j σ H6 => ∃ o7 o8, σ = [some (.ref wd), some (.int p), some (.str x), some (.ref a), some (.ref D), some (.int n1), some (.ref m), o7, o8] ∧ MadeTo H D ((midL n1 acc ro j).map V.int) H6 ∧ H6 sd = some (.tup (ks.map V.int))) ⟨o7, o8, rfl, M5, h5⟩ ?_ ?_ ?_
        · rintro j σ H6 _ ⟨o7, o8, rfl, M6, h6⟩
          exact SqT.of (M6.1 _ _ hm)
        · rintro j u σ H6 H6' hj ⟨o7, o8, rfl, M6, h6⟩ ⟨T2, y2, z2, rfl, nT2, rfl, ey2, ez2⟩
          cases ey2
          obtain ⟨n2, en2, rfl⟩ := int_get ez2
          have hj : j < ro.length := by rwa [List.length_map] at hj
          have S7 := same_new (o := .tup [.int (j : Nat), .int n2]) nT2
          have M7 : MadeTo H D ((midL n1 acc ro j).map V.int) (upd H6 T2 (.tup [.int (j : Nat), .int n2])) := ⟨M6.1.trans S7, S7 _ _ M6.2⟩
          have h7 := S7 _ _ h6
          refine ⟨T2, _, rfl, SqT.of upd_same, rfl, _, _, rfl, _, _, rfl, rfl, ?_⟩
          revert M7 h7
          generalize upd H6 T2 (.tup [.int (j : Nat), .int n2]) = H7
          intro M7 h7
          have eac : acc[j]? = some acc[j] := List.getElem?_eq_getElem (by omega)
          have emg := mid_get (k := n1) lar hj eac
          refine ⟨_, rfl, _, rfl, D, _, _, .int acc[j], rfl, rfl, SqL.of M7.2, atI_nat (by rw [List.getElem?_map, emg]; rfl), _, rfl, _, rfl, _, _, rfl, rfl, .inl (smI_mul s1), _, _, rfl, rfl, _, rfl, _, rfl, D, _, _, j, rfl, rfl, M7.2, ixN_nat (by rw [List.length_map, mid_len lar (by omega)]; exact hj), ?_⟩
          rw [set_ints, mid_set lar eac en2]
          refine ⟨_, _, rfl, ⟨fun x o hx => ?_, upd_same⟩, ?_⟩
          · rw [upd_ne (ne_of_none hx nD)]
            exact M7.1 _ _ hx
          · rw [upd_ne nsdD]
            exact h7
        · rintro σ H6 ⟨o7, o8, rfl, M6, h6⟩
          rw [List.length_map, mid_end lar] at M6
          exact ⟨_, _, _, _, rfl, M6, h6⟩
      · rintro σ H4 ⟨o5, o6, o7, o8, rfl, M4, h4⟩
        rw [List.take_of_length_le (by rw [List.length_zip]; omega)] at M4
        exact ⟨_, _, _, _, rfl, M4⟩
    rintro σ2 H2 ⟨o5, o6, o7, o8, rfl, M2⟩
    refine ⟨_, rfl, .inl ⟨D, _, rfl, SqL.of M2.2, fun e1 ne1 => ?_⟩⟩
    exact k _ _ (M2.1.trans (same_new ne1)) (.tup upd_same (ints_dq _))
end
end KL
set_option Elab.async false
set_option linter.all false
set_option maxRecDepth 100000
set_option maxHeartbeats 16000000
namespace KL
open PySem L2 PySem.KX PySem.Spec PyProof.Rows
/-! ### the law's forms and what is none -/
theorem cut_init (xs : List V) (x : V) : cutV (xs ++ [x]) none (some (-1)) = xs := by
  have e1 : HT.sIx (xs ++ [x]).length 0 none = 0 := rfl
  have e2 : HT.sIx (xs ++ [x]).length (xs ++ [x]).length (some (-1)) = xs.length := by
    unfold HT.sIx
    rw [List.length_append]
    show (if (-1 : Int) < 0 then ((-1 : Int) + ((xs.length + 1 : Nat) : Int)).toNat else _) = xs.length
    rw [if_pos (by decide)]
    omega
  unfold cutV
  rw [e1, e2, List.drop_zero, Nat.sub_zero]
  exact List.take_left
theorem not_init (xs : List V) (x : V) : ¬ (HT.sIx (xs ++ [x]).length 0 none = 0 ∧ HT.sIx (xs ++ [x]).length (xs ++ [x]).length (some (-1)) = (xs ++ [x]).length) := fun ⟨_, z⟩ => by
  have e2 : HT.sIx (xs ++ [x]).length (xs ++ [x]).length (some (-1)) = xs.length := by
    unfold HT.sIx
    rw [List.length_append]
    show (if (-1 : Int) < 0 then ((-1 : Int) + ((xs.length + 1 : Nat) : Int)).toNat else _) = xs.length
    rw [if_pos (by decide)]
    omega
  rw [e2, List.length_append] at z
  have z : xs.length = xs.length + 1 := z
  omega
theorem no_part {σ : L2.St} {H : Hp} {Q : Option Int → Hp → Prop} (h : Q none H) : tNoPart σ H Q := h
theorem sl_rest_d {K : PySem.W.Frag} {H : Hp} {a : Addr} {x : V} {xs : List V} {ds : List PyData} {R : VK} (ha : H a = some (.tup (x :: xs))) (q : DqAll H xs ds) (h : ∀ H' v', Same H H' → Dq H' v' (.tuple ds) → R v' H') : rSlT K (.ref a) (some 1) none H R :=
  ⟨a, _, rfl, SqT.of ha, not_rest _ _, fun p np => by
    rw [cut_rest]
    exact h _ _ (same_new np) (dq_new np q)⟩
theorem sl_init_d {K : PySem.W.Frag} {H : Hp} {a : Addr} {x : V} {xs : List V} {ds : List PyData} {R : VK} (ha : H a = some (.tup (xs ++ [x]))) (q : DqAll H xs ds) (h : ∀ H' v', Same H H' → Dq H' v' (.tuple ds) → R v' H') : rSlT K (.ref a) none (some (-1)) H R :=
  ⟨a, _, rfl, SqT.of ha, not_init _ _, fun p np => by
    rw [cut_init]
    exact h _ _ (same_new np) (dq_new np q)⟩
theorem catA_d {K : PySem.W.Frag} {x y : V} {H : Hp} {ds es : List PyData} {R : VK} (qa : Dq H x (.tuple ds)) (qb : Dq H y (.tuple es)) (hz : ds.length + es.length ≤ 1000) (h : ∀ H' v', Same H H' → Dq H' v' (.tuple (ds ++ es)) → R v' H') : rCatA K x y H R := by
  obtain ⟨a, xs, rfl, ha, ea⟩ := tup_at qa
  obtain ⟨b, ys, rfl, hb, eb⟩ := tup_at qb
  refine catA_same ha hb ea eb ?_ h
  rw [dq_len ea, dq_len eb, sizeLine_eq]
  omega
theorem smAll_of : ∀ {ds : List PyData}, (∀ d ∈ ds, smB d = true) → smAll ds = true
  | [], _ => rfl
  | d :: r, h => Bool.and_eq_true_iff.mpr ⟨h d (.head _), smAll_of fun x hx => h x (.tail _ hx)⟩
theorem smAll_at : ∀ {ds : List PyData}, smAll ds = true → ∀ d ∈ ds, smB d = true
  | e :: r, h, d, m => by
    have h := Bool.and_eq_true_iff.mp (show (smB e && smAll r) = true from h)
    rcases List.mem_cons.mp m with rfl | m
    · exact h.1
    · exact smAll_at h.2 d m
theorem sm_tup {ds : List PyData} (l : ds.length ≤ 1000) (h : ∀ d ∈ ds, smB d = true) : smB (.tuple ds) = true := Bool.and_eq_true_iff.mpr ⟨decide_eq_true l, smAll_of h⟩
theorem sm_lst {ds : List PyData} (l : ds.length ≤ 1000) (h : ∀ d ∈ ds, smB d = true) : smB (.list ds) = true := Bool.and_eq_true_iff.mpr ⟨decide_eq_true l, smAll_of h⟩
theorem sm_small {ns : List Int} (h : ∀ i ∈ ns, -10 ≤ i ∧ i ≤ 10) : ∀ d ∈ ns.map PyData.int, smB d = true := fun d hd => by
  obtain ⟨i, hi, rfl⟩ := List.mem_map.mp hd
  have := h i hi
  exact (sm_wd _ (Nat.le_trans (gd_int (i := i) (by omega) (by omega)).wd (by decide))).1
/-- a tuple of so many items -/
def tupL (n : Int) : PyData → Bool
  | .tuple ds => decide ((ds.length : Int) = n + 1)
  | _ => false
/-- the law's own question: a tuple of so many items, and none that is no number -/
theorem form_due (n : Int) (ds : List PyData) : formD n (.tuple ds) = (decide ((ds.length : Int) = n + 1) && ds.all intD) := rfl
def spFR : Sp := fun vs H Q _ => ∃ (H0 : Hp) (p l : Addr) (t : Int) (n : Nat) (v : V) (ks : List Int), vs = [.ref p, .int (n : Int), v] ∧ DeckAt H0 H p l t ∧ 0 ≤ t ∧ t < 1000000 ∧ 1 ≤ n ∧ n ≤ 3 ∧ Dq H0 v (.tuple (ks.map .int)) ∧
  ∀ H' t', DeckAt H0 H' p l t' → t ≤ t' → t' ≤ t + 4 → Q (.bl true) H'
structure TxtFR (mg : Str → Option Value) : Prop where
  b : TxtB mg
  list : mg "list" = none
  repr : mg "repr" = none
abbrev nFormsR : List Str := ["_law_deck_here", "_law_size", "_law_at", "_law_one", "_law_odd", "_law_it", "_law_due", "_law_x"]
theorem seen_bools (b : Bool) : Seen (.list [.bool b, .bool b]) := by
  cases b <;> exact ⟨rfl, by decide +kernel, by decide⟩
section
variable {P : Program} {w : World} {K : PySem.W.Frag} {mg : Str → Option Value} {base : Heap}
theorem scFormsR : FnScope nFormsR ["_law_deck_here", "_law_size", "_law_at"] (defScope lFormsR) := ⟨rfl, rfl, rfl, by decide +kernel, rfl, by decide +kernel, by decide +kernel⟩
theorem ok_formsR {f g1 g2 g3 g4 : Addr} {fd d1 d2 d3 d4 : FuncData} (F : Fun K "_law_forms_right" "_law_forms_right" lFormsR f fd) (T : TxtFR mg)
    (G1 : FnOk P w K mg base CX0 3 g1 d1 ["_law_deck_here", "_law_size"] spLook) (c1 : Cal K mg "_law_look" g1 d1 ["_law_deck_here", "_law_size"])
    (G2 : FnOk P w K mg base CX0 2 g2 d2 ["count", "thing"] spForm) (c2 : Cal K mg "is_form" g2 d2 ["count", "thing"]) (k2 : KBinds K d2 ["count", "thing"] ["thing", "count"] gR gRV)
    (G3 : FnOk P w K mg base CX0 1 g3 d3 ["form", "values"] spValueOf) (c3 : Cal K mg "value_of" g3 d3 ["form", "values"]) (k3 : KBinds K d3 ["form", "values"] ["values", "form"] gR gRV)
    (G4 : FnOk P w K mg base CX0 1 g4 d4 ["_law_one", "_law_at"] spValueOf) (c4 : Cal K mg "_law_value" g4 d4 ["_law_one", "_law_at"]) :
    FnG P w K mg base CX0 4 f fd ["_law_deck_here", "_law_size", "_law_at"] spFR := by
  refine fnG0 F scFormsR (fun vs H Q E h => ?_) (fun cdv A outer s H vs Q E hG hr h => ?_)
  · obtain ⟨H0, p, l, t, n, v, ks, rfl, _⟩ := h
    rfl
  · obtain ⟨H0, p, l, t, n, v, ks, rfl, D, t0, t1, n1, n3, hv, k⟩ := h
    have nd := scFormsR.nd
    let X0 : Cx := (cxOf CX0 P w K mg base nFormsR "_law_forms_right" (defScope lFormsR) f cdv A outer s H E).nox
    have r2 : Room 2 _ := hr.mono (by decide)
    have r1 : Room 1 _ := hr.mono (by decide)
    refine ⟨_, C8.pss_cut (ps_set (i := 3) nd rfl (.inl rfl) (pe_call G1 hr (by rfl) c1.m c1.k c1.b .nil pass0 (pa_cons (pv 0) (pa_cons (pv 1) pa_nil))))
      (C8.pss_cut (ps_set (i := 4) nd rfl (.inl rfl) (pe_lst (pa_cons (pv 3) (pa_cons (pe_callTy call_list_of (by rfl) T.list (by decide +kernel) (pa_cons (pv 3) pa_nil))
          (pa_cons (pe_slice (r := rSlT K) sl_tup (pv 3) (po_some pe_int) po_none)
          (pa_cons (pe_op (r := rCatA K) op_catA (pv 3) (pe_tup (pa_cons pe_int pa_nil)))
          (pa_cons (pe_op (r := rCatA K) op_catA (pe_tup (pa_cons pe_bl pa_nil)) (pe_slice (r := rSlT K) sl_tup (pv 3) (po_some pe_int) po_none))
          (pa_cons (pe_op (r := rCatA K) op_catA (pe_slice (r := rSlT K) sl_tup (pv 3) po_none (po_some (pe_un un_neg pe_int))) (pe_tup (pa_cons pe_non pa_nil)))
          (pa_cons (pe_tup pa_nil) (pa_cons pe_non (pa_cons pe_int (pa_cons pe_str (pa_cons pe_dnewK (pa_cons (pe_tup (pa_cons (pv 3) pa_nil)) pa_nil))))))))))))))
      (C8.pss_cut (ps_for PassesOwn.never rfl (pi_list (pe_op op_cat (pv 4) (pe_lst (pa_cons (pe_op op_repU (pe_tup (pa_cons (pe_op op_pow pe_int pe_int) pa_nil)) (pe_op op_add (pv 1) pe_int))
          (pa_cons (pe_op (r := rCatA K) op_catA (pe_slice (r := rSlT K) sl_tup (pv 3) po_none (po_some (pe_un un_neg pe_int))) (pe_tup (pa_cons pe_str pa_nil)))
          (pa_cons (pe_op (r := rCatA K) op_catA (pe_slice (r := rSlT K) sl_tup (pv 3) po_none (po_some (pe_un un_neg pe_int))) (pe_tup (pa_cons (pe_tup pa_nil) pa_nil))) pa_nil)))))) (pg_name (i := 5) nd rfl (.inl rfl))
        (C8.pss_cut (ps_set (i := 6) nd rfl (.inl rfl) (pe_and (pe_callB call_isD (by rfl) T.b.isi (by decide +kernel) (pa_cons (pv 5) (pa_cons (pe_bltn (v := .ty "tuple") (by rfl) T.b.tuple (by decide +kernel) rfl) pa_nil)))
          (pe_one (pe_cmpR op_eq (pe_callB call_len_seq (by rfl) T.b.len PySem.boot_len (pa_cons (pv 5) pa_nil)) (pe_op op_add (pv 1) pe_int) (nomark _)))))
        (C8.pss_cut (ps_set (i := 6) nd rfl (.inl rfl) (pe_and (pv 6) (pe_one (pe_cmpR (op_eqNil hr.units) (pe_lc (own := [("_law_x", 7)]) (g := gName 7) rfl nd (pi_tup (pv 5)) (blkOk_by (N := nFormsR) (sc := defScope lFormsR) (by decide +kernel)) (fun _ _ _ _ _ => pg_name (i := 7) nd rfl (.inl rfl))
            (fun _ _ _ _ _ => pts_one (PW.pt (pw_or (pt_not (pt_val (pe_callB call_isD (by rfl) T.b.isi (by decide +kernel) (pa_cons (pv 7) (pa_cons (pe_bltn (v := .ty "int") (by rfl) T.b.int (by decide +kernel) rfl) pa_nil)))))
              (pw_or1 (pt_val (pe_callB call_isD (by rfl) T.b.isi (by decide +kernel) (pa_cons (pv 7) (pa_cons (pe_bltn (v := .ty "bool") (by rfl) T.b.bool (by decide +kernel) rfl) pa_nil)))))))) (fun _ _ _ _ _ => pv 7)) (pe_lst pa_nil) (nomark _)))))
        (pss_one (ps_if (pt_cmpR op_ne (pe_callB (call_repL (X := X0) hG hr.units) (by rfl) T.repr (by decide +kernel) (pa_cons (pe_lst (pa_cons (pe_call G2 r2 (by rfl) c2.m c2.k c2.b .nil pass0 (pa_cons (pv 1) (pa_cons (pv 5) pa_nil)))
              (pa_cons (pe_callKS0 G2 r2 (by rfl) c2.m c2.k k2 passAt0 (pk_cons (pv 5) (pk_cons (pv 1) pk_nil))) pa_nil))) pa_nil))
            (pe_callB (call_repL (X := X0) hG hr.units) (by rfl) T.repr (by decide +kernel) (pa_cons (pe_lst (pa_cons (pv 6) (pa_cons (pv 6) pa_nil))) pa_nil)) (nomark _)) (pss_one (ps_ret pe_bl)) pss_nil)))))
      (pss_one (ps_ret (pe_cmpR (op_eqD hr.units) (pe_lst (pa_cons (pe_call G3 r1 (by rfl) c3.m c3.k c3.b .nil pass0 (pa_cons (pv 3) (pa_cons (pv 2) pa_nil))) (pa_cons (pe_callKS0 G3 r1 (by rfl) c3.m c3.k k3 passAt0 (pk_cons (pv 2) (pk_cons (pv 3) pk_nil))) pa_nil)))
        (pe_op op_rep (pe_lst (pa_cons (pe_call G4 r1 (by rfl) c4.m c4.k c4.b .nil pass0 (pa_cons (pv 3) (pa_cons (pv 2) pa_nil))) pa_nil)) pe_int) (nomark _)))))), ?_⟩
    refine ⟨fun σ H1 => ∃ (Ha : Hp) (t' : Int) (a : Addr) (ns : List Int), σ = [some (.ref p), some (.int (n : Int)), some v, some (.ref a), none, none, none, none] ∧ Go p l H0 H t Ha H1 t' 4 ∧ Ha a = some (.tup (ns.map V.int)) ∧ ns.length = n + 1 ∧ (∀ i ∈ ns, -10 ≤ i ∧ i ≤ 10), ?_, ?_⟩
    · refine ⟨_, rfl, _, rfl, H0, p, l, t, n, rfl, D, t0, t1, n1, n3, fun H1 H' t' v1 d g hd hF => ?_⟩
      obtain ⟨ns, rfl, ln, sn⟩ := hF
      obtain ⟨a, rfl, ha⟩ := row_ints hd
      exact ⟨H1, t', a, ns, rfl, g, ha, by omega, sn⟩
    rintro σ1 H1 ⟨Ha, t', a, ns, rfl, g, ha', ln, sn⟩
    have k : ∀ H', Same H1 H' → Q (.bl true) H' := fun H' S => k H' t' ((g.d.mono S).less g.s) g.t0 g.t1
    have hv : Dq H1 v (.tuple (ks.map .int)) := Dq.same (g.s.trans g.d.s) _ _ hv
    have ha := g.d.s _ _ ha'
    clear g ha' D
    have hone : Dq H1 (.ref a) (.tuple (ns.map .int)) := .tup ha (ints_dq _)
    -- the odd ones
    refine ⟨fun σ H2 => ∃ (O : Addr) (ys : List V) (ds : List PyData), σ = [some (.ref p), some (.int (n : Int)), some v, some (.ref a), some (.ref O), none, none, none] ∧ Same H1 H2 ∧ H2 O = some (.lst ys) ∧ DqAll H2 ys ds ∧ ds.length = 12 ∧ smAll ds = true, ?_, ?_⟩
    · obtain ⟨c, as, rfl⟩ : ∃ c as, ns = c :: as := by
        cases ns with
        | nil => simp at ln
        | cons c as => exact ⟨c, as, rfl⟩
      obtain ⟨is, z, ez⟩ : ∃ is z, (c :: as) = is ++ [z] := ⟨(c :: as).dropLast, (c :: as).getLast (by simp), (List.dropLast_concat_getLast (by simp)).symm⟩
      have hi : H1 a = some (.tup (is.map V.int ++ [V.int z])) := by
        rw [ha, ez, List.map_append]
        rfl
      have las : as.length ≤ 3 := by
        have : as.length + 1 = n + 1 := ln
        omega
      have lis : is.length ≤ 3 := by
        have e := congrArg List.length ez
        rw [List.length_append] at e
        have e : as.length + 1 = is.length + 1 := e
        omega
      have mall := sm_small sn
      have mas : ∀ d ∈ as.map PyData.int, smB d = true := fun d hd => mall d (.tail _ hd)
      have mis : ∀ d ∈ is.map PyData.int, smB d = true := fun d hd => mall d (by
        rw [ez, List.map_append]
        exact List.mem_append_left _ hd)
      refine ⟨_, rfl, _, rfl, a, _, rfl, .inr (SqT.of ha), fun l1 nl1 => ?_⟩
      have A1 : DqAll (upd H1 l1 (.lst ((c :: as).map V.int))) ([.ref a] ++ [.ref l1]) ([.tuple ((c :: as).map .int)] ++ [.list ((c :: as).map .int)]) := (DqAll.same (same_new nl1) _ _ (.cons hone .nil)).snoc (.lst upd_same (ints_dq _))
      have T1 := same_new (o := .lst ((c :: as).map V.int)) nl1
      revert A1 T1
      generalize upd H1 l1 (.lst ((c :: as).map V.int)) = H2
      intro A1 T1
      refine ⟨_, rfl, _, rfl, no_part (sl_rest_d (T1 _ _ ha) (ints_dq as) fun H3 v3 S3 q3 => ?_)⟩
      have A2 := (DqAll.same S3 _ _ A1).snoc q3
      have T2 := T1.trans S3
      refine ⟨_, rfl, (by show 1 ≤ sizeLine; decide), fun u nu => catA_d (Dq.same (T2.trans (same_new nu)) _ _ hone) (dq_new nu (.cons (.int 0) .nil)) (by rw [List.length_map, ln]; show n + 1 + 1 ≤ _; omega) fun H4 v4 S4 q4 => ?_⟩
      have A3 := (DqAll.same ((same_new nu).trans S4) _ _ A2).snoc q4
      have T3 := T2.trans ((same_new nu).trans S4)
      clear A1 A2 T1 T2 S3 S4 q3 q4 nu
      refine ⟨(by show 1 ≤ sizeLine; decide), fun u nu => ⟨_, rfl, _, rfl, no_part (sl_rest_d ((T3.trans (same_new nu)) _ _ ha) (ints_dq as) fun H5 v5 S5 q5 => catA_d (Dq.same S5 _ _ (dq_new (ds := [.bool true]) nu (.cons (.bl true) .nil))) q5 (by rw [List.length_map]; show 1 + _ ≤ _; omega) fun H6 v6 S6 q6 => ?_)⟩⟩
      have A4 := (DqAll.same (((same_new nu).trans S5).trans S6) _ _ A3).snoc q6
      have T4 := T3.trans (((same_new nu).trans S5).trans S6)
      clear A3 T3 S5 S6 q5 q6 nu
      refine ⟨_, rfl, _, rfl, _, rfl, sl_init_d (T4 _ _ hi) (ints_dq is) fun H7 v7 S7 q7 => ⟨(by show 1 ≤ sizeLine; decide), fun u nu => catA_d (Dq.same (same_new nu) _ _ q7) (dq_new nu (.cons .non .nil)) (by rw [List.length_map]; show _ + 1 ≤ _; omega) fun H8 v8 S8 q8 => ?_⟩⟩
      have A5 := (DqAll.same ((S7.trans (same_new nu)).trans S8) _ _ A4).snoc q8
      have T5 := T4.trans ((S7.trans (same_new nu)).trans S8)
      clear A4 T4 S7 S8 q7 q8 nu
      refine ⟨(by show 0 ≤ sizeLine; decide), fun u1 nu1 => ?_⟩
      have A6 := ((((DqAll.same (same_new nu1) _ _ A5).snoc (dq_new (ds := []) nu1 .nil)).snoc .non).snoc (.int 0)).snoc (.str "a")
      have T6 := T5.trans (same_new (o := .tup []) nu1)
      intro u2 nu2
      have A7 := (DqAll.same (same_new nu2) _ _ A6).snoc (.dct0 upd_same)
      have T7 := T6.trans (same_new (o := .dK []) nu2)
      refine ⟨_, rfl, (by show 1 ≤ sizeLine; decide), fun u3 nu3 => ?_⟩
      have A8 := (DqAll.same (same_new nu3) _ _ A7).snoc (dq_new nu3 (.cons (Dq.same T7 _ _ hone) .nil))
      have T8 := T7.trans (same_new (o := .tup [.ref a]) nu3)
      refine ⟨(by show 12 ≤ sizeLine; decide), fun O nO => ?_⟩
      refine ⟨O, _, _, rfl, T8.trans (same_new nO), upd_same, DqAll.same (same_new nO) _ _ A8, rfl, ?_⟩
      have hb : ∀ {b : Bool} {l : List PyData}, smAll l = true → smAll (.bool b :: l) = true := fun h => h
      refine smAll_of fun d hd => ?_
      simp only [List.append_assoc, List.cons_append, List.nil_append, List.mem_cons, List.not_mem_nil, or_false] at hd
      have m0 : smB (.tuple ((c :: as).map PyData.int)) = true := sm_tup (by rw [List.length_map, ln]; omega) mall
      rcases hd with rfl | rfl | rfl | rfl | rfl | rfl | rfl | rfl | rfl | rfl | rfl | rfl
      · exact m0
      · exact sm_lst (by rw [List.length_map, ln]; omega) mall
      · exact sm_tup (by rw [List.length_map]; omega) mas
      · refine sm_tup (by rw [List.length_append, List.length_map, ln]; show _ + 1 ≤ _; omega) fun d hd => ?_
        rcases List.mem_append.mp hd with h | h
        · exact mall d h
        · rw [List.mem_singleton.mp h]
          decide +kernel
      · refine sm_tup (by rw [List.length_cons, List.length_map]; omega) fun d hd => ?_
        rcases List.mem_cons.mp hd with h | h
        · rw [h]
          rfl
        · exact mas d h
      · refine sm_tup (by rw [List.length_append, List.length_map]; show _ + 1 ≤ _; omega) fun d hd => ?_
        rcases List.mem_append.mp hd with h | h
        · exact mis d h
        · rw [List.mem_singleton.mp h]
          rfl
      · rfl
      · rfl
      · decide +kernel
      · decide +kernel
      · rfl
      · exact sm_tup (by show 1 ≤ 1000; omega) fun d hd => by
          rw [List.mem_singleton.mp hd]
          exact m0
    rintro σ2 H2 ⟨O, ys, ds, rfl, S2, hO, hys, lds, sds⟩
    refine ⟨fun σ H3 => ∃ o4 o5 o6, σ = [some (.ref p), some (.int (n : Int)), some v, some (.ref a), o4, o5, o6, none] ∧ Same H1 H3, ?_, ?_⟩
    · obtain ⟨is, z, ez⟩ : ∃ is z, ns = is ++ [z] := ⟨ns.dropLast, ns.getLast (by intro e; rw [e] at ln; simp at ln), (List.dropLast_concat_getLast _).symm⟩
      have hi : H1 a = some (.tup (is.map V.int ++ [V.int z])) := by
        rw [ha, ez, List.map_append]
        rfl
      have lis : is.length ≤ 3 := by
        have e := congrArg List.length ez
        rw [List.length_append] at e
        have e : ns.length = is.length + 1 := e
        omega
      have mis : ∀ d ∈ is.map PyData.int, smB d = true := fun d hd => sm_small sn d (by
        rw [ez, List.map_append]
        exact List.mem_append_left _ hd)
      have lys : ys.length = 12 := by rw [dq_len hys, lds]
      refine ⟨_, rfl, _, _, rfl, rfl, ⟨by decide, by decide, by decide⟩, (by show 1 ≤ sizeLine; decide), fun u0 nu0 => ?_⟩
      have hu0 : upd H2 u0 (.tup [V.int (10 ^ (39 : Int).toNat)]) u0 = some (.tup [V.int (10 ^ (39 : Int).toNat)]) := upd_same
      have T0 := same_new (o := .tup [V.int (10 ^ (39 : Int).toNat)]) nu0
      refine ⟨_, rfl, _, _, rfl, rfl, u0, _, _, rfl, rfl, SqT.of hu0, (fun q => nomatch q), by omega, by omega, (by show 1 ≤ 1000; decide), fun e => absurd e (by omega), fun _ u1 nu1 => ?_⟩
      have erep : ∀ (m : Nat) (x : V) (i : PyData) (H : Hp), Dq H x i → DqAll H (List.replicate m [x]).flatten (List.replicate m i) := fun m x i H hq => by
        induction m with
        | zero => exact .nil
        | succ m ih =>
          rw [List.replicate_succ, List.flatten_cons, List.replicate_succ]
          exact .cons hq ih
      have A1 := DqAll.same (T0.trans (same_new (o := .tup (List.replicate ((n : Int) + 1).toNat [V.int (10 ^ (39 : Int).toNat)]).flatten) nu1)) _ _ hys
      have B1 : DqAll (upd (upd H2 u0 (.tup [V.int (10 ^ (39 : Int).toNat)])) u1 (.tup (List.replicate ((n : Int) + 1).toNat [V.int (10 ^ (39 : Int).toNat)]).flatten)) [V.ref u1] [.tuple (List.replicate ((n : Int) + 1).toNat (.int (10 ^ (39 : Int).toNat)))] := .cons (dq_new nu1 (erep _ _ _ _ (.int _))) .nil
      have T1 := (S2.trans T0).trans (same_new (o := .tup (List.replicate ((n : Int) + 1).toNat [V.int (10 ^ (39 : Int).toNat)]).flatten) nu1)
      have hO1 := (T0.trans (same_new (o := .tup (List.replicate ((n : Int) + 1).toNat [V.int (10 ^ (39 : Int).toNat)]).flatten) nu1)) _ _ hO
      clear nu1 nu0 hu0 T0
      revert A1 B1 T1 hO1
      generalize upd (upd H2 u0 (.tup [V.int (10 ^ (39 : Int).toNat)])) u1 (.tup (List.replicate ((n : Int) + 1).toNat [V.int (10 ^ (39 : Int).toNat)]).flatten) = H3
      intro A1 B1 T1 hO1
      refine ⟨_, rfl, _, rfl, _, rfl, sl_init_d (T1 _ _ hi) (ints_dq is) fun H4 v4 S4 q4 => ⟨(by show 1 ≤ sizeLine; decide), fun u nu => catA_d (Dq.same (same_new nu) _ _ q4) (dq_new nu (.cons (.str "1") .nil)) (by rw [List.length_map]; show _ + 1 ≤ _; omega) fun H5 v5 S5 q5 => ?_⟩⟩
      have S35 := (S4.trans (same_new nu)).trans S5
      have A2 := DqAll.same S35 _ _ A1
      have B2 := (DqAll.same S35 _ _ B1).snoc q5
      have T2 := T1.trans S35
      have hO2 := S35 _ _ hO1
      clear A1 B1 T1 hO1 S35 S4 S5 q4 q5 nu
      refine ⟨_, rfl, _, rfl, _, rfl, sl_init_d (T2 _ _ hi) (ints_dq is) fun H6 v6 S6 q6 => ⟨(by show 0 ≤ sizeLine; decide), fun e ne => ⟨(by show 1 ≤ sizeLine; decide), fun u nu => catA_d (Dq.same ((same_new ne).trans (same_new nu)) _ _ q6) (dq_new nu (.cons (dq_new (ds := []) ne .nil) .nil)) (by rw [List.length_map]; show _ + 1 ≤ _; omega) fun H7 v7 S7 q7 => ?_⟩⟩⟩
      have S57 := ((S6.trans (same_new ne)).trans (same_new nu)).trans S7
      have A3 := DqAll.same S57 _ _ A2
      have B3 := (DqAll.same S57 _ _ B2).snoc q7
      have T3 := T2.trans S57
      have hO3 := S57 _ _ hO2
      clear A2 B2 T2 hO2 S57 S6 S7 q6 q7 nu ne
      refine ⟨(by show 3 ≤ sizeLine; decide), fun L2 nL2 => ⟨O, L2, _, _, rfl, rfl, (same_new nL2) _ _ hO3, upd_same, by rw [lys, sizeLine_eq]; show 12 + 3 ≤ _; omega, fun L nL => ?_⟩⟩
      refine ⟨L, rfl, ⟨_, SqL.of upd_same⟩, ?_⟩
      have SL := (same_new (o := .lst [V.ref u1, v5, v7]) nL2).trans (same_new (o := .lst (ys ++ [V.ref u1, v5, v7])) nL)
      have hL : upd (upd H7 L2 (.lst [V.ref u1, v5, v7])) L (.lst (ys ++ [V.ref u1, v5, v7])) L = some (.lst (ys ++ [V.ref u1, v5, v7])) := upd_same
      have A4 := (DqAll.same SL _ _ A3).app (DqAll.same SL _ _ B3)
      have T4 := T3.trans SL
      clear A3 B3 T3 hO3 SL nL nL2
      revert hL A4 T4
      generalize upd (upd H7 L2 (.lst [V.ref u1, v5, v7])) L (.lst (ys ++ [V.ref u1, v5, v7])) = H8
      intro hL A4 T4
      have sall : ∀ d ∈ ds ++ ([.tuple (List.replicate ((n : Int) + 1).toNat (.int (10 ^ (39 : Int).toNat)))] ++ [.tuple (is.map .int ++ [.str "1"])] ++ [.tuple (is.map .int ++ [.tuple []])]), smB d = true := fun d hd => by
        rcases List.mem_append.mp hd with h | h
        · exact smAll_at sds d h
        · simp only [List.cons_append, List.nil_append, List.mem_cons, List.not_mem_nil, or_false] at h
          rcases h with rfl | rfl | rfl
          · refine sm_tup (by rw [List.length_replicate]; omega) fun d hd => ?_
            rw [(List.mem_replicate.mp hd).2]
            decide +kernel
          · refine sm_tup (by rw [List.length_append, List.length_map]; show _ + 1 ≤ _; omega) fun d hd => ?_
            rcases List.mem_append.mp hd with h | h
            · exact mis d h
            · rw [List.mem_singleton.mp h]
              decide +kernel
          · refine sm_tup (by rw [List.length_append, List.length_map]; show _ + 1 ≤ _; omega) fun d hd => ?_
            rcases List.mem_append.mp hd with h | h
            · exact mis d h
            · rw [List.mem_singleton.mp h]
              rfl
      revert sall
      generalize ds ++ ([.tuple (List.replicate ((n : Int) + 1).toNat (.int (10 ^ (39 : Int).toNat)))] ++ [.tuple (is.map .int ++ [.str "1"])] ++ [.tuple (is.map .int ++ [.tuple []])]) = es at A4 ⊢
      intro sall
      refine for_list (K := K) (a := L) (xs := ys ++ [V.ref u1, v5, v7]) (fun i σ H' => ∃ o5 o6, σ = [some (.ref p), some (.int (n : Int)), some v, some (.ref a), some (.ref O), o5, o6, none] ∧ Same H8 H') ⟨none, none, rfl, Same.refl _⟩ (fun i σ H' _ ⟨o5, o6, _, S⟩ => SqL.of (S _ _ hL)) ?_ (fun σ H' ⟨o5, o6, e, S⟩ => ⟨_, o5, o6, e, T4.trans S⟩)
      rintro i x σ H9 hx ⟨o5, o6, rfl, S9⟩
      obtain ⟨d, hd, hq⟩ := DqAll.at A4 hx
      have sd := sall d (List.mem_of_getElem? hd)
      have hq := Dq.same S9 _ _ hq
      refine ⟨fun σ H' => σ = [some (.ref p), some (.int (n : Int)), some v, some (.ref a), some (.ref O), some x, some (.bl (tupL n d)), none] ∧ H' = H9, ?_, ?_⟩
      · refine ⟨_, rfl, x, d, "tuple", rfl, by decide, hq, _, rfl, ?_⟩
        cases hq with
        | tup e q =>
          refine iteYes rfl ⟨_, rfl, _, _, rfl, .inr (SqT.of e), _, rfl, _, _, rfl, rfl, rfl, ?_⟩
          refine ⟨?_, rfl⟩
          rename_i zs gs
          have e1 : decide (V.int (zs.length : Int) = V.int ((n : Int) + 1)) = tupL n (.tuple gs) := by
            show _ = decide ((gs.length : Int) = (n : Int) + 1)
            rw [dq_len q]
            exact decide_eq_decide.mpr ⟨fun z => by injection z, fun z => by rw [z]⟩
          rw [← e1]
          rfl
        | non => exact ⟨rfl, rfl⟩
        | bl _ => exact ⟨rfl, rfl⟩
        | int _ => exact ⟨rfl, rfl⟩
        | str _ => exact ⟨rfl, rfl⟩
        | lst _ _ => exact ⟨rfl, rfl⟩
        | dct0 _ => exact ⟨rfl, rfl⟩
        | dct1 _ => exact ⟨rfl, rfl⟩
      rintro σ4 H4 ⟨rfl, rfl⟩
      refine ⟨fun σ H' => σ = [some (.ref p), some (.int (n : Int)), some v, some (.ref a), some (.ref O), some x, some (.bl (formD n d)), none] ∧ Same H4 H', ?_, ?_⟩
      · refine ⟨_, rfl, _, rfl, ?_⟩
        by_cases ht : tupL n d = true
        · refine iteYes ht ?_
          cases hq with
          | tup e q =>
            rename_i b zs gs
            have lgs : ((gs.length : Int) = n + 1) := of_decide_eq_true ht
            refine ⟨_, rfl, b, rfl, ⟨_, SqT.of e⟩, fun D nD => ?_⟩
            refine lc_tup (K := K) (a := b) (xs := zs) (fun i H2 => ∃ rs, MadeTo H4 D rs H2 ∧ rs.isEmpty = (gs.take i).all intD ∧ rs.length ≤ i) ⟨[], ⟨same_new nD, upd_same⟩, rfl, Nat.le_refl _⟩ (fun i H2 _ ⟨rs, M, _⟩ => SqT.of (M.1 _ _ e)) ?_ ?_
            · rintro i y H2 hy ⟨rs, M, er, lr⟩
              obtain ⟨g, hg, hgq⟩ := DqAll.at q hy
              have hgq := Dq.same M.1 _ _ hgq
              have etk : (gs.take (i + 1)).all intD = ((gs.take i).all intD && intD g) := by
                rw [take_more hg, List.all_append, List.all_cons, List.all_nil, Bool.and_true]
              have hi' : i < gs.length := (List.getElem?_eq_some_iff.mp hg).1
              have add : intD g = false → ∃ acc, H2 D = some (.lst acc) ∧ acc.length < sizeLine ∧ ∃ rs, MadeTo H4 D rs (upd H2 D (.lst (acc ++ [y]))) ∧ rs.isEmpty = (gs.take (i + 1)).all intD ∧ rs.length ≤ i + 1 := fun eg => by
                obtain ⟨h1, M2⟩ := M.more y nD (Same.refl _)
                refine ⟨rs, h1, by rw [sizeLine_eq]; omega, _, M2, ?_, by rw [List.length_append]; exact Nat.succ_le_succ lr⟩
                rw [etk, eg, Bool.and_false]
                cases rs <;> rfl
              have skip : intD g = true → ∃ rs, MadeTo H4 D rs H2 ∧ rs.isEmpty = (gs.take (i + 1)).all intD ∧ rs.length ≤ i + 1 := fun eg => ⟨rs, M, by rw [etk, eg, Bool.and_true, er], Nat.le_succ_of_le lr⟩
              refine ⟨rfl, _, rfl, y, g, "int", rfl, by decide, hgq, _, rfl, ?_⟩
              cases hgq with
              | int j => exact iteNo rfl ⟨_, rfl, _, _, "bool", rfl, by decide, .int j, _, rfl, iteNo rfl (skip rfl)⟩
              | bl c => exact iteNo rfl ⟨_, rfl, _, _, "bool", rfl, by decide, .bl c, _, rfl, iteYes rfl ⟨_, rfl, add rfl⟩⟩
              | non => exact iteYes rfl ⟨_, rfl, add rfl⟩
              | str _ => exact iteYes rfl ⟨_, rfl, add rfl⟩
              | lst _ _ => exact iteYes rfl ⟨_, rfl, add rfl⟩
              | tup _ _ => exact iteYes rfl ⟨_, rfl, add rfl⟩
              | dct0 _ => exact iteYes rfl ⟨_, rfl, add rfl⟩
              | dct1 _ => exact iteYes rfl ⟨_, rfl, add rfl⟩
            · rintro H2 ⟨rs, M, er, lr⟩
              rw [dq_len q, List.take_length] at er
              refine ⟨(by show 0 ≤ sizeLine; decide), fun D2 nD2 => ⟨D, D2, rs, rfl, rfl, (same_new nD2) _ _ M.2, upd_same, ?_⟩⟩
              refine ⟨?_, M.1.trans (same_new nD2)⟩
              rw [form_due, decide_eq_true lgs, Bool.true_and, ← er]
              rfl
          | non => cases ht
          | bl _ => cases ht
          | int _ => cases ht
          | str _ => cases ht
          | lst _ _ => cases ht
          | dct0 _ => cases ht
          | dct1 _ => cases ht
        · refine iteNo (by simpa using ht) ⟨?_, Same.refl _⟩
          have : formD n d = false := by
            cases d with
            | tuple gs =>
              rw [form_due, show decide ((gs.length : Int) = n + 1) = false by simpa [tupL] using ht, Bool.false_and]
            | _ => rfl
          rw [this, show tupL n d = false by simpa using ht]
          rfl
      rintro σ5 H5' ⟨rfl, S5⟩
      have hq5 := Dq.same S5 _ _ hq
      refine ⟨_, rfl, _, rfl, x, d, _, rfl, hq5, sd, fun Hb Sb => ?_⟩
      refine ⟨_, rfl, _, rfl, x, d, _, rfl, Dq.same Sb _ _ hq5, sd, fun Hc Sc => ?_⟩
      refine ⟨(by show 2 ≤ sizeLine; decide), fun r1' nr1 => ⟨r1', _, _, _, _, rfl, upd_same, .cons (.bl _) (.cons (.bl _) .nil), seen_bools _, ?_⟩⟩
      refine ⟨_, rfl, _, rfl, (by show 2 ≤ sizeLine; decide), fun r2' nr2 => ⟨r2', _, _, _, _, rfl, upd_same, .cons (.bl _) (.cons (.bl _) .nil), seen_bools _, ?_⟩⟩
      refine ⟨rfl, _, rfl, iteNo (by rw [decide_eq_true rfl]; rfl) ⟨_, _, rfl, (S9.trans S5).trans ((Sb.trans Sc).trans ((same_new nr1).trans (same_new nr2)))⟩⟩
    rintro σ3 H3 ⟨o4, o5, o6, rfl, S3⟩
    have ne : ns ≠ [] := fun e => by
      rw [e] at ln
      simp at ln
    have sm : ∀ i ∈ ns, smI i := fun i hi => by
      have := sn i hi
      constructor <;> omega
    refine ⟨_, rfl, _, rfl, _, _, ns, ks, rfl, Dq.same S3 _ _ hone, Dq.same S3 _ _ hv, ne, by omega, sm, fun H4 S4 => ?_⟩
    have S34 := S3.trans S4
    refine ⟨_, rfl, _, rfl, _, _, ns, ks, rfl, Dq.same S34 _ _ hone, Dq.same S34 _ _ hv, ne, by omega, sm, fun H5 S5 => ?_⟩
    have S35 := S34.trans S5
    refine ⟨(by show 2 ≤ sizeLine; decide), fun b1 nb1 => ?_⟩
    have S36 := S35.trans (same_new (o := .lst [V.int (valF ns ks), V.int (valF ns ks)]) nb1)
    have h1 : upd H5 b1 (.lst [V.int (valF ns ks), V.int (valF ns ks)]) b1 = some (.lst [V.int (valF ns ks), V.int (valF ns ks)]) := upd_same
    revert S36 h1
    generalize upd H5 b1 (.lst [V.int (valF ns ks), V.int (valF ns ks)]) = H6
    intro S36 h1
    refine ⟨_, rfl, _, rfl, _, _, ns, ks, rfl, Dq.same S36 _ _ hone, Dq.same S36 _ _ hv, ne, by omega, sm, fun H7 S7 => ?_⟩
    refine ⟨(by show 1 ≤ sizeLine; decide), fun b2 nb2 => ⟨b2, _, [V.int (valF ns ks)], rfl, rfl, upd_same, by decide, by decide, (by show 1 * 2 ≤ sizeLine; decide), fun b3 nb3 => ?_⟩⟩
    have S8 := (S7.trans (same_new (o := .lst [V.int (valF ns ks)]) nb2)).trans (same_new (o := .lst (List.replicate (2 : Int).toNat [V.int (valF ns ks)]).flatten) nb3)
    refine ⟨.list [.int (valF ns ks), .int (valF ns ks)], .list [.int (valF ns ks), .int (valF ns ks)], dp_shaped ?_ (.lst (S8 _ _ h1) (.cons (.int _) (.cons (.int _) .nil))), dp_shaped ?_ (.lst upd_same (.cons (.int _) (.cons (.int _) .nil))), ?_, ?_, ?_⟩
    · exact rfl
    · exact rfl
    · exact rfl
    · exact rfl
    · rw [show PyData.eqv (.list [.int (valF ns ks), .int (valF ns ks)]) (.list [.int (valF ns ks), .int (valF ns ks)]) = true by simp [PyData.eqv, PyData.eqvAll]]
      exact k _ (S36.trans S8)
end
end KL
set_option Elab.async false
set_option linter.all false
set_option maxRecDepth 100000
set_option maxHeartbeats 8000000
namespace KL
open PySem L2
/-! ### all but the deck -/
def hide (p l : Addr) (H : Hp) : Hp := fun a => if a = p ∨ a = l then none else H a
theorem hide_of {p l a : Addr} {H : Hp} (ap : a ≠ p) (al : a ≠ l) : hide p l H a = H a := if_neg (fun z => z.elim ap al)
theorem DeckAt.hide {H0 H : Hp} {p l : Addr} {t : Int} (D : DeckAt H0 H p l t) : DeckAt (hide p l H) H p l t ∧ Same H0 (KL.hide p l H) := by
  refine ⟨⟨fun b o e => ?_, if_pos (.inl rfl), if_pos (.inr rfl), D.d⟩, fun b o e => ?_⟩
  · unfold KL.hide at e
    by_cases z : b = p ∨ b = l
    · rw [if_pos z] at e
      cases e
    · rw [if_neg z] at e
      exact e
  · have bp : b ≠ p := fun z => by
      rw [z, D.p0] at e
      cases e
    have bl : b ≠ l := fun z => by
      rw [z, D.l0] at e
      cases e
    rw [hide_of bp bl]
    exact D.s _ _ e
/-- what is neither a list nor a dict stays beside the deck -/
theorem DeckAt.kept {H0 H : Hp} {p l a : Addr} {t : Int} {o : HO} (D : DeckAt H0 H p l t) (h : H a = some o) (n1 : ∀ ks, o ≠ .dK ks) (n2 : ∀ xs, o ≠ .lst xs) : KL.hide p l H a = some o := by
  obtain ⟨ns, m, hp, hl, _⟩ := D.d
  rw [hide_of, h]
  · rintro rfl
    rw [hp] at h
    cases h
    exact n1 _ rfl
  · rintro rfl
    rw [hl] at h
    cases h
    exact n2 _ rfl
mutual
theorem Dq.plainKept {H K : Hp} (S : ∀ a xs, H a = some (.tup xs) → K a = some (.tup xs)) : ∀ {d : PyData} {v : V}, plainD d = true → Dq H v d → Dq K v d
  | .int _, _, _, h => by
    cases h
    exact .int _
  | .str _, _, _, h => by
    cases h
    exact .str _
  | .tuple ds, _, p, h => by
    cases h with
    | tup ha q => exact .tup (S _ _ ha) (DqAll.plainKept S (by simpa [plainD] using p) q)
  | .none, _, p, _ => by simp [plainD] at p
  | .bool _, _, p, _ => by simp [plainD] at p
  | .list _, _, p, _ => by simp [plainD] at p
  | .dict _, _, p, _ => by simp [plainD] at p
theorem DqAll.plainKept {H K : Hp} (S : ∀ a xs, H a = some (.tup xs) → K a = some (.tup xs)) : ∀ {ds : List PyData} {vs : List V}, plainAll ds = true → DqAll H vs ds → DqAll K vs ds
  | [], _, _, h => by
    cases h
    exact .nil
  | d :: ds, _, p, h => by
    have p := Bool.and_eq_true_iff.mp (show (plainD d && plainAll ds) = true from by simpa [plainAll] using p)
    cases h with
    | cons a b => exact .cons (Dq.plainKept S p.1 a) (DqAll.plainKept S p.2 b)
end
theorem HsAt.hide {C : Addr} {H0 H : Hp} {p l x : Addr} {t : Int} {m : HM} (D : DeckAt H0 H p l t) (h : HsAt C H x m) (f : FitH m) : HsAt C (KL.hide p l H) x m := by
  obtain ⟨dx, fs, v1, v2, v4, v6, v7, v8, hx, hf, q1, q2, q4, q6, q7, q8⟩ := h
  have S : ∀ a xs, H a = some (.tup xs) → KL.hide p l H a = some (.tup xs) := fun a xs e => D.kept e (fun _ z => nomatch z) (fun _ z => nomatch z)
  have g : ∀ {d : PyData}, d ∈ m.parts → plainD d = true := fun hd => (f _ hd).2
  unfold HM.parts at g
  exact ⟨dx, fs, v1, v2, v4, v6, v7, v8, D.kept hx (fun _ z => nomatch z) (fun _ z => nomatch z), hf, Dq.plainKept S (g (by simp)) q1, Dq.plainKept S (g (by simp)) q2, Dq.plainKept S (g (by simp)) q4, Dq.plainKept S (g (by simp)) q6, Dq.plainKept S (g (by simp)) q7, Dq.plainKept S (g (by simp)) q8⟩
theorem Go.mono {p l : Addr} {H0 H H1 H' H'' : Hp} {t t' n : Int} (g : Go p l H0 H t H1 H' t' n) (S : Same H' H'') : Go p l H0 H t H1 H'' t' n :=
  ⟨g.s, g.d.mono S, fun b o bp bl e => S _ _ (g.f b o bp bl e), g.o, g.t0, g.t1⟩

/-! ### how large the law's answers are -/
theorem Many.lst {n w p W : Nat} {ds : List PyData} (h : Many n w p W ds) : Gd (max w n) (p + 1) (n * (W + 2) + 2) (.list ds) := by
  refine ⟨?_, Nat.succ_le_succ (dpAll_le h), Nat.add_le_add_right (wtAll_le n h) 2, txAll_of h⟩
  exact Nat.max_le.mpr ⟨Nat.le_trans h.1 (Nat.le_max_right _ _), Nat.le_trans (wdAll_le h) (Nat.le_max_left _ _)⟩
theorem seen_two {d : PyData} (h : Gd 131 5 40000 d) : Seen (.list [d, d]) := by
  have M : Many 2 131 5 40000 [d, d] := Many.cons h (Many.cons h Many.nil)
  have g := M.lst
  have h6 := shown_wt (.list [d, d]) g.tx
  exact ⟨(sm_wd _ (Nat.le_trans g.wd (by decide))).2, by have := g.wt; omega, by have := g.dp; omega⟩
theorem gd_bl {w p : Nat} {b : Bool} : Gd w p 5 (.bool b) := ⟨Nat.zero_le _, Nat.zero_le _, Nat.le_refl _, rfl⟩
theorem gd_big {i : Int} (h : i.natAbs < 2 ^ 100) : Gd 131 0 140 (.int i) := by
  have e : i.natAbs.log2 < 131 := by
    by_cases z : i.natAbs = 0
    · rw [z]
      decide
    · exact Nat.lt_of_lt_of_le ((Nat.log2_lt z).mpr h) (by decide)
  refine ⟨?_, Nat.zero_le _, ?_, rfl⟩
  · show i.natAbs.log2 ≤ 131
    omega
  · show i.natAbs.log2 + 2 ≤ 140
    omega
theorem prods_le {B : Nat} : ∀ (as ks : List Int), (∀ a ∈ as, a.natAbs ≤ 10) → (∀ k ∈ ks, k.natAbs ≤ B) → (prods as ks).sum.natAbs ≤ as.length * (10 * B)
  | [], _, _, _ => by
    show (0 : Int).natAbs ≤ _
    exact Nat.zero_le _
  | a :: as, [], _, _ => by
    show (0 : Int).natAbs ≤ _
    exact Nat.zero_le _
  | a :: as, k :: ks, ha, hk => by
    show (a * k + (prods as ks).sum).natAbs ≤ (as.length + 1) * (10 * B)
    have h1 := prods_le as ks (fun x hx => ha x (.tail _ hx)) (fun x hx => hk x (.tail _ hx))
    have h2 : (a * k).natAbs ≤ 10 * B := by
      rw [Int.natAbs_mul]
      exact Nat.mul_le_mul (ha a (.head _)) (hk k (.head _))
    have h3 := Int.natAbs_add_le (a * k) (prods as ks).sum
    rw [Nat.succ_mul]
    omega
theorem valD_le {n : Nat} {f : PyData} {ks : List Int} {B : Nat} (hf : FormS n f) (n3 : n ≤ 3) (hB : 1 ≤ B) (hk : ∀ k ∈ ks, k.natAbs ≤ B) : (valD ks f).natAbs ≤ 40 * B := by
  obtain ⟨ns, rfl, ln, sn⟩ := hf
  unfold valD
  rw [intsOf_tup]
  cases ns with
  | nil => exact Nat.zero_le _
  | cons c as =>
    have la : as.length ≤ 3 := by
      have : ((as.length + 1 : Nat) : Int) = (n : Int) + 1 := ln
      omega
    have h1 := prods_le as ks (fun a ha => by have := sn a (.tail _ ha); omega) hk
    have h2 : c.natAbs ≤ 10 := by
      have := sn c (.head _)
      omega
    have h3 := Int.natAbs_add_le c (prods as ks).sum
    have h4 : as.length * (10 * B) ≤ 3 * (10 * B) := Nat.mul_le_mul_right _ la
    show (c + (prods as ks).sum).natAbs ≤ 40 * B
    omega
theorem behind_le {w : LW} (g : GoodW w) : ∀ (rs : List Row) (ks : List Int) (B : Nat), 1 ≤ B → (∀ r ∈ rs, r ∈ w.rows) → (∀ k ∈ ks, k.natAbs ≤ B) → ∀ k ∈ valsBehind ks rs, k.natAbs ≤ 40 ^ rs.length * B
  | [], ks, B, _, _, h => fun k hk => by
    show k.natAbs ≤ 1 * B
    have := h k hk
    omega
  | r :: rs, ks, B, hB, hr, h => fun k hk => by
    have hk : k ∈ valsBehind (rowVals ks r) rs := hk
    have := behind_le g rs (rowVals ks r) (40 * B) (by omega) (fun x hx => hr x (.tail _ hx)) (fun v hv => by
      obtain ⟨f, hf, rfl⟩ := List.mem_map.mp hv
      obtain ⟨t, fs, ms, e, _, _, hF, _⟩ := (g.ra r (hr r (.head _))).e
      have hf : f ∈ itemsD (r.2.2.getD 1 .none) := hf
      rw [e] at hf
      exact valD_le (hF.2 f hf) g.n3 hB h) k hk
    rw [List.length_cons, Nat.pow_succ, Nat.mul_assoc]
    exact this
theorem endP_le {w : LW} (g : GoodW w) : ∀ (rs : List Row) (p : Int), (∀ r ∈ rs, r ∈ w.rows) → 0 ≤ p → p < 3 → 0 ≤ endP p rs ∧ endP p rs < 3
  | [], p, _, h0, h1 => ⟨h0, h1⟩
  | r :: rs, p, hr, _, _ => by
    obtain ⟨t, fs, ms, e, t0, t1, _⟩ := (g.ra r (hr r (.head _))).e
    have et : rowTo r = t := by
      unfold rowTo
      rw [e]
      rfl
    have q3 := g.q3
    exact endP_le g rs (rowTo r) (fun x hx => hr x (.tail _ hx)) (by omega) (by omega)
theorem ints_gd {w W : Nat} {ks : List Int} (l : ks.length ≤ 4) (h : ∀ k ∈ ks, Gd w 0 W (.int k)) : Many 4 w 0 W (ks.map .int) := ⟨by rw [List.length_map]; exact l, fun d hd => by
  obtain ⟨k, hk, rfl⟩ := List.mem_map.mp hd
  exact h k hk⟩
theorem behind_len {w : LW} (g : GoodW w) : ∀ (rs : List Row) (ks : List Int), ks.length = w.start.length → (∀ r ∈ rs, r ∈ w.rows) → (valsBehind ks rs).length = w.start.length
  | [], _, h, _ => h
  | r :: rs, ks, h, hm => by
    refine behind_len g rs (rowVals ks r) ?_ fun x hx => hm x (.tail _ hx)
    unfold rowVals
    obtain ⟨t, fs, ms, e3, _, _, hF, _⟩ := (g.ra r (hm r (.head _))).e
    rw [List.length_map, e3]
    exact hF.1
theorem heard_gd {w : LW} (g : GoodW w) {y : Str} (hy : y.length ≤ 12) : Gd 131 5 40000 (heardD w.hm y) := by
  have hl : (w.hm.along 0 (wordOf y)).length ≤ 12 := Nat.le_trans (taken_le w.hm y) hy
  have hm : ∀ r ∈ w.hm.along 0 (wordOf y), r ∈ w.rows := fun r hr => along_mem w.hm _ _ r hr
  unfold heardD
  by_cases e : w.hm.taken y < y.length
  · rw [if_pos e]
    have a1 : Gd 131 0 200 (.str "none") := ⟨by decide +kernel, Nat.zero_le _, by decide +kernel, by decide +kernel⟩
    have a2 : Gd 131 0 200 (.int (w.hm.taken y)) := (gd_int (by omega) (by omega)).mono (by decide) (by decide) (by decide)
    have a3 : Gd 131 0 200 (.bool true) := (gd_bl (w := 131) (p := 0)).mono (by decide) (by decide) (by decide)
    exact ((Many.cons a1 (Many.cons a2 (Many.cons a3 Many.nil))).lst).mono (by decide) (by decide) (by decide)
  · rw [if_neg e]
    have ep := endP_le g _ 0 hm (by omega) (by omega)
    have vl := behind_len g _ w.start rfl hm
    have n3 := g.n3
    have vb := behind_le g (w.hm.along 0 (wordOf y)) w.start 20 (by decide) hm (fun k hk => by have := g.sm k hk; omega)
    have a1 : Gd 131 1 700 (.int (endP 0 (w.hm.along 0 (wordOf y)))) := (gd_int (by omega) (by omega)).mono (by decide) (by decide) (by decide)
    have pw : 40 ^ (w.hm.along 0 (wordOf y)).length * 20 ≤ 40 ^ 12 * 20 := Nat.mul_le_mul_right _ (Nat.pow_le_pow_right (by decide) hl)
    have a2 : Gd 131 1 700 (.tuple ((valsBehind w.start (w.hm.along 0 (wordOf y))).map .int)) := ((ints_gd (w := 131) (W := 140) (by omega) fun k hk => gd_big (Nat.lt_of_le_of_lt (Nat.le_trans (vb k hk) pw) (by decide))).tup).mono (by decide) (by decide) (by decide)
    exact ((Many.cons a1 (Many.cons a2 Many.nil)).lst).mono (by decide) (by decide) (by decide)
theorem look_ok {n : Int} (p : Nat) : ∀ {looks : List (List (List PyData))}, (∀ m ∈ looks, ∀ c ∈ m, c.length ≤ 3 ∧ ∀ f ∈ c, FormS n f) → ((looks.map fun m => PyData.tuple (m.map PyData.tuple)).flatMap (rowForms p)).length ≤ 3 * looks.length ∧ ∀ f ∈ (looks.map fun m => PyData.tuple (m.map PyData.tuple)).flatMap (rowForms p), FormS n f
  | [], _ => ⟨Nat.le_refl _, fun _ h => nomatch h⟩
  | m :: r, h => by
    obtain ⟨h1, h2⟩ := look_ok p (looks := r) fun x hx => h x (.tail _ hx)
    have hc : (rowForms p (.tuple (m.map PyData.tuple))).length ≤ 3 ∧ ∀ f ∈ rowForms p (.tuple (m.map PyData.tuple)), FormS n f := by
      cases e : m[p]? with
      | some c =>
        rw [rowForms_at e]
        exact h m (.head _) c (List.mem_of_getElem? e)
      | none =>
        have : rowForms p (.tuple (m.map PyData.tuple)) = [] := by
          unfold rowForms
          show itemsD ((m.map PyData.tuple).getD p .none) = []
          rw [List.getD_eq_getElem?_getD, List.getElem?_map, e]
          rfl
        rw [this]
        exact ⟨Nat.zero_le _, fun _ h => nomatch h⟩
    rw [List.map_cons, List.flatMap_cons, List.length_append, List.length_cons]
    refine ⟨by have := hc.1; omega, fun f hf => ?_⟩
    rcases List.mem_append.mp hf with z | z
    · exact hc.2 f z
    · exact h2 f z
theorem looks_gd {w : LW} (g : GoodW w) (p : Nat) : Gd 131 5 40000 (.tuple (w.hm.formsAt p)) := by
  have n3 := g.n3
  have kn := g.kn
  have p3 := g.p3
  have tn := g.tn
  obtain ⟨h1, h2⟩ := look_ok (n := w.start.length) p (looks := w.looks) fun m hm => (g.ka m hm).2
  have t1 : (w.hm.testForms p).length ≤ 3 := by
    unfold HM.testForms
    rw [List.length_map]
    exact Nat.le_trans (List.length_filter_le _ _) tn
  have M : Many 12 20 1 140 (w.hm.formsAt p) := by
    refine ⟨?_, fun d hd => ?_⟩
    · show ((w.looks.map fun m => PyData.tuple (m.map PyData.tuple)).flatMap (rowForms p) ++ w.hm.testForms p).length ≤ 12
      rw [List.length_append]
      omega
    · rcases List.mem_append.mp hd with z | z
      · exact (h2 d z).gd (by omega)
      · obtain ⟨r, hr, rfl⟩ := List.mem_map.mp z
        obtain ⟨⟨f, lo, hi, e, hf, _⟩, _⟩ := g.ta r (List.mem_filter.mp hr).1
        have : tstForm r = f := by
          unfold tstForm
          rw [e]
          rfl
        rw [this]
        exact hf.gd (by omega)
  exact M.tup.mono (by decide) (by decide) (by decide)
theorem forms_rows {n : Int} : ∀ {fs : List PyData}, (∀ f ∈ fs, FormS n f) → ∃ rows : List (List Int), fs = rows.map (fun r => PyData.tuple (r.map .int)) ∧ ∀ r ∈ rows, (r.length : Int) = n + 1 ∧ ∀ i ∈ r, -10 ≤ i ∧ i ≤ 10
  | [], _ => ⟨[], rfl, fun _ h => nomatch h⟩
  | f :: fs, h => by
    obtain ⟨rows, rfl, q⟩ := forms_rows (fs := fs) fun x hx => h x (.tail _ hx)
    obtain ⟨ns, rfl, ln, sn⟩ := h f (.head _)
    refine ⟨ns :: rows, rfl, fun r hr => ?_⟩
    rcases List.mem_cons.mp hr with rfl | z
    · exact ⟨ln, sn⟩
    · exact q r z
theorem ledTo_le : ∀ (l : List (Int × List Int)) (acc : List Int) (B : Nat), (∀ x ∈ acc, x.natAbs ≤ B) → (∀ z ∈ l, z.1.natAbs ≤ 10 ∧ ∀ x ∈ z.2, x.natAbs ≤ 10) → ∀ x ∈ ledTo acc l, x.natAbs ≤ B + 100 * l.length
  | [], _, _, h, _ => fun x hx => Nat.le_add_right_of_le (h x hx)
  | (k, r) :: l, acc, B, h, hl => fun x hx => by
    have := ledTo_le l (List.zipWith (fun a b => a + k * b) acc r) (B + 100) (fun v hv => by
      obtain ⟨i, hi, rfl⟩ := List.mem_iff_getElem.mp hv
      rw [List.length_zipWith] at hi
      rw [List.getElem_zipWith]
      have h1 := h (acc[i]'(by omega)) (List.getElem_mem _)
      have h2 := (hl (k, r) (.head _)).2 (r[i]'(by omega)) (List.getElem_mem _)
      have h3 : (k * r[i]'(by omega)).natAbs ≤ 10 * 10 := by
        rw [Int.natAbs_mul]
        exact Nat.mul_le_mul (hl (k, r) (.head _)).1 h2
      have h4 := Int.natAbs_add_le (acc[i]'(by omega)) (k * r[i]'(by omega))
      omega) (fun z hz => hl z (.tail _ hz)) x hx
    rw [List.length_cons]
    omega
theorem ledF_gd {f : List Int} {rows : List (List Int)} (lf : f.length = rows.length + 1) (r3 : rows.length ≤ 3) (rl : ∀ r ∈ rows, r.length = rows.length + 1) (sf : ∀ i ∈ f, -10 ≤ i ∧ i ≤ 10) (sr : ∀ r ∈ rows, ∀ i ∈ r, -10 ≤ i ∧ i ≤ 10) : Gd 131 5 40000 (.tuple ((ledF f rows).map .int)) := by
  match f, lf, sf with
  | c :: ks, lf, sf =>
    have lk : ks.length = rows.length := by simpa using lf
    have ll : (ledF (c :: ks) rows).length = rows.length + 1 := ledTo_len _ _ (by rw [List.length_cons, List.length_replicate, lk]) fun r hr => rl _ (List.of_mem_zip hr).2
    have lz : (ks.zip rows).length ≤ 3 := by
      rw [List.length_zip]
      omega
    have b := ledTo_le (ks.zip rows) (c :: List.replicate ks.length 0) 10 (fun x hx => by
      rcases List.mem_cons.mp hx with rfl | z
      · have := sf x (.head _)
        omega
      · rw [(List.mem_replicate.mp z).2]
        decide) (fun z hz => by
      obtain ⟨z1, z2⟩ := List.of_mem_zip hz
      refine ⟨by have := sf z.1 (.tail _ z1); omega, fun x hx => by have := sr z.2 z2 x hx; omega⟩)
    exact ((ints_gd (w := 20) (W := 30) (by omega) fun k hk => by
      have := b k hk
      exact gd_int (by omega) (by omega)).tup).mono (by decide) (by decide) (by decide)
theorem arrow_self {w : LW} (g : GoodW w) {r : Row} (h : r ∈ w.rows) : w.hm.arrowAt r.1 r.2.1 = some r := by
  have go : ∀ {rows : List Row}, rows.Pairwise keyLt → r ∈ rows → rows.find? (atB r.1 r.2.1) = some r := by
    intro rows
    induction rows with
    | nil => intro _ h; cases h
    | cons r0 rows ih =>
      intro pw m
      obtain ⟨h1, h2⟩ := List.pairwise_cons.mp pw
      rcases List.mem_cons.mp m with rfl | m
      · rw [List.find?_cons, (atB_key _ _ _).mpr rfl]
      · have : atB r.1 r.2.1 r0 = false := by
          cases e : atB r.1 r.2.1 r0 with
          | false => rfl
          | true => exact absurd ((atB_key _ _ _).mp e) (key_ne (h1 r m))
        rw [List.find?_cons, this]
        exact ih h2 m
  exact go g.rw h
theorem join_le {ys : List Str} (n : ys.length ≤ 12) (h : ∀ y ∈ ys, y.length = 1) : (ys.map (·.length)).sum + ys.length * (("" : Str)).length ≤ 16777216 ∧ (Txt.join "" ys).length ≤ 12 := by
  have e : (ys.map (·.length)).sum = ys.length := by
    clear n
    induction ys with
    | nil => rfl
    | cons y ys ih =>
      rw [List.map_cons, List.sum_cons, ih fun z hz => h z (.tail _ hz), h y (.head _), List.length_cons]
      omega
  have z : (("" : Str)).length = 0 := by decide +kernel
  refine ⟨by rw [e, z]; omega, ?_⟩
  have := StrLaws.join_length_le "" ys
  rw [e, z] at this
  show (Builtin.Str.glued "" ys).length ≤ 12
  rw [StrLaws.glued_eq_join]
  omega
end KL
set_option Elab.async false
set_option linter.all false
set_option maxRecDepth 100000
set_option maxHeartbeats 32000000
namespace KL
open PySem L2 PySem.KX PySem.Spec PyProof.Rows
/-! ### the law's right -/
theorem DeckAt.dqHide {H0 H : Hp} {p l : Addr} {t : Int} {v : V} {d : PyData} (D : DeckAt H0 H p l t) (h : Dq H v d) (pl : plainD d = true) : Dq (KL.hide p l H) v d :=
  Dq.plainKept (fun _ _ e => D.kept e (fun _ z => nomatch z) (fun _ z => nomatch z)) pl h
theorem DeckAt.dqsHide {H0 H : Hp} {p l : Addr} {t : Int} {vs : List V} {ds : List PyData} (D : DeckAt H0 H p l t) (h : DqAll H vs ds) (pl : plainAll ds = true) : DqAll (KL.hide p l H) vs ds :=
  DqAll.plainKept (fun _ _ e => D.kept e (fun _ z => nomatch z) (fun _ z => nomatch z)) pl h
theorem plain_ints (ks : List Int) : plainD (.tuple (ks.map .int)) = true := plain_tup fun d hd => by
  obtain ⟨i, _, rfl⟩ := List.mem_map.mp hd
  exact plain_int
structure TxtRt (mg : Str → Option Value) : Prop where
  s : TxtS mg
  isi : mg "isinstance" = none
  int : mg "int" = none
  repr : mg "repr" = none
structure RFns (P : Program) (w : World) (K : PySem.W.Frag) (mg : Str → Option Value) (base : Heap) (C fE gH gF gA gL gK gB gC gD gP gW gS : Addr) (dE dH dF dA dL dK dB dC dD dP dW dS : FuncData) : Prop where
  E : FnOk P w K mg base CX0 3 fE dE ["self", "other"] (spHEq C)
  sE : PySem.W.findIn K (.ref C) "__eq__" = some (some (.ref fE))
  iE : PySem.W.isFn K (.ref fE) = true
  bE : L2.Binds K dE ["self", "other"] []
  i : C8.InsC K C
  house : FnOk P w K mg base CX0 8 gH dH ["_law_w"] (spLHouse C)
  cHouse : Cal K mg "_law_house" gH dH ["_law_w"]
  forms : FnG P w K mg base CX0 4 gF dF ["_law_deck_here", "_law_size", "_law_at"] spFR
  cForms : Cal K mg "_law_forms_right" gF dF ["_law_deck_here", "_law_size", "_law_at"]
  at_ : FnOk P w K mg base CX0 2 gA dA ["house", "place"] (spFormsAt C)
  cAt : Cal K mg "looked_at" gA dA ["house", "place"]
  kAt : KBinds K dA ["house", "place"] ["place", "house"] gR gRV
  looks : FnOk P w K mg base CX0 1 gL dL ["_law_w", "_law_p"] spLooks
  cLooks : Cal K mg "_law_looks" gL dL ["_law_w", "_law_p"]
  look : FnOk P w K mg base CX0 3 gK dK ["_law_deck_here", "_law_size"] spLook
  cLook : Cal K mg "_law_look" gK dK ["_law_deck_here", "_law_size"]
  led : FnOk P w K mg base CX0 2 gB dB ["house", "place", "deed", "form"] (spLedBack C)
  cLed : Cal K mg "led_back" gB dB ["house", "place", "deed", "form"]
  kLed : KBinds K dB ["house", "place", "deed", "form"] ["form", "deed", "place", "house"] gR gRV
  back : FnOk P w K mg base CX0 1 gC dC ["_law_w", "_law_p", "_law_x", "_law_one"] spBack
  cBack : Cal K mg "_law_back" gC dC ["_law_w", "_law_p", "_law_x", "_law_one"]
  draw : FnOk P w K mg base CX0 1 gD dD ["_law_deck_here", "_law_below"] spDraw
  cDraw : Cal K mg "_law_draw" gD dD ["_law_deck_here", "_law_below"]
  pick : FnOk P w K mg base CX0 2 gP dP ["_law_deck_here", "_law_some"] spPick
  cPick : Cal K mg "_law_pick" gP dP ["_law_deck_here", "_law_some"]
  walked : FnOk P w K mg base CX0 3 gW dW ["_law_w", "_law_word"] spWalked
  cWalked : Cal K mg "_law_walked" gW dW ["_law_w", "_law_word"]
  heard : FnOk P w K mg base CX0 5 gS dS ["_law_code", "_law_word", "_law_is_named"] (spHeard C)
  cHeard : Cal K mg "_law_heard" gS dS ["_law_code", "_law_word", "_law_is_named"]
def spRight : Sp := fun vs H Q _ => ∃ (H0 : Hp) (p l wd : Addr) (t : Int) (w : LW), vs = [.ref p, .ref wd] ∧ DeckAt H0 H p l t ∧ 0 ≤ t ∧ t < 900000 ∧ WAt H0 wd w ∧ GoodW w ∧ ∀ K1 H' t', DeckAt K1 H' p l t' → t ≤ t' → t' ≤ t + 200 → Q (.bl true) H'
theorem hs_get {C : Addr} {H : Hp} {x : Addr} {m : HM} (h : HsAt C H x m) : ∃ dx fs, H x = some (.ins C dx fs) := by
  obtain ⟨dx, fs, _, _, _, _, _, _, e, _⟩ := h
  exact ⟨dx, fs, e⟩
theorem sameH_self {m : HM} (h : FitH m) : sameH m m = true := by
  have g : ∀ {d : PyData}, d ∈ m.parts → PyData.eqv d d = true := fun hd => plain_refl _ (h _ hd).2
  unfold HM.parts at g
  unfold sameH
  rw [g (by simp : PyData.int m.people ∈ _), g (by simp : PyData.tuple (m.deeds.map dE) ∈ _), g (by simp : PyData.tuple (m.start.map .int) ∈ _), g (by simp : PyData.int m.places ∈ _), g (by simp : PyData.tuple (m.ends.map .int) ∈ _), g (by simp : PyData.int m.logs ∈ _), g (by simp : PyData.tuple (m.arrows.map rowE) ∈ _), g (by simp : PyData.tuple (m.tests.map rowE) ∈ _), g (by simp : m.looks ∈ _)]
  rfl
/-- signs, one each -/
def LetP (i : Nat) (ds : List PyData) : Prop := ∃ ys : List Str, ds = ys.map .str ∧ ys.length = i ∧ ∀ y ∈ ys, y.length = 1
theorem LetP.start : LetP 0 [] := ⟨[], rfl, rfl, fun _ h => nomatch h⟩
theorem LetP.snoc {i : Nat} {ds : List PyData} {x : Str} (h : LetP i ds) (hx : x.length = 1) : LetP (i + 1) (ds ++ [.str x]) := by
  obtain ⟨ys, rfl, rfl, q⟩ := h
  refine ⟨ys ++ [x], by simp, by simp, fun y hy => ?_⟩
  rcases List.mem_append.mp hy with z | z
  · exact q y z
  · rw [List.mem_singleton.mp z]
    exact hx
theorem LetP.len {i : Nat} {ds : List PyData} (h : LetP i ds) : ds.length = i := by
  obtain ⟨ys, rfl, rfl, q⟩ := h
  simp
theorem strs_inv {H : Hp} : ∀ {ys : List Str} {vs : List V}, DqAll H vs (ys.map .str) → vs = ys.map V.str
  | [], _, h => by
    cases h
    rfl
  | y :: ys, _, h => by
    cases h with
    | cons a b =>
      cases a
      rw [strs_inv b]
      rfl
abbrev nRight : List Str := ["_law_deck_here", "_law_w", "_law_code", "_law_p", "_law_x", "_law_one", "_law_told", "_law_letters_now", "_law_go", "_law_word", "_law_due", "_law_owner", "_law_k"]
section
variable {P : Program} {w : World} {K : PySem.W.Frag} {mg : Str → Option Value} {base : Heap} {C fE gH gF gA gL gK gB gC gD gP gW gS : Addr} {dE dH dF dA dL dK dB dC dD dP dW dS : FuncData}
theorem scRight : FnScope nRight ["_law_deck_here", "_law_w"] (defScope lRight) := ⟨rfl, rfl, rfl, by decide +kernel, rfl, by decide +kernel, by decide +kernel⟩
theorem ok_right {f : Addr} {fd : FuncData} (F : Fun K "_law_right" "_law_right" lRight f fd) (T : TxtRt mg) (R : RFns P w K mg base C fE gH gF gA gL gK gB gC gD gP gW gS dE dH dF dA dL dK dB dC dD dP dW dS) :
    FnG P w K mg base CX0 9 f fd ["_law_deck_here", "_law_w"] spRight := by
  refine fnG0 F scRight (fun vs H Q E h => ?_) (fun cdv A outer s H vs Q E hG hr h => ?_)
  · obtain ⟨H0, p, l, wd, t, w, rfl, _⟩ := h
    rfl
  · obtain ⟨Hs, p, l, wd, t, lw, rfl, D, t0, t1, hW, gw, k⟩ := h
    have nd := scRight.nd
    have hu := hu_of hr
    have r1 : Room 1 _ := hr.mono (by decide)
    have r2 : Room 2 _ := hr.mono (by decide)
    have r3 : Room 3 _ := hr.mono (by decide)
    have r4 : Room 4 _ := hr.mono (by decide)
    have r5 : Room 5 _ := hr.mono (by decide)
    let X0 : Cx := (cxOf CX0 P w K mg base nRight "_law_right" (defScope lRight) f cdv A outer s H E).nox
    have mt := T.s.g.tuple
    have ml := T.s.g.d.len
    refine ⟨_, C8.pss_cut (ps_set (i := 2) nd rfl (.inl rfl) (pe_call R.house hr (by rfl) R.cHouse.m R.cHouse.k R.cHouse.b .nil pass0 (pa_cons (pv 1) pa_nil)))
      (C8.pss_cut (ps_if (pt_not (pt_val (pe_callG R.forms hG r4 (by rfl) R.cForms.m R.cForms.k R.cForms.b pass0 (pa_cons (pv 0) (pa_cons (pe_callB call_len_seq (by rfl) ml PySem.boot_len (pa_cons (pe_dget hu (pv 1) pe_str (fun _ _ => rfl)) pa_nil)) (pa_cons (pe_tupleOf (by rfl) mt (pe_dget hu (pv 1) pe_str (fun _ _ => rfl))) pa_nil)))))) (pss_one (ps_ret pe_bl)) pss_nil)
      (C8.pss_cut (ps_for PassesOwn.never rfl (pi_range1 (by rfl) T.s.g.range (pa_cons (pe_dget hu (pv 1) pe_str (fun _ _ => rfl)) pa_nil)) (pg_name (i := 3) nd rfl (.inl rfl))
        (pss_one (ps_if (pt_cmpR op_ne (pe_callB (call_repL (X := X0) hG hr.units) (by rfl) T.repr (by decide +kernel) (pa_cons (pe_lst (pa_cons (pe_call R.at_ r2 (by rfl) R.cAt.m R.cAt.k R.cAt.b .nil pass0 (pa_cons (pv 2) (pa_cons (pv 3) pa_nil))) (pa_cons (pe_callKS0 R.at_ r2 (by rfl) R.cAt.m R.cAt.k R.kAt passAt0 (pk_cons (pv 3) (pk_cons (pv 2) pk_nil))) pa_nil))) pa_nil))
          (pe_callB (call_repL (X := X0) hG hr.units) (by rfl) T.repr (by decide +kernel) (pa_cons (pe_op op_rep (pe_lst (pa_cons (pe_call R.looks r1 (by rfl) R.cLooks.m R.cLooks.k R.cLooks.b .nil pass0 (pa_cons (pv 1) (pa_cons (pv 3) pa_nil))) pa_nil)) pe_int) pa_nil)) (nomark _)) (pss_one (ps_ret pe_bl)) pss_nil)))
      (C8.pss_cut (ps_for PassesOwn.never rfl (pi_list (pe_callB (cr_sortedQ hr.units) (by rfl) T.s.sorted (by decide +kernel) (pa_cons (pe_callTy (call_list_dT rfl) (by rfl) T.s.g.d.list (by decide +kernel) (pa_cons (pe_dget hu (pv 1) pe_str (fun _ _ => rfl)) pa_nil)) pa_nil))) (pg_tup rfl (pgs_cons (pg_name (i := 3) nd rfl (.inl rfl)) (pgs_cons (pg_name (i := 4) nd rfl (.inl rfl)) pgs_nil)))
        (C8.pss_cut (ps_set (i := 5) nd rfl (.inl rfl) (pe_call R.look r3 (by rfl) R.cLook.m R.cLook.k R.cLook.b .nil pass0 (pa_cons (pv 0) (pa_cons (pe_callB call_len_seq (by rfl) ml PySem.boot_len (pa_cons (pe_dget hu (pv 1) pe_str (fun _ _ => rfl)) pa_nil)) pa_nil))))
        (pss_cons (ps_set (i := 6) nd rfl (.inl rfl) (pe_lst (pa_cons (pe_call R.led r2 (by rfl) R.cLed.m R.cLed.k R.cLed.b .nil pass0 (pa_cons (pv 2) (pa_cons (pv 3) (pa_cons (pv 4) (pa_cons (pv 5) pa_nil))))) (pa_cons (pe_callKS0 R.led r2 (by rfl) R.cLed.m R.cLed.k R.kLed passAt0 (pk_cons (pv 5) (pk_cons (pv 4) (pk_cons (pv 3) (pk_cons (pv 2) pk_nil))))) pa_nil))))
        (pss_one (ps_if (pt_cmpR op_ne (pe_callB (call_repL (X := X0) hG hr.units) (by rfl) T.repr (by decide +kernel) (pa_cons (pv 6) pa_nil)) (pe_callB (call_repL (X := X0) hG hr.units) (by rfl) T.repr (by decide +kernel) (pa_cons (pe_op op_rep (pe_lst (pa_cons (pe_call R.back r1 (by rfl) R.cBack.m R.cBack.k R.cBack.b .nil pass0 (pa_cons (pv 1) (pa_cons (pv 3) (pa_cons (pv 4) (pa_cons (pv 5) pa_nil))))) pa_nil)) pe_int) pa_nil)) (nomark _)) (pss_one (ps_ret pe_bl)) pss_nil)))))
      (C8.pss_cut (ps_set (i := 7) nd rfl (.inr rfl) (pe_lc (own := [("_law_x", 4), ("_law_owner", 11)]) (g := gTup K 2 (gCons (gName 4) (gCons (gName 11) gNil))) (tt := tYes) rfl nd (pi_list (pe_dget hu (pv 1) pe_str (fun _ _ => rfl))) (blkOk_by (N := nRight) (sc := defScope lRight) (by decide +kernel)) (fun _ _ _ _ _ => pg_tup rfl (pgs_cons (pg_name (i := 4) nd rfl (.inl rfl)) (pgs_cons (pg_name (i := 11) nd rfl (.inl rfl)) pgs_nil))) (fun _ _ _ _ _ => pts_nil) (fun _ _ _ _ _ => pv 4)))
      (C8.pss_cut (ps_for PassesOwn.never rfl (pi_range1 (by rfl) T.s.g.range (pa_cons pe_int pa_nil)) (pg_name (i := 8) nd rfl (.inl rfl))
        (C8.pss_cut (ps_set (i := 9) nd rfl (.inl rfl) (pe_join pe_str (pe_lc (own := [("_law_k", 12)]) (g := gName 12) (tt := tYes) rfl nd (pi_range1 (by rfl) T.s.g.range (pa_cons (pe_call R.draw r1 (by rfl) R.cDraw.m R.cDraw.k R.cDraw.b .nil pass0 (pa_cons (pv 0) (pa_cons pe_int pa_nil))) pa_nil)) (blkOk_by (N := nRight) (sc := defScope lRight) (by decide +kernel)) (fun _ _ _ _ _ => pg_name (i := 12) nd rfl (.inl rfl)) (fun _ _ _ _ _ => pts_nil)
          (fun _ _ _ _ _ => pe_call R.pick r2 rfl R.cPick.m R.cPick.k R.cPick.b .nil pass0 (pa_cons (pv 0) (pa_cons (pv 7) pa_nil))))))
        (C8.pss_cut (ps_set (i := 10) nd rfl (.inl rfl) (pe_call R.walked r3 (by rfl) R.cWalked.m R.cWalked.k R.cWalked.b .nil pass0 (pa_cons (pv 1) (pa_cons (pv 9) pa_nil))))
        (C8.pss_cut (ps_set (i := 10) nd rfl (.inl rfl) (pe_ifExp (pt_val (pe_callB call_isD (by rfl) T.isi (by decide +kernel) (pa_cons (pv 10) (pa_cons (pe_bltn (v := .ty "int") (by rfl) T.int (by decide +kernel) rfl) pa_nil)))) (pe_lst (pa_cons pe_str (pa_cons (pv 10) (pa_cons pe_bl pa_nil)))) (pe_callTy call_list_of (by rfl) T.s.g.d.list (by decide +kernel) (pa_cons (pv 10) pa_nil))))
        (pss_one (ps_if (pt_cmpR op_ne (pe_callB (call_repL (X := X0) hG hr.units) (by rfl) T.repr (by decide +kernel) (pa_cons (pe_lst (pa_cons (pe_call R.heard r5 (by rfl) R.cHeard.m R.cHeard.k R.cHeard.b .nil pass0 (pa_cons (pv 2) (pa_cons (pv 9) (pa_cons pe_bl pa_nil)))) (pa_cons (pe_call R.heard r5 (by rfl) R.cHeard.m R.cHeard.k R.cHeard.b .nil pass0 (pa_cons (pv 2) (pa_cons (pv 9) (pa_cons pe_bl pa_nil)))) pa_nil))) pa_nil))
          (pe_callB (call_repL (X := X0) hG hr.units) (by rfl) T.repr (by decide +kernel) (pa_cons (pe_lst (pa_cons (pv 10) (pa_cons (pv 10) pa_nil))) pa_nil)) (nomark _)) (pss_one (ps_ret pe_bl)) pss_nil))))))
      (pss_one (ps_ret (pe_cmpR (op_eqOwn (X := X0) R.E R.sE R.iE R.bE (E := E0) pass0 r3) (pv 2) (pe_call R.house hr (by rfl) R.cHouse.m R.cHouse.k R.cHouse.b .nil pass0 (pa_cons (pv 1) pa_nil)) (nomark _))))))))), ?_⟩
    -- the house
    refine ⟨fun σ H1 => ∃ K1 x, σ = [some (.ref p), some (.ref wd), some (.ref x), none, none, none, none, none, none, none, none, none, none] ∧ DeckAt K1 H1 p l t ∧ HsAt C K1 x lw.hm ∧ WAt K1 wd lw, ?_, ?_⟩
    · refine ⟨_, rfl, wd, lw, rfl, hW.same D.s, gw, fun H1 x S1 hx => ?_⟩
      have D1 := D.mono S1
      exact ⟨KL.hide p l H1, x, rfl, D1.hide.1, hx.hide D1 gw.fit, hW.same D1.hide.2⟩
    clear D hW Hs
    rintro σ1 H1 ⟨K1, x, rfl, D1, hx, hW⟩
    have st : ∃ vs, K1 wd = some (.dK (ww vs)) ∧ WParts K1 vs lw := hW
    obtain ⟨vs', hw, hP⟩ := st
    obtain ⟨d, s', e, r, kvs, tq, lk', rfl, q1, q2, q3, q4, q5, q6, q7⟩ := id hP
    obtain ⟨sa, ss, rfl, hsa, hss⟩ := list_at q2
    have lss : ss.length = lw.start.length := by rw [dq_len hss, List.length_map]
    have n1 := gw.n1
    have n3 := gw.n3
    refine ⟨fun σ H2 => ∃ t2, σ = [some (.ref p), some (.ref wd), some (.ref x), none, none, none, none, none, none, none, none, none, none] ∧ DeckAt K1 H2 p l t2 ∧ t ≤ t2 ∧ t2 ≤ t + 4, ?_, ?_⟩
    · refine ⟨_, rfl, _, rfl, wd, _, rfl, wg_start (D1.s _ _ hw), sa, _, rfl, .inl (SqL.of (D1.s _ _ hsa)), _, rfl, wd, _, rfl, wg_start (D1.s _ _ hw), kTup_list (Dq.same D1.s _ _ q2) fun H2 v2 S2 hv2 => ?_⟩
      have D2 := D1.mono S2
      exact ⟨KL.hide p l H2, p, l, t, ss.length, v2, lw.start, rfl, D2.hide.1, t0, by omega, by omega, by omega, D2.dqHide hv2 (plain_ints _), fun H3 t3 D3 a b => ⟨_, rfl, iteNo rfl ⟨t3, rfl, D3.less D2.hide.2, a, b⟩⟩⟩
    clear D1
    rintro σ2 H2 ⟨t2, rfl, D2, ta, tb⟩
    refine ⟨fun σ H3 => ∃ o3, σ = [some (.ref p), some (.ref wd), some (.ref x), o3, none, none, none, none, none, none, none, none, none] ∧ DeckAt K1 H3 p l t2, ?_, ?_⟩
    · refine ⟨_, rfl, wd, _, rfl, wg_count (D2.s _ _ hw), lw.count, rfl, ?_, ?_, ?_⟩
      · have := gw.q1
        omega
      · have := gw.q3
        omega
      refine for_range (fun i σ H' => ∃ o3, σ = [some (.ref p), some (.ref wd), some (.ref x), o3, none, none, none, none, none, none, none, none, none] ∧ DeckAt K1 H' p l t2) ⟨none, rfl, D2⟩ ?_ (fun σ H' h => h)
      clear D2
      rintro i σ H3 hi ⟨o3, rfl, D3⟩
      have q1' := gw.q1
      have hi' : (i : Int) < lw.count := by omega
      have ei : (0 : Int) + (i : Int) = (i : Int) := Int.zero_add _
      rw [ei]
      refine ⟨_, rfl, _, rfl, x, i, lw.hm, rfl, hx.same D3.s, gw.right, gw.fit, hi', fun H4 v4 S4 hv4 => ?_⟩
      refine ⟨_, rfl, _, rfl, x, i, lw.hm, rfl, hx.same (D3.s.trans S4), gw.right, gw.fit, hi', fun H5 v5 S5 hv5 => ?_⟩
      refine ⟨(by show 2 ≤ sizeLine; decide), fun a na => ⟨a, _, _, _, _, rfl, upd_same, .cons (Dq.same (S5.trans (same_new na)) _ _ hv4) (.cons (Dq.same (same_new na) _ _ hv5) .nil), seen_two (looks_gd gw i), ?_⟩⟩
      have S6 := (S4.trans S5).trans (same_new (o := .lst [v4, v5]) na)
      revert S6
      generalize upd H5 a (.lst [v4, v5]) = H6
      intro S6
      refine ⟨_, rfl, _, rfl, wd, i, lw, rfl, hW.same (D3.s.trans S6), gw, hi', fun H7 v7 S7 hv7 => ?_⟩
      refine ⟨(by show 1 ≤ sizeLine; decide), fun b nb => ⟨b, _, [v7], rfl, rfl, upd_same, by decide, by decide, (by show 1 * 2 ≤ sizeLine; decide), fun c nc => ?_⟩⟩
      have S8 := (same_new (o := .lst [v7]) nb).trans (same_new (o := .lst [v7, v7]) nc)
      exact ⟨c, v7, [v7], _, _, rfl, upd_same, .cons (Dq.same S8 _ _ hv7) (.cons (Dq.same S8 _ _ hv7) .nil), seen_two (looks_gd gw i), rfl, _, rfl, iteNo (by rw [decide_eq_true rfl]; rfl) ⟨_, rfl, D3.mono ((S6.trans S7).trans S8)⟩⟩
    clear D2
    rintro σ3 H3 ⟨o3, rfl, D3⟩
    refine ⟨fun σ H4 => ∃ o3 o4 o5 o6 K4 t4, σ = [some (.ref p), some (.ref wd), some (.ref x), o3, o4, o5, o6, none, none, none, none, none, none] ∧ DeckAt K4 H4 p l t4 ∧ Same K1 K4 ∧ t ≤ t4 ∧ t4 ≤ t + 50, ?_, ?_⟩
    · have rn := gw.rn
      refine ⟨_, rfl, wd, _, rfl, wg_rows (D3.s _ _ hw), r, kvs, rfl, .inl (D3.s _ _ q4), fun u bs nu hk => ?_⟩
      have hdq := isKeys_dq hk q5
      have Su := same_new (o := .lst (bs.map V.ref)) nu
      have hu1 : upd H3 u (.lst (bs.map V.ref)) u = some (.lst (bs.map V.ref)) := upd_same
      have hdu := DqAll.same Su _ _ hdq
      revert Su hu1 hdu
      generalize upd H3 u (.lst (bs.map V.ref)) = Ha
      intro Su hu1 hdu
      refine ⟨Ha, u, _, _, rfl, SqL.of hu1, Same.refl _, hdu, ?_, ?_, ?_, ?_, fun zs q hzs nq => ?_⟩
      · exact lay_plains _ (plain_all_of.mpr fun d hd => by obtain ⟨x, _, rfl⟩ := List.mem_map.mp hd; exact plain_key x) (tx_keys gw)
      · intro d hd e he
        obtain ⟨x, _, rfl⟩ := List.mem_map.mp hd
        obtain ⟨y, _, rfl⟩ := List.mem_map.mp he
        exact alike_key x y
      · exact .inl fun d hd => by obtain ⟨x, _, rfl⟩ := List.mem_map.mp hd; exact ⟨_, _, rfl⟩
      · refine depth_few fun d hd => ?_
        obtain ⟨x, _, rfl⟩ := List.mem_map.mp hd
        show 1 ≤ 20
        decide
      rw [keys_sorted gw.rw] at hzs
      have lz := dq_len hzs
      rw [List.length_map] at lz
      have Da := D3.mono Su
      obtain ⟨qp, ql⟩ := Da.notP nq
      have Db := Da.mono (same_new (o := .lst zs) nq)
      have hq : upd Ha q (.lst zs) q = some (.lst zs) := upd_same
      have hzs2 := DqAll.same (same_new (o := .lst zs) nq) _ _ hzs
      revert Db hq hzs2
      generalize upd Ha q (.lst zs) = Hb
      intro Db hq hzs2
      have Dk := Db.hide.1
      have Sk := Db.hide.2
      have hqk : KL.hide p l Hb q = some (.lst zs) := by
        rw [hide_of qp ql]
        exact hq
      have hzk := Db.dqsHide hzs2 (plain_all_of.mpr fun d hd => by
        obtain ⟨x, _, rfl⟩ := List.mem_map.mp hd
        exact plain_key x)
      revert Dk Sk hqk hzk
      generalize KL.hide p l Hb = Kb
      intro Dk Sk hqk hzk
      refine ⟨q, rfl, ⟨_, SqL.of hq⟩, ?_⟩
      refine for_list (K := K) (a := q) (xs := zs) (fun i σ H' => ∃ o3 o4 o5 o6 K4 t4, σ = [some (.ref p), some (.ref wd), some (.ref x), o3, o4, o5, o6, none, none, none, none, none, none] ∧ DeckAt K4 H' p l t4 ∧ Same Kb K4 ∧ t2 ≤ t4 ∧ t4 ≤ t2 + 4 * (i : Int)) ⟨o3, none, none, none, Kb, t2, rfl, Dk, Same.refl _, by omega, by omega⟩ (fun i σ H' _ ⟨_, _, _, _, K4, t4, _, D4, S4, _⟩ => SqL.of (D4.s _ _ (S4 _ _ hqk))) ?_ (fun σ H' ⟨a, b, c, d, K4, t4, e, D4, S4, h1, h2⟩ => ⟨a, b, c, d, K4, t4, e, D4, Sk.trans S4, by omega, by omega⟩)
      clear D3 Da Db Dk hq hzs hzs2 hdu hu1 Su hdq nu nq hk
      rintro i z σ H4 hz ⟨o3, o4, o5, o6, K4, t4, rfl, D4, S4, ta', tb'⟩
      have hlt : i < zs.length := (List.getElem?_eq_some_iff.mp hz).1
      obtain ⟨d', hd', hq'⟩ := DqAll.at hzk hz
      rw [List.getElem?_map] at hd'
      cases er : lw.rows[i]? with
      | none =>
        rw [er] at hd'
        cases hd'
      | some row =>
        rw [er] at hd'
        cases hd'
        have mem := List.mem_of_getElem? er
        obtain ⟨b, us, rfl, eb, qb⟩ := tup_at hq'
        cases qb with | cons u0 qb =>
        cases qb with | cons u1 qb =>
        cases qb
        cases u0
        cases u1
        obtain ⟨tt, fs, ms, e3, _, _, hF, _⟩ := (gw.ra row mem).e
        obtain ⟨rows, erows, hrows⟩ := forms_rows hF.2
        subst erows
        have lrows : lw.start.length = rows.length := by
          have := hF.1
          rw [List.length_map] at this
          exact this.symm
        have rl : ∀ r ∈ rows, r.length = rows.length + 1 := fun r hr => by
          have := (hrows r hr).1
          omega
        have sr : ∀ r ∈ rows, ∀ i ∈ r, -10 ≤ i ∧ i ≤ 10 := fun r hr => (hrows r hr).2
        have SK := Sk.trans S4
        refine ⟨b, _, rfl, SqT.of (D4.s _ _ (S4 _ _ eb)), rfl, _, _, rfl, _, _, rfl, rfl, ?_⟩
        refine ⟨fun σ H' => ∃ (K5 : Hp) (t5 : Int) (v5 : V) (f : List Int), σ = [some (.ref p), some (.ref wd), some (.ref x), some (.int row.1), some (.str row.2.1), some v5, o6, none, none, none, none, none, none] ∧ DeckAt K5 H' p l t5 ∧ Same K4 K5 ∧ t4 ≤ t5 ∧ t5 ≤ t4 + 4 ∧ Dq K5 v5 (.tuple (f.map .int)) ∧ f.length = rows.length + 1 ∧ ∀ i ∈ f, -10 ≤ i ∧ i ≤ 10, ?_, ?_⟩
        · refine ⟨_, rfl, _, rfl, wd, _, rfl, wg_start (D4.s _ _ (SK _ _ hw)), sa, _, rfl, .inl (SqL.of (D4.s _ _ (SK _ _ hsa))), K4, p, l, t4, ss.length, rfl, D4, by omega, by omega, by omega, by omega, fun K5 H5 t5 v5 d5 g5 hd5 hF5 => ?_⟩
          obtain ⟨f, rfl, lf, sf⟩ := hF5
          exact ⟨K5, t5, v5, f, rfl, g5.d, g5.s, g5.t0, g5.t1, hd5, by omega, sf⟩
        clear D4
        rintro σ5 H5 ⟨K5, t5, v5, f, rfl, D5, S5, tc, td, hv5, lf, sf⟩
        have SK5 := SK.trans S5
        have sm : ∀ i ∈ f, smI i := fun i hi => by
          have := sf i hi
          constructor <;> omega
        have ar := arrow_self gw mem
        have gd := ledF_gd lf (by omega) rl sf sr
        refine ⟨_, rfl, _, rfl, _, rfl, _, rfl, x, row.1, row.2.1, v5, lw.hm, row, rows, f, rfl, hx.same (SK5.trans D5.s), ar, ⟨_, _, e3⟩, Dq.same D5.s _ _ hv5, lf, by omega, by omega, rl, sm, fun H6 v6 S6 hv6 => ?_⟩
        refine ⟨_, rfl, _, rfl, _, rfl, _, rfl, x, row.1, row.2.1, v5, lw.hm, row, rows, f, rfl, hx.same ((SK5.trans D5.s).trans S6), ar, ⟨_, _, e3⟩, Dq.same (D5.s.trans S6) _ _ hv5, lf, by omega, by omega, rl, sm, fun H7 v7 S7 hv7 => ?_⟩
        refine ⟨(by show 2 ≤ sizeLine; decide), fun a na => ?_⟩
        refine ⟨_, rfl, a, _, _, _, _, rfl, upd_same, .cons (Dq.same (S7.trans (same_new na)) _ _ hv6) (.cons (Dq.same (same_new na) _ _ hv7) .nil), seen_two gd, ?_⟩
        have S8 := (S6.trans S7).trans (same_new (o := .lst [v6, v7]) na)
        have D8 := D5.mono S8
        refine ⟨_, rfl, _, rfl, _, rfl, _, rfl, wd, row.1, row.2.1, v5, lw, row, rows, f, rfl, hW.same (SK5.trans D8.s), gw, ar, ⟨_, _, e3⟩, Dq.same D8.s _ _ hv5, lf, lrows, rl, sm, fun H9 v9 S9 hv9 => ?_⟩
        refine ⟨(by show 1 ≤ sizeLine; decide), fun b' nb => ⟨b', _, [v9], rfl, rfl, upd_same, by decide, by decide, (by show 1 * 2 ≤ sizeLine; decide), fun c nc => ?_⟩⟩
        have S10 := (same_new (o := .lst [v9]) nb).trans (same_new (o := .lst [v9, v9]) nc)
        refine ⟨c, v9, [v9], _, _, rfl, upd_same, .cons (Dq.same S10 _ _ hv9) (.cons (Dq.same S10 _ _ hv9) .nil), seen_two gd, rfl, _, rfl, iteNo (by rw [decide_eq_true rfl]; rfl) ⟨_, _, _, _, K5, t5, rfl, D8.mono (S9.trans S10), S4.trans S5, by omega, by omega⟩⟩
    clear D3 ta tb
    rintro σ4 H4 ⟨o3, o4, o5, o6, K4, t4, rfl, D4, S4, ta, tb⟩
    refine ⟨fun σ H5 => ∃ L K5 t5, σ = [some (.ref p), some (.ref wd), some (.ref x), o3, o4, o5, o6, some (.ref L), none, none, none, none, none] ∧ DeckAt K5 H5 p l t5 ∧ Same K1 K5 ∧ t ≤ t5 ∧ t5 ≤ t + 50 ∧ K5 L = some (.lst (lw.lets.map V.str)), ?_, ?_⟩
    · obtain ⟨da, ds, rfl, hda, hds⟩ := list_at q1
      have lds : ds.length = lw.deeds.length := by rw [dq_len hds, List.length_map]
      have SK := S4.trans D4.s
      refine ⟨_, rfl, wd, _, rfl, wg_deeds (SK _ _ hw), da, rfl, ⟨_, SqL.of (SK _ _ hda)⟩, fun L nL => ?_⟩
      obtain ⟨Lp, Ll⟩ := D4.notP nL
      refine lc_list (K := K) (a := da) (xs := ds) (fun i H5 => MadeTo H4 L ((lw.lets.take i).map V.str) H5) ⟨same_new nL, upd_same⟩ (fun i H5 _ M => SqL.of (M.1 _ _ (SK _ _ hda))) ?_ ?_
      · rintro i v H5 hv M
        obtain ⟨d', hd', hq'⟩ := DqAll.at hds hv
        rw [List.getElem?_map] at hd'
        cases ed : lw.deeds[i]? with
        | none =>
          rw [ed] at hd'
          cases hd'
        | some dd =>
          rw [ed] at hd'
          cases hd'
          have hi := (List.getElem?_eq_some_iff.mp ed).1
          obtain ⟨b, us, rfl, eb, qb⟩ := tup_at (Dq.same (SK.trans M.1) _ _ hq')
          cases qb with | cons u0 qb =>
          cases qb with | cons u1 qb =>
          cases qb
          cases u0
          cases u1
          refine ⟨b, _, rfl, SqT.of eb, rfl, _, _, rfl, _, _, rfl, rfl, rfl, ?_⟩
          obtain ⟨h1, M2⟩ := M.more (V.str dd.1) nL (Same.refl _)
          refine ⟨_, rfl, _, h1, ?_, ?_⟩
          · rw [List.length_map, List.length_take, sizeLine_eq]
            have := gw.d3
            omega
          · have el : lw.lets[i]? = some dd.1 := by
              unfold LW.lets
              rw [List.getElem?_map, ed]
              rfl
            rw [take_more el, List.map_append]
            exact M2
      · rintro H5 M
        have ll : lw.lets.length = ds.length := by
          unfold LW.lets
          rw [List.length_map, lds]
        rw [← ll, List.take_length] at M
        have D5 := D4.mono M.1
        refine ⟨L, KL.hide p l H5, t4, rfl, D5.hide.1, S4.trans D5.hide.2, ta, tb, ?_⟩
        rw [hide_of Lp Ll]
        exact M.2
    clear D4 S4 ta tb
    rintro σ5 H5 ⟨L, K5, t5, rfl, D5, S5, ta, tb, hL⟩
    refine ⟨fun σ H6 => ∃ o8 o9 o10 K6 t6, σ = [some (.ref p), some (.ref wd), some (.ref x), o3, o4, o5, o6, some (.ref L), o8, o9, o10, none, none] ∧ DeckAt K6 H6 p l t6 ∧ Same K1 K6 ∧ t ≤ t6 ∧ t6 ≤ t + 150, ?_, ?_⟩
    · obtain ⟨Lp, Ll⟩ := D5.neF hL
      refine ⟨4, rfl, by decide, by decide, for_range (fun i σ H' => ∃ o8 o9 o10 K6 t6, σ = [some (.ref p), some (.ref wd), some (.ref x), o3, o4, o5, o6, some (.ref L), o8, o9, o10, none, none] ∧ DeckAt K6 H' p l t6 ∧ Same K5 K6 ∧ t5 ≤ t6 ∧ t6 ≤ t5 + 13 * (i : Int)) ⟨none, none, none, K5, t5, rfl, D5, Same.refl _, by omega, by omega⟩ ?_ (fun σ H' ⟨a, b, c, K6, t6, e, D6, S6, h1, h2⟩ => ⟨a, b, c, K6, t6, e, D6, S5.trans S6, by omega, by
        have : ((4 : Int).toNat : Int) = 4 := rfl
        omega⟩)⟩
      clear D5
      rintro i σ H6 hi ⟨o8, o9, o10, K6, t6, rfl, D6, S6, tc, td⟩
      have hi4 : i < 4 := hi
      have SK := S5.trans S6
      refine ⟨fun σ H' => ∃ (K7 : Hp) (t7 : Int) (y : Str), σ = [some (.ref p), some (.ref wd), some (.ref x), o3, o4, o5, o6, some (.ref L), some (.int (0 + (i : Int))), some (.str y), o10, none, none] ∧ DeckAt K7 H' p l t7 ∧ Same K6 K7 ∧ t6 ≤ t7 ∧ t7 ≤ t6 + 13 ∧ y.length ≤ 12, ?_, ?_⟩
      · refine ⟨⟨_, rfl⟩, _, rfl, K6, p, l, t6, 13, rfl, D6, by omega, by omega, by omega, by omega, fun H7 n g7 n0 n1' => ⟨n, rfl, by omega, by omega, fun B nB => ?_⟩⟩
        refine lc_range (fun i H8 => Making p l B K6 H7 (t6 + 1) 1 LetP i H8) (Making.start g7.d nB LetP.start) ?_ ?_
        · rintro j H8 hj ⟨H08, t8, ys, ds, g8, w8, q8, hP8⟩
          have g8t := g8.t0
          have g8u := g8.t1
          refine ⟨rfl, _, rfl, _, rfl, H08, p, l, t8, L, _, rfl, g8.d, by omega, by omega, g8.d.s _ _ (g8.s _ _ (S6 _ _ hL)), Lp, Ll, ?_, ?_, fun H9 j v g9 hv => ?_⟩
          · unfold LW.lets
            rw [List.length_map, List.length_map]
            exact gw.d1
          · unfold LW.lets
            rw [List.length_map, List.length_map]
            have := gw.d3
            omega
          · have hv := List.mem_of_getElem? hv
            obtain ⟨y, hy, rfl⟩ := List.mem_map.mp hv
            exact Making.turn g8 w8 q8 g9 (.str y) (by rw [hP8.len]; omega) (hP8.snoc (len_letter (gw.dl y hy).1))
        · rintro H8 ⟨H08, t8, ys, ds, g8, w8, q8, zs, rfl, lz, hz⟩
          have g8t := g8.t0
          have g8u := g8.t1
          have eys := strs_inv q8
          subst eys
          obtain ⟨j1, j2⟩ := join_le (ys := zs) (by omega) hz
          exact ⟨"", B, zs, rfl, rfl, .inl (SqL.of w8.h), j1, H08, t8, _, rfl, g8.d, g8.s, by omega, by omega, j2⟩
      clear D6
      rintro σ7 H7 ⟨K7, t7, y, rfl, D7, S7, te, tf, hy⟩
      have SK7 := SK.trans S7
      refine ⟨fun σ H' => ∃ v, σ = [some (.ref p), some (.ref wd), some (.ref x), o3, o4, o5, o6, some (.ref L), some (.int (0 + (i : Int))), some (.str y), some v, none, none] ∧ Same H7 H' ∧ ((lw.hm.taken y < y.length ∧ v = .int (lw.hm.taken y)) ∨ (¬ lw.hm.taken y < y.length ∧ Dq H' v (hereD (endP 0 (lw.hm.along 0 (wordOf y))) (valsBehind lw.start (lw.hm.along 0 (wordOf y)))))), ?_, ?_⟩
      · have hy' : y.cps.size ≤ 100 := Nat.le_trans hy (by decide)
        exact ⟨_, rfl, _, rfl, wd, y, lw, rfl, hW.same (SK7.trans D7.s), gw, hy', fun hl H8 S8 => ⟨_, rfl, S8, .inl ⟨hl, rfl⟩⟩, fun hl H8 v S8 hv => ⟨v, rfl, S8, .inr ⟨hl, hv⟩⟩⟩
      rintro σ8 H8 ⟨v, rfl, S8, hv⟩
      refine ⟨fun σ H' => ∃ v, σ = [some (.ref p), some (.ref wd), some (.ref x), o3, o4, o5, o6, some (.ref L), some (.int (0 + (i : Int))), some (.str y), some v, none, none] ∧ Same H8 H' ∧ Dq H' v (heardD lw.hm y), ?_, ?_⟩
      · rcases hv with ⟨hl, rfl⟩ | ⟨hl, hv⟩
        · refine ⟨_, rfl, _, .int (lw.hm.taken y), "int", rfl, by decide, .int _, _, rfl, iteYes rfl ⟨_, rfl, (by show 3 ≤ sizeLine; decide), fun a na => ⟨_, rfl, same_new na, ?_⟩⟩⟩
          unfold heardD
          rw [if_pos hl]
          exact .lst upd_same (.cons (.str _) (.cons (.int _) (.cons (.bl _) .nil)))
        · have hv' := hv
          obtain ⟨a, us, rfl, ea, qa⟩ := tup_at hv
          refine ⟨_, rfl, _, hereD (endP 0 (lw.hm.along 0 (wordOf y))) (valsBehind lw.start (lw.hm.along 0 (wordOf y))), "int", rfl, by decide, hv', _, rfl, iteNo rfl ⟨_, rfl, a, us, rfl, .inr (SqT.of ea), fun b nb => ⟨_, rfl, same_new nb, ?_⟩⟩⟩
          unfold heardD
          rw [if_neg hl]
          exact .lst upd_same (DqAll.same (same_new nb) _ _ qa)
      clear hv
      rintro σ9 H9 ⟨v, rfl, S9, hv⟩
      have D9 := (D7.mono S8).mono S9
      have hy' : y.cps.size ≤ 100 := Nat.le_trans hy (by decide)
      have gd := heard_gd gw hy
      refine ⟨_, rfl, _, rfl, x, y, false, lw.hm, rfl, hx.same (SK7.trans D9.s), gw.right, gw.sma, hy', fun Ha va Sa hva => ?_⟩
      refine ⟨_, rfl, _, rfl, x, y, true, lw.hm, rfl, hx.same ((SK7.trans D9.s).trans Sa), gw.right, gw.sma, hy', fun Hb vb Sb hvb => ?_⟩
      refine ⟨(by show 2 ≤ sizeLine; decide), fun a na => ⟨a, _, _, _, _, rfl, upd_same, .cons (Dq.same (Sb.trans (same_new na)) _ _ hva) (.cons (Dq.same (same_new na) _ _ hvb) .nil), seen_two gd, ?_⟩⟩
      have Sc := (Sa.trans Sb).trans (same_new (o := .lst [va, vb]) na)
      refine ⟨_, rfl, _, rfl, (by show 2 ≤ sizeLine; decide), fun b nb => ⟨b, _, _, _, _, rfl, upd_same, .cons (Dq.same (Sc.trans (same_new nb)) _ _ hv) (.cons (Dq.same (Sc.trans (same_new nb)) _ _ hv) .nil), seen_two gd, rfl, _, rfl, iteNo (by rw [decide_eq_true rfl]; rfl) ⟨_, _, _, K7, t7, rfl, D9.mono (Sc.trans (same_new nb)), S6.trans S7, by omega, by omega⟩⟩⟩
    clear D5 S5 ta tb hL
    rintro σ6 H6 ⟨o8, o9, o10, K6, t6, rfl, D6, S6, ta, tb⟩
    have SK := S6.trans D6.s
    refine ⟨_, rfl, _, rfl, wd, lw, rfl, hW.same SK, gw, fun H7 z S7 hz => ?_⟩
    have hx7 := hx.same (SK.trans S7)
    obtain ⟨dx, fs, ex⟩ := hs_get hx7
    obtain ⟨dz, gs, ez⟩ := hs_get hz
    refine ⟨x, dx, fs, rfl, ex, other_ins R.i ez, x, .ref z, lw.hm, rfl, hx7, gw.fit, .inr ⟨z, lw.hm, rfl, hz, gw.fit, ?_⟩⟩
    rw [sameH_self gw.fit]
    exact ⟨true, rfl, k K6 H7 t6 (D6.mono S7) ta (by omega)⟩
end
end KL
set_option Elab.async false
set_option linter.all false
set_option maxRecDepth 100000
set_option maxHeartbeats 16000000
namespace KL
open PySem L2 PySem.KX PySem.Spec PyProof.Rows
/-! ### what is written out -/
def LitS (B : Hp) (σ : L2.St) (te : TE) (d : PyData) : Prop := ∀ (H : Hp) (Q : VK), Same B H → (∀ H' v, Same H H' → Dq H' v d → Q v H') → te σ H Q
def LitsS (B : Hp) (σ : L2.St) (ts : TA) (ds : List PyData) : Prop := ∀ (H : Hp) (Q : List V → Hp → Prop), Same B H → (∀ H' vs, Same H H' → DqAll H' vs ds → Q vs H') → ts σ H Q
section
variable {B : Hp} {σ : L2.St}
theorem lx_int {i : Int} : LitS B σ (tC (.int i)) (.int i) := fun H Q _ k => k H _ (Same.refl _) (.int i)
theorem lx_str {x : Str} : LitS B σ (tC (.str x)) (.str x) := fun H Q _ k => k H _ (Same.refl _) (.str x)
theorem lx_neg {i : Int} : LitS B σ (tUn (rU fun i => .int (-i)) (tC (.int i))) (.int (-i)) := fun H Q _ k => ⟨_, rfl, k H _ (Same.refl _) (.int (-i))⟩
theorem lx_var {i : Nat} {v : V} {d : PyData} (e : σ[i]? = some (some v)) (h : Dq B v d) : LitS B σ (tVar i) d := fun H Q S k => ⟨v, e, k H v (Same.refl _) (Dq.same S _ _ h)⟩
theorem lxs_nil : LitsS B σ tNil [] := fun H Q _ k => k H [] (Same.refl _) .nil
theorem lxs_cons {te : TE} {ts : TA} {d : PyData} {ds : List PyData} (a : LitS B σ te d) (b : LitsS B σ ts ds) : LitsS B σ (tCons te ts) (d :: ds) := fun H Q S k =>
  a H _ S fun H1 v S1 q1 => b H1 _ (S.trans S1) fun H2 vs S2 q2 => k H2 (v :: vs) (S1.trans S2) (.cons (Dq.same S2 _ _ q1) q2)
theorem lx_tup {ts : TA} {ds : List PyData} (a : LitsS B σ ts ds) (hz : ds.length ≤ 1000 := by exact Nat.le_of_ble_eq_true rfl) : LitS B σ (tTup ts) (.tuple ds) := fun H Q S k =>
  a H _ S fun H1 vs S1 q1 => ⟨by rw [dq_len q1, sizeLine_eq]; omega, fun p np => k _ _ (S1.trans (same_new np)) (dq_new np q1)⟩
end
theorem asg_tup {B H : Hp} {σ : L2.St} {ts : TA} {g : TG} {ds : List PyData} {D : Ends} (S : Same B H) (ls : LitsS B σ ts ds) (hz : ds.length ≤ 1000) (k : ∀ H' vs p, Same H H' → DqAll H' vs ds → H' p = some (.tup vs) → g (.ref p) σ H' D.nx) : tAsg (tTup ts) g D σ H :=
  ls H _ S fun H1 vs S1 q => ⟨by rw [dq_len q, sizeLine_eq]; omega, fun p np => k _ vs p (S1.trans (same_new np)) (DqAll.same (same_new np) _ _ q) upd_same⟩
/-! ### the house by hand -/
def f01 : PyData := .tuple [.int 0, .int 1]
def handRow : Row := (0, "a", [.int 0, .tuple [.tuple [.int 3, .int (-2)]], .tuple []])
def handT : Row := (0, "a", [f01, .int 0, .int 9])
def handW : LW := ⟨1, [("a", 0)], 1, 0, [5], [], [handRow], [handT], [[[f01]]]⟩
theorem handF : FormS 1 f01 := ⟨[0, 1], rfl, rfl, by decide⟩
theorem hand_good : GoodW handW where
  p1 := by decide
  p3 := by decide
  d1 := by decide
  d3 := by decide
  dl := fun l h => by
    rw [List.mem_singleton.mp h]
    exact ⟨by decide +kernel, by decide +kernel⟩
  da := by decide
  ds := .cons (fun _ h => nomatch h) .nil
  n1 := by decide
  n3 := by decide
  sm := by decide
  q1 := by decide
  q3 := by decide
  ea := fun _ h => nomatch h
  es := .nil
  g0 := by decide
  g2 := by decide
  rw := .cons (fun _ h => nomatch h) .nil
  rs := fun r h => by
    rw [List.mem_singleton.mp h]
    exact ⟨by decide, by decide, .head _⟩
  ra := fun r h => by
    rw [List.mem_singleton.mp h]
    exact ⟨⟨0, [.tuple [.int 3, .int (-2)]], [], rfl, by decide, by decide, ⟨rfl, fun f hf => by
      rw [List.mem_singleton.mp hf]
      exact ⟨[3, -2], rfl, rfl, by decide⟩⟩, rfl, fun _ h => nomatch h⟩⟩
  rn := by decide
  tt := .cons (fun _ h => nomatch h) .nil
  ta := fun r h => by
    rw [List.mem_singleton.mp h]
    exact ⟨⟨f01, 0, 9, rfl, handF, by decide, by decide, by decide⟩, handRow, .head _, rfl, rfl⟩
  tn := by decide
  kn := rfl
  ka := fun m h => by
    rw [List.mem_singleton.mp h]
    refine ⟨rfl, fun c hc => ?_⟩
    rw [List.mem_singleton.mp hc]
    refine ⟨by decide, fun f hf => ?_⟩
    rw [List.mem_singleton.mp hf]
    exact handF
/-- a house out of its parts -/
theorem init_parts {C CB : Addr} {m : HM} (hR : RightH m) (hF : FitH m) {K1 H3 : Hp} {vs : List V} (q : DqAll K1 vs m.parts) (S : Same K1 H3) {y dy : Addr} (ny : H3 y = none) (ndy : H3 dy = none) {Q : VK} {E : XK} (k : ∀ H', Same H3 H' → HsAt C H' y m → Q (.ref y) H') :
    spInit C CB (.ref y :: vs) (upd (upd H3 dy (.own y)) y (.ins C dy [])) (fun v H2 => v = .non ∧ Q (.ref y) H2) E := by
  have q := DqAll.same S _ _ q
  cases q with | cons p0 q =>
  cases q with | cons p1 q =>
  cases q with | cons p2 q =>
  cases q with | cons p3 q =>
  cases q with | cons p4 q =>
  cases q with | cons p5 q =>
  cases q with | cons p6 q =>
  cases q with | cons p7 q =>
  cases q with | cons p8 q =>
  cases q
  cases p0
  cases p3
  cases p5
  have S2 : Same H3 (upd (upd H3 dy (.own y)) y (.ins C dy [])) := fun b o e => by
    rw [upd_ne (ne_of_none e ny), upd_ne (ne_of_none e ndy)]
    exact e
  refine ⟨H3, y, dy, _, _, _, _, _, _, _, _, _, _, _, _, _, _, _, _, _, _, rfl, S2, ny, upd_same, .int _, p1, p2, .int _, p4, .int _, p6, p7, p8, fit_small hF, fun _ H' fs S hy hf => ?_, fun it e => ?_⟩
  · exact ⟨rfl, k H' S ⟨dy, fs, _, _, _, _, _, _, hy, hf, Dq.same S _ _ p1, Dq.same S _ _ p2, Dq.same S _ _ p4, Dq.same S _ _ p6, Dq.same S _ _ p7, Dq.same S _ _ p8⟩⟩
  · have z : m.due = some it := e
    rw [hR.due] at z
    cases z
theorem asg_make {C CB : Addr} {B H : Hp} {σ : L2.St} {ts : TA} {m : HM} {i : Nat} {D : Ends} (hR : RightH m) (hF : FitH m) (S : Same B H) (ls : LitsS B σ ts m.parts)
    (k : ∀ H' y, Same H H' → HsAt C H' y m → D.nx (σ.set i (some (.ref y))) H') : tAsg (tMake C (spInit C CB) [] E0 ts) (gName i) D σ H :=
  ls H _ S fun H3 vs S3 q => fun y dy ny ndy _ => by
    rw [List.append_nil]
    exact init_parts (Q := fun x H1 => gName i x σ H1 D.nx) hR hF q (Same.refl _) ny ndy fun H4 S4 hy => k H4 y (S3.trans S4) hy
def spLaw (K : PySem.W.Frag) : Sp := fun vs H Q _ => ∃ (a : Addr) (ns : List Int), vs = [.ref a] ∧ SqL K H a (ns.map V.int) ∧ ns.length ≤ 63 ∧ ∀ H', Q (.bl true) H'
abbrev nLaw : List Str := ["_law_script", "_law_deck_here", "_law_go", "_law_rows", "_law_looks_now", "_law_code", "_law_told"]
structure LawFns (P : Program) (w : World) (K : PySem.W.Frag) (mg : Str → Option Value) (base : Heap) (C CN CB fI gDeck gWorld gTested gRight gAt gLed gEnd gNum : Addr) (dI dDeck dWorld dTested dRight dAt dLed dEnd dNum : FuncData) : Prop where
  mC : mg "House" = some (.ref C)
  deck : FnOk P w K mg base CX0 1 gDeck dDeck ["_law_script"] (spDeck K)
  cDeck : Cal K mg "_law_deck" gDeck dDeck ["_law_script"]
  world : FnOk P w K mg base CX0 4 gWorld dWorld ["_law_deck_here", "_law_sizes", "_law_spots", "_law_most_deeds"] spWorld
  cWorld : Cal K mg "_law_world" gWorld dWorld ["_law_deck_here", "_law_sizes", "_law_spots", "_law_most_deeds"]
  tested : FnOk P w K mg base CX0 4 gTested dTested ["_law_deck_here", "_law_w"] spTested
  cTested : Cal K mg "_law_tested" gTested dTested ["_law_deck_here", "_law_w"]
  right : FnG P w K mg base CX0 9 gRight dRight ["_law_deck_here", "_law_w"] spRight
  cRight : Cal K mg "_law_right" gRight dRight ["_law_deck_here", "_law_w"]
  I : FnOk P w K mg base (L2.CX P w) 6 fI dI pInit9 (spInit C CB)
  M : Mk K C fI
  bI : L2.Binds K dI pInit9 []
  at_ : FnOk P w K mg base CX0 2 gAt dAt ["house", "place"] (spFormsAt C)
  cAt : Cal K mg "looked_at" gAt dAt ["house", "place"]
  led : FnOk P w K mg base CX0 2 gLed dLed ["house", "place", "deed", "form"] (spLedBack C)
  cLed : Cal K mg "led_back" gLed dLed ["house", "place", "deed", "form"]
  end_ : FnOk P w K mg base (L2.CX P w) 4 gEnd dEnd ["house", "way"] (spEndOf C CN)
  cEnd : Cal K mg "end_of" gEnd dEnd ["house", "way"]
  num : FnOk P w K mg base (L2.CX P w) 4 gNum dNum ["house", "way"] (spNumbersBehind C CN)
  cNum : Cal K mg "numbers_behind" gNum dNum ["house", "way"]
def dueL : PyData := .list [.tuple [f01, f01], .tuple [.int 10, .int (-6)], .tuple [.int 17], .int 0]
section
variable {P : Program} {w : World} {K : PySem.W.Frag} {mg : Str → Option Value} {base : Heap} {C CN CB fI gDeck gWorld gTested gRight gAt gLed gEnd gNum : Addr} {dI dDeck dWorld dTested dRight dAt dLed dEnd dNum : FuncData}
theorem scLaw : FnScope nLaw ["_law_script"] (defScope lLaw) := ⟨rfl, rfl, rfl, by decide +kernel, rfl, by decide +kernel, by decide +kernel⟩
theorem ok_law {f : Addr} {fd : FuncData} (F : Fun K "law" "law" lLaw f fd) (T : TxtG mg) (L : LawFns P w K mg base C CN CB fI gDeck gWorld gTested gRight gAt gLed gEnd gNum dI dDeck dWorld dTested dRight dAt dLed dEnd dNum) : FnG P w K mg base CX0 10 f fd ["_law_script"] (spLaw K) := by
  refine fnG0 F scLaw (fun vs H Q E h => ?_) (fun cdv A outer s H vs Q E hG hr h => ?_)
  · obtain ⟨a, ns, rfl, _⟩ := h
    rfl
  · obtain ⟨a, ns, rfl, hS, hlen, fin⟩ := h
    have nd := scLaw.nd
    have r1 : Room 1 _ := hr.mono (by decide)
    have r2 : Room 2 _ := hr.mono (by decide)
    have r4 : Room 4 _ := hr.mono (by decide)
    have r7 : Room 7 _ := hr.mono (by decide)
    refine ⟨_, C8.pss_cut (ps_set (i := 1) nd rfl (.inl rfl) (pe_call L.deck r1 (by rfl) L.cDeck.m L.cDeck.k L.cDeck.b .nil pass0 (pa_cons (pv 0) pa_nil)))
      (C8.pss_cut (ps_for PassesOwn.never rfl (pi_range1 (by rfl) T.range (pa_cons pe_int pa_nil)) (pg_name (i := 2) nd rfl (.inl rfl))
        (pss_one (ps_if (pt_not (pt_val (pe_callG L.right hG hr (by rfl) L.cRight.m L.cRight.k L.cRight.b pass0 (pa_cons (pv 1) (pa_cons (pe_call L.tested r4 (by rfl) L.cTested.m L.cTested.k L.cTested.b .nil pass0 (pa_cons (pv 1) (pa_cons (pe_call L.world r4 (by rfl) L.cWorld.m L.cWorld.k L.cWorld.b .nil pass0 (pa_cons (pv 1) (pa_cons pe_int (pa_cons pe_int (pa_cons pe_int pa_nil))))) pa_nil))) pa_nil))))) (pss_one (ps_ret pe_bl)) pss_nil)))
      (C8.pss_cut (ps_asg (pe_tup (pa_cons (pe_tup (pa_cons (pe_tup (pa_cons pe_int (pa_cons pe_str (pa_cons pe_int (pa_cons (pe_tup (pa_cons (pe_tup (pa_cons pe_int (pa_cons (pe_un un_neg pe_int) pa_nil))) pa_nil)) (pa_cons (pe_tup pa_nil) pa_nil)))))) pa_nil))
          (pa_cons (pe_tup (pa_cons (pe_tup (pa_cons (pe_tup (pa_cons (pe_tup (pa_cons pe_int (pa_cons pe_int pa_nil))) pa_nil)) pa_nil)) pa_nil)) pa_nil))) (pg_tup rfl (pgs_cons (pg_name (i := 3) nd rfl (.inl rfl)) (pgs_cons (pg_name (i := 4) nd rfl (.inl rfl)) pgs_nil))))
      (C8.pss_cut (ps_set (i := 5) nd rfl (.inl rfl) (pe_make L.M L.I r7 (by rfl) L.mC L.bI .nil passL (pa_cons pe_int (pa_cons (pe_tup (pa_cons (pe_tup (pa_cons pe_str (pa_cons pe_int pa_nil))) pa_nil)) (pa_cons (pe_tup (pa_cons pe_int pa_nil)) (pa_cons pe_int (pa_cons (pe_tup pa_nil) (pa_cons pe_int (pa_cons (pv 3)
          (pa_cons (pe_tup (pa_cons (pe_tup (pa_cons pe_int (pa_cons pe_str (pa_cons (pe_tup (pa_cons pe_int (pa_cons pe_int pa_nil))) (pa_cons pe_int (pa_cons pe_int pa_nil)))))) pa_nil)) (pa_cons (pv 4) pa_nil)))))))))))
      (C8.pss_cut (ps_set (i := 6) nd rfl (.inl rfl) (pe_lst (pa_cons (pe_call L.at_ r2 (by rfl) L.cAt.m L.cAt.k L.cAt.b .nil pass0 (pa_cons (pv 5) (pa_cons pe_int pa_nil)))
          (pa_cons (pe_call L.led r2 (by rfl) L.cLed.m L.cLed.k L.cLed.b .nil pass0 (pa_cons (pv 5) (pa_cons pe_int (pa_cons pe_str (pa_cons (pe_tup (pa_cons pe_int (pa_cons pe_int pa_nil))) pa_nil)))))
          (pa_cons (pe_call L.num r4 (by rfl) L.cNum.m L.cNum.k L.cNum.b .nil passL (pa_cons (pv 5) (pa_cons pe_str pa_nil)))
          (pa_cons (pe_call L.end_ r4 (by rfl) L.cEnd.m L.cEnd.k L.cEnd.b .nil passL (pa_cons (pv 5) (pa_cons pe_str pa_nil))) pa_nil))))))
      (pss_one (ps_ret (pe_cmpR (op_eqD hr.units) (pv 6) (pe_lst (pa_cons (pe_tup (pa_cons (pe_tup (pa_cons pe_int (pa_cons pe_int pa_nil))) (pa_cons (pe_tup (pa_cons pe_int (pa_cons pe_int pa_nil))) pa_nil))) (pa_cons (pe_tup (pa_cons pe_int (pa_cons (pe_un un_neg pe_int) pa_nil))) (pa_cons (pe_tup (pa_cons pe_int pa_nil)) (pa_cons pe_int pa_nil))))) (nomark _)))))))), ?_⟩
    -- the deck
    refine ⟨fun σ H' => ∃ p l, σ = [some (.ref a), some (.ref p), none, none, none, none, none] ∧ DeckAt H H' p l 0, ?_, ?_⟩
    · exact ⟨_, rfl, a, ns, rfl, hS, hlen, fun H' p l D => ⟨p, l, rfl, D⟩⟩
    rintro σ1 H1 ⟨p, l, rfl, D⟩
    refine ⟨fun σ H' => ∃ o2, σ = [some (.ref a), some (.ref p), o2, none, none, none, none], ?_, ?_⟩
    · refine ⟨2, rfl, by decide, by decide, for_range (fun i σ H' => ∃ o2 H0 t, σ = [some (.ref a), some (.ref p), o2, none, none, none, none] ∧ DeckAt H0 H' p l t ∧ 0 ≤ t ∧ t ≤ 1000 * (i : Int)) ⟨_, H, 0, rfl, D, by omega, by omega⟩ ?_ (fun σ H' ⟨o2, H0, t, e, _⟩ => ⟨o2, e⟩)⟩
      clear D
      rintro i σ H2 hi ⟨o2, H0, t, rfl, D, t0, t1⟩
      have hi2 : i < 2 := hi
      refine ⟨_, rfl, _, rfl, _, rfl, H0, p, l, t, 3, 3, 3, rfl, D, t0, by omega, by omega, by omega, by omega, by omega, by omega, by omega, fun K1 H3 t' wd vs' w g hw hq hG' ht => ?_⟩
      have ga := g.t0
      have gb := g.t1
      refine ⟨K1, p, l, wd, t', vs', w, rfl, g.d, by omega, by omega, hw.h, hw.n, hq, hG', ht, fun K2 H4 t2 w' D2 S2 ta tb hW' hG2 => ?_⟩
      refine ⟨K2, p, l, wd, t2, w', rfl, D2, by omega, by omega, hW', hG2, fun K3 H5 t3 D3 tc td => ⟨_, rfl, iteNo rfl ⟨_, K3, t3, rfl, D3, by omega, by omega⟩⟩⟩
    clear D
    rintro σ2 H2 ⟨o2, rfl⟩
    -- the parts
    refine ⟨fun σ H' => ∃ v3 v4, σ = [some (.ref a), some (.ref p), o2, some v3, some v4, none, none] ∧ Dq H' v3 (.tuple ([handRow].map rowE)) ∧ Dq H' v4 (.tuple [.tuple [.tuple [f01]]]), ?_, ?_⟩
    · refine asg_tup (Same.refl H2) (lxs_cons (lx_tup (lxs_cons (lx_tup (lxs_cons lx_int (lxs_cons lx_str (lxs_cons lx_int (lxs_cons (lx_tup (lxs_cons (lx_tup (lxs_cons lx_int (lxs_cons lx_neg lxs_nil))) lxs_nil)) (lxs_cons (lx_tup lxs_nil) lxs_nil)))))) lxs_nil))
        (lxs_cons (lx_tup (lxs_cons (lx_tup (lxs_cons (lx_tup (lxs_cons (lx_tup (lxs_cons lx_int (lxs_cons lx_int lxs_nil))) lxs_nil)) lxs_nil)) lxs_nil)) lxs_nil)) (by decide) fun H3 vs tp S3 q htp => ?_
      cases q with | cons q1 q =>
      cases q with | cons q2 q =>
      cases q
      exact ⟨tp, _, rfl, SqT.of htp, rfl, _, _, rfl, _, _, rfl, rfl, _, _, rfl, q1, q2⟩
    rintro σ3 H3 ⟨v3, v4, rfl, q3, q4⟩
    refine ⟨fun σ H' => ∃ x, σ = [some (.ref a), some (.ref p), o2, some v3, some v4, some (.ref x), none] ∧ HsAt C H' x handW.hm, ?_, ?_⟩
    · refine asg_make hand_good.right hand_good.fit (Same.refl H3) (lxs_cons lx_int (lxs_cons (lx_tup (lxs_cons (lx_tup (lxs_cons lx_str (lxs_cons lx_int lxs_nil))) lxs_nil)) (lxs_cons (lx_tup (lxs_cons lx_int lxs_nil)) (lxs_cons lx_int (lxs_cons (lx_tup lxs_nil) (lxs_cons lx_int (lxs_cons (lx_var rfl q3)
        (lxs_cons (lx_tup (lxs_cons (lx_tup (lxs_cons lx_int (lxs_cons lx_str (lxs_cons (lx_tup (lxs_cons lx_int (lxs_cons lx_int lxs_nil))) (lxs_cons lx_int (lxs_cons lx_int lxs_nil)))))) lxs_nil)) (lxs_cons (lx_var rfl q4) lxs_nil))))))))) fun H4 y S4 hy => ⟨y, rfl, hy⟩
    clear q3 q4
    rintro σ4 H4 ⟨x, rfl, hx⟩
    -- what is told
    refine ⟨fun σ H' => ∃ v, σ = [some (.ref a), some (.ref p), o2, some v3, some v4, some (.ref x), some v] ∧ Dq H' v dueL, ?_, ?_⟩
    · refine ⟨_, rfl, x, 0, handW.hm, rfl, hx, hand_good.right, hand_good.fit, by decide, fun H5 v5 S5 q5 => ?_⟩
      refine ⟨_, rfl, (by show 2 ≤ sizeLine; decide), fun u nu => ?_⟩
      have S6 := S5.trans (same_new (o := .tup [V.int 1, V.int 3]) nu)
      refine ⟨x, 0, "a", .ref u, handW.hm, handRow, [[3, -2]], [1, 3], rfl, hx.same S6, arrow_self hand_good (r := handRow) (.head _), ⟨_, _, rfl⟩, dq_new nu (.cons (.int 1) (.cons (.int 3) .nil)), rfl, by decide, by decide, by decide, (fun i hi => by
        simp only [List.mem_cons, List.not_mem_nil, or_false] at hi
        rcases hi with rfl | rfl <;> exact ⟨by decide, by decide⟩), fun H7 v7 S7 q7 => ?_⟩
      have S57 := (same_new (o := .tup [V.int 1, V.int 3]) nu).trans S7
      refine ⟨_, rfl, x, "aa", handW.hm, rfl, hx.same (S6.trans S7), hand_good.right, hand_good.sma, by decide +kernel, fun H8 v8 S8 _ q8 => ?_, fun H8 dd S8 hl => absurd hl (by decide +kernel)⟩
      refine ⟨_, rfl, x, "", handW.hm, rfl, hx.same ((S6.trans S7).trans S8), hand_good.right, by decide +kernel, fun H9 S9 _ => ?_, fun H9 dd S9 hl => absurd hl (by decide +kernel)⟩
      refine ⟨(by show 4 ≤ sizeLine; decide), fun b nb => ⟨_, rfl, ?_⟩⟩
      have Sb := S9.trans (same_new (o := .lst [v5, v7, v8, .int (endP 0 (handW.hm.along 0 (wordOf "")))]) nb)
      exact .lst upd_same (.cons (Dq.same (S57.trans (S8.trans Sb)) _ _ q5) (.cons (Dq.same (S8.trans Sb) _ _ q7) (.cons (Dq.same Sb _ _ q8) (.cons (.int _) .nil))))
    clear hx
    rintro σ5 H5 ⟨v, rfl, hv⟩
    refine ⟨_, rfl, ?_⟩
    refine (lxs_cons (lx_tup (lxs_cons (lx_tup (lxs_cons lx_int (lxs_cons lx_int lxs_nil))) (lxs_cons (lx_tup (lxs_cons lx_int (lxs_cons lx_int lxs_nil))) lxs_nil))) (lxs_cons (lx_tup (lxs_cons lx_int (lxs_cons lx_neg lxs_nil))) (lxs_cons (lx_tup (lxs_cons lx_int lxs_nil)) (lxs_cons lx_int lxs_nil)))) H5 _ (Same.refl _) fun H6 vs S6 q => ?_
    refine ⟨by rw [dq_len q]; show 4 ≤ sizeLine; decide, fun b nb => ?_⟩
    have sh : SeqAt.shaped dueL = true := by decide +kernel
    refine ⟨dueL, dueL, dp_shaped sh (Dq.same (S6.trans (same_new nb)) _ _ hv), dp_shaped sh (.lst upd_same (DqAll.same (same_new nb) _ _ q)), sh, sh, ?_⟩
    rw [show PyData.eqv dueL dueL = true by decide +kernel]
    exact fin _
end
end KL
set_option Elab.async false
set_option linter.all false
set_option maxRecDepth 100000
set_option maxHeartbeats 4000000
namespace KL
open PySem L2 PySem.KX PySem.W PyProof.Rows
def chkE (K : Frag) (B C : Addr) : Bool :=
  excInitIn K C excB "Exception.__new__" && (excOver K C excB && (hasDictIn K C && (keepIn K (.ref C) && ((findIn K (.ref C) "__setattr__" == some (some (.builtin "object.__setattr__"))) && ((findIn K (.ref C) "__getattribute__" == some (some (.builtin "BaseException.__getattribute__"))) &&
  ((findIn K (.ref C) "__getattr__" == some none) && ((findIn K (.ref C) "__class__" == some (some (.builtin "object.__class__"))) && ((clsIn K C).any (fun cd => cd.mro == [.ref C, .ref B, .type "Exception", .type "BaseException", .type "object"]) && (typeIn K (.ref C) == some (.type "type"))))))))))
structure ChkE (K : Frag) (B C : Addr) : Prop where
  c1 : excInitIn K C excB "Exception.__new__" = true
  c2 : excOver K C excB = true
  c3 : hasDictIn K C = true
  c4 : keepIn K (.ref C) = true
  c5 : findIn K (.ref C) "__setattr__" = some (some (.builtin "object.__setattr__"))
  c6 : findIn K (.ref C) "__getattribute__" = some (some (.builtin "BaseException.__getattribute__"))
  c7 : findIn K (.ref C) "__getattr__" = some none
  c8 : findIn K (.ref C) "__class__" = some (some (.builtin "object.__class__"))
  c9 : ∃ cd, clsIn K C = some cd ∧ cd.mro = [.ref C, .ref B, .type "Exception", .type "BaseException", .type "object"]
  c10 : typeIn K (.ref C) = some (.type "type")
theorem chk_of {K : Frag} {B C : Addr} (h : chkE K B C = true) : ChkE K B C := by
  unfold chkE at h
  simp only [Bool.and_eq_true, beq_iff_eq] at h
  obtain ⟨h1, h2, h3, h4, h5, h6, h7, h8, h9, h10⟩ := h
  obtain ⟨cd, e, m⟩ := any_some h9
  exact ⟨h1, h2, h3, h4, h5, h6, h7, h8, ⟨cd, e, beq_iff_eq.mp m⟩, h10⟩
section
variable {K : Frag} {B C D : Addr}
theorem ChkE.mro (T : ChkE K B C) (v : Value) : subIn K (.ref C) v = some ([Value.ref C, .ref B, .type "Exception", .type "BaseException", .type "object"].contains v) := by
  obtain ⟨cd, e, m⟩ := T.c9
  show mroIn K C v = _
  unfold mroIn
  rw [e, Option.bind_some, m]
  rfl
theorem ChkE.ec (T : ChkE K B C) (hn : specialIn K (.builtin "object.__class__") "__get__" = some (some (.builtin "getset_descriptor.__get__"))) (ht : takesIn K (.builtin "object.__class__") = some true) : EC K C :=
  ⟨T.c1, T.c5, T.c2, T.c3, T.c4, ⟨T.c6, T.c7, by rw [T.mro]; rfl, T.c3, T.c8, hn, ht, T.mro _⟩⟩
theorem ChkE.ref (T : ChkE K B C) (h1 : (clsIn K D).isSome = true) (h2 : typeIn K (.ref D) = some (.type "type")) (hd : D ≠ C) (hb : D ≠ B) : kitOne K (.ref C) (.ref D) = some false := by
  unfold kitOne
  rw [if_neg (by simp [hd.symm])]
  unfold kitCls
  dsimp only
  rw [h1, h2, if_pos (by simp), T.mro]
  simp [hd, hb]
theorem ChkE.base (T : ChkE K B C) (h1 : (clsIn K B).isSome = true) (h2 : typeIn K (.ref B) = some (.type "type")) : kitOne K (.ref C) (.ref B) = some true := by
  unfold kitOne
  split
  · rfl
  · unfold kitCls
    dsimp only
    rw [h1, h2, if_pos (by simp), T.mro]
    simp
theorem ChkE.self : kitOne K (.ref C) (.ref C) = some true := by
  unfold kitOne
  rw [if_pos (by simp)]
theorem ChkE.typ (T : ChkE K B C) {n : String} {b : Bool} (h : (kitMeta n && ([Value.type "Exception", .type "BaseException", .type "object"].contains (.type n) == b)) = true) : kitOne K (.ref C) (.type n) = some b := by
  simp only [Bool.and_eq_true, beq_iff_eq] at h
  unfold kitOne
  rw [if_neg (by simp)]
  unfold kitCls
  dsimp only
  have z1 : (Value.type n == Value.ref C) = false := beq_eq_false_iff_ne.mpr fun q => nomatch q
  have z2 : (Value.type n == Value.ref B) = false := beq_eq_false_iff_ne.mpr fun q => nomatch q
  rw [h.1, if_pos rfl, T.mro, List.contains_cons, List.contains_cons, h.2, z1, z2]
  rfl
theorem ChkE.exm (T : ChkE K B C) (hs : subIn K (.ref D) (.type "BaseException") = some true) (h : kitCls K (.ref C) (.ref D) = some true) : exmOne K (.ref C) (.ref D) = some true := by
  unfold exmOne
  rw [hs, if_pos (by simp)]
  exact h
theorem ChkE.isSome (T : ChkE K B C) : (clsIn K C).isSome = true := by
  obtain ⟨cd, e, _⟩ := T.c9
  rw [e]
  rfl
end
theorem nodup_at {l : List Addr} (h : l.Nodup) {i j : Nat} (hi : i < l.length) (hj : j < l.length) (e : l.getD i 0 = l.getD j 0) : i = j := by
  rw [List.getD_eq_getElem?_getD, List.getD_eq_getElem?_getD, List.getElem?_eq_getElem hi, List.getElem?_eq_getElem hj, Option.getD_some, Option.getD_some] at e
  have q := List.pairwise_iff_getElem.mp h
  rcases Nat.lt_trichotomy i j with z | z | z
  · exact absurd e (q i j hi hj z)
  · exact z
  · exact absurd e.symm (q j i hj hi z)
end KL
set_option Elab.async false
set_option linter.all false
set_option maxRecDepth 100000
set_option maxHeartbeats 8000000
namespace KL
open PySem L2 PySem.KX PySem.W PyProof.Rows
theorem all_mk {l : PySem.W.OpenLaw} {w : World} {K : Frag} {h : Heap} {mg : Str → Option Value} {fa B0 CB IB CN IN C fI fQ : Addr} {gInt gBet gLet gTup gAsc gForm gValueOf gArrowAt gFormsAt gValuesOf gAhead gAlong gEndFrom gNumFrom gLookAt gLedB gChkW gEndOf gNumB gPeople gPlaces gLogs gDeed gDeeds gStart gEnds gSource gForms gMarks gArrow gTest gLooks gChkA gChkT gDeck gDraw gPick gLForms gLook gWorld gTested gHouse gValue gStep gLLooks gWalked gHeard gBack gFormsR gRight gLaw : Addr} {tk0 tk1 tk2 tk3 tk4 : Tok} (X : K.In h) (G : h.Ns mainGlobals mg) (hfa : mg "law" = some (.ref fa))
    {odE anE : Option Addr} {docE pmE cdvE ctE : Value} {oslE : Array (Option Value)} {paE pbE qaE qbE qcE qdE : Pos}
    {odV anV : Option Addr} {docV pmV cdvV ctV : Value} {oslV : Array (Option Value)} {paV pbV qaV qbV qcV qdV : Pos}
    {odI anI : Option Addr} {ocI kVI docI pmI cdvI ctI : Value} {oslI : Array (Option Value)}
    {odQ anQ : Option Addr} {ocQ kVQ docQ pmQ cdvQ ctQ : Value} {oslQ : Array (Option Value)}
    {odInt anInt : Option Addr} {ocInt kVInt docInt pmInt cdvInt ctInt : Value} {oslInt : Array (Option Value)}
    {odBet anBet : Option Addr} {ocBet kVBet docBet pmBet cdvBet ctBet : Value} {oslBet : Array (Option Value)}
    {odLet anLet : Option Addr} {ocLet kVLet docLet pmLet cdvLet ctLet : Value} {oslLet : Array (Option Value)}
    {odTup anTup : Option Addr} {ocTup kVTup docTup pmTup cdvTup ctTup : Value} {oslTup : Array (Option Value)}
    {odAsc anAsc : Option Addr} {ocAsc kVAsc docAsc pmAsc cdvAsc ctAsc : Value} {oslAsc : Array (Option Value)}
    {odForm anForm : Option Addr} {ocForm kVForm docForm pmForm cdvForm ctForm : Value} {oslForm : Array (Option Value)}
    {odValueOf anValueOf : Option Addr} {ocValueOf kVValueOf docValueOf pmValueOf cdvValueOf ctValueOf : Value} {oslValueOf : Array (Option Value)}
    {odArrowAt anArrowAt : Option Addr} {ocArrowAt kVArrowAt docArrowAt pmArrowAt cdvArrowAt ctArrowAt : Value} {oslArrowAt : Array (Option Value)}
    {odFormsAt anFormsAt : Option Addr} {ocFormsAt kVFormsAt docFormsAt pmFormsAt cdvFormsAt ctFormsAt : Value} {oslFormsAt : Array (Option Value)}
    {odValuesOf anValuesOf : Option Addr} {ocValuesOf kVValuesOf docValuesOf pmValuesOf cdvValuesOf ctValuesOf : Value} {oslValuesOf : Array (Option Value)}
    {odAhead anAhead : Option Addr} {ocAhead kVAhead docAhead pmAhead cdvAhead ctAhead : Value} {oslAhead : Array (Option Value)}
    {odAlong anAlong : Option Addr} {ocAlong kVAlong docAlong pmAlong cdvAlong ctAlong : Value} {oslAlong : Array (Option Value)}
    {odEndFrom anEndFrom : Option Addr} {ocEndFrom kVEndFrom docEndFrom pmEndFrom cdvEndFrom ctEndFrom : Value} {oslEndFrom : Array (Option Value)}
    {odNumFrom anNumFrom : Option Addr} {ocNumFrom kVNumFrom docNumFrom pmNumFrom cdvNumFrom ctNumFrom : Value} {oslNumFrom : Array (Option Value)}
    {odLookAt anLookAt : Option Addr} {ocLookAt kVLookAt docLookAt pmLookAt cdvLookAt ctLookAt : Value} {oslLookAt : Array (Option Value)}
    {odLedB anLedB : Option Addr} {ocLedB kVLedB docLedB pmLedB cdvLedB ctLedB : Value} {oslLedB : Array (Option Value)}
    {odChkW anChkW : Option Addr} {ocChkW kVChkW docChkW pmChkW cdvChkW ctChkW : Value} {oslChkW : Array (Option Value)}
    {odEndOf anEndOf : Option Addr} {ocEndOf kVEndOf docEndOf pmEndOf cdvEndOf ctEndOf : Value} {oslEndOf : Array (Option Value)}
    {odNumB anNumB : Option Addr} {ocNumB kVNumB docNumB pmNumB cdvNumB ctNumB : Value} {oslNumB : Array (Option Value)}
    {odPeople anPeople : Option Addr} {ocPeople kVPeople docPeople pmPeople cdvPeople ctPeople : Value} {oslPeople : Array (Option Value)}
    {odPlaces anPlaces : Option Addr} {ocPlaces kVPlaces docPlaces pmPlaces cdvPlaces ctPlaces : Value} {oslPlaces : Array (Option Value)}
    {odLogs anLogs : Option Addr} {ocLogs kVLogs docLogs pmLogs cdvLogs ctLogs : Value} {oslLogs : Array (Option Value)}
    {odDeed anDeed : Option Addr} {ocDeed kVDeed docDeed pmDeed cdvDeed ctDeed : Value} {oslDeed : Array (Option Value)}
    {odDeeds anDeeds : Option Addr} {ocDeeds kVDeeds docDeeds pmDeeds cdvDeeds ctDeeds : Value} {oslDeeds : Array (Option Value)}
    {odStart anStart : Option Addr} {ocStart kVStart docStart pmStart cdvStart ctStart : Value} {oslStart : Array (Option Value)}
    {odEnds anEnds : Option Addr} {ocEnds kVEnds docEnds pmEnds cdvEnds ctEnds : Value} {oslEnds : Array (Option Value)}
    {odSource anSource : Option Addr} {ocSource kVSource docSource pmSource cdvSource ctSource : Value} {oslSource : Array (Option Value)}
    {odForms anForms : Option Addr} {ocForms kVForms docForms pmForms cdvForms ctForms : Value} {oslForms : Array (Option Value)}
    {odMarks anMarks : Option Addr} {ocMarks kVMarks docMarks pmMarks cdvMarks ctMarks : Value} {oslMarks : Array (Option Value)}
    {odArrow anArrow : Option Addr} {ocArrow kVArrow docArrow pmArrow cdvArrow ctArrow : Value} {oslArrow : Array (Option Value)}
    {odTest anTest : Option Addr} {ocTest kVTest docTest pmTest cdvTest ctTest : Value} {oslTest : Array (Option Value)}
    {odLooks anLooks : Option Addr} {ocLooks kVLooks docLooks pmLooks cdvLooks ctLooks : Value} {oslLooks : Array (Option Value)}
    {odChkA anChkA : Option Addr} {ocChkA kVChkA docChkA pmChkA cdvChkA ctChkA : Value} {oslChkA : Array (Option Value)}
    {odChkT anChkT : Option Addr} {ocChkT kVChkT docChkT pmChkT cdvChkT ctChkT : Value} {oslChkT : Array (Option Value)}
    {odDeck anDeck : Option Addr} {ocDeck kVDeck docDeck pmDeck cdvDeck ctDeck : Value} {oslDeck : Array (Option Value)}
    {odDraw anDraw : Option Addr} {ocDraw kVDraw docDraw pmDraw cdvDraw ctDraw : Value} {oslDraw : Array (Option Value)}
    {odPick anPick : Option Addr} {ocPick kVPick docPick pmPick cdvPick ctPick : Value} {oslPick : Array (Option Value)}
    {odLForms anLForms : Option Addr} {ocLForms kVLForms docLForms pmLForms cdvLForms ctLForms : Value} {oslLForms : Array (Option Value)}
    {odLook anLook : Option Addr} {ocLook kVLook docLook pmLook cdvLook ctLook : Value} {oslLook : Array (Option Value)}
    {odWorld anWorld : Option Addr} {ocWorld kVWorld docWorld pmWorld cdvWorld ctWorld : Value} {oslWorld : Array (Option Value)}
    {odTested anTested : Option Addr} {ocTested kVTested docTested pmTested cdvTested ctTested : Value} {oslTested : Array (Option Value)}
    {odHouse anHouse : Option Addr} {ocHouse kVHouse docHouse pmHouse cdvHouse ctHouse : Value} {oslHouse : Array (Option Value)}
    {odValue anValue : Option Addr} {ocValue kVValue docValue pmValue cdvValue ctValue : Value} {oslValue : Array (Option Value)}
    {odStep anStep : Option Addr} {ocStep kVStep docStep pmStep cdvStep ctStep : Value} {oslStep : Array (Option Value)}
    {odLLooks anLLooks : Option Addr} {ocLLooks kVLLooks docLLooks pmLLooks cdvLLooks ctLLooks : Value} {oslLLooks : Array (Option Value)}
    {odWalked anWalked : Option Addr} {ocWalked kVWalked docWalked pmWalked cdvWalked ctWalked : Value} {oslWalked : Array (Option Value)}
    {odHeard anHeard : Option Addr} {ocHeard kVHeard docHeard pmHeard cdvHeard ctHeard : Value} {oslHeard : Array (Option Value)}
    {odBack anBack : Option Addr} {ocBack kVBack docBack pmBack cdvBack ctBack : Value} {oslBack : Array (Option Value)}
    {odFormsR anFormsR : Option Addr} {ocFormsR kVFormsR docFormsR pmFormsR cdvFormsR ctFormsR : Value} {oslFormsR : Array (Option Value)}
    {odRight anRight : Option Addr} {ocRight kVRight docRight pmRight cdvRight ctRight : Value} {oslRight : Array (Option Value)}
    {odLaw anLaw : Option Addr} {ocLaw kVLaw docLaw pmLaw cdvLaw ctLaw : Value} {oslLaw : Array (Option Value)}
    (aB0 : nsIn K mainGlobals "HouseError" = some (some (.ref B0)))
    (aE : nsIn K mainGlobals "BadHouse" = some (some (.ref CB)))
    (nE : findIn K (.ref CB) "part" = some none)
    (jE : findIn K (.ref CB) "__init__" = some (some (.ref IB)))
    (lE : K.lookup IB = some ⟨.type "function", odE, .func (fnOf "__init__" "BadHouse.__init__" (iA "part" paE pbE) (iB "part" qaE qbE qcE qdE) (iS "part") .none .none docE pmE anE cdvE ctE), oslE⟩)
    (dE : codeIn K cdvE "BadHouse.__init__" = true)
    (aV : nsIn K mainGlobals "NoArrow" = some (some (.ref CN)))
    (nV : findIn K (.ref CN) "index" = some none)
    (jV : findIn K (.ref CN) "__init__" = some (some (.ref IN)))
    (lV : K.lookup IN = some ⟨.type "function", odV, .func (fnOf "__init__" "NoArrow.__init__" (iA "index" paV pbV) (iB "index" qaV qbV qcV qdV) (iS "index") .none .none docV pmV anV cdvV ctV), oslV⟩)
    (dV : codeIn K cdvV "NoArrow.__init__" = true)
    (aC : nsIn K mainGlobals "House" = some (some (.ref C)))
    (jI : findIn K (.ref C) "__init__" = some (some (.ref fI)))
    (iI : isFn K (.ref fI) = true)
    (jQ : findIn K (.ref C) "__eq__" = some (some (.ref fQ)))
    (iQ : isFn K (.ref fQ) = true)
    (lk_I : K.lookup fI = some ⟨ocI, odI, .func (fnOf "__init__" "House.__init__" (defArgs sInit) (defBody sInit) (defScope sInit) .none kVI docI pmI anI cdvI ctI), oslI⟩)
    (cI : codeIn K cdvI "House.__init__" = true)
    (kI : keepIn K (.ref fI) = true)
    (lk_Q : K.lookup fQ = some ⟨ocQ, odQ, .func (fnOf "__eq__" "House.__eq__" (defArgs sHEq) (defBody sHEq) (defScope sHEq) .none kVQ docQ pmQ anQ cdvQ ctQ), oslQ⟩)
    (cQ : codeIn K cdvQ "House.__eq__" = true)
    (kQ : keepIn K (.ref fQ) = true)
    (pg : plainGet K C Str.empty = true)
    (hd : hasDictIn K C = true)
    (po : plainOver K C = true)
    (sa : findIn K (.ref C) "__setattr__" = some (some (.builtin "object.__setattr__")))
    (mk : makesIn K C = true)
    (kc : keepIn K (.ref C) = true)
    (hac : findIn K (.ref C) "__class__" = some (some (.builtin "object.__class__")))
    (hmc : mroIn K C (.type "object") = some true)
    (hcl : ((clsIn K C).isSome && (typeIn K (.ref C) == some (.type "type"))) = true)
    (n_people : findIn K (.ref C) "people" = some none)
    (n_deeds : findIn K (.ref C) "deeds" = some none)
    (n_start : findIn K (.ref C) "start" = some none)
    (n_places : findIn K (.ref C) "places" = some none)
    (n_ends : findIn K (.ref C) "ends" = some none)
    (n_logs : findIn K (.ref C) "logs" = some none)
    (n_arrows : findIn K (.ref C) "arrows" = some none)
    (n_tests : findIn K (.ref C) "tests" = some none)
    (n_looks : findIn K (.ref C) "looks" = some none)
    (m0 : nsIn K mainGlobals "MOST_PEOPLE" = some (some (.int 3 tk0)))
    (m1 : nsIn K mainGlobals "MOST_DEEDS" = some (some (.int 5 tk1)))
    (m2 : nsIn K mainGlobals "MOST_COUNT" = some (some (.int 3 tk2)))
    (m3 : nsIn K mainGlobals "MOST_PLACES" = some (some (.int 3 tk3)))
    (m4 : nsIn K mainGlobals "MOST_LOGS" = some (some (.int 2 tk4)))
    (aInt : nsIn K mainGlobals "is_int" = some (some (.ref gInt)))
    (lk_Int : K.lookup gInt = some ⟨ocInt, odInt, .func (fnOf "is_int" "is_int" (defArgs sIsInt) (defBody sIsInt) (defScope sIsInt) .none kVInt docInt pmInt anInt cdvInt ctInt), oslInt⟩)
    (cInt : codeIn K cdvInt "is_int" = true)
    (kInt : keepIn K (.ref gInt) = true)
    (aBet : nsIn K mainGlobals "is_between" = some (some (.ref gBet)))
    (lk_Bet : K.lookup gBet = some ⟨ocBet, odBet, .func (fnOf "is_between" "is_between" (defArgs sIsBet) (defBody sIsBet) (defScope sIsBet) .none kVBet docBet pmBet anBet cdvBet ctBet), oslBet⟩)
    (cBet : codeIn K cdvBet "is_between" = true)
    (kBet : keepIn K (.ref gBet) = true)
    (aLet : nsIn K mainGlobals "is_letter" = some (some (.ref gLet)))
    (lk_Let : K.lookup gLet = some ⟨ocLet, odLet, .func (fnOf "is_letter" "is_letter" (defArgs sIsLet) (defBody sIsLet) (defScope sIsLet) .none kVLet docLet pmLet anLet cdvLet ctLet), oslLet⟩)
    (cLet : codeIn K cdvLet "is_letter" = true)
    (kLet : keepIn K (.ref gLet) = true)
    (aTup : nsIn K mainGlobals "is_tuple_of" = some (some (.ref gTup)))
    (lk_Tup : K.lookup gTup = some ⟨ocTup, odTup, .func (fnOf "is_tuple_of" "is_tuple_of" (defArgs sIsTup) (defBody sIsTup) (defScope sIsTup) .none kVTup docTup pmTup anTup cdvTup ctTup), oslTup⟩)
    (cTup : codeIn K cdvTup "is_tuple_of" = true)
    (kTup : keepIn K (.ref gTup) = true)
    (aAsc : nsIn K mainGlobals "is_ascending" = some (some (.ref gAsc)))
    (lk_Asc : K.lookup gAsc = some ⟨ocAsc, odAsc, .func (fnOf "is_ascending" "is_ascending" (defArgs sIsAsc) (defBody sIsAsc) (defScope sIsAsc) .none kVAsc docAsc pmAsc anAsc cdvAsc ctAsc), oslAsc⟩)
    (cAsc : codeIn K cdvAsc "is_ascending" = true)
    (kAsc : keepIn K (.ref gAsc) = true)
    (aForm : nsIn K mainGlobals "is_form" = some (some (.ref gForm)))
    (lk_Form : K.lookup gForm = some ⟨ocForm, odForm, .func (fnOf "is_form" "is_form" (defArgs sIsForm) (defBody sIsForm) (defScope sIsForm) .none kVForm docForm pmForm anForm cdvForm ctForm), oslForm⟩)
    (cForm : codeIn K cdvForm "is_form" = true)
    (kForm : keepIn K (.ref gForm) = true)
    (aValueOf : nsIn K mainGlobals "value_of" = some (some (.ref gValueOf)))
    (lk_ValueOf : K.lookup gValueOf = some ⟨ocValueOf, odValueOf, .func (fnOf "value_of" "value_of" (defArgs sValueOf) (defBody sValueOf) (defScope sValueOf) .none kVValueOf docValueOf pmValueOf anValueOf cdvValueOf ctValueOf), oslValueOf⟩)
    (cValueOf : codeIn K cdvValueOf "value_of" = true)
    (kValueOf : keepIn K (.ref gValueOf) = true)
    (aArrowAt : nsIn K mainGlobals "arrow_at" = some (some (.ref gArrowAt)))
    (lk_ArrowAt : K.lookup gArrowAt = some ⟨ocArrowAt, odArrowAt, .func (fnOf "arrow_at" "arrow_at" (defArgs sArrowAt) (defBody sArrowAt) (defScope sArrowAt) .none kVArrowAt docArrowAt pmArrowAt anArrowAt cdvArrowAt ctArrowAt), oslArrowAt⟩)
    (cArrowAt : codeIn K cdvArrowAt "arrow_at" = true)
    (kArrowAt : keepIn K (.ref gArrowAt) = true)
    (aFormsAt : nsIn K mainGlobals "forms_at" = some (some (.ref gFormsAt)))
    (lk_FormsAt : K.lookup gFormsAt = some ⟨ocFormsAt, odFormsAt, .func (fnOf "forms_at" "forms_at" (defArgs sFormsAt) (defBody sFormsAt) (defScope sFormsAt) .none kVFormsAt docFormsAt pmFormsAt anFormsAt cdvFormsAt ctFormsAt), oslFormsAt⟩)
    (cFormsAt : codeIn K cdvFormsAt "forms_at" = true)
    (kFormsAt : keepIn K (.ref gFormsAt) = true)
    (aValuesOf : nsIn K mainGlobals "values_of" = some (some (.ref gValuesOf)))
    (lk_ValuesOf : K.lookup gValuesOf = some ⟨ocValuesOf, odValuesOf, .func (fnOf "values_of" "values_of" (defArgs sValuesOf) (defBody sValuesOf) (defScope sValuesOf) .none kVValuesOf docValuesOf pmValuesOf anValuesOf cdvValuesOf ctValuesOf), oslValuesOf⟩)
    (cValuesOf : codeIn K cdvValuesOf "values_of" = true)
    (kValuesOf : keepIn K (.ref gValuesOf) = true)
    (aAhead : nsIn K mainGlobals "form_ahead" = some (some (.ref gAhead)))
    (lk_Ahead : K.lookup gAhead = some ⟨ocAhead, odAhead, .func (fnOf "form_ahead" "form_ahead" (defArgs sFormAhead) (defBody sFormAhead) (defScope sFormAhead) .none kVAhead docAhead pmAhead anAhead cdvAhead ctAhead), oslAhead⟩)
    (cAhead : codeIn K cdvAhead "form_ahead" = true)
    (kAhead : keepIn K (.ref gAhead) = true)
    (aAlong : nsIn K mainGlobals "arrows_along" = some (some (.ref gAlong)))
    (lk_Along : K.lookup gAlong = some ⟨ocAlong, odAlong, .func (fnOf "arrows_along" "arrows_along" (defArgs sArrowsAlong) (defBody sArrowsAlong) (defScope sArrowsAlong) .none kVAlong docAlong pmAlong anAlong cdvAlong ctAlong), oslAlong⟩)
    (cAlong : codeIn K cdvAlong "arrows_along" = true)
    (kAlong : keepIn K (.ref gAlong) = true)
    (aEndFrom : nsIn K mainGlobals "end_from" = some (some (.ref gEndFrom)))
    (lk_EndFrom : K.lookup gEndFrom = some ⟨ocEndFrom, odEndFrom, .func (fnOf "end_from" "end_from" (defArgs sEndFrom) (defBody sEndFrom) (defScope sEndFrom) .none kVEndFrom docEndFrom pmEndFrom anEndFrom cdvEndFrom ctEndFrom), oslEndFrom⟩)
    (cEndFrom : codeIn K cdvEndFrom "end_from" = true)
    (kEndFrom : keepIn K (.ref gEndFrom) = true)
    (aNumFrom : nsIn K mainGlobals "numbers_from" = some (some (.ref gNumFrom)))
    (lk_NumFrom : K.lookup gNumFrom = some ⟨ocNumFrom, odNumFrom, .func (fnOf "numbers_from" "numbers_from" (defArgs sNumbersFrom) (defBody sNumbersFrom) (defScope sNumbersFrom) .none kVNumFrom docNumFrom pmNumFrom anNumFrom cdvNumFrom ctNumFrom), oslNumFrom⟩)
    (cNumFrom : codeIn K cdvNumFrom "numbers_from" = true)
    (kNumFrom : keepIn K (.ref gNumFrom) = true)
    (aLookAt : nsIn K mainGlobals "looked_at" = some (some (.ref gLookAt)))
    (lk_LookAt : K.lookup gLookAt = some ⟨ocLookAt, odLookAt, .func (fnOf "looked_at" "looked_at" (defArgs sLookedAt) (defBody sLookedAt) (defScope sLookedAt) .none kVLookAt docLookAt pmLookAt anLookAt cdvLookAt ctLookAt), oslLookAt⟩)
    (cLookAt : codeIn K cdvLookAt "looked_at" = true)
    (kLookAt : keepIn K (.ref gLookAt) = true)
    (aLedB : nsIn K mainGlobals "led_back" = some (some (.ref gLedB)))
    (lk_LedB : K.lookup gLedB = some ⟨ocLedB, odLedB, .func (fnOf "led_back" "led_back" (defArgs sLedBack) (defBody sLedBack) (defScope sLedBack) .none kVLedB docLedB pmLedB anLedB cdvLedB ctLedB), oslLedB⟩)
    (cLedB : codeIn K cdvLedB "led_back" = true)
    (kLedB : keepIn K (.ref gLedB) = true)
    (aChkW : nsIn K mainGlobals "check_way" = some (some (.ref gChkW)))
    (lk_ChkW : K.lookup gChkW = some ⟨ocChkW, odChkW, .func (fnOf "check_way" "check_way" (defArgs sCheckWay) (defBody sCheckWay) (defScope sCheckWay) .none kVChkW docChkW pmChkW anChkW cdvChkW ctChkW), oslChkW⟩)
    (cChkW : codeIn K cdvChkW "check_way" = true)
    (kChkW : keepIn K (.ref gChkW) = true)
    (aEndOf : nsIn K mainGlobals "end_of" = some (some (.ref gEndOf)))
    (lk_EndOf : K.lookup gEndOf = some ⟨ocEndOf, odEndOf, .func (fnOf "end_of" "end_of" (defArgs sEndOf) (defBody sEndOf) (defScope sEndOf) .none kVEndOf docEndOf pmEndOf anEndOf cdvEndOf ctEndOf), oslEndOf⟩)
    (cEndOf : codeIn K cdvEndOf "end_of" = true)
    (kEndOf : keepIn K (.ref gEndOf) = true)
    (aNumB : nsIn K mainGlobals "numbers_behind" = some (some (.ref gNumB)))
    (lk_NumB : K.lookup gNumB = some ⟨ocNumB, odNumB, .func (fnOf "numbers_behind" "numbers_behind" (defArgs sNumbersBehind) (defBody sNumbersBehind) (defScope sNumbersBehind) .none kVNumB docNumB pmNumB anNumB cdvNumB ctNumB), oslNumB⟩)
    (cNumB : codeIn K cdvNumB "numbers_behind" = true)
    (kNumB : keepIn K (.ref gNumB) = true)
    (aPeople : nsIn K mainGlobals "is_people" = some (some (.ref gPeople)))
    (lk_People : K.lookup gPeople = some ⟨ocPeople, odPeople, .func (fnOf "is_people" "is_people" (defArgs sIsPeople) (defBody sIsPeople) (defScope sIsPeople) .none kVPeople docPeople pmPeople anPeople cdvPeople ctPeople), oslPeople⟩)
    (cPeople : codeIn K cdvPeople "is_people" = true)
    (kPeople : keepIn K (.ref gPeople) = true)
    (aPlaces : nsIn K mainGlobals "is_places" = some (some (.ref gPlaces)))
    (lk_Places : K.lookup gPlaces = some ⟨ocPlaces, odPlaces, .func (fnOf "is_places" "is_places" (defArgs sIsPlaces) (defBody sIsPlaces) (defScope sIsPlaces) .none kVPlaces docPlaces pmPlaces anPlaces cdvPlaces ctPlaces), oslPlaces⟩)
    (cPlaces : codeIn K cdvPlaces "is_places" = true)
    (kPlaces : keepIn K (.ref gPlaces) = true)
    (aLogs : nsIn K mainGlobals "is_logs" = some (some (.ref gLogs)))
    (lk_Logs : K.lookup gLogs = some ⟨ocLogs, odLogs, .func (fnOf "is_logs" "is_logs" (defArgs sIsLogs) (defBody sIsLogs) (defScope sIsLogs) .none kVLogs docLogs pmLogs anLogs cdvLogs ctLogs), oslLogs⟩)
    (cLogs : codeIn K cdvLogs "is_logs" = true)
    (kLogs : keepIn K (.ref gLogs) = true)
    (aDeed : nsIn K mainGlobals "is_deed" = some (some (.ref gDeed)))
    (lk_Deed : K.lookup gDeed = some ⟨ocDeed, odDeed, .func (fnOf "is_deed" "is_deed" (defArgs sIsDeed) (defBody sIsDeed) (defScope sIsDeed) .none kVDeed docDeed pmDeed anDeed cdvDeed ctDeed), oslDeed⟩)
    (cDeed : codeIn K cdvDeed "is_deed" = true)
    (kDeed : keepIn K (.ref gDeed) = true)
    (aDeeds : nsIn K mainGlobals "are_deeds" = some (some (.ref gDeeds)))
    (lk_Deeds : K.lookup gDeeds = some ⟨ocDeeds, odDeeds, .func (fnOf "are_deeds" "are_deeds" (defArgs sAreDeeds) (defBody sAreDeeds) (defScope sAreDeeds) .none kVDeeds docDeeds pmDeeds anDeeds cdvDeeds ctDeeds), oslDeeds⟩)
    (cDeeds : codeIn K cdvDeeds "are_deeds" = true)
    (kDeeds : keepIn K (.ref gDeeds) = true)
    (aStart : nsIn K mainGlobals "is_start" = some (some (.ref gStart)))
    (lk_Start : K.lookup gStart = some ⟨ocStart, odStart, .func (fnOf "is_start" "is_start" (defArgs sIsStart) (defBody sIsStart) (defScope sIsStart) .none kVStart docStart pmStart anStart cdvStart ctStart), oslStart⟩)
    (cStart : codeIn K cdvStart "is_start" = true)
    (kStart : keepIn K (.ref gStart) = true)
    (aEnds : nsIn K mainGlobals "are_ends" = some (some (.ref gEnds)))
    (lk_Ends : K.lookup gEnds = some ⟨ocEnds, odEnds, .func (fnOf "are_ends" "are_ends" (defArgs sAreEnds) (defBody sAreEnds) (defScope sAreEnds) .none kVEnds docEnds pmEnds anEnds cdvEnds ctEnds), oslEnds⟩)
    (cEnds : codeIn K cdvEnds "are_ends" = true)
    (kEnds : keepIn K (.ref gEnds) = true)
    (aSource : nsIn K mainGlobals "is_source_and_deed" = some (some (.ref gSource)))
    (lk_Source : K.lookup gSource = some ⟨ocSource, odSource, .func (fnOf "is_source_and_deed" "is_source_and_deed" (defArgs sIsSource) (defBody sIsSource) (defScope sIsSource) .none kVSource docSource pmSource anSource cdvSource ctSource), oslSource⟩)
    (cSource : codeIn K cdvSource "is_source_and_deed" = true)
    (kSource : keepIn K (.ref gSource) = true)
    (aForms : nsIn K mainGlobals "are_forms" = some (some (.ref gForms)))
    (lk_Forms : K.lookup gForms = some ⟨ocForms, odForms, .func (fnOf "are_forms" "are_forms" (defArgs sAreForms) (defBody sAreForms) (defScope sAreForms) .none kVForms docForms pmForms anForms cdvForms ctForms), oslForms⟩)
    (cForms : codeIn K cdvForms "are_forms" = true)
    (kForms : keepIn K (.ref gForms) = true)
    (aMarks : nsIn K mainGlobals "are_marks" = some (some (.ref gMarks)))
    (lk_Marks : K.lookup gMarks = some ⟨ocMarks, odMarks, .func (fnOf "are_marks" "are_marks" (defArgs sAreMarks) (defBody sAreMarks) (defScope sAreMarks) .none kVMarks docMarks pmMarks anMarks cdvMarks ctMarks), oslMarks⟩)
    (cMarks : codeIn K cdvMarks "are_marks" = true)
    (kMarks : keepIn K (.ref gMarks) = true)
    (aArrow : nsIn K mainGlobals "is_arrow" = some (some (.ref gArrow)))
    (lk_Arrow : K.lookup gArrow = some ⟨ocArrow, odArrow, .func (fnOf "is_arrow" "is_arrow" (defArgs sIsArrow) (defBody sIsArrow) (defScope sIsArrow) .none kVArrow docArrow pmArrow anArrow cdvArrow ctArrow), oslArrow⟩)
    (cArrow : codeIn K cdvArrow "is_arrow" = true)
    (kArrow : keepIn K (.ref gArrow) = true)
    (aTest : nsIn K mainGlobals "is_test" = some (some (.ref gTest)))
    (lk_Test : K.lookup gTest = some ⟨ocTest, odTest, .func (fnOf "is_test" "is_test" (defArgs sIsTest) (defBody sIsTest) (defScope sIsTest) .none kVTest docTest pmTest anTest cdvTest ctTest), oslTest⟩)
    (cTest : codeIn K cdvTest "is_test" = true)
    (kTest : keepIn K (.ref gTest) = true)
    (aLooks : nsIn K mainGlobals "are_looks" = some (some (.ref gLooks)))
    (lk_Looks : K.lookup gLooks = some ⟨ocLooks, odLooks, .func (fnOf "are_looks" "are_looks" (defArgs sAreLooks) (defBody sAreLooks) (defScope sAreLooks) .none kVLooks docLooks pmLooks anLooks cdvLooks ctLooks), oslLooks⟩)
    (cLooks : codeIn K cdvLooks "are_looks" = true)
    (kLooks : keepIn K (.ref gLooks) = true)
    (aChkA : nsIn K mainGlobals "check_arrows" = some (some (.ref gChkA)))
    (lk_ChkA : K.lookup gChkA = some ⟨ocChkA, odChkA, .func (fnOf "check_arrows" "check_arrows" (defArgs sChkArrows) (defBody sChkArrows) (defScope sChkArrows) .none kVChkA docChkA pmChkA anChkA cdvChkA ctChkA), oslChkA⟩)
    (cChkA : codeIn K cdvChkA "check_arrows" = true)
    (kChkA : keepIn K (.ref gChkA) = true)
    (aChkT : nsIn K mainGlobals "check_tests" = some (some (.ref gChkT)))
    (lk_ChkT : K.lookup gChkT = some ⟨ocChkT, odChkT, .func (fnOf "check_tests" "check_tests" (defArgs sChkTests) (defBody sChkTests) (defScope sChkTests) .none kVChkT docChkT pmChkT anChkT cdvChkT ctChkT), oslChkT⟩)
    (cChkT : codeIn K cdvChkT "check_tests" = true)
    (kChkT : keepIn K (.ref gChkT) = true)
    (aDeck : nsIn K mainGlobals "_law_deck" = some (some (.ref gDeck)))
    (lk_Deck : K.lookup gDeck = some ⟨ocDeck, odDeck, .func (fnOf "_law_deck" "_law_deck" (defArgs lDeck) (defBody lDeck) (defScope lDeck) .none kVDeck docDeck pmDeck anDeck cdvDeck ctDeck), oslDeck⟩)
    (cDeck : codeIn K cdvDeck "_law_deck" = true)
    (kDeck : keepIn K (.ref gDeck) = true)
    (aDraw : nsIn K mainGlobals "_law_draw" = some (some (.ref gDraw)))
    (lk_Draw : K.lookup gDraw = some ⟨ocDraw, odDraw, .func (fnOf "_law_draw" "_law_draw" (defArgs lDraw) (defBody lDraw) (defScope lDraw) .none kVDraw docDraw pmDraw anDraw cdvDraw ctDraw), oslDraw⟩)
    (cDraw : codeIn K cdvDraw "_law_draw" = true)
    (kDraw : keepIn K (.ref gDraw) = true)
    (aPick : nsIn K mainGlobals "_law_pick" = some (some (.ref gPick)))
    (lk_Pick : K.lookup gPick = some ⟨ocPick, odPick, .func (fnOf "_law_pick" "_law_pick" (defArgs lPick) (defBody lPick) (defScope lPick) .none kVPick docPick pmPick anPick cdvPick ctPick), oslPick⟩)
    (cPick : codeIn K cdvPick "_law_pick" = true)
    (kPick : keepIn K (.ref gPick) = true)
    (aLForms : nsIn K mainGlobals "_law_forms" = some (some (.ref gLForms)))
    (lk_LForms : K.lookup gLForms = some ⟨ocLForms, odLForms, .func (fnOf "_law_forms" "_law_forms" (defArgs lForms) (defBody lForms) (defScope lForms) .none kVLForms docLForms pmLForms anLForms cdvLForms ctLForms), oslLForms⟩)
    (cLForms : codeIn K cdvLForms "_law_forms" = true)
    (kLForms : keepIn K (.ref gLForms) = true)
    (aLook : nsIn K mainGlobals "_law_look" = some (some (.ref gLook)))
    (lk_Look : K.lookup gLook = some ⟨ocLook, odLook, .func (fnOf "_law_look" "_law_look" (defArgs lLook) (defBody lLook) (defScope lLook) .none kVLook docLook pmLook anLook cdvLook ctLook), oslLook⟩)
    (cLook : codeIn K cdvLook "_law_look" = true)
    (kLook : keepIn K (.ref gLook) = true)
    (aWorld : nsIn K mainGlobals "_law_world" = some (some (.ref gWorld)))
    (lk_World : K.lookup gWorld = some ⟨ocWorld, odWorld, .func (fnOf "_law_world" "_law_world" (defArgs lWorld) (defBody lWorld) (defScope lWorld) .none kVWorld docWorld pmWorld anWorld cdvWorld ctWorld), oslWorld⟩)
    (cWorld : codeIn K cdvWorld "_law_world" = true)
    (kWorld : keepIn K (.ref gWorld) = true)
    (aTested : nsIn K mainGlobals "_law_tested" = some (some (.ref gTested)))
    (lk_Tested : K.lookup gTested = some ⟨ocTested, odTested, .func (fnOf "_law_tested" "_law_tested" (defArgs lTested) (defBody lTested) (defScope lTested) .none kVTested docTested pmTested anTested cdvTested ctTested), oslTested⟩)
    (cTested : codeIn K cdvTested "_law_tested" = true)
    (kTested : keepIn K (.ref gTested) = true)
    (aHouse : nsIn K mainGlobals "_law_house" = some (some (.ref gHouse)))
    (lk_House : K.lookup gHouse = some ⟨ocHouse, odHouse, .func (fnOf "_law_house" "_law_house" (defArgs lHouse) (defBody lHouse) (defScope lHouse) .none kVHouse docHouse pmHouse anHouse cdvHouse ctHouse), oslHouse⟩)
    (cHouse : codeIn K cdvHouse "_law_house" = true)
    (kHouse : keepIn K (.ref gHouse) = true)
    (aValue : nsIn K mainGlobals "_law_value" = some (some (.ref gValue)))
    (lk_Value : K.lookup gValue = some ⟨ocValue, odValue, .func (fnOf "_law_value" "_law_value" (defArgs lValue) (defBody lValue) (defScope lValue) .none kVValue docValue pmValue anValue cdvValue ctValue), oslValue⟩)
    (cValue : codeIn K cdvValue "_law_value" = true)
    (kValue : keepIn K (.ref gValue) = true)
    (aStep : nsIn K mainGlobals "_law_step" = some (some (.ref gStep)))
    (lk_Step : K.lookup gStep = some ⟨ocStep, odStep, .func (fnOf "_law_step" "_law_step" (defArgs lStep) (defBody lStep) (defScope lStep) .none kVStep docStep pmStep anStep cdvStep ctStep), oslStep⟩)
    (cStep : codeIn K cdvStep "_law_step" = true)
    (kStep : keepIn K (.ref gStep) = true)
    (aLLooks : nsIn K mainGlobals "_law_looks" = some (some (.ref gLLooks)))
    (lk_LLooks : K.lookup gLLooks = some ⟨ocLLooks, odLLooks, .func (fnOf "_law_looks" "_law_looks" (defArgs lLooks) (defBody lLooks) (defScope lLooks) .none kVLLooks docLLooks pmLLooks anLLooks cdvLLooks ctLLooks), oslLLooks⟩)
    (cLLooks : codeIn K cdvLLooks "_law_looks" = true)
    (kLLooks : keepIn K (.ref gLLooks) = true)
    (aWalked : nsIn K mainGlobals "_law_walked" = some (some (.ref gWalked)))
    (lk_Walked : K.lookup gWalked = some ⟨ocWalked, odWalked, .func (fnOf "_law_walked" "_law_walked" (defArgs lWalked) (defBody lWalked) (defScope lWalked) .none kVWalked docWalked pmWalked anWalked cdvWalked ctWalked), oslWalked⟩)
    (cWalked : codeIn K cdvWalked "_law_walked" = true)
    (kWalked : keepIn K (.ref gWalked) = true)
    (aHeard : nsIn K mainGlobals "_law_heard" = some (some (.ref gHeard)))
    (lk_Heard : K.lookup gHeard = some ⟨ocHeard, odHeard, .func (fnOf "_law_heard" "_law_heard" (defArgs lHeard) (defBody lHeard) (defScope lHeard) .none kVHeard docHeard pmHeard anHeard cdvHeard ctHeard), oslHeard⟩)
    (cHeard : codeIn K cdvHeard "_law_heard" = true)
    (kHeard : keepIn K (.ref gHeard) = true)
    (aBack : nsIn K mainGlobals "_law_back" = some (some (.ref gBack)))
    (lk_Back : K.lookup gBack = some ⟨ocBack, odBack, .func (fnOf "_law_back" "_law_back" (defArgs lBack) (defBody lBack) (defScope lBack) .none kVBack docBack pmBack anBack cdvBack ctBack), oslBack⟩)
    (cBack : codeIn K cdvBack "_law_back" = true)
    (kBack : keepIn K (.ref gBack) = true)
    (aFormsR : nsIn K mainGlobals "_law_forms_right" = some (some (.ref gFormsR)))
    (lk_FormsR : K.lookup gFormsR = some ⟨ocFormsR, odFormsR, .func (fnOf "_law_forms_right" "_law_forms_right" (defArgs lFormsR) (defBody lFormsR) (defScope lFormsR) .none kVFormsR docFormsR pmFormsR anFormsR cdvFormsR ctFormsR), oslFormsR⟩)
    (cFormsR : codeIn K cdvFormsR "_law_forms_right" = true)
    (kFormsR : keepIn K (.ref gFormsR) = true)
    (aRight : nsIn K mainGlobals "_law_right" = some (some (.ref gRight)))
    (lk_Right : K.lookup gRight = some ⟨ocRight, odRight, .func (fnOf "_law_right" "_law_right" (defArgs lRight) (defBody lRight) (defScope lRight) .none kVRight docRight pmRight anRight cdvRight ctRight), oslRight⟩)
    (cRight : codeIn K cdvRight "_law_right" = true)
    (kRight : keepIn K (.ref gRight) = true)
    (aLaw : nsIn K mainGlobals "law" = some (some (.ref gLaw)))
    (lk_Law : K.lookup gLaw = some ⟨ocLaw, odLaw, .func (fnOf "law" "law" (defArgs lLaw) (defBody lLaw) (defScope lLaw) .none kVLaw docLaw pmLaw anLaw cdvLaw ctLaw), oslLaw⟩)
    (cLaw : codeIn K cdvLaw "law" = true)
    (kLaw : keepIn K (.ref gLaw) = true)
    (zisinstance : nsIn K mainGlobals "isinstance" = some none)
    (zint : nsIn K mainGlobals "int" = some none)
    (zbool : nsIn K mainGlobals "bool" = some none)
    (zstr : nsIn K mainGlobals "str" = some none)
    (ztuple : nsIn K mainGlobals "tuple" = some none)
    (zlen : nsIn K mainGlobals "len" = some none)
    (zall : nsIn K mainGlobals "all" = some none)
    (zzip : nsIn K mainGlobals "zip" = some none)
    (zrange : nsIn K mainGlobals "range" = some none)
    (zlist : nsIn K mainGlobals "list" = some none)
    (zrepr : nsIn K mainGlobals "repr" = some none)
    (zsorted : nsIn K mainGlobals "sorted" = some none)
    (zset : nsIn K mainGlobals "set" = some none)
    (zsum : nsIn K mainGlobals "sum" = some none)
    (zenumerate : nsIn K mainGlobals "enumerate" = some none)
    (sp : specialIn K (.builtin "object.__class__") "__get__" = some (some (.builtin "getset_descriptor.__get__")))
    (tk : takesIn K (.builtin "object.__class__") = some true)
    (hB0 : ((clsIn K B0).isSome && (typeIn K (.ref B0) == some (.type "type"))) = true)
    (chk : chkE K B0 CB = true)
    (chkV : chkE K B0 CN = true)
    : ∃ fd : FuncData, (∀ (s : Shared) (u : Value), BindsTo s fd ⟨[u], []⟩ [("_law_script", u)]) ∧ ∀ base : Heap, K.In base → base.Ns mainGlobals mg → FnG l.prog w K mg base CX0 10 fa fd ["_law_script"] (spLaw K) := by
  have e := hfa.symm.trans (mg_of X G aLaw)
  cases e
  have ck := chk_of chk
  have cn := chk_of chkV
  have hB' : (clsIn K B0).isSome = true ∧ typeIn K (.ref B0) = some (.type "type") := by
    simpa using hB0
  have T : TxtB mg := ⟨mg_none_of X G zisinstance, mg_none_of X G zint, mg_none_of X G zbool, mg_none_of X G zstr, mg_none_of X G ztuple, mg_none_of X G zlen, mg_none_of X G zall, mg_none_of X G zzip⟩
  have zs := mg_none_of X G zsum
  have ze := mg_none_of X G zenumerate
  have zl := mg_none_of X G zlist
  have zr := mg_none_of X G zrepr
  have TD : TxtD mg := ⟨zl, T.int, T.len⟩
  have TG : TxtG mg := ⟨TD, mg_none_of X G zrange, T.tuple⟩
  have TS : TxtS mg := ⟨TG, mg_none_of X G zsorted, mg_none_of X G zset⟩
  have TFR : TxtFR mg := ⟨T, zl, zr⟩
  have TRT : TxtRt mg := ⟨TS, T.isi, T.int, zr⟩
  have M : TxtM mg := ⟨⟨_, mg_of X G m0⟩, ⟨_, mg_of X G m1⟩, ⟨_, mg_of X G m2⟩, ⟨_, mg_of X G m3⟩, ⟨_, mg_of X G m4⟩⟩
  have cls : Cls K C := ⟨pg, hd, po, sa⟩
  have TH : TxtH K C := ⟨cls, n_people, n_deeds, n_start, n_places, n_ends, n_logs, n_arrows, n_tests, n_looks⟩
  have TE : TxtE K mg CB IB := ⟨{ c := ck.ec sp tk, fls := by unfold IsFl; simp, nf := nE, iC := jE, fn := ⟨_, _, _, _, _, _, _, _, _, _, _, _, _, lE, dE⟩ }, ck.c10, mg_of X G aE⟩
  have TNA : TxtNA K mg CN IN := ⟨{ c := cn.ec sp tk, fls := by unfold IsFl; simp, nf := nV, iC := jV, fn := ⟨_, _, _, _, _, _, _, _, _, _, _, _, _, lV, dV⟩ }, cn.c10, mg_of X G aV⟩
  have mC := mg_of X G aC
  have mH := mg_of X G aB0
  have IC : C8.InsC K C := ⟨cls, hac, sp, tk, hmc, by unfold kitOne; rw [if_pos (by simp)]⟩
  have TQ : TxtQ K C := ⟨IC, hcl⟩
  have exn : exmOne K (.ref CN) (.ref CN) = some true := cn.exm (by rw [cn.mro]; rfl) (by
      unfold kitCls
      dsimp only
      rw [cn.isSome, cn.c10, if_pos (by simp), cn.mro]
      simp)
  have THD : TxtHd K mg CN IN B0 := ⟨TNA, exn, mH, cn.base hB'.1 hB'.2, T.isi⟩
  have MK : Mk K C fI := ⟨mk, jI, iI, kc⟩
  have FI := fun_mk (st := sInit) lk_I cI kI
  have bI := FI.binds (ps := pInit9) fun _ _ _ _ _ _ us hl => match us, hl with | [_, _, _, _, _, _, _, _, _, _], _ => rfl
  have FQ := fun_mk (st := sHEq) lk_Q cQ kQ
  have bQ := FQ.binds (ps := ["self", "other"]) fun _ _ _ _ _ _ us hl => match us, hl with | [_, _], _ => rfl
  have FInt := fun_mk (st := sIsInt) lk_Int cInt kInt
  have bInt := FInt.binds (ps := ["thing"]) fun _ _ _ _ _ _ us hl => match us, hl with | [_], _ => rfl
  have FBet := fun_mk (st := sIsBet) lk_Bet cBet kBet
  have bBet := FBet.binds (ps := ["thing", "low", "high"]) fun _ _ _ _ _ _ us hl => match us, hl with | [_, _, _], _ => rfl
  have FLet := fun_mk (st := sIsLet) lk_Let cLet kLet
  have bLet := FLet.binds (ps := ["thing"]) fun _ _ _ _ _ _ us hl => match us, hl with | [_], _ => rfl
  have FTup := fun_mk (st := sIsTup) lk_Tup cTup kTup
  have bTup := FTup.binds (ps := ["thing", "low", "high"]) fun _ _ _ _ _ _ us hl => match us, hl with | [_, _, _], _ => rfl
  have FAsc := fun_mk (st := sIsAsc) lk_Asc cAsc kAsc
  have bAsc := FAsc.binds (ps := ["items"]) fun _ _ _ _ _ _ us hl => match us, hl with | [_], _ => rfl
  have FForm := fun_mk (st := sIsForm) lk_Form cForm kForm
  have bForm := FForm.binds (ps := ["count", "thing"]) fun _ _ _ _ _ _ us hl => match us, hl with | [_, _], _ => rfl
  have FValueOf := fun_mk (st := sValueOf) lk_ValueOf cValueOf kValueOf
  have bValueOf := FValueOf.binds (ps := ["form", "values"]) fun _ _ _ _ _ _ us hl => match us, hl with | [_, _], _ => rfl
  have FArrowAt := fun_mk (st := sArrowAt) lk_ArrowAt cArrowAt kArrowAt
  have bArrowAt := FArrowAt.binds (ps := ["house", "place", "deed"]) fun _ _ _ _ _ _ us hl => match us, hl with | [_, _, _], _ => rfl
  have FFormsAt := fun_mk (st := sFormsAt) lk_FormsAt cFormsAt kFormsAt
  have bFormsAt := FFormsAt.binds (ps := ["house", "place"]) fun _ _ _ _ _ _ us hl => match us, hl with | [_, _], _ => rfl
  have FValuesOf := fun_mk (st := sValuesOf) lk_ValuesOf cValuesOf kValuesOf
  have bValuesOf := FValuesOf.binds (ps := ["forms", "numbers"]) fun _ _ _ _ _ _ us hl => match us, hl with | [_, _], _ => rfl
  have FAhead := fun_mk (st := sFormAhead) lk_Ahead cAhead kAhead
  have bAhead := FAhead.binds (ps := ["forms", "form"]) fun _ _ _ _ _ _ us hl => match us, hl with | [_, _], _ => rfl
  have FAlong := fun_mk (st := sArrowsAlong) lk_Along cAlong kAlong
  have bAlong := FAlong.binds (ps := ["house", "place", "way"]) fun _ _ _ _ _ _ us hl => match us, hl with | [_, _, _], _ => rfl
  have FEndFrom := fun_mk (st := sEndFrom) lk_EndFrom cEndFrom kEndFrom
  have bEndFrom := FEndFrom.binds (ps := ["house", "place", "way"]) fun _ _ _ _ _ _ us hl => match us, hl with | [_, _, _], _ => rfl
  have FNumFrom := fun_mk (st := sNumbersFrom) lk_NumFrom cNumFrom kNumFrom
  have bNumFrom := FNumFrom.binds (ps := ["house", "place", "numbers", "way"]) fun _ _ _ _ _ _ us hl => match us, hl with | [_, _, _, _], _ => rfl
  have FLookAt := fun_mk (st := sLookedAt) lk_LookAt cLookAt kLookAt
  have bLookAt := FLookAt.binds (ps := ["house", "place"]) fun _ _ _ _ _ _ us hl => match us, hl with | [_, _], _ => rfl
  have FLedB := fun_mk (st := sLedBack) lk_LedB cLedB kLedB
  have bLedB := FLedB.binds (ps := ["house", "place", "deed", "form"]) fun _ _ _ _ _ _ us hl => match us, hl with | [_, _, _, _], _ => rfl
  have FChkW := fun_mk (st := sCheckWay) lk_ChkW cChkW kChkW
  have bChkW := FChkW.binds (ps := ["house", "way"]) fun _ _ _ _ _ _ us hl => match us, hl with | [_, _], _ => rfl
  have FEndOf := fun_mk (st := sEndOf) lk_EndOf cEndOf kEndOf
  have bEndOf := FEndOf.binds (ps := ["house", "way"]) fun _ _ _ _ _ _ us hl => match us, hl with | [_, _], _ => rfl
  have FNumB := fun_mk (st := sNumbersBehind) lk_NumB cNumB kNumB
  have bNumB := FNumB.binds (ps := ["house", "way"]) fun _ _ _ _ _ _ us hl => match us, hl with | [_, _], _ => rfl
  have FPeople := fun_mk (st := sIsPeople) lk_People cPeople kPeople
  have bPeople := FPeople.binds (ps := ["thing"]) fun _ _ _ _ _ _ us hl => match us, hl with | [_], _ => rfl
  have FPlaces := fun_mk (st := sIsPlaces) lk_Places cPlaces kPlaces
  have bPlaces := FPlaces.binds (ps := ["thing"]) fun _ _ _ _ _ _ us hl => match us, hl with | [_], _ => rfl
  have FLogs := fun_mk (st := sIsLogs) lk_Logs cLogs kLogs
  have bLogs := FLogs.binds (ps := ["thing"]) fun _ _ _ _ _ _ us hl => match us, hl with | [_], _ => rfl
  have FDeed := fun_mk (st := sIsDeed) lk_Deed cDeed kDeed
  have bDeed := FDeed.binds (ps := ["thing", "people"]) fun _ _ _ _ _ _ us hl => match us, hl with | [_, _], _ => rfl
  have FDeeds := fun_mk (st := sAreDeeds) lk_Deeds cDeeds kDeeds
  have bDeeds := FDeeds.binds (ps := ["thing", "people"]) fun _ _ _ _ _ _ us hl => match us, hl with | [_, _], _ => rfl
  have FStart := fun_mk (st := sIsStart) lk_Start cStart kStart
  have bStart := FStart.binds (ps := ["thing"]) fun _ _ _ _ _ _ us hl => match us, hl with | [_], _ => rfl
  have FEnds := fun_mk (st := sAreEnds) lk_Ends cEnds kEnds
  have bEnds := FEnds.binds (ps := ["thing", "places"]) fun _ _ _ _ _ _ us hl => match us, hl with | [_, _], _ => rfl
  have FSource := fun_mk (st := sIsSource) lk_Source cSource kSource
  have bSource := FSource.binds (ps := ["house", "source", "deed"]) fun _ _ _ _ _ _ us hl => match us, hl with | [_, _, _], _ => rfl
  have FForms := fun_mk (st := sAreForms) lk_Forms cForms kForms
  have bForms := FForms.binds (ps := ["house", "thing"]) fun _ _ _ _ _ _ us hl => match us, hl with | [_, _], _ => rfl
  have FMarks := fun_mk (st := sAreMarks) lk_Marks cMarks kMarks
  have bMarks := FMarks.binds (ps := ["house", "thing"]) fun _ _ _ _ _ _ us hl => match us, hl with | [_, _], _ => rfl
  have FArrow := fun_mk (st := sIsArrow) lk_Arrow cArrow kArrow
  have bArrow := FArrow.binds (ps := ["house", "thing"]) fun _ _ _ _ _ _ us hl => match us, hl with | [_, _], _ => rfl
  have FTest := fun_mk (st := sIsTest) lk_Test cTest kTest
  have bTest := FTest.binds (ps := ["house", "thing"]) fun _ _ _ _ _ _ us hl => match us, hl with | [_, _], _ => rfl
  have FLooks := fun_mk (st := sAreLooks) lk_Looks cLooks kLooks
  have bLooks := FLooks.binds (ps := ["house", "thing"]) fun _ _ _ _ _ _ us hl => match us, hl with | [_, _], _ => rfl
  have FChkA := fun_mk (st := sChkArrows) lk_ChkA cChkA kChkA
  have bChkA := FChkA.binds (ps := ["house", "arrows"]) fun _ _ _ _ _ _ us hl => match us, hl with | [_, _], _ => rfl
  have FChkT := fun_mk (st := sChkTests) lk_ChkT cChkT kChkT
  have bChkT := FChkT.binds (ps := ["house", "tests"]) fun _ _ _ _ _ _ us hl => match us, hl with | [_, _], _ => rfl
  have FDeck := fun_mk (st := lDeck) lk_Deck cDeck kDeck
  have bDeck := FDeck.binds (ps := ["_law_script"]) fun _ _ _ _ _ _ us hl => match us, hl with | [_], _ => rfl
  have FDraw := fun_mk (st := lDraw) lk_Draw cDraw kDraw
  have bDraw := FDraw.binds (ps := ["_law_deck_here", "_law_below"]) fun _ _ _ _ _ _ us hl => match us, hl with | [_, _], _ => rfl
  have FPick := fun_mk (st := lPick) lk_Pick cPick kPick
  have bPick := FPick.binds (ps := ["_law_deck_here", "_law_some"]) fun _ _ _ _ _ _ us hl => match us, hl with | [_, _], _ => rfl
  have FLForms := fun_mk (st := lForms) lk_LForms cLForms kLForms
  have bLForms := FLForms.binds (ps := ["_law_deck_here", "_law_mid"]) fun _ _ _ _ _ _ us hl => match us, hl with | [_, _], _ => rfl
  have FLook := fun_mk (st := lLook) lk_Look cLook kLook
  have bLook := FLook.binds (ps := ["_law_deck_here", "_law_size"]) fun _ _ _ _ _ _ us hl => match us, hl with | [_, _], _ => rfl
  have FWorld := fun_mk (st := lWorld) lk_World cWorld kWorld
  have bWorld := FWorld.binds (ps := ["_law_deck_here", "_law_sizes", "_law_spots", "_law_most_deeds"]) fun _ _ _ _ _ _ us hl => match us, hl with | [_, _, _, _], _ => rfl
  have FTested := fun_mk (st := lTested) lk_Tested cTested kTested
  have bTested := FTested.binds (ps := ["_law_deck_here", "_law_w"]) fun _ _ _ _ _ _ us hl => match us, hl with | [_, _], _ => rfl
  have FHouse := fun_mk (st := lHouse) lk_House cHouse kHouse
  have bHouse := FHouse.binds (ps := ["_law_w"]) fun _ _ _ _ _ _ us hl => match us, hl with | [_], _ => rfl
  have FValue := fun_mk (st := lValue) lk_Value cValue kValue
  have bValue := FValue.binds (ps := ["_law_one", "_law_at"]) fun _ _ _ _ _ _ us hl => match us, hl with | [_, _], _ => rfl
  have FStep := fun_mk (st := lStep) lk_Step cStep kStep
  have bStep := FStep.binds (ps := ["_law_w", "_law_here", "_law_x", "_law_is_asked"]) fun _ _ _ _ _ _ us hl => match us, hl with | [_, _, _, _], _ => rfl
  have FLLooks := fun_mk (st := lLooks) lk_LLooks cLLooks kLLooks
  have bLLooks := FLLooks.binds (ps := ["_law_w", "_law_p"]) fun _ _ _ _ _ _ us hl => match us, hl with | [_, _], _ => rfl
  have FWalked := fun_mk (st := lWalked) lk_Walked cWalked kWalked
  have bWalked := FWalked.binds (ps := ["_law_w", "_law_word"]) fun _ _ _ _ _ _ us hl => match us, hl with | [_, _], _ => rfl
  have FHeard := fun_mk (st := lHeard) lk_Heard cHeard kHeard
  have bHeard := FHeard.binds (ps := ["_law_code", "_law_word", "_law_is_named"]) fun _ _ _ _ _ _ us hl => match us, hl with | [_, _, _], _ => rfl
  have FBack := fun_mk (st := lBack) lk_Back cBack kBack
  have bBack := FBack.binds (ps := ["_law_w", "_law_p", "_law_x", "_law_one"]) fun _ _ _ _ _ _ us hl => match us, hl with | [_, _, _, _], _ => rfl
  have FFormsR := fun_mk (st := lFormsR) lk_FormsR cFormsR kFormsR
  have bFormsR := FFormsR.binds (ps := ["_law_deck_here", "_law_size", "_law_at"]) fun _ _ _ _ _ _ us hl => match us, hl with | [_, _, _], _ => rfl
  have FRight := fun_mk (st := lRight) lk_Right cRight kRight
  have bRight := FRight.binds (ps := ["_law_deck_here", "_law_w"]) fun _ _ _ _ _ _ us hl => match us, hl with | [_, _], _ => rfl
  have FLaw := fun_mk (st := lLaw) lk_Law cLaw kLaw
  have bLaw := FLaw.binds (ps := ["_law_script"]) fun _ _ _ _ _ _ us hl => match us, hl with | [_], _ => rfl
  have wEnd : KBinds K (fnOf "end_of" "end_of" (defArgs sEndOf) (defBody sEndOf) (defScope sEndOf) .none kVEndOf docEndOf pmEndOf anEndOf cdvEndOf ctEndOf) ["house", "way"] ["house", "way"] gS gSV := kb_same (by simp) fun ws hl => match ws, hl with | [_, _], _ => rfl
  have wNum : KBinds K (fnOf "numbers_behind" "numbers_behind" (defArgs sNumbersBehind) (defBody sNumbersBehind) (defScope sNumbersBehind) .none kVNumB docNumB pmNumB anNumB cdvNumB ctNumB) ["house", "way"] ["way", "house"] gR gRV := kb_rev (by simp) fun ws hl => match ws, hl with | [_, _], _ => rfl
  have wForm : KBinds K (fnOf "is_form" "is_form" (defArgs sIsForm) (defBody sIsForm) (defScope sIsForm) .none kVForm docForm pmForm anForm cdvForm ctForm) ["count", "thing"] ["thing", "count"] gR gRV := kb_rev (by simp) fun ws hl => match ws, hl with | [_, _], _ => rfl
  have wVal : KBinds K (fnOf "value_of" "value_of" (defArgs sValueOf) (defBody sValueOf) (defScope sValueOf) .none kVValueOf docValueOf pmValueOf anValueOf cdvValueOf ctValueOf) ["form", "values"] ["values", "form"] gR gRV := kb_rev (by simp) fun ws hl => match ws, hl with | [_, _], _ => rfl
  have wAt : KBinds K (fnOf "looked_at" "looked_at" (defArgs sLookedAt) (defBody sLookedAt) (defScope sLookedAt) .none kVLookAt docLookAt pmLookAt anLookAt cdvLookAt ctLookAt) ["house", "place"] ["place", "house"] gR gRV := kb_rev (by simp) fun ws hl => match ws, hl with | [_, _], _ => rfl
  have wLed : KBinds K (fnOf "led_back" "led_back" (defArgs sLedBack) (defBody sLedBack) (defScope sLedBack) .none kVLedB docLedB pmLedB anLedB cdvLedB ctLedB) ["house", "place", "deed", "form"] ["form", "deed", "place", "house"] gR gRV := kb_rev (by simp) fun ws hl => match ws, hl with | [_, _, _, _], _ => rfl
  refine ⟨_, fun s u => .of_eq (fd := fnOf "law" "law" (defArgs lLaw) (defBody lLaw) (defScope lLaw) .none kVLaw docLaw pmLaw anLaw cdvLaw ctLaw) rfl, fun base _ _ => ?_⟩
  have CInt : Cal K mg "is_int" gInt _ ["thing"] := ⟨mg_of X G aInt, kInt, bInt⟩
  have CBet : Cal K mg "is_between" gBet _ ["thing", "low", "high"] := ⟨mg_of X G aBet, kBet, bBet⟩
  have CLet : Cal K mg "is_letter" gLet _ ["thing"] := ⟨mg_of X G aLet, kLet, bLet⟩
  have CTup : Cal K mg "is_tuple_of" gTup _ ["thing", "low", "high"] := ⟨mg_of X G aTup, kTup, bTup⟩
  have CAsc : Cal K mg "is_ascending" gAsc _ ["items"] := ⟨mg_of X G aAsc, kAsc, bAsc⟩
  have CForm : Cal K mg "is_form" gForm _ ["count", "thing"] := ⟨mg_of X G aForm, kForm, bForm⟩
  have CValueOf : Cal K mg "value_of" gValueOf _ ["form", "values"] := ⟨mg_of X G aValueOf, kValueOf, bValueOf⟩
  have CArrowAt : Cal K mg "arrow_at" gArrowAt _ ["house", "place", "deed"] := ⟨mg_of X G aArrowAt, kArrowAt, bArrowAt⟩
  have CFormsAt : Cal K mg "forms_at" gFormsAt _ ["house", "place"] := ⟨mg_of X G aFormsAt, kFormsAt, bFormsAt⟩
  have CValuesOf : Cal K mg "values_of" gValuesOf _ ["forms", "numbers"] := ⟨mg_of X G aValuesOf, kValuesOf, bValuesOf⟩
  have CAhead : Cal K mg "form_ahead" gAhead _ ["forms", "form"] := ⟨mg_of X G aAhead, kAhead, bAhead⟩
  have CAlong : Cal K mg "arrows_along" gAlong _ ["house", "place", "way"] := ⟨mg_of X G aAlong, kAlong, bAlong⟩
  have CEndFrom : Cal K mg "end_from" gEndFrom _ ["house", "place", "way"] := ⟨mg_of X G aEndFrom, kEndFrom, bEndFrom⟩
  have CNumFrom : Cal K mg "numbers_from" gNumFrom _ ["house", "place", "numbers", "way"] := ⟨mg_of X G aNumFrom, kNumFrom, bNumFrom⟩
  have CLookAt : Cal K mg "looked_at" gLookAt _ ["house", "place"] := ⟨mg_of X G aLookAt, kLookAt, bLookAt⟩
  have CLedB : Cal K mg "led_back" gLedB _ ["house", "place", "deed", "form"] := ⟨mg_of X G aLedB, kLedB, bLedB⟩
  have CChkW : Cal K mg "check_way" gChkW _ ["house", "way"] := ⟨mg_of X G aChkW, kChkW, bChkW⟩
  have CEndOf : Cal K mg "end_of" gEndOf _ ["house", "way"] := ⟨mg_of X G aEndOf, kEndOf, bEndOf⟩
  have CNumB : Cal K mg "numbers_behind" gNumB _ ["house", "way"] := ⟨mg_of X G aNumB, kNumB, bNumB⟩
  have CPeople : Cal K mg "is_people" gPeople _ ["thing"] := ⟨mg_of X G aPeople, kPeople, bPeople⟩
  have CPlaces : Cal K mg "is_places" gPlaces _ ["thing"] := ⟨mg_of X G aPlaces, kPlaces, bPlaces⟩
  have CLogs : Cal K mg "is_logs" gLogs _ ["thing"] := ⟨mg_of X G aLogs, kLogs, bLogs⟩
  have CDeed : Cal K mg "is_deed" gDeed _ ["thing", "people"] := ⟨mg_of X G aDeed, kDeed, bDeed⟩
  have CDeeds : Cal K mg "are_deeds" gDeeds _ ["thing", "people"] := ⟨mg_of X G aDeeds, kDeeds, bDeeds⟩
  have CStart : Cal K mg "is_start" gStart _ ["thing"] := ⟨mg_of X G aStart, kStart, bStart⟩
  have CEnds : Cal K mg "are_ends" gEnds _ ["thing", "places"] := ⟨mg_of X G aEnds, kEnds, bEnds⟩
  have CSource : Cal K mg "is_source_and_deed" gSource _ ["house", "source", "deed"] := ⟨mg_of X G aSource, kSource, bSource⟩
  have CForms : Cal K mg "are_forms" gForms _ ["house", "thing"] := ⟨mg_of X G aForms, kForms, bForms⟩
  have CMarks : Cal K mg "are_marks" gMarks _ ["house", "thing"] := ⟨mg_of X G aMarks, kMarks, bMarks⟩
  have CArrow : Cal K mg "is_arrow" gArrow _ ["house", "thing"] := ⟨mg_of X G aArrow, kArrow, bArrow⟩
  have CTest : Cal K mg "is_test" gTest _ ["house", "thing"] := ⟨mg_of X G aTest, kTest, bTest⟩
  have CLooks : Cal K mg "are_looks" gLooks _ ["house", "thing"] := ⟨mg_of X G aLooks, kLooks, bLooks⟩
  have CChkA : Cal K mg "check_arrows" gChkA _ ["house", "arrows"] := ⟨mg_of X G aChkA, kChkA, bChkA⟩
  have CChkT : Cal K mg "check_tests" gChkT _ ["house", "tests"] := ⟨mg_of X G aChkT, kChkT, bChkT⟩
  have CDeck : Cal K mg "_law_deck" gDeck _ ["_law_script"] := ⟨mg_of X G aDeck, kDeck, bDeck⟩
  have CDraw : Cal K mg "_law_draw" gDraw _ ["_law_deck_here", "_law_below"] := ⟨mg_of X G aDraw, kDraw, bDraw⟩
  have CPick : Cal K mg "_law_pick" gPick _ ["_law_deck_here", "_law_some"] := ⟨mg_of X G aPick, kPick, bPick⟩
  have CLForms : Cal K mg "_law_forms" gLForms _ ["_law_deck_here", "_law_mid"] := ⟨mg_of X G aLForms, kLForms, bLForms⟩
  have CLook : Cal K mg "_law_look" gLook _ ["_law_deck_here", "_law_size"] := ⟨mg_of X G aLook, kLook, bLook⟩
  have CWorld : Cal K mg "_law_world" gWorld _ ["_law_deck_here", "_law_sizes", "_law_spots", "_law_most_deeds"] := ⟨mg_of X G aWorld, kWorld, bWorld⟩
  have CTested : Cal K mg "_law_tested" gTested _ ["_law_deck_here", "_law_w"] := ⟨mg_of X G aTested, kTested, bTested⟩
  have CHouse : Cal K mg "_law_house" gHouse _ ["_law_w"] := ⟨mg_of X G aHouse, kHouse, bHouse⟩
  have CValue : Cal K mg "_law_value" gValue _ ["_law_one", "_law_at"] := ⟨mg_of X G aValue, kValue, bValue⟩
  have CStep : Cal K mg "_law_step" gStep _ ["_law_w", "_law_here", "_law_x", "_law_is_asked"] := ⟨mg_of X G aStep, kStep, bStep⟩
  have CLLooks : Cal K mg "_law_looks" gLLooks _ ["_law_w", "_law_p"] := ⟨mg_of X G aLLooks, kLLooks, bLLooks⟩
  have CWalked : Cal K mg "_law_walked" gWalked _ ["_law_w", "_law_word"] := ⟨mg_of X G aWalked, kWalked, bWalked⟩
  have CHeard : Cal K mg "_law_heard" gHeard _ ["_law_code", "_law_word", "_law_is_named"] := ⟨mg_of X G aHeard, kHeard, bHeard⟩
  have CBack : Cal K mg "_law_back" gBack _ ["_law_w", "_law_p", "_law_x", "_law_one"] := ⟨mg_of X G aBack, kBack, bBack⟩
  have CFormsR : Cal K mg "_law_forms_right" gFormsR _ ["_law_deck_here", "_law_size", "_law_at"] := ⟨mg_of X G aFormsR, kFormsR, bFormsR⟩
  have CRight : Cal K mg "_law_right" gRight _ ["_law_deck_here", "_law_w"] := ⟨mg_of X G aRight, kRight, bRight⟩
  have GInt := ok_int (P := l.prog) (w := w) (mg := mg) (base := base) FInt T
  have GBet := ok_bet (P := l.prog) (w := w) (mg := mg) (base := base) FBet T GInt CInt
  have GLet := ok_let (P := l.prog) (w := w) (mg := mg) (base := base) FLet T
  have GTup := ok_tup (P := l.prog) (w := w) (mg := mg) (base := base) FTup T
  have GAsc := ok_asc (P := l.prog) (w := w) (mg := mg) (base := base) FAsc T
  have GForm := ok_form (P := l.prog) (w := w) (mg := mg) (base := base) FForm T GInt CInt GTup CTup
  have GValueOf := ok_valueOf (P := l.prog) (w := w) (mg := mg) (base := base) FValueOf T.zip zs
  have GArrowAt := ok_arrowAt (P := l.prog) (w := w) (mg := mg) (base := base) FArrowAt TH
  have GFormsAt := ok_formsAt (P := l.prog) (w := w) (mg := mg) (base := base) FFormsAt TH T.tuple
  have GValuesOf := ok_valuesOf (P := l.prog) (w := w) (mg := mg) (base := base) FValuesOf T.len T.tuple GValueOf CValueOf
  have GAhead := ok_formAhead (P := l.prog) (w := w) (mg := mg) (base := base) FAhead T.len T.zip T.tuple
  have GAlong := ok_along (P := l.prog) (w := w) (mg := mg) (base := base) FAlong GArrowAt CArrowAt
  have GEndFrom := ok_endFrom (P := l.prog) (w := w) (mg := mg) (base := base) FEndFrom GAlong CAlong
  have GNumFrom := ok_numbersFrom (P := l.prog) (w := w) (mg := mg) (base := base) FNumFrom GAlong CAlong GValuesOf CValuesOf
  have GLookAt := ok_lookedAt (P := l.prog) (w := w) (mg := mg) (base := base) FLookAt GFormsAt CFormsAt
  have GLedB := ok_ledBack (P := l.prog) (w := w) (mg := mg) (base := base) FLedB GArrowAt CArrowAt GAhead CAhead
  have GChkW := ok_checkWay (P := l.prog) (w := w) (mg := mg) (base := base) FChkW TNA T.len GAlong CAlong
  have GEndOf := ok_endOf (P := l.prog) (w := w) (mg := mg) (base := base) FEndOf GChkW CChkW GEndFrom CEndFrom
  have GNumB := ok_numbersBehind (P := l.prog) (w := w) (mg := mg) (base := base) FNumB TH GChkW CChkW GNumFrom CNumFrom
  have GPeople := ok_people (P := l.prog) (w := w) (mg := mg) (base := base) FPeople M GBet CBet
  have GPlaces := ok_places (P := l.prog) (w := w) (mg := mg) (base := base) FPlaces M GBet CBet
  have GLogs := ok_logs (P := l.prog) (w := w) (mg := mg) (base := base) FLogs M GBet CBet
  have GDeed := ok_deed (P := l.prog) (w := w) (mg := mg) (base := base) FDeed GTup CTup GLet CLet GBet CBet
  have GDeeds := ok_deeds (P := l.prog) (w := w) (mg := mg) (base := base) FDeeds T M GTup CTup GDeed CDeed GAsc CAsc
  have GStart := ok_start (P := l.prog) (w := w) (mg := mg) (base := base) FStart T M GInt CInt GTup CTup
  have GEnds := ok_ends (P := l.prog) (w := w) (mg := mg) (base := base) FEnds T GBet CBet GAsc CAsc
  have GSource := ok_source (P := l.prog) (w := w) (mg := mg) (base := base) FSource TH GBet CBet
  have GForms := ok_forms (P := l.prog) (w := w) (mg := mg) (base := base) FForms T TH GForm CForm
  have GMarks := ok_marks (P := l.prog) (w := w) (mg := mg) (base := base) FMarks T TH GTup CTup GLet CLet
  have GArrow := ok_arrow (P := l.prog) (w := w) (mg := mg) (base := base) FArrow T TH GTup CTup GSource CSource GBet CBet GForms CForms GMarks CMarks
  have GTest := ok_test (P := l.prog) (w := w) (mg := mg) (base := base) FTest T TH GTup CTup GSource CSource GForm CForm GInt CInt
  have GLooks := ok_looks (P := l.prog) (w := w) (mg := mg) (base := base) FLooks T TH GTup CTup GForms CForms
  have GChkA := ok_chkA (P := l.prog) (w := w) (mg := mg) (base := base) FChkA T TE GArrow CArrow GAsc CAsc
  have GChkT := ok_chkT (P := l.prog) (w := w) (mg := mg) (base := base) FChkT T TH TE GTest CTest GAsc CAsc
  have GInit := ok_init (P := l.prog) (w := w) (mg := mg) (base := base) FI TH TE GPeople CPeople GDeeds CDeeds GStart CStart GPlaces CPlaces GEnds CEnds GLogs CLogs GChkA CChkA GChkT CChkT GLooks CLooks
  have GQ := ok_heq (P := l.prog) (w := w) (mg := mg) (base := base) FQ TH TQ T mC
  have GDeck := ok_deck (P := l.prog) (w := w) (mg := mg) (base := base) FDeck TD
  have GDraw := ok_draw (P := l.prog) (w := w) (mg := mg) (base := base) FDraw TD
  have GPick := ok_pick (P := l.prog) (w := w) (mg := mg) (base := base) FPick TD GDraw CDraw
  have GLForms := ok_lforms (P := l.prog) (w := w) (mg := mg) (base := base) FLForms TG GDraw CDraw
  have GLook := ok_look (P := l.prog) (w := w) (mg := mg) (base := base) FLook TG GDraw CDraw GPick CPick
  have GWorld := ok_world (P := l.prog) (w := w) (mg := mg) (base := base) FWorld TG GDraw CDraw GPick CPick GLForms CLForms GLook CLook
  have GTested := ok_tested (P := l.prog) (w := w) (mg := mg) (base := base) FTested TS GDraw CDraw GPick CPick GLook CLook
  have GHouse := ok_lhouse (P := l.prog) (w := w) (mg := mg) (base := base) FHouse TS mC GInit MK bI
  have GValue := ok_lvalue (P := l.prog) (w := w) (mg := mg) (base := base) FValue T.zip zs
  have GStep := ok_step (P := l.prog) (w := w) (mg := mg) (base := base) FStep T.tuple GValue CValue
  have GLLooks := ok_llooks (P := l.prog) (w := w) (mg := mg) (base := base) FLLooks T.tuple
  have GWalked := ok_walked (P := l.prog) (w := w) (mg := mg) (base := base) FWalked T.tuple ze GStep CStep
  have GHeard := ok_heard (P := l.prog) (w := w) (mg := mg) (base := base) FHeard THD GEndOf CEndOf wEnd GNumB CNumB wNum
  have GBack := ok_back (P := l.prog) (w := w) (mg := mg) (base := base) FBack T.tuple T.len T.zip ze
  have GFormsR := ok_formsR (P := l.prog) (w := w) (mg := mg) (base := base) FFormsR TFR GLook CLook GForm CForm wForm GValueOf CValueOf wVal GValue CValue
  have RF : RFns l.prog w K mg base C fQ gHouse gFormsR gLookAt gLLooks gLook gLedB gBack gDraw gPick gWalked gHeard _ _ _ _ _ _ _ _ _ _ _ _ := ⟨GQ, jQ, iQ, bQ, IC, GHouse, CHouse, GFormsR, CFormsR, GLookAt, CLookAt, wAt, GLLooks, CLLooks, GLook, CLook, GLedB, CLedB, wLed, GBack, CBack, GDraw, CDraw, GPick, CPick, GWalked, CWalked, GHeard, CHeard⟩
  have GRight := ok_right (P := l.prog) (w := w) (mg := mg) (base := base) FRight TRT RF
  have LF : LawFns l.prog w K mg base C CN CB fI gDeck gWorld gTested gRight gLookAt gLedB gEndOf gNumB _ _ _ _ _ _ _ _ _ := ⟨mC, GDeck, CDeck, GWorld, CWorld, GTested, CTested, GRight, CRight, GInit, MK, bI, GLookAt, CLookAt, GLedB, CLedB, GEndOf, CEndOf, GNumB, CNumB⟩
  exact ok_law FLaw TG LF
theorem walk {l : PySem.W.OpenLaw} {q : Program} {loose : List Str} {XP : (Str → Option Value) → Heap → Prop} {YP : World → Heap → Prop} {d : DefRec} {K : Params → Frag} (hn : l.most = some 63) (hdf : d.params.defaults = []) (hY : ∀ (w : World) (h : Heap), YP w h → (K w.params).In h)
    (F : ∀ (w : World) (mg : Str → Option Value) (fa : Addr) (h : Heap), (K w.params).In h → h.Ns mainGlobals mg → mg d.name = some (.ref fa) →
      ∃ fd : FuncData, (∀ (s : Shared) (u : Value), BindsTo s fd ⟨[u], []⟩ [("_law_script", u)]) ∧ ∀ base : Heap, (K w.params).In base → base.Ns mainGlobals mg → FnG l.prog w (K w.params) mg base CX0 10 fa fd ["_law_script"] (spLaw (K w.params))) : WalkO q loose XP YP l.row.toRowW d [] (fun f vs => PySem.call f vs) :=
  walkG (n := 63) (k := 10) (x := "_law_script") (CX := fun _ => CX0) (sp := fun w => spLaw (K w.params)) hn (by decide) hdf ⟨rfl, by decide, by decide⟩ hY F (fun _ _ a ns hl _ hS => ⟨a, ns, rfl, hS, hl, fun _ => rfl⟩) fun _ _ _ _ _ z => z
end KL
set_option Elab.async false
open PySem PySem.W PyProof.Rows in
set_option maxRecDepth 100000 in
set_option maxHeartbeats 0 in
theorem PySem.Challenge.cw_loghouse_k06_looked_at_and_led_back_holds : PySem.Challenge.rw_loghouse_k06_looked_at_and_led_back.Holds := by
  w_on; o_law; k_head; (case hw => w_witness2)
  k_fill
  refine KL.walk (l := PySem.Challenge.rw_loghouse_k06_looked_at_and_led_back) rfl rfl (fun w h Y => PySem.W.kIn_of Y) ?F
  case F =>
    intro w mg fa h KX G hmg
    refine' KL.all_mk KX G hmg ?aB0 ?aE ?nE ?jE ?lE ?dE ?aV ?nV ?jV ?lV ?dV ?aC ?jI ?iI ?jQ ?iQ ?lk_I ?cI ?kI ?lk_Q ?cQ ?kQ ?pg ?hd ?po ?sa ?mk ?kc ?hac ?hmc ?hcl ?n_people ?n_deeds ?n_start ?n_places ?n_ends ?n_logs ?n_arrows ?n_tests ?n_looks ?m0 ?m1 ?m2 ?m3 ?m4 ?aInt ?lk_Int ?cInt ?kInt ?aBet ?lk_Bet ?cBet ?kBet ?aLet ?lk_Let ?cLet ?kLet ?aTup ?lk_Tup ?cTup ?kTup ?aAsc ?lk_Asc ?cAsc ?kAsc ?aForm ?lk_Form ?cForm ?kForm ?aValueOf ?lk_ValueOf ?cValueOf ?kValueOf ?aArrowAt ?lk_ArrowAt ?cArrowAt ?kArrowAt ?aFormsAt ?lk_FormsAt ?cFormsAt ?kFormsAt ?aValuesOf ?lk_ValuesOf ?cValuesOf ?kValuesOf ?aAhead ?lk_Ahead ?cAhead ?kAhead ?aAlong ?lk_Along ?cAlong ?kAlong ?aEndFrom ?lk_EndFrom ?cEndFrom ?kEndFrom ?aNumFrom ?lk_NumFrom ?cNumFrom ?kNumFrom ?aLookAt ?lk_LookAt ?cLookAt ?kLookAt ?aLedB ?lk_LedB ?cLedB ?kLedB ?aChkW ?lk_ChkW ?cChkW ?kChkW ?aEndOf ?lk_EndOf ?cEndOf ?kEndOf ?aNumB ?lk_NumB ?cNumB ?kNumB ?aPeople ?lk_People ?cPeople ?kPeople ?aPlaces ?lk_Places ?cPlaces ?kPlaces ?aLogs ?lk_Logs ?cLogs ?kLogs ?aDeed ?lk_Deed ?cDeed ?kDeed ?aDeeds ?lk_Deeds ?cDeeds ?kDeeds ?aStart ?lk_Start ?cStart ?kStart ?aEnds ?lk_Ends ?cEnds ?kEnds ?aSource ?lk_Source ?cSource ?kSource ?aForms ?lk_Forms ?cForms ?kForms ?aMarks ?lk_Marks ?cMarks ?kMarks ?aArrow ?lk_Arrow ?cArrow ?kArrow ?aTest ?lk_Test ?cTest ?kTest ?aLooks ?lk_Looks ?cLooks ?kLooks ?aChkA ?lk_ChkA ?cChkA ?kChkA ?aChkT ?lk_ChkT ?cChkT ?kChkT ?aDeck ?lk_Deck ?cDeck ?kDeck ?aDraw ?lk_Draw ?cDraw ?kDraw ?aPick ?lk_Pick ?cPick ?kPick ?aLForms ?lk_LForms ?cLForms ?kLForms ?aLook ?lk_Look ?cLook ?kLook ?aWorld ?lk_World ?cWorld ?kWorld ?aTested ?lk_Tested ?cTested ?kTested ?aHouse ?lk_House ?cHouse ?kHouse ?aValue ?lk_Value ?cValue ?kValue ?aStep ?lk_Step ?cStep ?kStep ?aLLooks ?lk_LLooks ?cLLooks ?kLLooks ?aWalked ?lk_Walked ?cWalked ?kWalked ?aHeard ?lk_Heard ?cHeard ?kHeard ?aBack ?lk_Back ?cBack ?kBack ?aFormsR ?lk_FormsR ?cFormsR ?kFormsR ?aRight ?lk_Right ?cRight ?kRight ?aLaw ?lk_Law ?cLaw ?kLaw ?zisinstance ?zint ?zbool ?zstr ?ztuple ?zlen ?zall ?zzip ?zrange ?zlist ?zrepr ?zsorted ?zset ?zsum ?zenumerate ?sp ?tk ?hB0 ?chk ?chkV
    (case aB0 => k_is)
    (case aE => k_is)
    (case nE => k_is)
    (case jE => k_is)
    (case lE => k_is)
    (case dE => k_is)
    (case aV => k_is)
    (case nV => k_is)
    (case jV => k_is)
    (case lV => k_is)
    (case dV => k_is)
    (case aC => k_is)
    (case jI => k_is)
    (case iI => k_is)
    (case jQ => k_is)
    (case iQ => k_is)
    (case lk_I => k_is)
    (case cI => k_is)
    (case kI => k_is)
    (case lk_Q => k_is)
    (case cQ => k_is)
    (case kQ => k_is)
    (case pg => k_is)
    (case hd => k_is)
    (case po => k_is)
    (case sa => k_is)
    (case mk => k_is)
    (case kc => k_is)
    (case hac => k_is)
    (case hmc => k_is)
    (case hcl => kernel_rfl)
    (case n_people => k_is)
    (case n_deeds => k_is)
    (case n_start => k_is)
    (case n_places => k_is)
    (case n_ends => k_is)
    (case n_logs => k_is)
    (case n_arrows => k_is)
    (case n_tests => k_is)
    (case n_looks => k_is)
    (case m0 => k_is)
    (case m1 => k_is)
    (case m2 => k_is)
    (case m3 => k_is)
    (case m4 => k_is)
    (case aInt => k_is)
    (case lk_Int => k_is)
    (case cInt => k_is)
    (case kInt => k_is)
    (case aBet => k_is)
    (case lk_Bet => k_is)
    (case cBet => k_is)
    (case kBet => k_is)
    (case aLet => k_is)
    (case lk_Let => k_is)
    (case cLet => k_is)
    (case kLet => k_is)
    (case aTup => k_is)
    (case lk_Tup => k_is)
    (case cTup => k_is)
    (case kTup => k_is)
    (case aAsc => k_is)
    (case lk_Asc => k_is)
    (case cAsc => k_is)
    (case kAsc => k_is)
    (case aForm => k_is)
    (case lk_Form => k_is)
    (case cForm => k_is)
    (case kForm => k_is)
    (case aValueOf => k_is)
    (case lk_ValueOf => k_is)
    (case cValueOf => k_is)
    (case kValueOf => k_is)
    (case aArrowAt => k_is)
    (case lk_ArrowAt => k_is)
    (case cArrowAt => k_is)
    (case kArrowAt => k_is)
    (case aFormsAt => k_is)
    (case lk_FormsAt => k_is)
    (case cFormsAt => k_is)
    (case kFormsAt => k_is)
    (case aValuesOf => k_is)
    (case lk_ValuesOf => k_is)
    (case cValuesOf => k_is)
    (case kValuesOf => k_is)
    (case aAhead => k_is)
    (case lk_Ahead => k_is)
    (case cAhead => k_is)
    (case kAhead => k_is)
    (case aAlong => k_is)
    (case lk_Along => k_is)
    (case cAlong => k_is)
    (case kAlong => k_is)
    (case aEndFrom => k_is)
    (case lk_EndFrom => k_is)
    (case cEndFrom => k_is)
    (case kEndFrom => k_is)
    (case aNumFrom => k_is)
    (case lk_NumFrom => k_is)
    (case cNumFrom => k_is)
    (case kNumFrom => k_is)
    (case aLookAt => k_is)
    (case lk_LookAt => k_is)
    (case cLookAt => k_is)
    (case kLookAt => k_is)
    (case aLedB => k_is)
    (case lk_LedB => k_is)
    (case cLedB => k_is)
    (case kLedB => k_is)
    (case aChkW => k_is)
    (case lk_ChkW => k_is)
    (case cChkW => k_is)
    (case kChkW => k_is)
    (case aEndOf => k_is)
    (case lk_EndOf => k_is)
    (case cEndOf => k_is)
    (case kEndOf => k_is)
    (case aNumB => k_is)
    (case lk_NumB => k_is)
    (case cNumB => k_is)
    (case kNumB => k_is)
    (case aPeople => k_is)
    (case lk_People => k_is)
    (case cPeople => k_is)
    (case kPeople => k_is)
    (case aPlaces => k_is)
    (case lk_Places => k_is)
    (case cPlaces => k_is)
    (case kPlaces => k_is)
    (case aLogs => k_is)
    (case lk_Logs => k_is)
    (case cLogs => k_is)
    (case kLogs => k_is)
    (case aDeed => k_is)
    (case lk_Deed => k_is)
    (case cDeed => k_is)
    (case kDeed => k_is)
    (case aDeeds => k_is)
    (case lk_Deeds => k_is)
    (case cDeeds => k_is)
    (case kDeeds => k_is)
    (case aStart => k_is)
    (case lk_Start => k_is)
    (case cStart => k_is)
    (case kStart => k_is)
    (case aEnds => k_is)
    (case lk_Ends => k_is)
    (case cEnds => k_is)
    (case kEnds => k_is)
    (case aSource => k_is)
    (case lk_Source => k_is)
    (case cSource => k_is)
    (case kSource => k_is)
    (case aForms => k_is)
    (case lk_Forms => k_is)
    (case cForms => k_is)
    (case kForms => k_is)
    (case aMarks => k_is)
    (case lk_Marks => k_is)
    (case cMarks => k_is)
    (case kMarks => k_is)
    (case aArrow => k_is)
    (case lk_Arrow => k_is)
    (case cArrow => k_is)
    (case kArrow => k_is)
    (case aTest => k_is)
    (case lk_Test => k_is)
    (case cTest => k_is)
    (case kTest => k_is)
    (case aLooks => k_is)
    (case lk_Looks => k_is)
    (case cLooks => k_is)
    (case kLooks => k_is)
    (case aChkA => k_is)
    (case lk_ChkA => k_is)
    (case cChkA => k_is)
    (case kChkA => k_is)
    (case aChkT => k_is)
    (case lk_ChkT => k_is)
    (case cChkT => k_is)
    (case kChkT => k_is)
    (case aDeck => k_is)
    (case lk_Deck => k_is)
    (case cDeck => k_is)
    (case kDeck => k_is)
    (case aDraw => k_is)
    (case lk_Draw => k_is)
    (case cDraw => k_is)
    (case kDraw => k_is)
    (case aPick => k_is)
    (case lk_Pick => k_is)
    (case cPick => k_is)
    (case kPick => k_is)
    (case aLForms => k_is)
    (case lk_LForms => k_is)
    (case cLForms => k_is)
    (case kLForms => k_is)
    (case aLook => k_is)
    (case lk_Look => k_is)
    (case cLook => k_is)
    (case kLook => k_is)
    (case aWorld => k_is)
    (case lk_World => k_is)
    (case cWorld => k_is)
    (case kWorld => k_is)
    (case aTested => k_is)
    (case lk_Tested => k_is)
    (case cTested => k_is)
    (case kTested => k_is)
    (case aHouse => k_is)
    (case lk_House => k_is)
    (case cHouse => k_is)
    (case kHouse => k_is)
    (case aValue => k_is)
    (case lk_Value => k_is)
    (case cValue => k_is)
    (case kValue => k_is)
    (case aStep => k_is)
    (case lk_Step => k_is)
    (case cStep => k_is)
    (case kStep => k_is)
    (case aLLooks => k_is)
    (case lk_LLooks => k_is)
    (case cLLooks => k_is)
    (case kLLooks => k_is)
    (case aWalked => k_is)
    (case lk_Walked => k_is)
    (case cWalked => k_is)
    (case kWalked => k_is)
    (case aHeard => k_is)
    (case lk_Heard => k_is)
    (case cHeard => k_is)
    (case kHeard => k_is)
    (case aBack => k_is)
    (case lk_Back => k_is)
    (case cBack => k_is)
    (case kBack => k_is)
    (case aFormsR => k_is)
    (case lk_FormsR => k_is)
    (case cFormsR => k_is)
    (case kFormsR => k_is)
    (case aRight => k_is)
    (case lk_Right => k_is)
    (case cRight => k_is)
    (case kRight => k_is)
    (case aLaw => k_is)
    (case lk_Law => k_is)
    (case cLaw => k_is)
    (case kLaw => k_is)
    (case zisinstance => k_is)
    (case zint => k_is)
    (case zbool => k_is)
    (case zstr => k_is)
    (case ztuple => k_is)
    (case zlen => k_is)
    (case zall => k_is)
    (case zzip => k_is)
    (case zrange => k_is)
    (case zlist => k_is)
    (case zrepr => k_is)
    (case zsorted => k_is)
    (case zset => k_is)
    (case zsum => k_is)
    (case zenumerate => k_is)
    (case sp => k_is)
    (case tk => k_is)
    (case hB0 => kernel_rfl)
    (case chk => kernel_rfl)
    (case chkV => kernel_rfl)
