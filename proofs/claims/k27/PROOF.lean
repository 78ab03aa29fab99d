import PyProof.Rows.All
import Wide.All
import OpenK.AllK
import Wide.FinOn
import HandS.ForMost
import HandS.ForExc
import HandS.Style
import HandS.IsInst
import HandS.TupLe
import HandS.Zip
import PyProof.ReprRoads
import PyProof.EqAt
import PyProof.EqKinds
import HandS.Walk
import HandS.TupAny
import PyProof.NeKinds
import HandS.DictComp
import HandS.SortInts
import KE.SortData
import KE.KDictPairs
import HandS.SetKeys
import HandS.SetFor
import HandS.TupSets
import HandS.Conv
import HandS.ExcInit
import HandS.ExcIs
import KE.KExcInit
import PyProof.ExcBaseAll.Exception
import PyProof.InstStoreFacts
import HandS.MakeKwOnly
import HandS.ExcValue
import HandS.ExcField
import KE.KExcIs
import HandS.Ends
import HandS.ExcOwn
import PyProof.FactsAll.tuple_2
import PyProof.StrLawsRepr
import PyProof.FitsInt
import HandS.OwnEq
import PyProof.InstNe
import HandS.Codes
import HandS.TupMul
import PyProof.ListMulRoad
import HandS.Text
import PyProof.Rows.IntBool
import KE.KIntText
import PyProof.CallFns
import HandS.WordsExc
import PySem.Challenge.RW_loghouse_k27_readers_of_any_values
set_option Elab.async false
set_option linter.all false
set_option maxRecDepth 100000
set_option maxHeartbeats 2000000
namespace KL
open PySem L2 PySem.Spec PyProof.Rows
/-! ### data, dicts among them -/
mutual
inductive Dq (H : Hp) : V → PyData → Prop
  | non : Dq H .non .none
  | bl (b : Bool) : Dq H (.bl b) (.bool b)
  | int (i : Int) : Dq H (.int i) (.int i)
  | str (x : Str) : Dq H (.str x) (.str x)
  | lst {a : Addr} {xs : List V} {ds : List PyData} : H a = some (.lst xs) → DqAll H xs ds → Dq H (.ref a) (.list ds)
  | tup {a : Addr} {xs : List V} {ds : List PyData} : H a = some (.tup xs) → DqAll H xs ds → Dq H (.ref a) (.tuple ds)
  | dct0 {a : Addr} : H a = some (.dK []) → Dq H (.ref a) (.dict [])
  | dct1 {a : Addr} {x : Str} {i : Int} : H a = some (.dK [(Sum.inr x, V.int i)]) → Dq H (.ref a) (.dict [(.str x, .int i)])
inductive DqAll (H : Hp) : List V → List PyData → Prop
  | nil : DqAll H [] []
  | cons {v : V} {vs : List V} {d : PyData} {ds : List PyData} : Dq H v d → DqAll H vs ds → DqAll H (v :: vs) (d :: ds)
end
mutual
theorem Dq.same {H H' : Hp} (e : Same H H') : ∀ (d : PyData) (v : V), Dq H v d → Dq H' v d
  | .none, _, h => by
    cases h
    exact .non
  | .bool _, _, h => by
    cases h
    exact .bl _
  | .int _, _, h => by
    cases h
    exact .int _
  | .str _, _, h => by
    cases h
    exact .str _
  | .list ds, _, h => by
    cases h with
    | lst q r => exact .lst (e _ _ q) (DqAll.same e ds _ r)
  | .tuple ds, _, h => by
    cases h with
    | tup q r => exact .tup (e _ _ q) (DqAll.same e ds _ r)
  | .dict kvs, _, h => by
    cases h with
    | dct0 q => exact .dct0 (e _ _ q)
    | dct1 q => exact .dct1 (e _ _ q)
theorem DqAll.same {H H' : Hp} (e : Same H H') : ∀ (ds : List PyData) (vs : List V), DqAll H vs ds → DqAll H' vs ds
  | [], _, h => by
    cases h
    exact .nil
  | d :: ds, _, h => by
    cases h with
    | cons q r => exact .cons (Dq.same e d _ q) (DqAll.same e ds _ r)
end
theorem same_new {H : Hp} {p : Addr} {o : HO} (h : H p = none) : Same H (upd H p o) := fun b u e => by
  rw [upd_ne (ne_of_none e h)]
  exact e
theorem DqAll.get {H : Hp} : ∀ (ds : List PyData) (vs : List V) (i : Nat) (v : V), DqAll H vs ds → vs[i]? = some v → ∃ d, d ∈ ds ∧ Dq H v d
  | _, _, i, v, .nil, e => by simp at e
  | _, _, 0, v, .cons (d := d) h _, e => by
    simp at e
    subst e
    exact ⟨d, by simp, h⟩
  | _, _, i + 1, v, .cons _ r, e => by
    obtain ⟨d, hd, h⟩ := DqAll.get _ _ i v r (by simpa using e)
    exact ⟨d, by simp [hd], h⟩

theorem iteNo {b : Bool} {A B : Prop} (hb : b = false) (h : B) : if b = true then A else B := by
  subst hb
  exact iteF h
theorem iteYes {b : Bool} {A B : Prop} (hb : b = true) (h : A) : if b = true then A else B := by
  subst hb
  exact iteT h
/-! ### kinds -/
def tyName : PyData → String
  | .none => "NoneType"
  | .bool _ => "bool"
  | .int _ => "int"
  | .str _ => "str"
  | .list _ => "list"
  | .tuple _ => "tuple"
  | .dict _ => "dict"
theorem Dq.ty {K : PySem.W.Frag} {H : Hp} {v : V} {d : PyData} (h : Dq H v d) : TyX K H v (.type (tyName d)) := by
  cases h with
  | non => exact .base .non
  | bl b => exact .base (.bl b)
  | int i => exact .base (.int i)
  | str x => exact .base (.str x)
  | lst e _ => exact .base (.lst e)
  | tup e _ => exact .base (.tup e)
  | dct0 e => exact .base (.dK e)
  | dct1 e => exact .base (.dK e)
/-- isinstance of data, by the name of a built-in class -/
def isA (T : String) (d : PyData) : Bool := (kitB (tyName d) T).getD false
def kinds4 : List String := ["int", "bool", "str", "tuple", "list", "dict"]
theorem kit_data {K : PySem.W.Frag} {T : String} (hT : T ∈ kinds4) (d : PyData) : PySem.W.kitOne K (.type (tyName d)) (.type T) = some (isA T d) := by
  have z : (kinds4.all fun T => ["NoneType", "bool", "int", "str", "list", "tuple", "dict"].all fun n => (kitB n T).isSome) = true := by decide +kernel
  have y := List.all_eq_true.mp z T hT
  have n : tyName d ∈ ["NoneType", "bool", "int", "str", "list", "tuple", "dict"] := by cases d <;> simp [tyName]
  have x := List.all_eq_true.mp y _ n
  obtain ⟨b, hb⟩ := Option.isSome_iff_exists.mp x
  rw [kit_ty hb]
  unfold isA
  rw [hb]
  rfl
def rIsD : List V → Hp → VK → Prop := fun xs H Q => ∃ (v : V) (d : PyData) (T : String), xs = [v, .ty T] ∧ T ∈ kinds4 ∧ Dq H v d ∧ Q (.bl (isA T d)) H
theorem call_isD {X : Cx} : CallR X (.builtin "isinstance") rIsD := fun pins s σ H xs us Q I r h => by
  obtain ⟨v, d, T, rfl, hT, hd, q⟩ := h
  exact call_isi pins s σ H _ us Q I r ⟨v, .ty T, _, _, _, rfl, .ty T, hd.ty, kit_data hT d, q⟩
end KL
set_option Elab.async false
set_option linter.all false
set_option maxRecDepth 100000
set_option maxHeartbeats 2000000
namespace KL
open PySem L2 PySem.Spec PyProof.Rows
def top (i : Nat) : Stmt := PySem.Challenge.pw_loghouse_k27_readers_of_any_values.main.body.getD i (.Pass ⟨0, 0, 0, 0⟩)
abbrev sIsInt : Stmt := top 5
abbrev sIsBet : Stmt := top 6
abbrev sIsTup : Stmt := top 7
abbrev sIsAsc : Stmt := top 8
/-! ### the mirror -/
def intD : PyData → Bool
  | .int _ => true
  | _ => false
def betD (lo hi : Int) : PyData → Bool
  | .int i => decide (lo ≤ i) && decide (i ≤ hi)
  | _ => false
def letS (x : Str) : Bool := decide (x.length = 1) && (!decide (x.cps.toList < ("a" : Str).cps.toList) && !decide (("z" : Str).cps.toList < x.cps.toList))
def letD : PyData → Bool
  | .str x => letS x
  | _ => false
def tupD (lo hi : Int) : PyData → Bool
  | .tuple ds => decide (lo ≤ (ds.length : Int)) && decide ((ds.length : Int) ≤ hi)
  | _ => false
mutual
/-- sizes that nothing here comes near to -/
def smB : PyData → Bool
  | .none => true
  | .bool _ => true
  | .int i => decide (i.natAbs.log2 < 1900)
  | .str x => decide (x.length ≤ 1000)
  | .list ds => decide (ds.length ≤ 1000) && smAll ds
  | .tuple ds => decide (ds.length ≤ 1000) && smAll ds
  | .dict kvs => decide (kvs.length ≤ 1)
def smAll : List PyData → Bool
  | [] => true
  | d :: r => smB d && smAll r
end
/-- a test of one thing -/
def spTest (f : PyData → Bool) : Sp := fun vs H Q _ => ∃ (v : V) (d : PyData), vs = [v] ∧ Dq H v d ∧ smB d = true ∧ ∀ H', Same H H' → Q (.bl (f d)) H'
/-- a test of one thing with two numbers -/
def spTest2 (f : Int → Int → PyData → Bool) : Sp := fun vs H Q _ => ∃ (v : V) (d : PyData) (lo hi : Int), vs = [v, .int lo, .int hi] ∧ Dq H v d ∧ smB d = true ∧ ∀ H', Same H H' → Q (.bl (f lo hi d)) H'
structure TxtB (mg : Str → Option Value) : Prop where
  isi : mg "isinstance" = none
  int : mg "int" = none
  bool : mg "bool" = none
  str : mg "str" = none
  tuple : mg "tuple" = none
  len : mg "len" = none
  all : mg "all" = none
  zip : mg "zip" = none
/-- a def of the module, called by its name -/
structure Cal (K : PySem.W.Frag) (mg : Str → Option Value) (x : Str) (f : Addr) (fd : FuncData) (ps : List Str) : Prop where
  m : mg x = some (.ref f)
  k : PySem.W.keepIn K (.ref f) = true
  b : L2.Binds K fd ps []
section
variable {P : Program} {w : World} {K : PySem.W.Frag} {mg : Str → Option Value} {base : Heap}
theorem scIsInt : FnScope ["thing"] ["thing"] (defScope sIsInt) := ⟨rfl, rfl, rfl, by decide +kernel, rfl, by decide +kernel, by decide +kernel⟩
theorem ok_int {f : Addr} {fd : FuncData} (F : Fun K "is_int" "is_int" sIsInt f fd) (T : TxtB mg) : FnOk P w K mg base CX0 1 f fd ["thing"] (spTest intD) := by
  refine F.ok scIsInt (fun vs H Q E h => ?_) (fun cdv A outer s H vs Q E hr h => ?_)
  · obtain ⟨v, d, rfl, _⟩ := h
    rfl
  · obtain ⟨v, d, rfl, hd, _, k⟩ := h
    refine ⟨_, pss_one (ps_ret (pe_and (pe_callB call_isD (by rfl) T.isi (by decide +kernel) (pa_cons (pv 0) (pa_cons (pe_bltn (v := .ty "int") (by rfl) T.int (by decide +kernel) rfl) pa_nil)))
      (pe_one (pe_not (pe_callB call_isD (by rfl) T.isi (by decide +kernel) (pa_cons (pv 0) (pa_cons (pe_bltn (v := .ty "bool") (by rfl) T.bool (by decide +kernel) rfl) pa_nil))))))), ?_⟩
    have q := k H (Same.refl H)
    refine ⟨_, rfl, v, d, "int", rfl, by decide, hd, _, rfl, ?_⟩
    cases d <;> first | exact q | exact ⟨_, rfl, v, _, "bool", rfl, by decide, hd, _, rfl, q⟩
theorem scIsBet : FnScope ["thing", "low", "high"] ["thing", "low", "high"] (defScope sIsBet) := ⟨rfl, rfl, rfl, by decide +kernel, rfl, by decide +kernel, by decide +kernel⟩
theorem ok_bet {f g : Addr} {fd gd : FuncData} (F : Fun K "is_between" "is_between" sIsBet f fd) (T : TxtB mg) (G : FnOk P w K mg base CX0 1 g gd ["thing"] (spTest intD)) (c : Cal K mg "is_int" g gd ["thing"]) : FnOk P w K mg base CX0 2 f fd ["thing", "low", "high"] (spTest2 betD) := by
  refine F.ok scIsBet (fun vs H Q E h => ?_) (fun cdv A outer s H vs Q E hr h => ?_)
  · obtain ⟨v, d, lo, hi, rfl, _⟩ := h
    rfl
  · obtain ⟨v, d, lo, hi, rfl, hd, sm, k⟩ := h
    refine ⟨_, pss_one (ps_ret (pe_and (pe_call G hr (by rfl) c.m c.k c.b .nil pass0 (pa_cons (pv 0) pa_nil)) (pe_one (pe_chain op_le op_le (pv 1) (pv 0) (pv 2))))), ?_⟩
    refine ⟨_, rfl, v, d, rfl, hd, sm, fun H1 S1 => ⟨_, rfl, ?_⟩⟩
    have q := k H1 S1
    cases hd with
    | int i =>
      refine ⟨_, rfl, _, rfl, _, _, rfl, rfl, _, rfl, ?_⟩
      by_cases h1 : lo ≤ i
      · refine iteYes (decide_eq_true h1) ⟨_, rfl, _, _, rfl, rfl, ?_⟩
        have e : betD lo hi (.int i) = decide (i ≤ hi) := by simp [betD, h1]
        rw [e] at q
        exact q
      · refine iteNo (decide_eq_false h1) ?_
        have e : betD lo hi (.int i) = false := by simp [betD, h1]
        rw [e] at q
        exact q
    | non => exact q
    | bl _ => exact q
    | str _ => exact q
    | lst _ _ => exact q
    | tup _ _ => exact q
    | dct0 _ => exact q
    | dct1 _ => exact q
theorem scIsTup : FnScope ["thing", "low", "high"] ["thing", "low", "high"] (defScope sIsTup) := ⟨rfl, rfl, rfl, by decide +kernel, rfl, by decide +kernel, by decide +kernel⟩
theorem ok_tup {f : Addr} {fd : FuncData} (F : Fun K "is_tuple_of" "is_tuple_of" sIsTup f fd) (T : TxtB mg) : FnOk P w K mg base CX0 1 f fd ["thing", "low", "high"] (spTest2 tupD) := by
  refine F.ok scIsTup (fun vs H Q E h => ?_) (fun cdv A outer s H vs Q E hr h => ?_)
  · obtain ⟨v, d, lo, hi, rfl, _⟩ := h
    rfl
  · obtain ⟨v, d, lo, hi, rfl, hd, sm, k⟩ := h
    refine ⟨_, pss_one (ps_ret (pe_and (pe_callB call_isD (by rfl) T.isi (by decide +kernel) (pa_cons (pv 0) (pa_cons (pe_bltn (v := .ty "tuple") (by rfl) T.tuple (by decide +kernel) rfl) pa_nil)))
      (pe_one (pe_chain op_le op_le (pv 1) (pe_callB call_len_seq (by rfl) T.len PySem.boot_len (pa_cons (pv 0) pa_nil)) (pv 2))))), ?_⟩
    have q := k H (Same.refl H)
    refine ⟨_, rfl, v, d, "tuple", rfl, by decide, hd, _, rfl, ?_⟩
    cases hd with
    | tup e ha =>
      rename_i a xs ds
      have el : xs.length = ds.length := by
        clear q k sm e
        induction ds generalizing xs with
        | nil => cases ha; rfl
        | cons _ _ ih =>
          cases ha with
          | cons _ r => exact congrArg (· + 1) (ih r)
      refine ⟨_, rfl, _, rfl, a, xs, rfl, .inr (SqT.of e), _, _, rfl, rfl, _, rfl, ?_⟩
      rw [el]
      by_cases h1 : lo ≤ (ds.length : Int)
      · refine iteYes (decide_eq_true h1) ⟨_, rfl, _, _, rfl, rfl, ?_⟩
        have e : tupD lo hi (.tuple ds) = decide ((ds.length : Int) ≤ hi) := by simp [tupD, h1]
        rw [e] at q
        exact q
      · refine iteNo (decide_eq_false h1) ?_
        have e : tupD lo hi (.tuple ds) = false := by simp [tupD, h1]
        rw [e] at q
        exact q
    | non => exact q
    | bl _ => exact q
    | int _ => exact q
    | str _ => exact q
    | lst _ _ => exact q
    | dct0 _ => exact q
    | dct1 _ => exact q
end
end KL
set_option Elab.async false
set_option linter.all false
set_option maxRecDepth 100000
set_option maxHeartbeats 2000000
namespace KL
open PySem L2 PySem.Spec PyProof.Rows
theorem DqAll.len {H : Hp} : ∀ {ds : List PyData} {xs : List V}, DqAll H xs ds → xs.length = ds.length
  | [], _, h => by
    cases h
    rfl
  | _ :: _, _, h => by
    cases h with
    | cons _ r => exact congrArg (· + 1) (DqAll.len r)
theorem DqAll.at {H : Hp} : ∀ {ds : List PyData} {xs : List V} {i : Nat} {x : V}, DqAll H xs ds → xs[i]? = some x → ∃ d, ds[i]? = some d ∧ Dq H x d
  | [], _, i, x, h, e => by
    cases h
    simp at e
  | d :: ds, _, 0, x, h, e => by
    cases h with
    | cons q _ =>
      simp at e
      subst e
      exact ⟨d, rfl, q⟩
  | d :: ds, _, i + 1, x, h, e => by
    cases h with
    | cons _ r =>
      obtain ⟨d', h1, h2⟩ := DqAll.at r (by simpa using e)
      exact ⟨d', by simpa using h1, h2⟩
theorem sm_at : ∀ {ds : List PyData} {i : Nat} {d : PyData}, smAll ds = true → ds[i]? = some d → smB d = true
  | [], i, d, _, e => by simp at e
  | d :: ds, 0, d', h, e => by
    simp at e
    subst e
    exact (Bool.and_eq_true_iff.mp h).1
  | d :: ds, i + 1, d', h, e => sm_at (Bool.and_eq_true_iff.mp h).2 (by simpa using e)
/-- what a comprehension over data has made so far -/
def MadeTo (H0 : Hp) (D : Addr) (bs : List V) (H : Hp) : Prop := Same H0 H ∧ H D = some (.lst bs)
theorem MadeTo.more {H0 H H' : Hp} {D : Addr} {bs : List V} (b : V) (hD : H0 D = none) (M : MadeTo H0 D bs H) (S : Same H H') : H' D = some (.lst bs) ∧ MadeTo H0 D (bs ++ [b]) (upd H' D (.lst (bs ++ [b]))) := by
  refine ⟨S _ _ M.2, fun x o e => ?_, upd_same⟩
  have nx : x ≠ D := fun z => by
    rw [z, hD] at e
    cases e
  rw [upd_ne nx]
  exact S _ _ (M.1 _ _ e)
theorem take_map {β : Type} {g : PyData → β} {ds : List PyData} {i : Nat} {d : PyData} (h : ds[i]? = some d) : (ds.take (i + 1)).map g = (ds.take i).map g ++ [g d] := by
  rw [List.take_add_one, h, List.map_append]
  rfl
theorem sm_len {ds : List PyData} (h : smB (.tuple ds) = true) : ds.length ≤ 1000 := of_decide_eq_true (Bool.and_eq_true_iff.mp h).1
theorem sm_all {ds : List PyData} (h : smB (.tuple ds) = true) : smAll ds = true := (Bool.and_eq_true_iff.mp h).2
theorem take_size {β : Type} {g : PyData → β} {j : β → V} {ds : List PyData} (i : Nat) (h : ds.length ≤ 1000) : (((ds.take i).map g).map j).length < sizeLine := by
  rw [List.length_map, List.length_map, List.length_take]
  exact Nat.lt_of_le_of_lt (Nat.le_trans (Nat.min_le_right _ _) h) (by rw [sizeLine_eq]; omega)
/-- one more turn of a comprehension over data that makes truth values -/
theorem MadeTo.turn {H0 H H' : Hp} {D : Addr} {g : PyData → Bool} {ds : List PyData} {i : Nat} {d : PyData} (hD : H0 D = none) (M : MadeTo H0 D (((ds.take i).map g).map V.bl) H) (S : Same H H') (hl : ds.length ≤ 1000) (h : ds[i]? = some d) :
    ∃ acc, H' D = some (.lst acc) ∧ acc.length < sizeLine ∧ MadeTo H0 D (((ds.take (i + 1)).map g).map V.bl) (upd H' D (.lst (acc ++ [.bl (g d)]))) := by
  have m := M.more (.bl (g d)) hD S
  refine ⟨_, m.1, take_size i hl, ?_⟩
  rw [take_map h, List.map_append]
  exact m.2
end KL
set_option Elab.async false
set_option linter.all false
set_option maxRecDepth 100000
set_option maxHeartbeats 2000000
namespace KL
open PySem L2 PySem.Spec PyProof.Rows
mutual
/-- x < y of two things of one shape -/
def ltD : PyData → PyData → Bool
  | .int i, .int j => decide (i < j)
  | .str x, .str y => decide (x.cps.toList < y.cps.toList)
  | .tuple xs, .tuple ys => ltAll xs ys
  | _, _ => false
def ltAll : List PyData → List PyData → Bool
  | [], [] => false
  | [], _ :: _ => true
  | _ :: _, [] => false
  | x :: xs, y :: ys => if PyData.eqv x y = true then ltAll xs ys else ltD x y
end
mutual
/-- whether they can be compared -/
def cmpD : PyData → PyData → Bool
  | .int _, .int _ => true
  | .str _, .str _ => true
  | .tuple xs, .tuple ys => cmpAll xs ys
  | _, _ => false
def cmpAll : List PyData → List PyData → Bool
  | x :: xs, y :: ys => cmpD x y && cmpAll xs ys
  | _, _ => true
end
theorem lexAt_shift (e r : Nat → Bool) (z : Bool) : ∀ (k i : Nat), Ob.lexAt e r z (i + 1) k = Ob.lexAt (fun j => e (j + 1)) (fun j => r (j + 1)) z i k
  | 0, _ => rfl
  | k + 1, i => by
    rw [Ob.lexAt_succ, Ob.lexAt_succ, lexAt_shift e r z k (i + 1)]
def peq (xs ys : List PyData) (j : Nat) : Bool := PyData.eqv (xs.getD j .none) (ys.getD j .none)
theorem lex_all : ∀ (xs ys : List PyData), Ob.lexAt (peq xs ys) (fun j => ltD (xs.getD j .none) (ys.getD j .none)) (decide (xs.length < ys.length)) 0 (min xs.length ys.length) = ltAll xs ys
  | [], [] => rfl
  | [], _ :: _ => by simp [Ob.lexAt_zero, ltAll]
  | _ :: _, [] => by simp [Ob.lexAt_zero, ltAll]
  | x :: xs, y :: ys => by
    have m : min (x :: xs).length (y :: ys).length = min xs.length ys.length + 1 := by
      rw [List.length_cons, List.length_cons]
      omega
    rw [m, Ob.lexAt_succ, lexAt_shift]
    have z : decide ((x :: xs).length < (y :: ys).length) = decide (xs.length < ys.length) := by
      rw [List.length_cons, List.length_cons]
      by_cases q : xs.length < ys.length
      · rw [decide_eq_true q, decide_eq_true (by omega)]
      · rw [decide_eq_false q, decide_eq_false (by omega)]
    rw [z]
    show (if PyData.eqv x y = true then Ob.lexAt (peq xs ys) (fun j => ltD (xs.getD j .none) (ys.getD j .none)) (decide (xs.length < ys.length)) 0 (min xs.length ys.length) else ltD x y) = ltAll (x :: xs) (y :: ys)
    rw [lex_all xs ys, ltAll]
theorem reads_at {h : Heap} : ∀ {us : List Value} {ds : List PyData} {as : List Addr}, ReadsAll h us ds as → ∀ (j : Nat) (hj : j < us.length), ∃ bs, Reads h us[j] (ds.getD j .none) bs
  | _, _, _, .nil, j, hj => absurd hj (Nat.not_lt_zero _)
  | _, _, _, .cons r _, 0, _ => ⟨_, r⟩
  | _, _, _, .cons _ rs, j + 1, hj => reads_at rs j (Nat.lt_of_succ_lt_succ hj)
theorem reads_len {h : Heap} : ∀ {us : List Value} {ds : List PyData} {as : List Addr}, ReadsAll h us ds as → us.length = ds.length
  | _, _, _, .nil => rfl
  | _, _, _, .cons _ rs => congrArg (· + 1) (reads_len rs)
theorem lay_at : ∀ {ds : List PyData} (j : Nat), PyData.canLayAll0 ds = true → (ds.getD j .none).canLay0 = true
  | [], j, _ => by simp [PyData.canLay0]
  | d :: ds, 0, h => (Bool.and_eq_true_iff.mp h).1
  | d :: ds, j + 1, h => lay_at (ds := ds) j (Bool.and_eq_true_iff.mp h).2
theorem cmp_at : ∀ {xs ys : List PyData} (j : Nat), cmpAll xs ys = true → j < xs.length → j < ys.length → cmpD (xs.getD j .none) (ys.getD j .none) = true
  | [], _, _, _, h, _ => absurd h (Nat.not_lt_zero _)
  | _ :: _, [], _, _, _, h => absurd h (Nat.not_lt_zero _)
  | x :: xs, y :: ys, 0, h, _, _ => (Bool.and_eq_true_iff.mp (show (cmpD x y && cmpAll xs ys) = true from h)).1
  | x :: xs, y :: ys, j + 1, h, h1, h2 => cmp_at (xs := xs) (ys := ys) j (Bool.and_eq_true_iff.mp (show (cmpD x y && cmpAll xs ys) = true from h)).2 (Nat.lt_of_succ_lt_succ h1) (Nat.lt_of_succ_lt_succ h2)
theorem depth_at : ∀ {ds : List PyData} (j : Nat), (ds.getD j .none).depth ≤ PyData.depthAll ds
  | [], j => by simp [PyData.depth]
  | d :: ds, 0 => by
    show d.depth ≤ max d.depth (PyData.depthAll ds)
    omega
  | d :: ds, j + 1 => by
    have := depth_at (ds := ds) j
    show (ds.getD j .none).depth ≤ max d.depth (PyData.depthAll ds)
    omega
/-- x < y of two things that can be compared -/
theorem lt_data : ∀ (n : Nat) (d e : PyData) (A : Around) (s : Shared) (a b : Value) (as bs : List Addr), d.depth ≤ n → Reads s.heap a d as → Reads s.heap b e bs → d.canLay0 = true → e.canLay0 = true → cmpD d e = true → A.units + n < cLine → Ob.RcOp .Lt A s a b (ltD d e)
  | n, .int i, e, A, s, a, b, as, bs, hn, ra, rb, la, lb, c, hu => by
    cases ra
    cases rb <;> first | exact Ob.RcOp.lt_int _ _ _ _ | (exfalso; simp [cmpD] at c)
  | n, .str x, e, A, s, a, b, as, bs, hn, ra, rb, la, lb, c, hu => by
    cases ra
    cases rb with
    | str y t => exact fun _ _ _ _ h => lt_str h
    | _ => exfalso; simp [cmpD] at c
  | n + 1, .tuple xs, .tuple ys, A, s, _, _, _, _, hn, .tuple (a := l) (vs := us) h1 h2 h3 h4, .tuple (a := l') (vs := ws) k1 k2 k3 k4, la, lb, c, hu => by
    have hd : PyData.depthAll xs ≤ n := by
      have : PyData.depthAll xs + 1 ≤ n + 1 := hn
      omega
    have R := Ob.RcOp.tuples_lt (A := A) (s := s) (e := peq xs ys) (r := fun j => ltD (xs.getD j .none) (ys.getD j .none)) (l := l) (b := l') (items := us) (items2 := ws) ⟨_, h1, h2, _, h3⟩ ⟨_, k1, k2, _, k3⟩ (by omega)
      (fun j j1 j2 => by
        obtain ⟨_, q1⟩ := reads_at h4 j (by simpa using j1)
        obtain ⟨_, q2⟩ := reads_at k4 j (by simpa using j2)
        have q := SeqAt.eqAt_reads _ _ A.in1 s _ _ _ _ q1 q2 (lay_at j la) (lay_at j lb) (by
          have := depth_at (ds := xs) j
          show A.units + 1 + _ < _
          omega)
        simpa [peq] using q)
      (fun j j1 j2 _ => by
        obtain ⟨_, q1⟩ := reads_at h4 j (by simpa using j1)
        obtain ⟨_, q2⟩ := reads_at k4 j (by simpa using j2)
        have l1 : us.size = xs.length := by rw [← reads_len h4]; simp
        have l2 : ws.size = ys.length := by rw [← reads_len k4]; simp
        have q := lt_data n _ _ A.in1 s _ _ _ _ (Nat.le_trans (depth_at j) hd) q1 q2 (lay_at j la) (lay_at j lb) (cmp_at j c (by omega) (by omega)) (by show A.units + 1 + n < cLine; omega)
        simpa using q)
    have l1 : us.size = xs.length := by rw [← reads_len h4]; simp
    have l2 : ws.size = ys.length := by rw [← reads_len k4]; simp
    rw [l1, l2, lex_all] at R
    exact R
  | _, .none, _, _, _, _, _, _, _, _, _, _, _, _, c, _ => by simp [cmpD] at c
  | _, .bool _, _, _, _, _, _, _, _, _, _, _, _, _, c, _ => by simp [cmpD] at c
  | _, .list _, _, _, _, _, _, _, _, _, _, _, _, _, c, _ => by simp [cmpD] at c
  | _, .dict _, _, _, _, _, _, _, _, _, _, _, _, _, c, _ => by simp [cmpD] at c
  | 0, .tuple xs, _, _, _, _, _, _, _, hn, _, _, _, _, _, _ => by
    have : PyData.depthAll xs + 1 ≤ 0 := hn
    omega
  | _ + 1, .tuple _, .none, _, _, _, _, _, _, _, _, _, _, _, c, _ => by simp [cmpD] at c
  | _ + 1, .tuple _, .bool _, _, _, _, _, _, _, _, _, _, _, _, c, _ => by simp [cmpD] at c
  | _ + 1, .tuple _, .int _, _, _, _, _, _, _, _, _, _, _, _, c, _ => by simp [cmpD] at c
  | _ + 1, .tuple _, .str _, _, _, _, _, _, _, _, _, _, _, _, c, _ => by simp [cmpD] at c
  | _ + 1, .tuple _, .list _, _, _, _, _, _, _, _, _, _, _, _, c, _ => by simp [cmpD] at c
  | _ + 1, .tuple _, .dict _, _, _, _, _, _, _, _, _, _, _, _, c, _ => by simp [cmpD] at c
end KL
set_option Elab.async false
set_option linter.all false
set_option maxRecDepth 100000
set_option maxHeartbeats 2000000
namespace KL
open PySem L2 PySem.Spec PyProof.Rows
section
variable {X : Cx} {pins : List (Addr × Obj)} {σ : L2.St} {H : Hp} {s : Shared}
mutual
theorem Dq.reads0 (I : Inv X pins σ H s) : ∀ (d : PyData) (v : V) (u : Value), Dq H v d → d.canLay0 = true → RelV v u → ∃ as, Reads s.heap u d as
  | .none, _, _, h, _, r => by
    cases h
    cases r
    exact ⟨_, .none⟩
  | .bool b, _, _, h, _, r => by
    cases h
    cases r
    exact ⟨_, .bool b⟩
  | .int i, _, _, h, _, r => by
    cases h
    obtain ⟨t, rfl⟩ := r
    exact ⟨_, .int i t⟩
  | .str x, _, _, h, _, r => by
    cases h
    obtain ⟨t, rfl⟩ := r
    exact ⟨_, .str x t⟩
  | .list ds, _, _, h, l, r => by
    cases h with
    | lst q ha =>
      cases r
      obtain ⟨_, its, n, rv, ho⟩ := I.hok _ _ q
      obtain ⟨as, hr⟩ := DqAll.reads0 I ds _ its ha l rv
      exact ⟨_, .list ho rfl rfl hr⟩
  | .tuple ds, _, _, h, l, r => by
    cases h with
    | tup q ha =>
      cases r
      obtain ⟨_, its, rv, o, h1, h2, n, h3⟩ := I.hok _ _ q
      obtain ⟨as, hr⟩ := DqAll.reads0 I ds _ its ha l rv
      exact ⟨_, .tuple h1 h2 h3 hr⟩
  | .dict _, _, _, _, l, _ => by simp [PyData.canLay0] at l
theorem DqAll.reads0 (I : Inv X pins σ H s) : ∀ (ds : List PyData) (vs : List V) (us : List Value), DqAll H vs ds → PyData.canLayAll0 ds = true → Vals vs us → ∃ as, ReadsAll s.heap us ds as
  | [], _, _, h, _, r => by
    cases h
    cases r
    exact ⟨_, .nil⟩
  | d :: ds, _, _, h, l, r => by
    cases h with
    | cons h1 h2 =>
      cases r with
      | cons r1 r2 =>
        have l' := Bool.and_eq_true_iff.mp (show (d.canLay0 && PyData.canLayAll0 ds) = true from l)
        obtain ⟨as, q1⟩ := Dq.reads0 I d _ _ h1 l'.1 r1
        obtain ⟨bs, q2⟩ := DqAll.reads0 I ds _ _ h2 l'.2 r2
        exact ⟨_, .cons q1 q2⟩
end
end
/-- x < y of data -/
def rLtD : R2 := fun x y H Q => ∃ d e, Dq H x d ∧ Dq H y e ∧ d.canLay0 = true ∧ e.canLay0 = true ∧ cmpD d e = true ∧ d.depth ≤ 20 ∧ Q (.bl (ltD d e)) H
theorem op_ltD {X : Cx} (hu : X.A.units + 64 < cLine) : OpR X (compareOp .Lt) rLtD := by
  intro pins s σ H x y v u Q I rx ry h
  obtain ⟨d, e, hd, he, ld, le, c, hn, q⟩ := h
  obtain ⟨as, r1⟩ := Dq.reads0 I d x v hd ld rx
  obtain ⟨bs, r2⟩ := Dq.reads0 I e y u he le ry
  exact lt_data 20 d e X.A s v u as bs hn r1 r2 ld le c (by omega) _ _ _ _ ⟨.bl (ltD d e), H, I, rfl, q⟩
theorem walk_zipT {K : PySem.W.Frag} {a b : Addr} {xs ys : List V} {n : Nat} (hn : n = min xs.length ys.length) : Walk (RZ.ItzT K a b) n (fun H => SqT K H a xs ∧ SqT K H b ys) (YPair (fun i => xs[i]?) (fun i => ys[i]?)) := by
  subst hn
  refine ⟨fun i _ hi q => ?_, fun _ q => ⟨xs, ys, q.1, q.2, by omega⟩, fun i H v H' _ q y => ?_⟩
  · have h1 : i < xs.length := by omega
    have h2 : i < ys.length := by omega
    exact ⟨xs, ys, xs[i], ys[i], q.1, q.2, by simp [h1], by simp [h2]⟩
  · obtain ⟨T, x, z, h1, h2, h3, h4, h5⟩ := y
    exact ⟨T, x, z, h1, h2, h3, h4 xs q.1, h5 ys q.2⟩
def ascTo (ds : List PyData) (j : Nat) : List Bool := (List.range j).map fun i => ltD (ds.getD i .none) (ds.getD (i + 1) .none)
def ascD (ds : List PyData) : Bool := (ascTo ds (ds.length - 1)).all id
/-- a slice of a list or of a tuple -/
def rSlX (K : PySem.W.Frag) : V → Option Int → Option Int → Hp → VK → Prop := fun x lo hi H Q => rSlL K x lo hi H Q ∨ rSlA K x lo hi H Q
theorem sl_any {X : Cx} : SlR X (rSlX X.K) := by
  intro pins s σ H x v vl vu lo hi sl Q I rx hs pl pu h
  rcases h with h | h
  · exact sl_list pins s σ H x v vl vu lo hi sl Q I rx hs pl pu h
  · exact sl_tupA pins s σ H x v vl vu lo hi sl Q I rx hs pl pu h
def spAsc : Sp := fun vs H Q _ => ∃ (a : Addr) (xs : List V) (ds : List PyData), vs = [.ref a] ∧ (H a = some (.lst xs) ∨ H a = some (.tup xs)) ∧ DqAll H xs ds ∧ ds.length ≤ 1000 ∧ PyData.canLayAll0 ds = true ∧ PyData.depthAll ds ≤ 20 ∧
  (∀ i, i + 1 < ds.length → cmpD (ds.getD i .none) (ds.getD (i + 1) .none) = true) ∧ ∀ H', Same H H' → Q (.bl (ascD ds)) H'
theorem getD_of {ds : List PyData} {i : Nat} {d : PyData} (h : ds[i]? = some d) : ds.getD i .none = d := by
  rw [List.getD_eq_getElem?_getD, h, Option.getD_some]
theorem six_one (n : Nat) : HT.sIx n 0 (some 1) = min 1 n := HT.sIx_nat n 0 1
theorem cut_tail (xs : List V) : cutV xs (some 1) none = xs.drop 1 := by
  unfold cutV
  rw [six_one, HT.sIx_none]
  cases xs with
  | nil => rfl
  | cons x r =>
    have e : min 1 (x :: r).length = 1 := by
      rw [List.length_cons]
      omega
    rw [e]
    exact List.take_of_length_le (by rw [List.length_drop]; omega)
section
variable {P : Program} {w : World} {K : PySem.W.Frag} {mg : Str → Option Value} {base : Heap}
theorem scIsAsc : FnScope ["items", "ahead", "behind"] ["items"] (defScope sIsAsc) := ⟨rfl, rfl, rfl, by decide +kernel, rfl, by decide +kernel, by decide +kernel⟩
theorem ok_asc {f : Addr} {fd : FuncData} (F : Fun K "is_ascending" "is_ascending" sIsAsc f fd) (T : TxtB mg) : FnOk P w K mg base CX0 1 f fd ["items"] spAsc := by
  refine F.ok scIsAsc (fun vs H Q E h => ?_) (fun cdv A outer s H vs Q E hr h => ?_)
  · obtain ⟨a, xs, ds, rfl, _⟩ := h
    rfl
  · obtain ⟨a, xs, ds, rfl, hx, ha, hl, lay, dp, hc, k⟩ := h
    refine ⟨_, pss_one (ps_ret (pe_callB (cr_all rfl) (by rfl) T.all (by decide +kernel) (pa_cons (pe_lc (own := [("ahead", 1), ("behind", 2)]) (g := gTup K 2 (gCons (gName 1) (gCons (gName 2) gNil))) (tt := tYes) rfl scIsAsc.nd (RZ.pi_zipA (by rfl) T.zip (pa_cons (pv 0) (pa_cons (pe_slice sl_any (pv 0) (po_some pe_int) po_none) pa_nil)))
      (blkOk_by (N := ["items", "ahead", "behind"]) (sc := defScope sIsAsc) (by decide +kernel)) (fun _ _ _ _ _ => pg_tup rfl (pgs_cons (pg_name (i := 1) scIsAsc.nd rfl (.inl rfl)) (pgs_cons (pg_name (i := 2) scIsAsc.nd rfl (.inl rfl)) pgs_nil))) (fun _ _ _ _ _ => pts_nil)
      (fun _ _ _ _ _ => pe_cmpR (op_ltD hr.units) (pv 1) (pv 2) (nomark _))) pa_nil))), ?_⟩
    have len := ha.len
    have fin : ∀ (D : Addr) (H1 : Hp), Same H H1 → H1 D = none → ∀ (n : Nat), n = ds.length - 1 → ∀ H2, MadeTo H1 D ((ascTo ds n).map V.bl) H2 → ∃ (a : Addr) (bs : List Bool), [V.ref D] = [V.ref a] ∧ SqL K H2 a (bs.map V.bl) ∧ Q (.bl (bs.all id)) H2 := fun D H1 S1 nD n hn H2 M => by
      refine ⟨D, ascTo ds n, rfl, SqL.of M.2, ?_⟩
      have q := k H2 (S1.trans M.1)
      subst hn
      exact q
    rcases hx with hx | hx
    · refine ⟨_, rfl, _, rfl, _, rfl, .inl ⟨a, xs, rfl, SqL.of hx, fun b nb => ?_⟩⟩
      have S1 := same_new (o := .lst (cutV xs (some 1) none)) nb
      revert S1
      have hb : (upd H b (.lst (cutV xs (some 1) none))) b = some (.lst (xs.drop 1)) := by rw [upd_same, cut_tail]
      revert hb
      generalize upd H b (.lst (cutV xs (some 1) none)) = H1
      intro hb S1
      refine ⟨a, b, xs, xs.drop 1, rfl, .inl ⟨SqL.of (S1 _ _ hx), SqL.of hb, fun D nD => ?_⟩⟩
      have en : ds.length - 1 = min xs.length (xs.drop 1).length := by
        rw [List.length_drop]
        omega
      refine lc_it (walk_zip (K := K) (a := a) (b := b) en) (fun i H2 => MadeTo H1 D ((ascTo ds i).map V.bl) H2) ⟨same_new nD, upd_same⟩ (fun i H2 _ M => ⟨SqL.of (M.1 _ _ (S1 _ _ hx)), SqL.of (M.1 _ _ hb)⟩) ?_ (fun H2 M => fin D H1 S1 nD _ rfl H2 M)
      rintro i _ H2 _ hi M ⟨T, y, z, rfl, nT, rfl, ey, ez⟩
      obtain ⟨d1, e1, q1⟩ := DqAll.at ha ey
      have ez : xs[i + 1]? = some z := by
        have ez : (xs.drop 1)[i]? = some z := ez
        rw [List.getElem?_drop, Nat.add_comm] at ez
        exact ez
      obtain ⟨d2, e2, q2⟩ := DqAll.at ha ez
      have S2 := same_new (o := .tup [y, z]) nT
      have S := S1.trans (M.1.trans S2)
      have c := hc i (by omega)
      rw [getD_of e1, getD_of e2] at c
      have l1 := lay_at i lay
      have l2 := lay_at (i + 1) lay
      have p1 := Nat.le_trans (depth_at (ds := ds) i) dp
      rw [getD_of e1] at l1 p1
      rw [getD_of e2] at l2
      refine ⟨T, [y, z], rfl, SqT.of upd_same, rfl, y, [z], rfl, z, [], rfl, rfl, rfl, ?_⟩
      refine ⟨_, rfl, _, rfl, d1, d2, Dq.same S d1 y q1, Dq.same S d2 z q2, l1, l2, c, p1, ?_⟩
      have m := M.more (.bl (ltD d1 d2)) nD S2
      refine ⟨_, m.1, ?_, ?_⟩
      · rw [List.length_map, ascTo, List.length_map, List.length_range]
        exact Nat.lt_of_lt_of_le hi (Nat.le_trans (Nat.sub_le _ _) (Nat.le_trans hl (by rw [sizeLine_eq]; omega)))
      · have ea : ascTo ds (i + 1) = ascTo ds i ++ [ltD d1 d2] := by
          rw [ascTo, ascTo, List.range_succ, List.map_append, List.map_singleton, getD_of e1, getD_of e2]
        rw [ea, List.map_append]
        exact m.2
    · refine ⟨_, rfl, _, rfl, _, rfl, .inr ⟨a, xs, rfl, SqT.of hx, ?_, ?_⟩⟩
      · rintro ⟨w1, w2⟩
        have x0 : xs = [] := by
          rw [six_one] at w1
          cases xs with
          | nil => rfl
          | cons x r =>
            rw [List.length_cons] at w1
            omega
        subst x0
        have d0 : ds.length = 0 := len.symm
        refine ⟨a, a, [], [], rfl, .inr ⟨SqT.of hx, SqT.of hx, fun D nD => ?_⟩⟩
        refine lc_it (walk_zipT (K := K) (a := a) (b := a) (xs := []) (ys := []) (n := ds.length - 1) (by rw [d0]; rfl)) (fun i H2 => MadeTo H D ((ascTo ds i).map V.bl) H2) ⟨same_new nD, upd_same⟩ (fun i H2 _ M => ⟨SqT.of (M.1 _ _ hx), SqT.of (M.1 _ _ hx)⟩) ?_ (fun H2 M => fin D H (Same.refl H) nD _ rfl H2 M)
        intro i x H2 H3 hi
        omega
      · intro _ b nb
        have S1 := same_new (o := .tup (cutV xs (some 1) none)) nb
        revert S1
        have hb : (upd H b (.tup (cutV xs (some 1) none))) b = some (.tup (xs.drop 1)) := by rw [upd_same, cut_tail]
        revert hb
        generalize upd H b (.tup (cutV xs (some 1) none)) = H1
        intro hb S1
        refine ⟨a, b, xs, xs.drop 1, rfl, .inr ⟨SqT.of (S1 _ _ hx), SqT.of hb, fun D nD => ?_⟩⟩
        have en : ds.length - 1 = min xs.length (xs.drop 1).length := by
          rw [List.length_drop]
          omega
        refine lc_it (walk_zipT (K := K) (a := a) (b := b) en) (fun i H2 => MadeTo H1 D ((ascTo ds i).map V.bl) H2) ⟨same_new nD, upd_same⟩ (fun i H2 _ M => ⟨SqT.of (M.1 _ _ (S1 _ _ hx)), SqT.of (M.1 _ _ hb)⟩) ?_ (fun H2 M => fin D H1 S1 nD _ rfl H2 M)
        rintro i _ H2 _ hi M ⟨T, y, z, rfl, nT, rfl, ey, ez⟩
        obtain ⟨d1, e1, q1⟩ := DqAll.at ha ey
        have ez : xs[i + 1]? = some z := by
          have ez : (xs.drop 1)[i]? = some z := ez
          rw [List.getElem?_drop, Nat.add_comm] at ez
          exact ez
        obtain ⟨d2, e2, q2⟩ := DqAll.at ha ez
        have S2 := same_new (o := .tup [y, z]) nT
        have S := S1.trans (M.1.trans S2)
        have c := hc i (by omega)
        rw [getD_of e1, getD_of e2] at c
        have l1 := lay_at i lay
        have l2 := lay_at (i + 1) lay
        have p1 := Nat.le_trans (depth_at (ds := ds) i) dp
        rw [getD_of e1] at l1 p1
        rw [getD_of e2] at l2
        refine ⟨T, [y, z], rfl, SqT.of upd_same, rfl, y, [z], rfl, z, [], rfl, rfl, rfl, ?_⟩
        refine ⟨_, rfl, _, rfl, d1, d2, Dq.same S d1 y q1, Dq.same S d2 z q2, l1, l2, c, p1, ?_⟩
        have m := M.more (.bl (ltD d1 d2)) nD S2
        refine ⟨_, m.1, ?_, ?_⟩
        · rw [List.length_map, ascTo, List.length_map, List.length_range]
          exact Nat.lt_of_lt_of_le hi (Nat.le_trans (Nat.sub_le _ _) (Nat.le_trans hl (by rw [sizeLine_eq]; omega)))
        · have ea : ascTo ds (i + 1) = ascTo ds i ++ [ltD d1 d2] := by
            rw [ascTo, ascTo, List.range_succ, List.map_append, List.map_singleton, getD_of e1, getD_of e2]
          rw [ea, List.map_append]
          exact m.2
end
end KL
set_option Elab.async false
set_option linter.all false
set_option maxRecDepth 100000
set_option maxHeartbeats 2000000
namespace KL
open PySem L2 PySem.Spec PyProof.Rows
def itemD (i : Nat) : PyData → PyData
  | .tuple ds => ds.getD i .none
  | _ => .none
def allD (f : PyData → Bool) : PyData → Bool
  | .tuple ds => ds.all f
  | _ => true
def itemsD : PyData → List PyData
  | .tuple ds => ds
  | _ => []
def isTupD : PyData → Bool
  | .tuple _ => true
  | _ => false
theorem tup_of {lo hi : Int} {d : PyData} (h : tupD lo hi d = true) : ∃ ds, d = .tuple ds ∧ lo ≤ (ds.length : Int) ∧ (ds.length : Int) ≤ hi := by
  cases d with
  | tuple ds =>
    have q := Bool.and_eq_true_iff.mp h
    exact ⟨ds, rfl, of_decide_eq_true q.1, of_decide_eq_true q.2⟩
  | _ => cases h
theorem at_some {ds : List PyData} {xs : List V} {H : Hp} (ha : DqAll H xs ds) {i : Nat} (hi : i < ds.length) : ∃ x, xs[i]? = some x ∧ ds[i]? = some (ds.getD i .none) ∧ Dq H x (ds.getD i .none) := by
  have h1 : i < xs.length := by rw [ha.len]; exact hi
  have e : xs[i]? = some xs[i] := List.getElem?_eq_getElem h1
  obtain ⟨d, hd, q⟩ := DqAll.at ha e
  rw [getD_of hd]
  exact ⟨_, e, hd, q⟩
theorem allD_map (f : PyData → Bool) (ds : List PyData) : (ds.map f).all id = allD f (.tuple ds) := by
  show (ds.map f).all id = ds.all f
  rw [List.all_map]
  rfl
theorem getD_map {f : PyData → PyData} {ds : List PyData} {i : Nat} (hi : i < ds.length) : (ds.map f).getD i .none = f (ds.getD i .none) := by
  rw [List.getD_eq_getElem?_getD, List.getElem?_map, List.getElem?_eq_getElem hi, List.getD_eq_getElem?_getD, List.getElem?_eq_getElem hi]
  rfl
theorem all_at {f : PyData → Bool} {ds : List PyData} (h : ds.all f = true) {i : Nat} (hi : i < ds.length) : f (ds.getD i .none) = true := by
  rw [List.getD_eq_getElem?_getD, List.getElem?_eq_getElem hi]
  exact List.all_eq_true.mp h _ (List.getElem_mem hi)
theorem bet_of {lo hi : Int} {d : PyData} (h : betD lo hi d = true) : ∃ i, d = .int i ∧ lo ≤ i ∧ i ≤ hi := by
  cases d with
  | int i =>
    have q := Bool.and_eq_true_iff.mp h
    exact ⟨i, rfl, of_decide_eq_true q.1, of_decide_eq_true q.2⟩
  | _ => cases h
end KL
set_option Elab.async false
set_option linter.all false
set_option maxRecDepth 100000
set_option maxHeartbeats 2000000
namespace PySem
namespace SeqAt
open AutoSeq1 (wpAny_loadPart')
open MeetsSeq
theorem str_eq_dict (b : Str) (u : Tok) (l : Addr) (c : Value) (es : Array DictEntry) (n : Nat) (dd : Option Addr) (sl : Array (Option Value)) :
    Meets (Builtin.«str.__eq__» ⟨[.str b u, .ref l], []⟩) (fun _ R s => s.heap.get? l = some { cls := c, dict := dd, data := .dict es n, slots := sl } ∧ R (.ok (.ret .notImplemented)) s) :=
  .of_wp fun prog w A R s h => by obtain ⟨hp, g, d, tk, os⟩ := s; obtain ⟨hl, h⟩ := h; wp_walk using wpAny_loadPart' hl, wpAny_load hl; exact ⟨_, rfl, h⟩
theorem str_ne_dict (b : Str) (u : Tok) (l : Addr) (c : Value) (es : Array DictEntry) (n : Nat) (dd : Option Addr) (sl : Array (Option Value)) :
    Meets (Builtin.«str.__ne__» ⟨[.str b u, .ref l], []⟩) (fun _ R s => s.heap.get? l = some { cls := c, dict := dd, data := .dict es n, slots := sl } ∧ R (.ok (.ret .notImplemented)) s) :=
  .of_wp fun prog w A R s h => by obtain ⟨hp, g, d, tk, os⟩ := s; obtain ⟨hl, h⟩ := h; wp_walk using wpAny_loadPart' hl, wpAny_load hl; exact ⟨_, rfl, h⟩
section
variable {A : Around} {s : Shared}
theorem dict_eq_str {prog : Program} {w : World} {E : Value → Shared → Prop} {l : Addr} {o : Obj} {es : Array DictEntry} {n : Nat} (b : Str) (u : Tok) (ho : s.heap.get? l = some o) (hc : o.cls = .type "dict") (Q' : Value → Shared → Prop) (h : Q' .notImplemented s) :
    wpAny (model prog w) A (call (.builtin "dict.__eq__") [.ref l, .str b u]) Q' E s := by
  have ht : s.TypeIs (.ref l) "dict" := ⟨o, ho, hc⟩
  refine wpAny_call_entry PySem.F.slot_dict_eq ht PySem.F.entry_dict_eq ?_ (PySem.F.args_dict_eq_2 _ _)
  show wpAny _ _ (Builtin.Dict.dictSlotArgs "__eq__" ⟨[.ref l, .str b u], []⟩ >>= _) _ _ s
  refine wpAny_bind ?_
  unfold Builtin.Dict.dictSlotArgs
  refine wpAny_bind (wpAny_notOrdered_dict ht ?_)
  show wpAny _ _ (pure (Value.ref l, Value.str b u)) _ _ s
  refine wpAny_pure ?_
  refine wpAny_bind (wpAny_isInstance (T := "str") (typeIs_str s b u) PySem.F.sub_str_dict ?_)
  simp only [Bool.not_false, if_true]
  exact wpAny_bind (wpAny_rule (wpAny_bind (wpAny_pure (wpAny_pure ⟨_, rfl, h⟩))))
theorem dict_ne_str {prog : Program} {w : World} {E : Value → Shared → Prop} {l : Addr} {o : Obj} {es : Array DictEntry} {n : Nat} (b : Str) (u : Tok) (ho : s.heap.get? l = some o) (hc : o.cls = .type "dict") (Q' : Value → Shared → Prop) (h : Q' .notImplemented s) :
    wpAny (model prog w) A (call (.builtin "dict.__ne__") [.ref l, .str b u]) Q' E s := by
  have ht : s.TypeIs (.ref l) "dict" := ⟨o, ho, hc⟩
  refine wpAny_call_entry PySem.F.slot_dict_ne ht PySem.F.entry_dict_ne ?_ (PySem.F.args_dict_ne_2 _ _)
  show wpAny _ _ (Builtin.Dict.dictSlotArgs "__ne__" ⟨[.ref l, .str b u], []⟩ >>= _) _ _ s
  refine wpAny_bind ?_
  unfold Builtin.Dict.dictSlotArgs
  refine wpAny_bind (wpAny_notOrdered_dict ht ?_)
  show wpAny _ _ (pure (Value.ref l, Value.str b u)) _ _ s
  refine wpAny_pure ?_
  refine wpAny_bind (wpAny_isInstance (T := "str") (typeIs_str s b u) PySem.F.sub_str_dict ?_)
  simp only [Bool.not_false, if_true]
  exact wpAny_bind (wpAny_rule (wpAny_bind (wpAny_pure (wpAny_pure ⟨_, rfl, h⟩))))
theorem RcAt.str_dict {l : Addr} {cl : Value} {dd : Option Addr} {es : Array DictEntry} {n : Nat} {sl : Array (Option Value)} (b : Str) (u : Tok) (ho : s.heap.get? l = some ⟨.type "dict", dd, .dict es n, sl⟩) (hu : A.units < cLine) : RcAt A s (.str b u) (.ref l) false := fun prog w E Q h =>
  rc_eq_decline_or (k := false) (typeIs_str s b u) ⟨_, ho, rfl⟩ (by decide) F.sub_dict_str F.slot_str_eq F.slot_dict_eq_refl
    (fun _ hq => call_meets F.slot_str_eq (typeIs_str s b u) F.entry_str_eq (F.args_str_eq_2 _ _) (str_eq_dict b u l (.type "dict") es n dd sl) ⟨ho, hq⟩)
    (fun _ hq => dict_eq_str (es := es) (n := n) b u ho rfl _ hq)
    (fun _ hq => wpAny_of_eq (rfl : isSame (.str b u) (.ref l) = pure false) hq) (.inr hu) h
theorem EqAt.str_dict {l : Addr} {dd : Option Addr} {es : Array DictEntry} {n : Nat} {sl : Array (Option Value)} (b : Str) (u : Tok) (ho : s.heap.get? l = some ⟨.type "dict", dd, .dict es n, sl⟩) (hu : A.units < cLine) : EqAt A s (.str b u) (.ref l) false := fun prog w E Q h => by
  unfold eqBool
  refine wpAny_holding ?_
  refine wpAny_ite_split (fun hab => absurd (eq_of_beq hab) nofun) (fun _ => ?_)
  exact wpAny_bind (RcAt.str_dict (cl := .none) b u ho hu prog w E _ (wpAny_truthy_bool h))
theorem RcAt.dict_str {l : Addr} {dd : Option Addr} {es : Array DictEntry} {n : Nat} {sl : Array (Option Value)} (b : Str) (u : Tok) (ho : s.heap.get? l = some ⟨.type "dict", dd, .dict es n, sl⟩) (hu : A.units < cLine) : RcAt A s (.ref l) (.str b u) false := fun prog w E Q h =>
  rc_eq_decline_or (k := false) ⟨_, ho, rfl⟩ (typeIs_str s b u) (by decide) F.sub_str_dict F.slot_dict_eq F.slot_str_eq_refl
    (fun _ hq => dict_eq_str (es := es) (n := n) b u ho rfl _ hq)
    (fun _ hq => call_meets F.slot_str_eq_refl (typeIs_str s b u) F.entry_str_eq (F.args_str_eq_2 _ _) (str_eq_dict b u l (.type "dict") es n dd sl) ⟨ho, hq⟩)
    (fun _ hq => wpAny_of_eq (rfl : isSame (.ref l) (.str b u) = pure false) hq) (.inr hu) h
theorem RcNeAt.dict_str {l : Addr} {dd : Option Addr} {es : Array DictEntry} {n : Nat} {sl : Array (Option Value)} (b : Str) (u : Tok) (ho : s.heap.get? l = some ⟨.type "dict", dd, .dict es n, sl⟩) (hu : A.units < cLine) : RcNeAt A s (.ref l) (.str b u) true := fun prog w E Q h =>
  rc_ne_decline_or (k := false) ⟨_, ho, rfl⟩ (typeIs_str s b u) (by decide) F.sub_str_dict F.slot_dict_ne F.slot_str_ne_refl
    (fun _ hq => dict_ne_str (es := es) (n := n) b u ho rfl _ hq)
    (fun _ hq => call_meets F.slot_str_ne_refl (typeIs_str s b u) F.entry_str_ne (F.args_str_ne_2 _ _) (str_ne_dict b u l (.type "dict") es n dd sl) ⟨ho, hq⟩)
    (fun _ hq => wpAny_of_eq (rfl : isSame (.ref l) (.str b u) = pure false) hq) (.inr hu) h
end
end SeqAt
end PySem
namespace KL
open PySem L2 PySem.Spec PyProof.Rows
/-- whether a thing is this text -/
def isStrD (x : Str) : PyData → Bool
  | .str y => x == y
  | _ => false
section
variable {A : Around} {s : Shared}
theorem eqAt_str {v : Value} {d : PyData} {as : List Addr} (b : Str) (u : Tok) (r : Reads s.heap v d as) (hu : A.units < cLine) : SeqAt.EqAt A s (.str b u) v (isStrD b d) := by
  cases r with
  | none => exact .str_none b u
  | bool k => exact .str_bool b u k
  | int i t => exact .str_int b u i t
  | str x t => exact .str_str b u x t
  | list k1 k2 k3 k4 => exact .str_list b u ⟨_, k1, k2, _, k3⟩ hu
  | tuple k1 k2 k3 k4 => exact .str_tuple b u ⟨_, k1, k2, _, k3⟩ hu
  | dict k1 k2 k3 k4 k5 =>
    rename_i o _ _ _ _ _
    obtain ⟨cl, dd, dt, sl⟩ := o

    subst k2 k3
    exact .str_dict b u k1 hu
theorem rcAt_str {v : Value} {d : PyData} {as : List Addr} (b : Str) (u : Tok) (r : Reads s.heap v d as) (hu : A.units < cLine) : SeqAt.RcAt A s v (.str b u) (isStrD b d) := by
  cases r with
  | none => exact .none_str b u
  | bool k => exact .bool_str k b u
  | int i t => exact .int_str i t b u
  | str x t =>
    have q := SeqAt.RcAt.str_str (A := A) (s := s) x t b u
    have e : (x == b) = isStrD b (.str x) := by
      show (x == b) = (b == x)
      exact Bool.beq_comm
    rwa [e] at q
  | list k1 k2 k3 k4 => exact .list_str b u ⟨_, k1, k2, _, k3⟩ hu
  | tuple k1 k2 k3 k4 => exact .tuple_str b u ⟨_, k1, k2, _, k3⟩ hu
  | dict k1 k2 k3 k4 k5 =>
    rename_i o _ _ _ _ _
    obtain ⟨cl, dd, dt, sl⟩ := o

    subst k2 k3
    exact .dict_str b u k1 hu
theorem rcNeAt_str {v : Value} {d : PyData} {as : List Addr} (b : Str) (u : Tok) (r : Reads s.heap v d as) (hu : A.units < cLine) : SeqAt.RcNeAt A s v (.str b u) (!isStrD b d) := by
  cases r with
  | none => exact .none_str b u
  | bool k => exact .bool_str k b u
  | int i t => exact .int_str i t b u
  | str x t =>
    have q := SeqAt.RcNeAt.str_str (A := A) (s := s) x t b u
    have e : (x == b) = isStrD b (.str x) := by
      show (x == b) = (b == x)
      exact Bool.beq_comm
    rwa [e] at q
  | list k1 k2 k3 k4 => exact .list_str b u ⟨_, k1, k2, _, k3⟩ hu
  | tuple k1 k2 k3 k4 => exact .tuple_str b u ⟨_, k1, k2, _, k3⟩ hu
  | dict k1 k2 k3 k4 k5 =>
    rename_i o _ _ _ _ _
    obtain ⟨cl, dd, dt, sl⟩ := o

    subst k2 k3
    exact .dict_str b u k1 hu
end
end KL
set_option Elab.async false
set_option linter.all false
set_option maxRecDepth 100000
set_option maxHeartbeats 2000000
namespace KL
open PySem L2 PySem.Spec PyProof.Rows
def isTop : PyData → Bool
  | .dict _ => true
  | _ => false
section
variable {X : Cx} {pins : List (Addr × Obj)} {σ : L2.St} {H : Hp} {s : Shared}
mutual
theorem Dq.reads (I : Inv X pins σ H s) : ∀ (d : PyData) (v : V) (u : Value), Dq H v d → RelV v u → ∃ as, Reads s.heap u d as ∧ (isTop d = true → sysModules ∉ as)
  | .none, _, _, h, r => by
    cases h
    cases r
    exact ⟨_, .none, fun z => by cases z⟩
  | .bool b, _, _, h, r => by
    cases h
    cases r
    exact ⟨_, .bool b, fun z => by cases z⟩
  | .int i, _, _, h, r => by
    cases h
    obtain ⟨t, rfl⟩ := r
    exact ⟨_, .int i t, fun z => by cases z⟩
  | .str x, _, _, h, r => by
    cases h
    obtain ⟨t, rfl⟩ := r
    exact ⟨_, .str x t, fun z => by cases z⟩
  | .list ds, _, _, h, r => by
    cases h with
    | lst q ha =>
      cases r
      obtain ⟨_, its, n, rv, ho⟩ := I.hok _ _ q
      obtain ⟨as, hr⟩ := DqAll.reads I ds _ its ha rv
      exact ⟨_, .list ho rfl rfl hr, fun z => by cases z⟩
  | .tuple ds, _, _, h, r => by
    cases h with
    | tup q ha =>
      cases r
      obtain ⟨_, its, rv, o, h1, h2, n, h3⟩ := I.hok _ _ q
      obtain ⟨as, hr⟩ := DqAll.reads I ds _ its ha rv
      exact ⟨_, .tuple h1 h2 h3 hr, fun z => by cases z⟩
  | .dict kvs, _, _, h, r => by
    cases h with
    | dct0 q =>
      cases r
      obtain ⟨_, ns, vs, rv, o, es, ep, h1, h2, h3, _, h5, _⟩ := I.hok _ _ q
      cases rv
      have e0 : es.toList = [] := by
        cases e : es.toList with
        | nil => rfl
        | cons x y =>
          rw [e] at h5
          cases h5
      refine ⟨_, .dict h1 h2.1 h3 (as := []) (bs := []) (by rw [e0]; exact .nil) (by rw [e0]; exact .nil), fun _ z => ?_⟩
      simp at z
      rw [← z] at ns
      simp at ns
    | @dct1 a0 x0 i0 q =>
      cases r
      obtain ⟨_, ns, vs, rv, o, es, ep, h1, h2, h3, _, h5, _⟩ := I.hok _ _ q
      cases rv with
      | cons r1 r2 =>
        cases r2
        obtain ⟨r1, t, r3⟩ := r1
        have e1 : ∃ (e : DictEntry) (tk : Tok), es.toList = [e] ∧ e.key = .str x0 tk ∧ e.val = .int i0 t := by
          generalize es.toList = L at h5
          cases h5 with
          | cons k1 k2 k3 =>
            rename_i e es'
            cases k3
            have k1 : keyIs _ _ = true := k1
            rw [← r1] at k1
            rcases keyIs_shape k1 with ⟨_, _, z, _⟩ | ⟨y, tk, z, z2⟩
            · cases z
            · cases z
              exact ⟨e, tk, rfl, z2, k2.trans r3⟩
        obtain ⟨e, tk, e1, e2, e3⟩ := e1
        refine ⟨_, .dict h1 h2.1 h3 (as := [] ++ []) (bs := [] ++ []) ?_ ?_, fun _ z => ?_⟩
        · rw [e1, List.map_cons, e2]
          exact .cons (.str _ tk) .nil
        · rw [e1, List.map_cons, e3]
          exact .cons (.int _ t) .nil
        · simp at z
          rw [← z] at ns
          simp at ns
theorem DqAll.reads (I : Inv X pins σ H s) : ∀ (ds : List PyData) (vs : List V) (us : List Value), DqAll H vs ds → Vals vs us → ∃ as, ReadsAll s.heap us ds as
  | [], _, _, h, r => by
    cases h
    cases r
    exact ⟨_, .nil⟩
  | d :: ds, _, _, h, r => by
    cases h with
    | cons h1 h2 =>
      cases r with
      | cons r1 r2 =>
        obtain ⟨as, q1, _⟩ := Dq.reads I d _ _ h1 r1
        obtain ⟨bs, q2⟩ := DqAll.reads I ds _ _ h2 r2
        exact ⟨_, .cons q1 q2⟩
end
end
/-- x == y, y a text -/
def rEqStr (y0 : Bool) : R2 := fun x y H Q => ∃ d t, Dq H x d ∧ y = .str t ∧ Q (.bl (if y0 = true then isStrD t d else !isStrD t d)) H
section
variable {X : Cx}
theorem op_eqStr (hu : X.A.units + 64 < cLine) : OpR X (compareOp .Eq) (rEqStr true) := by
  intro pins s σ H x y v u Q I rx ry h
  obtain ⟨d, t, hd, rfl, q⟩ := h
  obtain ⟨as, r, _⟩ := Dq.reads I d x v hd rx
  obtain ⟨tk, rfl⟩ := ry
  exact rcAt_str t tk r (by omega) _ _ _ _ ⟨.bl _, H, I, rfl, q⟩
theorem op_neStr (hu : X.A.units + 64 < cLine) : OpR X (compareOp .NotEq) (rEqStr false) := by
  intro pins s σ H x y v u Q I rx ry h
  obtain ⟨d, t, hd, rfl, q⟩ := h
  obtain ⟨as, r, _⟩ := Dq.reads I d x v hd rx
  obtain ⟨tk, rfl⟩ := ry
  exact rcNeAt_str t tk r (by omega) _ _ _ _ ⟨.bl _, H, I, rfl, q⟩
end
/-- a text among texts -/
def strIs : PyData → PyData → Bool
  | .str x, d => isStrD x d
  | _, _ => false
def inD (es : List PyData) (d : PyData) : Bool := es.any fun e => strIs e d
def strB : PyData → Bool
  | .str _ => true
  | _ => false
def allStr (es : List PyData) : Bool := es.all strB
def vStr (d : PyData) : Value → Bool
  | .str x _ => isStrD x d
  | _ => false
theorem any_str {H : Hp} {d : PyData} : ∀ {es : List PyData} {ys : List V} {us : List Value}, DqAll H ys es → Vals ys us → allStr es = true → us.any (vStr d) = inD es d ∧ ∀ u ∈ us, ∃ x t, u = .str x t
  | [], _, _, h, r, _ => by
    cases h
    cases r
    exact ⟨rfl, fun u hu => by simp at hu⟩
  | e :: es, _, _, h, r, a => by
    cases h with
    | cons h1 h2 =>
      cases r with
      | cons r1 r2 =>
        rename_i u us
        have a' := Bool.and_eq_true_iff.mp (show (strB e && allStr es) = true from a)
        obtain ⟨q1, q2⟩ := any_str (d := d) h2 r2 a'.2
        cases h1 with
        | str x =>
          obtain ⟨t, rfl⟩ := r1
          refine ⟨?_, fun u' hu => ?_⟩
          · show (vStr d (.str x t) || us.any (vStr d)) = _
            rw [q1]
            rfl
          · rcases List.mem_cons.mp hu with rfl | hu
            · exact ⟨x, t, rfl⟩
            · exact q2 u' hu
        | _ => exact absurd a'.1 (by simp [strB])
def rInStr (neg : Bool) : R2 := fun x y H Q => ∃ d p ys es, Dq H x d ∧ y = .ref p ∧ H p = some (.lst ys) ∧ DqAll H ys es ∧ allStr es = true ∧ Q (.bl (if neg = true then !inD es d else inD es d)) H
section
variable {X : Cx}
theorem op_inStr (hu : X.A.units + 64 < cLine) : OpR X (compareOp .In) (rInStr false) := by
  intro pins s σ H x y v u Q I rx ry h
  obtain ⟨d, p, ys, es, hd, rfl, hp, he, ha, q⟩ := h
  obtain ⟨as, r, _⟩ := Dq.reads I d x v hd rx
  cases (show u = Value.ref p from ry)
  obtain ⟨_, its, n, rv, ho⟩ := I.hok _ _ hp
  obtain ⟨q1, q2⟩ := any_str (d := d) he rv ha
  refine SeqAt.in_listAt (vStr d) ⟨_, ho, rfl, n, rfl⟩ (fun y hy => ?_) ⟨.bl _, H, I, rfl, ?_⟩
  · obtain ⟨z, t, rfl⟩ := q2 y (by simpa using hy)
    exact eqAt_str z t r (by show X.A.units + 1 < cLine; omega)
  · rw [List.any_toArray, q1]
    exact q
theorem op_notInStr (hu : X.A.units + 64 < cLine) : OpR X (compareOp .NotIn) (rInStr true) := by
  intro pins s σ H x y v u Q I rx ry h
  obtain ⟨d, p, ys, es, hd, rfl, hp, he, ha, q⟩ := h
  obtain ⟨as, r, _⟩ := Dq.reads I d x v hd rx
  cases (show u = Value.ref p from ry)
  obtain ⟨_, its, n, rv, ho⟩ := I.hok _ _ hp
  obtain ⟨q1, q2⟩ := any_str (d := d) he rv ha
  refine SeqAt.notIn_listAt (vStr d) ⟨_, ho, rfl, n, rfl⟩ (fun y hy => ?_) ⟨.bl _, H, I, rfl, ?_⟩
  · obtain ⟨z, t, rfl⟩ := q2 y (by simpa using hy)
    exact eqAt_str z t r (by show X.A.units + 1 < cLine; omega)
  · rw [List.any_toArray, q1]
    exact q
end
theorem DqAll.snoc {H : Hp} : ∀ {es : List PyData} {ys : List V} {y : V} {e : PyData}, DqAll H ys es → Dq H y e → DqAll H (ys ++ [y]) (es ++ [e])
  | [], _, _, _, h, q => by
    cases h
    exact .cons q .nil
  | _ :: _, _, _, _, h, q => by
    cases h with
    | cons h1 h2 => exact .cons h1 (DqAll.snoc h2 q)
/-- a comprehension that has made these data so far -/
def MadeQ (H0 : Hp) (D : Addr) (es : List PyData) (H : Hp) : Prop := Same H0 H ∧ ∃ ys, H D = some (.lst ys) ∧ DqAll H0 ys es
theorem MadeQ.start {H0 : Hp} {D : Addr} (nD : H0 D = none) : MadeQ H0 D [] (upd H0 D (.lst [])) := ⟨same_new nD, [], upd_same, .nil⟩
theorem MadeQ.turn {H0 H H' : Hp} {D : Addr} {g : PyData → PyData} {ds : List PyData} {i : Nat} {d : PyData} {y : V} (hD : H0 D = none) (M : MadeQ H0 D ((ds.take i).map g) H) (S : Same H H') (hl : ds.length ≤ 1000) (h : ds[i]? = some d) (q : Dq H0 y (g d)) :
    ∃ acc, H' D = some (.lst acc) ∧ acc.length < sizeLine ∧ MadeQ H0 D ((ds.take (i + 1)).map g) (upd H' D (.lst (acc ++ [y]))) := by
  obtain ⟨S0, ys, hy, hq⟩ := M
  refine ⟨ys, S _ _ hy, ?_, fun x o e => ?_, ys ++ [y], upd_same, ?_⟩
  · rw [hq.len, List.length_map, List.length_take]
    exact Nat.lt_of_le_of_lt (Nat.le_trans (Nat.min_le_right _ _) hl) (by rw [sizeLine_eq]; omega)
  · have nx : x ≠ D := fun z => by
      rw [z, hD] at e
      cases e
    rw [upd_ne nx]
    exact S _ _ (S0 _ _ e)
  · rw [take_map h]
    exact hq.snoc q
theorem find_at {p : PyData → Bool} : ∀ {ds : List PyData} {i : Nat} {d : PyData}, (ds.take i).all p = true → ds[i]? = some d → p d = false → (ds.find? fun x => !p x) = some d
  | [], _, _, _, e, _ => by simp at e
  | x :: ds, 0, d, _, e, h => by
    simp at e
    subst e
    rw [List.find?_cons_of_pos]
    simp [h]
  | x :: ds, i + 1, d, a, e, h => by
    have a' := Bool.and_eq_true_iff.mp (show (p x && (ds.take i).all p) = true from a)
    rw [List.find?_cons_of_neg (by simp [a'.1])]
    exact find_at a'.2 (by simpa using e) h
theorem find_none {p : PyData → Bool} {ds : List PyData} (a : ds.all p = true) : (ds.find? fun x => !p x) = none := by
  rw [List.find?_eq_none]
  intro x hx
  simp [List.all_eq_true.mp a x hx]
theorem take_all {p : PyData → Bool} {ds : List PyData} {i : Nat} {d : PyData} (a : (ds.take i).all p = true) (e : ds[i]? = some d) (h : p d = true) : (ds.take (i + 1)).all p = true := by
  rw [List.take_add_one, e, List.all_append, a]
  simp [h]
/-- a comprehension that has made these data so far, some of them new -/
def MadeN (H0 : Hp) (D : Addr) (es : List PyData) (H : Hp) : Prop := ∃ (J : Hp) (ys : List V), Same H0 J ∧ J D = none ∧ Same J H ∧ H D = some (.lst ys) ∧ DqAll J ys es
theorem MadeN.start {H0 : Hp} {D : Addr} (nD : H0 D = none) : MadeN H0 D [] (upd H0 D (.lst [])) := ⟨H0, [], Same.refl _, nD, same_new nD, upd_same, .nil⟩
theorem MadeN.same {H0 H : Hp} {D : Addr} {es : List PyData} (M : MadeN H0 D es H) : Same H0 H := by
  obtain ⟨J, ys, S0, _, S1, _⟩ := M
  exact S0.trans S1
theorem MadeN.turn {H0 H : Hp} {D p : Addr} {es ds : List PyData} {us : List V} (M : MadeN H0 D es H) (np : H p = none) (q : DqAll H0 us ds) :
    ∃ acc, upd H p (.tup us) D = some (.lst acc) ∧ acc.length = es.length ∧ MadeN H0 D (es ++ [.tuple ds]) (upd (upd H p (.tup us)) D (.lst (acc ++ [.ref p]))) := by
  obtain ⟨J, ys, S0, nD, S1, hD, hq⟩ := M
  have pD : p ≠ D := fun z => by
    rw [z, hD] at np
    cases np
  have nJ : J p = none := by
    cases e : J p with
    | none => rfl
    | some o =>
      rw [S1 _ _ e] at np
      cases np
  have SJ := same_new (o := .tup us) nJ
  refine ⟨ys, by rw [upd_ne pD.symm]; exact hD, hq.len, upd J p (.tup us), ys ++ [.ref p], S0.trans SJ, by rw [upd_ne pD.symm]; exact nD, fun b o e => ?_, upd_same, ?_⟩
  · have bD : b ≠ D := fun z => by
      rw [z, upd_ne pD.symm, nD] at e
      cases e
    rw [upd_ne bD]
    by_cases bp : b = p
    · subst bp
      rw [upd_same] at e ⊢
      exact e
    · rw [upd_ne bp] at e ⊢
      exact S1 _ _ e
  · exact (DqAll.same SJ _ _ hq).snoc (.tup upd_same (DqAll.same (S0.trans SJ) _ _ q))
theorem DqAll.take {H : Hp} : ∀ {ds : List PyData} {xs : List V} (n : Nat), DqAll H xs ds → DqAll H (xs.take n) (ds.take n)
  | [], _, n, h => by
    cases h
    simp
    exact .nil
  | _ :: _, _, 0, h => .nil
  | _ :: _, _, n + 1, h => by
    cases h with
    | cons q r => exact .cons q (DqAll.take n r)
theorem cut_two (xs : List V) (h : 2 ≤ xs.length) : cutV xs none (some 2) = xs.take 2 := by
  unfold cutV
  rw [HT.sIx_none, show HT.sIx xs.length xs.length (some 2) = min 2 xs.length from HT.sIx_nat xs.length xs.length 2]
  rw [List.drop_zero, Nat.sub_zero, Nat.min_eq_left h]
theorem not_whole (xs : List V) (h : 2 < xs.length) : ¬ (HT.sIx xs.length 0 none = 0 ∧ HT.sIx xs.length xs.length (some 2) = xs.length) := fun z => by
  have q := z.2
  rw [show HT.sIx xs.length xs.length (some 2) = min 2 xs.length from HT.sIx_nat xs.length xs.length 2] at q
  omega
theorem isT_of {d : PyData} (h : isTupD d = true) : ∃ ds, d = .tuple ds := by
  cases d with
  | tuple ds => exact ⟨ds, rfl⟩
  | _ => cases h
theorem int_of {d : PyData} (h : intD d = true) : ∃ i, d = .int i := by
  cases d with
  | int i => exact ⟨i, rfl⟩
  | _ => cases h
theorem bool_ft (b : Bool) : b = false ∨ b = true := by cases b <;> simp
end KL
set_option Elab.async false
set_option linter.all false
set_option maxRecDepth 100000
set_option maxHeartbeats 2000000
namespace KL
open PySem L2 PySem.Spec PyProof.Rows
/-! ### sorted(xs) of a list of data that can be compared -/
def pairD (p : V × PyData) : PyData := p.2
def ItemQ (H : Hp) (u : Value) (p : V × PyData) : Prop := RelV p.1 u ∧ Dq H p.1 p.2
theorem each_items {H : Hp} : ∀ {ds : List PyData} {xs : List V} {us : List Value}, DqAll H xs ds → Vals xs us → PySem.W.EachIs (ItemQ H) us (xs.zip ds)
  | [], _, _, h, r => by
    cases h
    cases r
    exact .nil
  | d :: ds, _, _, h, r => by
    cases h with
    | cons h1 h2 =>
      cases r with
      | cons r1 r2 => exact .cons ⟨r1, h1⟩ (each_items h2 r2)
theorem each_reads {X : Cx} {pins : List (Addr × Obj)} {σ : L2.St} {H : Hp} {s : Shared} (I : Inv X pins σ H s) : ∀ {ds : List PyData} {xs : List V} {us : List Value}, DqAll H xs ds → Vals xs us → PyData.canLayAll0 ds = true → PySem.W.EachIs (fun u p => ∃ as, Reads s.heap u (pairD p) as) us (xs.zip ds)
  | [], _, _, h, r, _ => by
    cases h
    cases r
    exact .nil
  | d :: ds, _, _, h, r, l => by
    cases h with
    | cons h1 h2 =>
      cases r with
      | cons r1 r2 =>
        have l' := Bool.and_eq_true_iff.mp (show (d.canLay0 && PyData.canLayAll0 ds) = true from l)
        exact .cons (Dq.reads0 I d _ _ h1 l'.1 r1) (each_reads I h2 r2 l'.2)
theorem vals_of_each {H : Hp} : ∀ {us : List Value} {zs : List (V × PyData)}, PySem.W.EachIs (ItemQ H) us zs → Vals (zs.map (·.1)) us ∧ DqAll H (zs.map (·.1)) (zs.map (·.2))
  | _, _, .nil => ⟨.nil, .nil⟩
  | _, _, .cons h t => by
    obtain ⟨q1, q2⟩ := vals_of_each t
    exact ⟨.cons h.1 q1, .cons h.2 q2⟩
theorem zip_snd : ∀ {ds : List PyData} {xs : List V}, xs.length = ds.length → (xs.zip ds).map (·.2) = ds
  | [], [], _ => rfl
  | d :: ds, x :: xs, h => by
    show d :: (xs.zip ds).map (·.2) = d :: ds
    rw [zip_snd (ds := ds) (xs := xs) (Nat.succ.inj h)]
/-- the order of sorted -/
def leD : PyData → PyData → Bool := PySem.W.dataLe false id
def rSortedQ (K : PySem.W.Frag) : List V → Hp → VK → Prop := fun vs H Q => ∃ (Hd : Hp) (a : Addr) (xs : List V) (ds : List PyData), vs = [V.ref a] ∧ SqL K H a xs ∧ Same Hd H ∧ DqAll Hd xs ds ∧ PyData.canLayAll0 ds = true ∧ PySem.W.AllAlike ds ∧ PySem.W.Sortable ds ∧ PyData.depthAll ds ≤ 20 ∧
  ∀ (ys : List V) (p : Addr), DqAll Hd ys (ds.mergeSort leD) → H p = none → Q (.ref p) (upd H p (.lst ys))
theorem depth_mem1 : ∀ {ds : List PyData} {d : PyData}, d ∈ ds → d.depth ≤ PyData.depthAll ds
  | e :: ds, d, h => by
    show d.depth ≤ max e.depth (PyData.depthAll ds)
    rcases List.mem_cons.mp h with rfl | h
    · exact Nat.le_max_left _ _
    · exact Nat.le_trans (depth_mem1 h) (Nat.le_max_right _ _)
theorem sort_snd (zs : List (V × PyData)) : (zs.mergeSort (PySem.W.dataLe false pairD)).map (·.2) = (zs.map (·.2)).mergeSort leD := by
  rw [List.map_mergeSort]
  intro a _ b _
  rfl
theorem cr_sortedQ {X : Cx} (hu : X.A.units + 64 < cLine) : CallR X (.builtin "sorted") (rSortedQ X.K) := by
  intro pins s σ H vs us Q I r h
  obtain ⟨Hd, a, xs, ds, rfl, hs, S, hd, lay, al, so, dp, q⟩ := h
  obtain ⟨its, rv, hl, hz⟩ := I.list hs
  rw [Vals.ref1 r]
  have len := hd.len
  have e2 := zip_snd len
  have zl : (xs.zip ds).length = ds.length := by rw [List.length_zip, len, Nat.min_self]
  have e3 : (xs.zip ds).map pairD = ds := e2
  refine PySem.W.sorted_data (R := ItemQ Hd) (enc := pairD) (bs := xs.zip ds) hl.isList (each_items hd rv) (each_reads I (DqAll.same S _ _ hd) rv lay) (by rw [e3]; exact al) (by rw [e3]; exact so) (by rw [zl, ← len]; exact hz) (fun b hb => ?_) (fun out lo ho => ?_)
  · have hm : pairD b ∈ ds := by
      rw [← e3]
      exact List.mem_map.mpr ⟨b, hb, rfl⟩
    have := depth_mem1 hm
    omega
  · obtain ⟨q1, q2⟩ := vals_of_each ho
    rw [sort_snd, e2] at q2
    obtain ⟨ep, he'⟩ := PyProof.Rows.sortedAll_at s.heap its out.toArray
    have hlen : (((xs.zip ds).mergeSort (PySem.W.dataLe false pairD)).map (·.1)).length ≤ sizeLine := by
      rw [List.length_map, List.length_mergeSort, zl, ← len]
      exact hz
    exact ⟨.ref _, upd H (s.heap.objs.size + 1) (.lst _), I.laid (t' := s.toks) (fun _ _ => PyProof.Rows.sortedAll_old) (Nat.le_succ _) ⟨hlen, out, ep, q1, he'⟩, rfl, q _ _ q2 (I.hok.fresh (Nat.le_succ _))⟩
end KL
set_option Elab.async false
set_option linter.all false
set_option maxRecDepth 100000
set_option maxHeartbeats 4000000
namespace KL
open PySem L2 PySem.Spec PyProof.Rows
/-! ### xs.extend(t), t a tuple -/
theorem ext_tup (l : Addr) (us : Array Value) (n : Nat) (b : Addr) (ws : Array Value) (m : Nat) (dd : Option Addr) (sl : Array (Option Value)) (c0 : ¬(!us.isEmpty && Builtin.List.listTooLong (us.size + ws.size)) = true) (c1 : us.size ≤ sizeLine) (c2 : us.size + ws.size ≤ sizeLine + 1) :
    Meets (Builtin.«list.extend» ⟨[.ref l, .ref b], []⟩) (fun _ R s => s.heap.get? l = some { cls := .type "list", dict := none, data := .seq us n, slots := #[] } ∧ s.heap.get? b = some ⟨.type "tuple", dd, .seq ws m, sl⟩ ∧
      R (.ok (.ret .none)) { s with heap := s.heap.update l (Obj.mapSeq fun x => x ++ ws), toks := s.toks }) :=
  .of_wp fun prog w A R s hh => by
    obtain ⟨hp, g, d, tk, os⟩ := s
    obtain ⟨hl, hb, hh⟩ := hh
    have f3 := AutoSeq1.sub_list_list
    have f4 := AutoSeq1.sub_tuple_list
    have f2 := AutoSeq1.sub_tuple_tuple
    have f5 := AutoSeq1.sub_list_tuple
    have z : (us ++ ws).size ≤ sizeLine + 1 := by
      rw [Array.size_append]
      exact c2
    wp_walk using (wpAny_updateSeq hl rfl (hz := c1) (_hz' := z)), AutoSeq1.wpAny_loadPart' hl, AutoSeq1.wpAny_loadPart' hb
    exact ⟨_, rfl, hh⟩
def rExtT (K : PySem.W.Frag) : V → List V → Hp → VK → Prop := fun x vs H Q => ∃ l b xs zs, x = .ref l ∧ vs = [.ref b] ∧ H l = some (.lst xs) ∧ SqT K H b zs ∧ xs.length + zs.length ≤ sizeLine ∧ Q .non (upd H l (.lst (xs ++ zs)))
theorem mt_extT {X : Cx} : MtM X "list.extend" (rExtT X.K) := by
  intro pins s σ H x vs v us Q I rx rv h
  obtain ⟨l, b, xs, zs, rfl, rfl, hH, hB, hz, q⟩ := h
  cases rx
  obtain ⟨u, rfl, ru⟩ := rv.one
  cases ru
  obtain ⟨z, its, n, r, hl, e⟩ := I.lstM hH
  obtain ⟨its2, r2, ⟨⟨cls, dd, data, sl⟩, ho, hc, m, hd⟩, hs⟩ := I.tuple hB
  simp only at hc hd
  subst hc hd
  have s1 : its.toArray.size = xs.length := by rw [List.size_toArray, r.length]
  have s2 : its2.toArray.size = zs.length := by rw [List.size_toArray, r2.length]
  have hsz : its.toArray.size + its2.toArray.size ≤ sizeLine := by omega
  have hlong : ¬ (!its.toArray.isEmpty && Builtin.List.listTooLong (its.toArray.size + its2.toArray.size)) = true := by
    rw [notLongL hsz, Bool.and_false]
    exact Bool.false_ne_true
  refine call_meets F.slot_list_extend ⟨_, e, rfl⟩ F.entry_list_extend (F.args_list_extend_2 _ _) (ext_tup l its.toArray n b its2.toArray m dd sl hlong (by omega) (by omega)) ⟨e, ho, ?_⟩
  refine ⟨.non, _, I.lset (its' := its ++ its2) hH e (by simp) (r.append r2) ?_, rfl, q⟩
  rw [List.length_append]
  exact hz
/-! ### dict(xs), xs a list of pairs whose keys are tuples of ints and texts -/
def mergeT (kvs more : List (List Key × V)) : List (List Key × V) := more.foldl (fun acc kv => putK acc kv.1 kv.2) kvs
def rDictT (K : PySem.W.Frag) : List V → Hp → VK → Prop := fun xs H Q => ∃ (a : Addr) (ps : List Addr) (kvs : List (List Key × V)), xs = [.ref a] ∧ SqL K H a (ps.map V.ref) ∧
  Paired (fun p kv => ∃ b, SqT K H p [.ref b, kv.2] ∧ H b = some (.tup (kv.1.map kV))) ps kvs ∧ ∀ p, H p = none → Q (.ref p) (upd H p (.dT (mergeT [] kvs)))
section
variable {X : Cx}
theorem pairs_ofT {pins : List (Addr × Obj)} {σ : L2.St} {H : Hp} {s : Shared} (I : Inv X pins σ H s) : ∀ {ps : List Addr} {kvs : List (List Key × V)}, Paired (fun p kv => ∃ b, SqT X.K H p [.ref b, kv.2] ∧ H b = some (.tup (kv.1.map kV))) ps kvs →
    ∃ xs : List (List Key × Addr × Value), KT H kvs xs ∧ xs.length = ps.length ∧ ∀ (j : Nat) (q : List Key × Addr × Value), xs[j]? = some q → ∃ p, ps[j]? = some p ∧ IsTup s.heap p #[.ref q.2.1, q.2.2] ∧ (tupleKind (mixKind X.prog X.w)).is s.heap q.1 q.2.1
  | _, _, .nil => ⟨[], .nil, rfl, fun j q e => by simp at e⟩
  | _, _, .cons (a := p) (b := kv) h t => by
    obtain ⟨xs, r, hl, hp⟩ := pairs_ofT I t
    obtain ⟨b, h, hb⟩ := h
    obtain ⟨its, rv, ht, _⟩ := I.tuple h
    obtain ⟨u, y, ei, ru, ry⟩ := vals2 rv
    subst ei
    cases (show u = Value.ref b from ru)
    refine ⟨(kv.1, b, y) :: xs, .cons ⟨rfl, hb, ry⟩ r, by rw [List.length_cons, List.length_cons, hl], fun j q e => ?_⟩
    cases j with
    | zero =>
      have e' : (kv.1, b, y) = q := Option.some.inj e
      subst e'
      exact ⟨p, rfl, ht, key_of I.hok hb⟩
    | succ j =>
      obtain ⟨p', e1, e2, e3⟩ := hp j q (by simpa using e)
      exact ⟨p', by simpa using e1, e2, e3⟩
theorem merge_keyed {H : Hp} : ∀ {kvs : List (List Key × V)} {xs : List (List Key × Addr × Value)} {acc : List (List Key × V)} {ys : List (List Key × Addr × Value)}, KT H kvs xs → KT H acc ys → KT H (mergeT acc kvs) (storedAllH ys xs)
  | _, _, _, _, .nil, r => r
  | _, _, _, _, .cons (a := kv) (b := x) h t, r => by
    obtain ⟨h1, h2, h3⟩ := h
    have q := r.put kv.1 h2 h3
    have m := merge_keyed t q
    show KT H (mergeT (putK _ kv.1 kv.2) _) (storedAllH (storedH _ x.1 x.2.1 x.2.2) _)
    rw [← h1]
    exact m
theorem merge_len : ∀ (kvs acc : List (List Key × V)), (mergeT acc kvs).length ≤ acc.length + kvs.length
  | [], acc => Nat.le_refl _
  | kv :: kvs, acc => by
    have h1 := merge_len kvs (putK acc kv.1 kv.2)
    have h2 := length_putK acc kv.1 kv.2
    show (mergeT (putK acc kv.1 kv.2) kvs).length ≤ _
    rw [List.length_cons]
    omega
theorem call_dictT (hc : X.calm = true) (hu : X.A.units + 64 < cLine) : CallR X (.type "dict") (rDictT X.K) := by
  intro pins s σ H xs us Q I r h
  obtain ⟨a, ps, kvs, rfl, hs, hp, q⟩ := h
  obtain ⟨its, rv, pl, hz⟩ := I.list hs
  rw [Vals.ref1 r]
  have ei := refs_at rv
  subst ei
  rw [List.length_map] at hz
  obtain ⟨prs, rel, hl, hpr⟩ := pairs_ofT I hp
  obtain ⟨o, n, ho, hcl, hd, hdat⟩ := pl
  have hm : (s.heap.objs.size == sysModules) = false := beq_eq_false_iff_ne.mpr (Nat.ne_of_gt I.big)
  have lp : (prs.map fun x => (Value.ref x.2.1, x.2.2)).length = prs.length := List.length_map _
  refine call_dict_pairsH (knd := tupleKind (mixKind X.prog X.w)) (ps := prs) (PairArg.list a (ps.map Value.ref).toArray (fun j => ps.getD j 0) (prs.map fun x => (Value.ref x.2.1, x.2.2))) (I.ok.hd hc) (show X.A.units + 1 + 1 < cLine by omega)
    ⟨⟨o, n, ho, hcl, hd, hdat⟩, ?_, fun j k v e => ?_⟩ ⟨lp.symm, fun i key v e => ?_⟩ (fun h' hk x hx => ?_) (by rw [lp, hl]; exact hz) fun h' tk hd' k => ?_
  · rw [lp, hl]
    simp
  · rw [List.getElem?_map] at e
    cases ex : prs[j]? with
    | none =>
      rw [ex] at e
      cases e
    | some x =>
      rw [ex] at e
      have e := Option.some.inj e
      obtain ⟨p, e1, e2, e3⟩ := hpr j x ex
      cases e
      refine ⟨by simp [e1], ?_⟩
      show PairAt s.heap (ps.getD j 0) _ _
      rw [List.getD_eq_getElem?_getD, e1]
      obtain ⟨o', h1, h2, m, h3⟩ := e2
      exact .inl ⟨o', h1, h2, m, h3⟩
  · have e : (prs.map fun x => (Value.ref x.2.1, x.2.2))[i]? = some (key, v) := e
    rw [List.getElem?_map] at e
    cases ex : prs[i]? with
    | none =>
      rw [ex] at e
      cases e
    | some x =>
      rw [ex] at e
      have e := Option.some.inj e
      cases e
      exact ⟨x.1, x.2.1, rfl, rfl⟩
  · obtain ⟨j, hj⟩ := List.mem_iff_getElem?.mp hx
    obtain ⟨p, e1, e2, o', its', m, h1, h2, h3, h4⟩ := hpr j x hj
    refine ⟨o', its', m, hk _ _ (Nat.ne_of_lt (Heap.lt_size h1)) (fun z => nomatch z) h1, h2, h3, h4⟩
  · have hlen : (mergeT [] kvs).length ≤ sizeLine := by
      have h1 := merge_len kvs []
      have h2 : kvs.length = prs.length := Paired.length rel
      rw [List.length_nil] at h1
      omega
    have keep : ∀ b o, s.heap.get? b = some o → h'.get? b = some o := fun b o e => k b o (fun z => nomatch z) e
    have m := merge_keyed rel (.nil : KT H [] [])
    obtain ⟨o', es, ep, d1, d2, d3, d4, _, d5⟩ := hd'
    refine ⟨.ref s.heap.objs.size, upd H s.heap.objs.size (.dT (mergeT [] kvs)), I.laid (t' := tk) keep (Nat.le_refl _) (show ObjOk X.prog X.w _ _ _ (.dT (mergeT [] kvs)) from ⟨hlen, hm, _, m.keeps fun b ys e => ?_, o', es, ep, d1, d2, d3, d4, d5⟩), rfl, q _ (I.hok.fresh (Nat.le_refl _))⟩
    rw [upd_ne (ne_of_none e (I.hok.fresh (Nat.le_refl _)))]
    exact e
end
end KL
set_option Elab.async false
set_option linter.all false
set_option maxRecDepth 100000
set_option maxHeartbeats 4000000
namespace KL
open PySem L2 PySem.Spec PyProof.Rows
/-! ### sets of ints and texts, their order too -/
theorem paired_perm {α β : Type} {R : α → β → Prop} {l l' : List α} (p : l'.Perm l) : ∀ {m : List β}, Paired R l m → ∃ m', m'.Perm m ∧ Paired R l' m' := by
  induction p with
  | nil => intro m h; exact ⟨m, .refl _, h⟩
  | cons x _ ih =>
    intro m h
    cases h with
    | cons h1 h2 =>
      obtain ⟨m', p', q'⟩ := ih h2
      exact ⟨_ :: m', p'.cons _, .cons h1 q'⟩
  | swap x y l =>
    intro m h
    cases h with
    | cons h1 h2 =>
      cases h2 with
      | cons h3 h4 => exact ⟨_ :: _ :: _, .swap _ _ _, .cons h3 (.cons h1 h4)⟩
  | trans _ _ ih1 ih2 =>
    intro m h
    obtain ⟨m', p', q'⟩ := ih2 h
    obtain ⟨m'', p'', q''⟩ := ih1 q'
    exact ⟨m'', p''.trans p', q''⟩
def KeyE (P : Program) (w : World) (e : Int × Value) (k : Key) : Prop := RelV (kV k) e.2 ∧ e.1 = (mixKind P w).hash k
/-- a set that has the keys ks, in some order -/
structure SetKs (P : Program) (w : World) (h : Heap) (a : Addr) (ks : List Key) : Prop where
  ex : ∃ o es ep t, h.get? a = some o ∧ o.ExactSet ∧ o.data = .set es ep t ∧ Paired (KeyE P w) es.toList ks ∧ es.size < scanBound ∧ t.fits es.size = true ∧ Ris t.place.toList ∧ (w.params.followText "set-order" = true ∨ t.led = true)
  nd : ks.Nodup
section
variable {P : Program} {w : World} {A : Around} {E : Value → Shared → Prop} {s : Shared} {a : Addr} {ks : List Key} {h h' : Heap}
theorem SetKs.at (R : SetKs P w h a ks) (k : ∀ o, h.get? a = some o → h'.get? a = some o) : SetKs P w h' a ks := by
  obtain ⟨⟨o, es, ep, t, ho, r⟩, nd⟩ := R
  exact ⟨⟨o, es, ep, t, k o ho, r⟩, nd⟩
theorem elems_of : ∀ {l : List (Int × Value)} {ks : List Key}, Paired (KeyE P w) l ks → ElemsOf (mixKind P w) l
  | _, _, .nil => fun e he => nomatch he
  | _, _, .cons h t => fun e he => by
    rcases List.mem_cons.mp he with z | z
    · subst z
      exact ⟨⟨_, kV_is h.1, h.2⟩, key_scan h.1⟩
    · exact elems_of t e z
theorem is_only {k j : Key} {v : Value} (r : RelV (kV j) v) : (mixKind P w).is k v = true ↔ k = j := by
  constructor
  · intro h
    exact (mixKind P w).inj v k j h (kV_is r)
  · rintro rfl
    exact kV_is r
theorem mem_is {k : Key} : ∀ {l : List (Int × Value)} {ks : List Key}, Paired (KeyE P w) l ks → (k ∈ ks ↔ ∃ e ∈ l, (mixKind P w).is k e.2 = true)
  | _, _, .nil => ⟨fun z => (nomatch z), fun ⟨_, z, _⟩ => (nomatch z)⟩
  | _, _, .cons h t => by
    rw [List.mem_cons, mem_is t]
    constructor
    · rintro (z | ⟨e, h1, h2⟩)
      · exact ⟨_, List.mem_cons_self, (is_only h.1).2 z⟩
      · exact ⟨e, List.mem_cons_of_mem _ h1, h2⟩
    · rintro ⟨e, h1, h2⟩
      rcases List.mem_cons.mp h1 with z | z
      · subst z
        exact .inl ((is_only h.1).1 h2)
      · exact .inr ⟨e, z, h2⟩
/-- what stands in the place of ks when k is put in -/
def PutIn (k : Key) (ks ks' : List Key) : Prop := (k ∈ ks ∧ ks' = ks) ∨ (k ∉ ks ∧ ks'.Perm (k :: ks))
theorem PutIn.mem {k j : Key} {ks ks' : List Key} (h : PutIn k ks ks') : j ∈ ks' ↔ j = k ∨ j ∈ ks := by
  rcases h with ⟨h1, rfl⟩ | ⟨_, h2⟩
  · exact ⟨.inr, fun z => z.elim (fun e => e ▸ h1) id⟩
  · rw [h2.mem_iff, List.mem_cons]
theorem PutIn.len {k : Key} {ks ks' : List Key} (h : PutIn k ks ks') : ks'.length ≤ ks.length + 1 := by
  rcases h with ⟨_, rfl⟩ | ⟨_, h2⟩
  · exact Nat.le_succ _
  · rw [h2.length_eq]
    exact Nat.le_refl _
/-- the entries are stored, and laid anew where the table is too full -/
theorem ks_tail {g : Bool → Sem Unit} {o : Obj} {es es1 : Array (Int × Value)} {ep : Nat} {t t2 : SetTable} {ls : List Key} {dm : Bool} {R : Option Bool → Shared → Prop}
    (hg : ∀ (b : Bool) (s₁ : Shared) (Q' : Unit → Shared → Prop), Q' () s₁ → wpAny (model P w) A (g b) Q' E s₁) (ho : s.heap.get? a = some o) (hx : o.ExactSet) (hd : o.data = .set es ep t)
    (pr : Paired (KeyE P w) es1.toList ls) (nd : ls.Nodup) (hb : es1.size < scanBound) (hf : t2.fits es1.size = true) (hr : Ris t2.place.toList) (hl : w.params.followText "set-order" = true ∨ t2.led = true)
    (hR : ∀ h' ms, Heap.SameBut a s.heap h' → SetKs P w h' a ms → ms.Perm ls → R (some true) { s with heap := h' }) :
    wpAny (model P w) A (do
        storeSet a es1 t2
        if (!dm && t2.tooFull) = true then do
            g (relayAll t2 es1 (SetTable.grown es1.size)).2.2
            storeSet a (relayAll t2 es1 (SetTable.grown es1.size)).1 (relayAll t2 es1 (SetTable.grown es1.size)).2.1
            pure (some true)
          else pure (some true)) R E s := by
  have stored := store_at (es' := es1) (t' := t2) ho hd
  have same := Heap.SameBut.update s.heap a (Obj.putSet es1 t2)
  refine wpAny_bind (wpAny_storeSet_of ho hd ?_ (fits_of_scanBound hb))
  by_cases full : (!dm && t2.tooFull) = true
  · rw [if_pos full]
    have k1 := relayAll_perm t2 es1 (SetTable.grown es1.size)
    have k2 := relayAll_fits t2 es1 (SetTable.grown es1.size)
    have k3 := relayAll_ris t2 es1 (SetTable.grown es1.size)
    have k4 := relayAll_led t2 es1 (SetTable.grown es1.size)
    revert k1 k2 k3 k4
    generalize relayAll t2 es1 (SetTable.grown es1.size) = Z
    obtain ⟨es2, t3, gv⟩ := Z
    intro k1 k2 k3 k4
    dsimp only at k1 k2 k3 k4 ⊢
    obtain ⟨ms, m1, m2⟩ := paired_perm k1 pr
    have sz : es2.size = es1.size := by rw [← Array.length_toList, k1.length_eq, Array.length_toList]
    have b2 : es2.size < scanBound := by omega
    refine wpAny_bind (hg _ _ _ (wpAny_bind (wpAny_storeSet_of stored rfl (wpAny_pure ?_) (fits_of_scanBound b2))))
    refine hR _ ms (same.trans (Heap.SameBut.update _ a _)) ⟨⟨_, es2, _, t3, store_at (es' := es2) (t' := t3) stored rfl, hx, rfl, m2, b2, k2, k3, hl.imp id fun z => ?_⟩, m1.nodup_iff.mpr nd⟩ m1
    rw [k4]
    exact z
  · rw [if_neg full]
    exact wpAny_pure (hR _ ls same ⟨⟨_, es1, _, t2, stored, hx, rfl, pr, hb, hf, hr, hl⟩, nd⟩ (.refl _))
theorem ks_put {k : Key} {u : Value} {Q : Bool → Shared → Prop} (ru : RelV (kV k) u) (R : SetKs P w s.heap a ks) (room : ks.length + 1 < scanBound)
    (hQ : ∀ h' ks' b, Heap.SameBut a s.heap h' → SetKs P w h' a ks' → PutIn k ks ks' → Q b { s with heap := h' }) : wpAny (model P w) A (setAddHashed a u ((mixKind P w).hash k)) Q E s := by
  obtain ⟨⟨o, es, ep, t, ho, hx, hd, pr, hb, hf, hr, hl⟩, nd⟩ := R
  have len : es.size = ks.length := by rw [← Array.length_toList]; exact Paired.length pr
  have isk := kV_is (P := P) (w := w) ru
  have scn := key_scan ru
  have el := elems_of pr
  unfold setAddHashed setAddHashedIn
  refine wpAny_holding (wpAny_bind (wpAny_setState_of ho hd hf ?_))
  dsimp only
  rw [byScan_of scn hb el]
  simp only [↓reduceIte]
  unfold setAddByScan
  refine wpAny_bind (wpAny_bind (wpAny_rule (wpAny_bind (wpAny_setScan_of isk ho hd hf el ?_))))
  cases hfi : List.findIdx? (fun e => (mixKind P w).is k e.2) es.toList with
  | some j =>
    dsimp only
    obtain ⟨hj, pj, _⟩ := List.findIdx?_eq_some_iff_getElem.mp hfi
    have hm : k ∈ ks := (mem_is pr).2 ⟨es.toList[j], List.getElem_mem hj, pj⟩
    exact wpAny_pure (wpAny_pure (hQ s.heap ks _ (Heap.SameBut.refl a s.heap) ⟨⟨o, es, ep, t, ho, hx, hd, pr, hb, hf, hr, hl⟩, nd⟩ (.inl ⟨hm, rfl⟩)))
  | none =>
    dsimp only
    have hm : k ∉ ks := fun z => by
      obtain ⟨e, he, q⟩ := (mem_is pr).1 z
      have c := List.findIdx?_eq_none_iff.mp hfi e he
      rw [q] at c
      cases c
    have gw : ∀ (b : Bool) {s₁ : Shared} {Q' : Unit → Shared → Prop}, Q' () s₁ → wpAny (model P w) A (match b with | true => rule "set.scan.the-table-gave-way" | false => pure ()) Q' E s₁ := fun b s₁ Q' q => by
      cases b
      · exact wpAny_pure q
      · exact wpAny_rule q
    have k1 := layNew_perm t es ((mixKind P w).hash k) u
    have k2 := layNew_fits t es ((mixKind P w).hash k) u
    have k3 := layNew_ris t es ((mixKind P w).hash k) u hr
    have k4 := layNew_led t es ((mixKind P w).hash k) u
    revert k1 k2 k3 k4
    generalize layNew t es ((mixKind P w).hash k) u = Z
    obtain ⟨es1, t1, dm, gv⟩ := Z
    intro k1 k2 k3 k4
    dsimp only at k1 k2 k3 k4 ⊢
    rw [Array.toList_push] at k1
    have k1 : es1.toList.Perm (((mixKind P w).hash k, u) :: es.toList) := k1.trans (List.perm_append_singleton _ _)
    obtain ⟨ls, m1, m2⟩ := paired_perm k1 (m := k :: ks) (.cons ⟨ru, rfl⟩ pr)
    have sz : es1.size = ks.length + 1 := by rw [← Array.length_toList, k1.length_eq, List.length_cons, Array.length_toList, len]
    have b1 : es1.size < scanBound := by omega
    have nd1 : ls.Nodup := m1.nodup_iff.mpr (List.nodup_cons.mpr ⟨hm, nd⟩)
    have led : w.params.followText "set-order" = true ∨ t1.led = true := hl.imp id fun z => by
      rw [k4]
      exact z
    have fin : ∀ b h' ms, Heap.SameBut a s.heap h' → SetKs P w h' a ms → ms.Perm ls → Q b { s with heap := h' } := fun b h' ms sb r pm => hQ h' ms b sb r (.inr ⟨hm, pm.trans m1⟩)
    refine wpAny_bind (gw _ ?_)
    split
    · refine wpAny_bind ?_
      rw [hashByValue_scannable 8 scn]
      refine wpAny_pure ?_
      refine ks_tail (fun b s₁ Q' q => gw b q) ho hx hd m2 nd1 b1 ?_ ?_ ?_ fun h' ms sb r pm => ?_
      · first | exact k2 | (split <;> first | exact k2 | exact SetTable.fits_plain_off k2)
      · first | exact k3 | (split <;> exact k3)
      · first | exact led | (split <;> exact led)
      · dsimp only
        exact wpAny_pure (fin _ h' ms sb r pm)
    · refine wpAny_bind (wpAny_pure ?_)
      simp only [↓reduceIte]
      refine ks_tail (fun b s₁ Q' q => gw b q) ho hx hd m2 nd1 b1 k2 k3 led fun h' ms sb r pm => ?_
      dsimp only
      exact wpAny_pure (fin _ h' ms sb r pm)
end
end KL
set_option Elab.async false
set_option linter.all false
set_option maxRecDepth 100000
set_option maxHeartbeats 4000000
namespace KL
open PySem L2 PySem.Spec PyProof.Rows
section
variable {P : Program} {w : World} {A : Around} {E : Value → Shared → Prop} {s : Shared} {a : Addr}
theorem keep_run {Wn : World} {h : Heap} {a : Addr} {ks : List Key} (R : SetKs P Wn h a ks) {h' : Heap} (e : ∀ o, h.get? a = some o → h'.get? a = some o) : SetKs P Wn h' a ks := R.at e
/-- the items of an iterator are put into the set at D, one behind the other -/
theorem ks_fill {I D : Addr} {fp wr : List Addr} {G : Array GenState → Array GenState → Prop} {n : Nat} {Pv : Nat → Value → Prop} {St : Nat → Shared → Prop} {R : Result → Shared → Prop} (W : WalksS P w A.in1 I fp wr G n Pv St) (hD : D ∉ fp)
    (xs : List Key) (hn : xs.length = n) (hb : n + 1 < scanBound) (hv : ∀ i v, Pv i v → ∃ k, xs[i]? = some k ∧ RelV (kV k) v) (left : Nat) :
    ∀ (i : Nat) (s : Shared) (ks : List Key), i + left = n → St i s → SetKs P w s.heap D ks → (∀ j, j ∈ ks ↔ j ∈ xs.take i) → ks.length ≤ i →
      (∀ s' ks', Moved (D :: wr) G s s' → SetKs P w s'.heap D ks' → (∀ j, j ∈ ks' ↔ j ∈ xs) → ks'.length ≤ n → R (.ok (.ret .none)) s') → codeAny (model P w) A (.builtin "set.update.loop" ⟨[.ref D, .ref I], []⟩) R s := by
  have off : D ∉ wr := fun z => hD (W.sub _ z)
  have more : ∀ b ∈ wr, b ∈ D :: wr := fun b z => List.mem_cons_of_mem _ z
  induction left with
  | zero =>
    intro i s ks e st S hm hl k
    have e : i = n := e
    subst e
    refine codeAny_builtin F.entry_set_update_loop ?_
    rw [Around.under_plainId F.plain_set_update_loop _]
    show wpAny _ A.in1 (pyNext (.ref I) >>= _) _ _ s
    refine wpAny_bind (W.done s _ _ st fun s' mv => ?_)
    show wpAny _ A.in1 (ret Value.none) _ _ s'
    rw [List.take_of_length_le (by omega)] at hm
    exact wpAny_pure (k s' ks (mv.mono more) (S.at fun o q => mv.heap D o off q) hm hl)
  | succ left ih =>
    intro i s ks e st S hm hl k
    refine codeAny_builtin F.entry_set_update_loop ?_
    rw [Around.under_plainId F.plain_set_update_loop _]
    show wpAny _ A.in1 (pyNext (.ref I) >>= _) _ _ s
    refine wpAny_bind (W.item i s _ _ (by omega) st fun v s' hp st' mv => ?_)
    obtain ⟨z, hz, rz⟩ := hv i v hp
    show wpAny _ A.in1 (holding [v] (setAdd D v) >>= _) _ _ s'
    refine wpAny_bind (wpAny_holding ?_)
    unfold setAdd
    refine wpAny_holding (wpAny_bind ((mixKind P w).pyHash (k := z) (kV_is rz) ?_))
    refine ks_put (s := { s' with toks := s'.toks + 1 }) rz (S.at fun o q => mv.heap D o off q) (by omega) fun h' ks' bb sb S2 pu => ?_
    have hm2 : ∀ j, j ∈ ks' ↔ j ∈ xs.take (i + 1) := fun j => by
      rw [pu.mem, hm, List.take_add_one, hz, List.mem_append]
      exact ⟨fun q => q.elim (fun c => .inr (by rw [c]; exact List.mem_singleton.mpr rfl)) .inl, fun q => q.elim .inr fun c => .inl (List.mem_singleton.mp c)⟩
    have hl2 : ks'.length ≤ i + 1 := Nat.le_trans pu.len (by omega)
    refine wpAny_pure ⟨plainId_quiet F.plain_set_update_loop _, ih (i + 1) _ ks' (by omega) (W.frame _ s' _ _ st' (Nat.le_succ _) fun b hb o e => ?_) S2 hm2 hl2 fun s2 ks2 mv2 S3 hm3 hl3 => ?_⟩
    · have nb : b ≠ D := fun c => hD (by rw [← c]; exact hb)
      rw [sb.2 b nb]
      exact e
    · refine k s2 ks2 (Moved.trans W.gtrans ((mv.mono more).then_heap (Nat.le_succ _) fun b o hb e => ?_) mv2) S3 hm3 hl3
      have nb : b ≠ D := fun c => hb (by rw [c]; exact List.mem_cons_self)
      rw [sb.2 b nb]
      exact e
/-- a built-in class called, the check of its __init__ by itself -/
theorem type_made {T newId initId : String} {Bi : Builtin} {args : List Value} {Q Q₁ : Value → Shared → Prop} (tc : TypeCalled T newId initId) (ct : checkTypeCall T ⟨args, []⟩ = pure ()) (en : entryFor table initId = some Bi)
    (nw : codeAny (model P w) A.in1 (.call (.builtin newId) ⟨.type T :: args, []⟩) (wants Q₁ E) s)
    (nx : ∀ obj s₁, Q₁ obj s₁ → s₁.TypeIs obj T ∧ (∀ {A' : Around} {E' : Value → Shared → Prop} {Q' : Unit → Shared → Prop}, Q' () s₁ → wpAny (model P w) A' (checkBuiltinCall initId ⟨obj :: args, []⟩) Q' E' s₁) ∧
      wpAny (model P w) A.in1.in1 (Bi ⟨obj :: args, []⟩)
        (fun fin s' => match fin with | .done f => wants (fun r s₂ => r = .none ∧ Q obj s₂) E (.ok f) s' | .again c' => c'.quiet = true ∧ codeAny (model P w) A.in1 c' (wants (fun r s₂ => r = .none ∧ Q obj s₂) E) s')
        (fun e s' => wants (fun r s₂ => r = .none ∧ Q obj s₂) E (.error e) s') s₁) : wpAny (model P w) A (call (.type T) args) Q E s := by
  obtain ⟨c0, cs, mro⟩ := tc.mro
  have m1 := tc.made
  have m2 := tc.sub
  have m3 := tc.notType
  have m4 := tc.canCreate
  refine wpAny_call (codeAny_of_tree (show wpAny _ _ (callAny (.type T) _) _ _ _ from ?_))
  refine wpAny_pure ⟨Code.quiet_builtin _ (by decide +kernel), codeAny_builtin F.entry_type_call ?_⟩
  rw [Around.under_plain (weight_type_call_type T args []) rfl]
  repeat any_goals (first | assumption | wp_step)

  refine codeAny_mono nw fun r s₁ hr => ?_
  rcases r with e | f
  · exact hr
  · cases f with
    | ret obj =>
      obtain ⟨q1, q2, q3⟩ := nx _ _ hr
      have l1 := tc.init.lookup
      have l2 := tc.init.bind obj
      repeat any_goals (first | assumption | wp_step)

      refine codeAny_mono (codeAny_call_builtin tc.init.plain en (q2 q3)) fun r₂ s₂ h2 => ?_
      rcases r₂ with e | f
      · exact h2
      · cases f with
        | ret r =>
          obtain ⟨rfl, q⟩ := h2
          repeat any_goals (first | assumption | wp_step)
        | _ => exact h2.elim
    | _ => exact hr.elim
theorem back_get : ∀ {xs : List V} {us : List Value} {i : Nat} {v : Value}, Vals xs us → us[i]? = some v → ∃ y, xs[i]? = some y ∧ RelV y v
  | _, _, i, v, .nil, e => by simp at e
  | _, _, 0, v, .cons h _, e => by
    simp at e
    subst e
    exact ⟨_, rfl, h⟩
  | _, _, i + 1, v, .cons _ t, e => by
    obtain ⟨y, q1, q2⟩ := back_get t (i := i) (by simpa using e)
    exact ⟨y, by simpa using q1, q2⟩
theorem call_set_ks {l : Addr} {us : Array Value} {xs : List Key} {Q : Value → Shared → Prop} (hh : A.handled = none) (hl : s.heap.IsList l us) (rv : Vals (xs.map kV) us.toList) (hb : xs.length + 1 < scanBound)
    (h : ∀ h' tk ks, SetKs P w h' s.heap.objs.size ks → (∀ j, j ∈ ks ↔ j ∈ xs) → ks.length ≤ xs.length → (∀ b o, s.heap.get? b = some o → h'.get? b = some o) → Q (.ref s.heap.objs.size) { s with heap := h', toks := tk }) :
    wpAny (model P w) A (call (.type "set") [.ref l]) Q E s := by
  have sz : us.size = xs.length := by
    have := rv.length
    rw [List.length_map] at this
    rw [← Array.length_toList, ← this]
  refine type_made (Q₁ := fun obj s₁ => obj = .ref s.heap.objs.size ∧ s₁ = { s with heap := s.heap.push { cls := .type "set", dict := none, data := .set #[] 0 (.fresh 0 0 (!w.params.followText "set-order")) } }) F.called_set (F.typeCall_set_1 _) F.entry_set_init (code_set_led1 _ ⟨rfl, rfl⟩) ?_
  rintro obj s₁ ⟨rfl, rfl⟩
  have new : (s.heap.push { cls := .type "set", dict := none, data := .set #[] 0 (.fresh 0 0 (!w.params.followText "set-order")) }).get? s.heap.objs.size = some { cls := .type "set", dict := none, data := .set #[] 0 (.fresh 0 0 (!w.params.followText "set-order")) } := Heap.get?_push_size _ rfl
  refine ⟨⟨_, new, rfl⟩, fun q => check_set_init_1 ⟨_, new, rfl⟩ q, ?_⟩
  have hT : Shared.TypeIs { s with heap := s.heap.push { cls := .type "set", dict := none, data := .set #[] 0 (.fresh 0 0 (!w.params.followText "set-order")) } } (.ref s.heap.objs.size) "set" := ⟨_, new, rfl⟩
  obtain ⟨⟨cls, dd, dat, sl⟩, ho, hc, n, hd⟩ := hl
  simp only at hc hd
  subst hc hd
  have ho' : (s.heap.push { cls := .type "set", dict := none, data := .set #[] 0 (.fresh 0 0 (!w.params.followText "set-order")) }).get? l = some { cls := .type "list", dict := dd, data := .seq us n, slots := sl } := Heap.get?_push_of_some _ ho
  have hl' : (s.heap.push { cls := .type "set", dict := none, data := .set #[] 0 (.fresh 0 0 (!w.params.followText "set-order")) }).IsList l us := ⟨_, ho', rfl, n, rfl⟩
  have hz : (s.heap.push { cls := .type "set", dict := none, data := .set #[] 0 (.fresh 0 0 (!w.params.followText "set-order")) }).objs.size = s.heap.objs.size + 1 := Heap.size_push ..
  have b1 := F.sub_list_set
  have b2 := F.sub_list_frozenset
  have b3 : (Value.type "list" == Value.type "dict") = false := by decide
  unfold Builtin.«set.__init__» noKeywords Builtin.Frozenset.updateFrom
  generalize hPI : pyIter = PI
  wp_walk
  subst hPI
  have lS : l < s.heap.objs.size := Heap.lt_size ho
  have nI : l ≠ (s.heap.push { cls := .type "set", dict := none, data := .set #[] 0 (.fresh 0 0 (!w.params.followText "set-order")) }).objs.size := by
    rw [hz]
    exact Nat.ne_of_lt (Nat.lt_succ_of_lt lS)
  have hD : s.heap.objs.size ∉ [(s.heap.push { cls := .type "set", dict := none, data := .set #[] 0 (.fresh 0 0 (!w.params.followText "set-order")) }).objs.size, l] := fun z => by
    rcases List.mem_cons.mp z with z | z
    · rw [hz] at z
      exact Nat.ne_of_lt (Nat.lt_succ_self _) z
    · have := List.mem_singleton.mp z
      exact Nat.ne_of_gt lS this
  have hv : ∀ (i : Nat) (v : Value), us[i]? = some v → ∃ k, xs[i]? = some k ∧ RelV (kV k) v := fun i v e => by
    obtain ⟨k, q, r⟩ : ∃ y, (xs.map kV)[i]? = some y ∧ RelV y v := by
      have e : us.toList[i]? = some v := by rw [Array.getElem?_toList]; exact e
      exact back_get rv e
    rw [List.getElem?_map] at q
    cases ex : xs[i]? with
    | none =>
      rw [ex] at q
      cases q
    | some x =>
      rw [ex] at q
      cases q
      exact ⟨x, rfl, r⟩
  refine wpAny_pyIter_list hl' ?_
  refine wpAny_bind (wpAny_runValue ?_)
  refine ks_fill ((Walks.list (show A.in1.in1.in1.handled = none by simp [hh]) _ l nI us).toS) hD xs sz.symm (by omega) hv us.size 0 _ [] (by omega)
    ⟨⟨_, Heap.get?_push_size _ rfl, rfl, rfl⟩, hl'.push _⟩ ⟨⟨_, #[], 0, _, Heap.get?_push_of_some _ new, ⟨rfl, rfl, rfl⟩, rfl, .nil, by decide, rfl, List.Pairwise.nil, ?_⟩, List.nodup_nil⟩ (fun j => by simp) (Nat.le_refl _) ?_
  · show _ ∨ (!w.params.followText "set-order") = true
    cases w.params.followText "set-order"
    · exact .inr rfl
    · exact .inl rfl
  · intro s' ks mv S hm hk
    obtain ⟨h', g', d', tk', os'⟩ := s'
    have eg : g' = s.gens := mv.gens
    have ed : d' = s.drawn := mv.drawn
    have eo : os' = s.os := mv.os
    subst eg ed eo
    show wpAny _ _ _ _ _ _
    refine wpAny_pure ?_
    show wpAny _ _ (ret Value.none) _ _ _
    refine wpAny_pure ⟨rfl, h h' tk' ks S hm (by omega) fun b o e => ?_⟩
    have bS : b < s.heap.objs.size := Heap.lt_size e
    refine mv.heap b o (fun z => ?_) (Heap.get?_push_of_some _ (Heap.get?_push_of_some _ e))
    rcases List.mem_cons.mp z with z | z
    · exact Nat.ne_of_lt bS z
    · have z := List.mem_singleton.mp z
      rw [hz] at z
      exact Nat.ne_of_lt (Nat.lt_succ_of_lt bS) z
end
end KL
set_option Elab.async false
set_option linter.all false
set_option maxRecDepth 100000
set_option maxHeartbeats 4000000
namespace KL
open PySem L2 PySem.Spec PyProof.Rows
/-- the set of the keys ks -/
def KsO (P : Program) (w : World) (a : Addr) (ks : List Key) : HO := .ext fun h => SetKs P w h a ks
theorem ksO_ok {P : Program} {w : World} {H : Hp} {h : Heap} {a : Addr} {ks : List Key} (R : SetKs P w h a ks) : ObjOk P w H h a (KsO P w a ks) := by
  obtain ⟨⟨o, _, _, _, ho, _⟩, _⟩ := id R
  exact ⟨R, ⟨o, ho⟩, fun _ _ p k => p.at k⟩
def rSetK (K : PySem.W.Frag) (P : Program) (w : World) : List V → Hp → VK → Prop := fun vs H Q => ∃ (a : Addr) (xs : List Key), vs = [V.ref a] ∧ SqL K H a (xs.map kV) ∧ xs.length ≤ 2000 ∧
  ∀ p ks, H p = none → ks.Nodup → (∀ j, j ∈ ks ↔ j ∈ xs) → ks.length ≤ xs.length → Q (.ref p) (upd H p (KsO P w p ks))
/-- sorted(s), s a set of texts -/
def rSortK (P : Program) (w : World) : List V → Hp → VK → Prop := fun vs H Q => ∃ (a : Addr) (ss : List Str), vs = [V.ref a] ∧ H a = some (KsO P w a (ss.map Sum.inr)) ∧
  ∀ (ys : List Str) (p : Addr), ys.Perm ss → ys.Nodup → ys.Pairwise (fun x y => x.cps.toList ≤ y.cps.toList) → H p = none → Q (.ref p) (upd H p (.lst (ys.map V.str)))
theorem paired_map {α β γ : Type} {R : α → γ → Prop} {f : β → γ} : ∀ {l : List α} {m : List β}, Paired R l (m.map f) → Paired (fun x y => R x (f y)) l m
  | _, [], h => by
    cases h
    exact .nil
  | _, y :: m, h => by
    cases h with
    | cons h1 h2 => exact .cons h1 (paired_map h2)
def StrE (u : Value) (x : Str) : Prop := ∃ t, u = .str x t
theorem strs_each : ∀ {l : List (Int × Value)} {ss : List Str} {P : Program} {w : World}, Paired (KeyE P w) l (ss.map Sum.inr) → Paired StrE (l.map (·.2)) ss
  | _, [], _, _, h => by
    cases h
    exact .nil
  | _, x :: ss, _, _, h => by
    cases h with
    | cons h1 h2 => exact .cons h1.1 (strs_each h2)
theorem each_str {h : Heap} {a : Addr} : ∀ {us : List Value} {ss : List Str}, Paired StrE us ss → PySem.W.EachIs StrE us ss ∧ PySem.W.EachIs (fun v b => ∃ as, Reads h v (PyData.str b) as ∧ a ∉ as) us ss
  | _, _, .nil => ⟨.nil, .nil⟩
  | _, _, .cons h t => by
    obtain ⟨q1, q2⟩ := each_str t
    obtain ⟨tk, rfl⟩ := h
    exact ⟨.cons ⟨tk, rfl⟩ q1, .cons ⟨[], .str _ _, fun z => nomatch z⟩ q2⟩
theorem vals_strs : ∀ {us : List Value} {ss : List Str}, PySem.W.EachIs StrE us ss → Vals (ss.map V.str) us
  | _, _, .nil => .nil
  | _, _, .cons h t => .cons h (vals_strs t)
theorem str_le_total (x y : Str) : (decide (x.cps.toList ≤ y.cps.toList) || decide (y.cps.toList ≤ x.cps.toList)) = true := by
  rcases List.le_total x.cps.toList y.cps.toList with h | h
  · rw [decide_eq_true h]
    rfl
  · rw [decide_eq_true h, Bool.or_true]
section
variable {X : Cx}
theorem cr_setK (hc : X.calm = true) : CallR X (.type "set") (rSetK X.K X.prog X.w) := by
  intro pins s σ H vs us Q I r h
  obtain ⟨a, xs, rfl, hs, hz, q⟩ := h
  obtain ⟨its, rv, hl, _⟩ := I.list hs
  rw [Vals.ref1 r]
  refine call_set_ks (xs := xs) (I.ok.hd hc) hl.isList (by simpa using rv) (by unfold scanBound; omega) fun h' tk ks S hm hk keep => ?_
  exact ⟨.ref s.heap.objs.size, upd H s.heap.objs.size (KsO X.prog X.w s.heap.objs.size ks), I.laid (t' := tk) keep (Nat.le_refl _) (ksO_ok S), rfl, q _ ks (I.hok.fresh (Nat.le_refl _)) S.nd hm hk⟩
theorem cr_sortK (hc : X.calm = true) (hu : X.A.units + 64 < cLine) : CallR X (.builtin "sorted") (rSortK X.prog X.w) := by
  intro pins s σ H vs us Q I r h
  obtain ⟨a, ss, rfl, ha, q⟩ := h
  have R : SetKs X.prog X.w s.heap a (ss.map Sum.inr) := (I.hok a _ ha).1
  rw [Vals.ref1 r]
  obtain ⟨⟨o, es, ep, t, ho, hx, hd, pr, hb, hf, hr, hl⟩, nd⟩ := R
  have nds : ss.Nodup := by
    have := nd
    unfold List.Nodup at this ⊢
    rw [List.pairwise_map] at this
    exact this.imp fun h e => h (by rw [e])
  refine Calls.call_function_entry kind_sorted plain_sorted entry_sorted (args_sorted1 _) ?_
  unfold Builtin.«sorted»
  refine wpAny_bind (m := checkCount "sorted" 1 1 _) (wpAny_pure ?_)
  refine wpAny_bind (collect_set (A := X.A.in1) (I.ok.hd hc) ⟨o, ho, hx.1, hd⟩ hf hb hr hl fun s1 out k1 z1 g1 o1 pm => ?_)
  obtain ⟨ms, pms, prm⟩ := paired_perm pm (strs_each pr)
  have lo : out.length = ms.length := Paired.length prm
  have lm : ms.length = es.size := by
    rw [pms.length_eq, ← Array.length_toList, Paired.length pr, List.length_map]
  have lz : out.length ≤ sizeLine := by
    rw [lo, lm]
    exact fits_of_scanBound hb
  refine wpAny_bind (wpAny_newList ?_ lz)
  have hoL : (s1.heap.push (seqObj "list" out.toArray 0)).get? s1.heap.objs.size = some (seqObj "list" out.toArray 0) := Heap.get?_push_size _ rfl
  obtain ⟨e1, e2⟩ := each_str (h := s1.heap.push (seqObj "list" out.toArray 0)) (a := s1.heap.objs.size) prm
  have al : PySem.W.AllAlike (ms.map PyData.str) := PySem.W.AllAlike.of fun _ _ => rfl
  have so : PySem.W.Sortable (ms.map PyData.str) := PySem.W.Sortable.others fun _ => ⟨fun z => (nomatch z), fun _ z => nomatch z⟩
  refine wpAny_bind (wpAny_holding (PySem.W.list_sort_data hoL e1 e2 al so (by rw [← lo]; exact lz) (fun b _ => (by show X.A.units + 1 + 1 + 0 < cLine; omega)) fun srt ls es' => ?_))
  have vv := vals_strs es'
  rw [PySem.W.dataLe_str (k := fun x => x)] at vv
  have pmm : (ms.mergeSort fun a b => decide (a.cps.toList ≤ b.cps.toList)).Perm ms := List.mergeSort_perm _ _
  have pw := List.pairwise_mergeSort (le := fun (a b : Str) => decide (a.cps.toList ≤ b.cps.toList)) (fun x y z h1 h2 => decide_eq_true (List.le_trans (of_decide_eq_true h1) (of_decide_eq_true h2))) (fun x y => str_le_total x y) ms
  obtain ⟨c, hcc⟩ := sortedHeap_at (vs := out) (out := srt.toArray) hoL
  have len : ((ms.mergeSort fun a b => decide (a.cps.toList ≤ b.cps.toList)).map V.str).length ≤ sizeLine := by
    rw [List.length_map, pmm.length_eq, ← lo]
    exact lz
  have keep : ∀ b u, s.heap.get? b = some u → (sortedHeap (s1.heap.push (seqObj "list" out.toArray 0)) s1.heap.objs.size out srt.toArray).get? b = some u := fun b u e => by
    have e1 := k1 b u e
    have lt := Heap.lt_size e1
    rw [sortedHeap_old (Nat.ne_of_lt lt) (by rw [size_push']; exact Nat.lt_succ_of_lt lt)]
    exact Heap.get?_push_of_some _ e1
  have hn : H s1.heap.objs.size = none := I.hok.fresh z1
  have J : Inv X pins σ (upd H s1.heap.objs.size (.lst ((ms.mergeSort fun a b => decide (a.cps.toList ≤ b.cps.toList)).map V.str))) { s with heap := sortedHeap (s1.heap.push (seqObj "list" out.toArray 0)) s1.heap.objs.size out srt.toArray, gens := s1.gens, drawn := s1.drawn, toks := s1.toks } :=
    I.call (ch := []) (Un.laid keep z1 hn) (I.hok.laid keep z1 ⟨len, srt, c, vv, hcc⟩) (by rw [g1]; exact I.bare) (fun _ z => nomatch z)
  have es1 : ({ s1 with heap := sortedHeap (s1.heap.push (seqObj "list" out.toArray 0)) s1.heap.objs.size out srt.toArray } : Shared) = { s with heap := sortedHeap (s1.heap.push (seqObj "list" out.toArray 0)) s1.heap.objs.size out srt.toArray, gens := s1.gens, drawn := s1.drawn, toks := s1.toks } := by
    cases s1
    cases s
    cases o1
    rfl
  refine wpAny_pure ⟨_, rfl, ?_⟩
  rw [es1]
  exact ⟨.ref _, _, J, rfl, q _ _ (pmm.trans pms) ((pmm.trans pms).nodup_iff.mpr nds) (pw.imp fun h => of_decide_eq_true h) hn⟩
end
end KL
set_option Elab.async false
set_option linter.all false
set_option maxRecDepth 100000
set_option maxHeartbeats 4000000
namespace KL
open PySem L2 PySem.Spec PyProof.Rows
/-! ### tuples of ints and texts, looked for in a set -/
abbrev AtK (P : Program) (w : World) (h : Heap) (k : List Key) (b : Addr) : Prop := IsTupleKey (mixKind P w) h k b
abbrev hK (P : Program) (w : World) (k : List Key) : Int := tupleKeyHash (mixKind P w) k
def Flat1 (v : Value) : Prop := (∃ i t, v = Value.int i t) ∨ ∃ x t, v = Value.str x t
theorem flat_items {P : Program} {w : World} : ∀ {k : List Key} {vs : List Value}, ItemsAre (mixKind P w) k vs → ∀ v ∈ vs, Flat1 v
  | _, _, .nil => fun _ h => nomatch h
  | _, _, .cons (k := k0) h t => fun v hv => by
    rcases List.mem_cons.mp hv with e | hv
    · subst e
      rcases keyIs_shape (k := k0) h with ⟨i, t, _, e⟩ | ⟨x, t, _, e⟩
      · exact .inl ⟨i, t, e⟩
      · exact .inr ⟨x, t, e⟩
    · exact flat_items t v hv
theorem flat_class {v : Value} (h : Flat1 v) (n : Nat) : ofAClassStatement n v = pure false := by
  rcases h with ⟨i, t, rfl⟩ | ⟨x, t, rfl⟩ <;> cases n <;> rfl
theorem flat_value {v : Value} (h : Flat1 v) (n : Nat) : hashByValue n v = pure true ∨ hashByValue n v = pure false := by
  rcases h with ⟨i, t, rfl⟩ | ⟨x, t, rfl⟩
  · exact .inl (by cases n <;> rfl)
  · exact .inr (by cases n <;> rfl)
section
variable {P : Program} {w : World} {A : Around} {E : Value → Shared → Prop} {s : Shared} {k : List Key} {b : Addr}
theorem row_class {Q : Bool → Shared → Prop} (hb : AtK P w s.heap k b) (q : Q false s) : wpAny (model P w) A (ofAClassStatement 8 (.ref b)) Q E s := by
  have ty := hb.typeIs
  obtain ⟨ob, its, c, h1, _, h2, h3⟩ := hb
  unfold ofAClassStatement
  refine wpAny_bind (wpAny_typeOf ty ?_)
  dsimp only
  simp only [show (("tuple" : String) == "tuple") = true by decide, if_true, Bool.not_true, Bool.false_eq_true, if_false]
  try refine wpAny_bind (wpAny_pure ?_)
  try simp only [Bool.not_true, Bool.false_eq_true, if_false]
  change wpAny _ _ (seqItems? (.ref b) >>= _) _ _ s
  refine wpAny_bind (wpAny_seqItems h1 h2 ?_)
  dsimp only
  refine wpAny_bind ?_
  change wpAny _ _ (forIn its _ _) _ _ s
  rw [← Array.forIn_toList]
  refine wpAny_forIn_list _ (fun left got s1 => got.1 = none ∧ s1 = s ∧ ∀ v ∈ left, Flat1 v) _ (fun v left got s1 hv => ?_) (fun got s1 hv => ?_) _ _ ⟨rfl, rfl, flat_items h3⟩
  · obtain ⟨g, rfl, fl⟩ := hv
    rw [flat_class (fl v List.mem_cons_self)]
    refine wpAny_bind (wpAny_pure ?_)
    simp only [Bool.false_eq_true, if_false]
    exact wpAny_pure ⟨rfl, rfl, fun u hu => fl u (List.mem_cons_of_mem _ hu)⟩
  · obtain ⟨g1, g2⟩ := got
    obtain ⟨g, rfl, _⟩ := hv
    cases (show g1 = none from g)
    exact wpAny_pure q
theorem row_value {Q : Bool → Shared → Prop} (hb : AtK P w s.heap k b) (q : ∀ c, Q c s) : wpAny (model P w) A (hashByValue 8 (.ref b)) Q E s := by
  have ty := hb.typeIs
  obtain ⟨ob, its, c, h1, _, h2, h3⟩ := hb
  unfold hashByValue
  refine wpAny_bind (wpAny_specialOf ty F.slot_tuple_hash.lookup ?_)
  change wpAny _ _ (seqItems? (.ref b) >>= _) _ _ s
  refine wpAny_bind (wpAny_seqItems h1 h2 (wpAny_bind ?_))
  change wpAny _ _ (forIn its _ _) _ _ s
  rw [← Array.forIn_toList]
  refine wpAny_forIn_list _ (fun left got s1 => got.1 = none ∧ s1 = s ∧ ∀ v ∈ left, Flat1 v) _ (fun v left got s1 hv => ?_) (fun got s1 hv => ?_) _ _ ⟨rfl, rfl, flat_items h3⟩
  · obtain ⟨g, rfl, fl⟩ := hv
    rcases flat_value (fl v List.mem_cons_self) 7 with e | e
    · rw [e]
      refine wpAny_bind (wpAny_pure ?_)
      simp only [Bool.not_true, Bool.false_eq_true, if_false]
      exact wpAny_pure ⟨rfl, rfl, fun u hu => fl u (List.mem_cons_of_mem _ hu)⟩
    · rw [e]
      refine wpAny_bind (wpAny_pure ?_)
      simp only [Bool.not_false, if_true]
      exact wpAny_pure (wpAny_pure (q false))
  · obtain ⟨g1, g2⟩ := got
    obtain ⟨g, rfl, _⟩ := hv
    cases (show g1 = none from g)
    exact wpAny_pure (q true)
/-- a search among such tuples shows nothing of the table -/
theorem row_unseen {Q : Bool → Shared → Prop} {ys : List Value} (hb : AtK P w s.heap k b) (hy : ∀ y ∈ ys, ∃ j c, y = Value.ref c ∧ AtK P w s.heap j c) (q : Q false s) : wpAny (model P w) A (searchCouldBeSeen (.ref b) ys) Q E s := by
  unfold searchCouldBeSeen
  refine wpAny_bind (wpAny_forIn_list _ (fun left got s1 => got.1 = none ∧ s1 = s ∧ ∀ y ∈ left, ∃ j c, y = Value.ref c ∧ AtK P w s.heap j c) _ (fun v left got s1 hv => ?_) (fun got s1 hv => ?_) _ _ ⟨rfl, rfl, hy⟩)
  · obtain ⟨g, rfl, fl⟩ := hv
    obtain ⟨j, c, rfl, hc⟩ := fl v List.mem_cons_self
    have next : ∀ y ∈ left, ∃ j c, y = Value.ref c ∧ AtK P w s1.heap j c := fun u hu => fl u (List.mem_cons_of_mem _ hu)
    dsimp only
    by_cases same : (b == c || (carriedByValue (.ref b) && carriedByValue (.ref c))) = true
    · exact wp_if_pos same (wpAny_pure ⟨rfl, rfl, next⟩)
    · refine wp_if_neg same (wpAny_bind (wpAny_eqIsQuiet_tuple hb ?_))
      simp only [Bool.not_true, Bool.false_eq_true, if_false]
      refine wpAny_bind (wpAny_eqIsQuiet_tuple hc ?_)
      simp only [Bool.not_true, Bool.false_eq_true, if_false]
      refine wpAny_bind (row_class hb ?_)
      simp only [Bool.false_eq_true, if_false]
      refine wpAny_bind (row_class hc ?_)
      simp only [Bool.false_eq_true, if_false]
      exact wpAny_pure ⟨rfl, rfl, next⟩
  · obtain ⟨g1, g2⟩ := got
    obtain ⟨g, rfl, _⟩ := hv
    cases (show g1 = none from g)
    exact wpAny_pure q
/-- it stays where it is when nothing but a set changes -/
theorem row_keeps {h h' : Heap} {a : Addr} {o : Obj} {es : Array (Int × Value)} {ep : Nat} {t : SetTable} (hb : AtK P w h k b) (ho : h.get? a = some o) (hd : o.data = .set es ep t) (sb : Heap.SameBut a h h') : AtK P w h' k b := by
  obtain ⟨ob, its, c, h1, h2, h3, h4⟩ := hb
  refine ⟨ob, its, c, (sb.2 b fun z => ?_).trans h1, h2, h3, h4⟩
  subst z
  cases h1.symm.trans ho
  rw [hd] at h3
  cases h3
theorem row_more {h h' : Heap} (hb : AtK P w h k b) (up : ∀ c o, h.get? c = some o → h'.get? c = some o) : AtK P w h' k b := by
  obtain ⟨ob, its, c, h1, r⟩ := hb
  exact ⟨ob, its, c, up _ _ h1, r⟩
end
/-! ### a set of such tuples -/
abbrev KRow := Addr × List Key
/-- how they stand in it -/
def entK (P : Program) (w : World) (L : List KRow) : List (Int × Value) := L.map fun r => (hK P w r.2, Value.ref r.1)
def hashesK (P : Program) (w : World) (L : List KRow) : List Int := L.map fun r => hK P w r.2
structure RowSet (P : Program) (w : World) (h : Heap) (a : Addr) (L : List KRow) (es : Array (Int × Value)) (ep : Nat) (t : SetTable) : Prop where
  obj : ∃ o, h.get? a = some o ∧ o.ExactSet ∧ o.data = .set es ep t
  ents : es.toList = entK P w L
  table : TabOk t (hashesK P w L)
  once : (L.map (·.2)).Nodup
  rows : ∀ r ∈ L, AtK P w h r.2 r.1
  order : w.params.followText "set-order" = true ∨ t.led = true
  loose : L.length * 5 < t.mask * 3
  few : L.length < 64
section
variable {P : Program} {w : World} {A : Around} {E : Value → Shared → Prop} {s : Shared} {a : Addr} {L : List KRow} {es : Array (Int × Value)} {ep : Nat} {t : SetTable}
theorem ent_len (he : es.toList = entK P w L) : es.size = L.length := by
  rw [← Array.length_toList, he]
  exact List.length_map _
theorem ent_at (he : es.toList = entK P w L) {i : Nat} {r : KRow} (h : L[i]? = some r) : es[i]? = some (hK P w r.2, Value.ref r.1) := by
  rw [← Array.getElem?_toList, he]
  unfold entK
  rw [List.getElem?_map, h]
  rfl
theorem fits_of {hs : List Int} (T : TabOk t hs) {n : Nat} (hn : n = hs.length) (room : n ≤ t.mask) : t.fits n = true := by
  have z := T.sz
  unfold SetTable.fits SetTable.fill
  rw [T.dm, Bool.and_eq_true, beq_iff_eq, decide_eq_true_eq]
  refine ⟨by omega, ?_⟩
  change t.place.size + 0 ≤ t.mask
  omega
theorem RowSet.fits (R : RowSet P w s.heap a L es ep t) : t.fits es.size = true := by
  have z := ent_len R.ents
  have r := R.loose
  exact fits_of R.table (by rw [z]; exact (List.length_map _).symm) (by omega)
theorem firm (T : MaskOk t.mask) : ¬ t.gaveWay = true := by
  unfold SetTable.gaveWay
  rw [mask_odd T]
  decide
end
end KL
set_option Elab.async false
set_option linter.all false
set_option maxRecDepth 100000
set_option maxHeartbeats 4000000
namespace KL
open PySem L2 PySem.Spec PyProof.Rows
/-! ### the search for such a tuple -/
/-- the c-th stop on the way of a hash -/
abbrev stop (t : SetTable) (h : Int) (c : Nat) : SetTable.Probe := nth t.mask (runAt t.mask (SetTable.bits h % (t.mask + 1)) (SetTable.bits h)) c
theorem stop_plain (t : SetTable) (h : Int) : ∀ c, (stop t h c).dummy = none
  | 0 => rfl
  | c + 1 => by
    rw [stop, nth_succ]
    have ih := stop_plain t h c
    unfold adv
    split
    · exact ih
    · exact ih
theorem stop_on (t : SetTable) (h : Int) (c d : Nat) : nth t.mask (stop t h c) d = stop t h (c + d) := (nth_add t.mask c _ d).symm
theorem stop_j (t : SetTable) (h : Int) (c d : Nat) : (nth t.mask (stop t h c) d).j = way t.mask h (c + d) := congrArg SetTable.Probe.j (stop_on t h c d)
section
variable {P : Program} {w : World} {A : Around} {E : Value → Shared → Prop} {s : Shared} {a x : Addr} {L : List KRow} {es : Array (Int × Value)} {ep : Nat} {t : SetTable} {k : List Key}
/-- where the tuple may stand, from the c-th stop on -/
def Ahead (P : Program) (w : World) (t : SetTable) (L : List KRow) (k : List Key) (K c : Nat) : Prop := ∀ (i : Nat) r, L[i]? = some r → r.2 = k → ∃ d, c ≤ d ∧ d < K ∧ t.place.toList[i]? = some (way t.mask (hK P w k) d)
theorem RowSet.slot_in (R : RowSet P w s.heap a L es ep t) {i j : Nat} (h : t.place.toList[i]? = some j) : ∃ r, L[i]? = some r ∧ r ∈ L := by
  have z := R.table.sz
  have l : i < t.place.toList.length := (List.getElem?_eq_some_iff.mp h).1
  rw [Array.length_toList, z] at l
  have l : i < L.length := by
    rw [hashesK, List.length_map] at l
    exact l
  exact ⟨L[i], List.getElem?_eq_getElem l, List.getElem_mem l⟩
/-- an entry that has the hash is compared; if it is another one, the search goes on behind it -/
theorem seek (R : RowSet P w s.heap a L es ep t) (hx : AtK P w s.heap k x) (hu : A.units < cLine) {K : Nat} (lim : K < 10 * SetTable.turns t.mask) (free : way t.mask (hK P w k) K ∉ t.place.toList)
    (full : ∀ c, c < K → way t.mask (hK P w k) c ∈ t.place.toList) {Q : SetFound → Shared → Prop} (there : k ∈ L.map (·.2) → Q (.there none) s) (gone : k ∉ L.map (·.2) → Q (.free (way t.mask (hK P w k) K) false) s) :
    ∀ (f c : Nat) (from' : Option SetTable.Probe), from'.getD (t.probeStart (hK P w k)) = stop t (hK P w k) c → c ≤ K → K - c < f → Ahead P w t L k K c → wpAny (model P w) A (setSearchFrom a (.ref x) (hK P w k) true f from') Q E s := by
  intro f
  obtain ⟨o, ho, hex, hd⟩ := R.obj
  have hashes : ∀ (i : Nat) (r : KRow), L[i]? = some r → (fun i => (es[i]?.map (·.1)).getD 0) i = hK P w r.2 := fun i r hr => by
    change (es[i]?.map (·.1)).getD 0 = _
    rw [ent_at R.ents hr]
    rfl
  induction f with
  | zero => intro c _ _ _ z; exact absurd z (Nat.not_lt_zero _)
  | succ f ih =>
    intro c from' start le lt ahead
    rw [setSearchFrom_succ]
    refine wpAny_bind (wpAny_setState_of ho hd R.fits ?_)
    dsimp only
    refine wp_if_neg (firm R.table.mok) ?_
    try refine wpAny_bind (wpAny_pure ?_)
    have cK : c + (K - c) = K := by omega
    -- a stop of the entry sought is never passed
    have kept : ∀ (d i : Nat) (r : KRow), L[i]? = some r → r.2 = k → t.place.toList[i]? = some (way t.mask (hK P w k) d) → c ≤ d → ¬ (∃ n, c + n = d ∧ ∀ i0 : Nat, t.place.toList[i0]? = some (nth t.mask (stop t (hK P w k) c) n).j → (es[i0]?.map (fun e : Int × Value => e.1)).getD 0 ≠ hK P w k) := by
      rintro d i r hr e hi _ ⟨n, rfl, no⟩
      refine no i ?_ ((hashes i r hr).trans (congrArg (hK P w) e))
      rw [stop_j]
      exact hi
    rcases go_spec t R.table.ris R.table.dm (fun i => (es[i]?.map (·.1)).getD 0) (hK P w k) (10 * SetTable.turns t.mask) (K - c) (stop t (hK P w k) c) (stop_plain _ _ _) (by omega)
      (fun q hq => by rw [stop_j]; exact full (c + q) (by omega)) (by rw [stop_j, cK]; exact free) with ⟨q, i, hq, hi, _, no, met⟩ | ⟨no, met⟩
    · have met' : t.probe (fun i => (es[i]?.map (·.1)).getD 0) (hK P w k) (from'.getD (t.probeStart (hK P w k))) = some (.candidate (way t.mask (hK P w k) (c + q)) i (stop t (hK P w k) (c + (q + 1)))) := by
        rw [start, ← stop_j, ← stop_on]
        exact met
      rw [met']
      dsimp only
      rw [stop_j] at hi
      obtain ⟨r, hr, mem⟩ := R.slot_in hi
      have er := ent_at R.ents hr
      have compare : wpAny (model P w) A (searchRest a (.ref x) (hK P w k) true f es t (way t.mask (hK P w k) (c + q)) i (stop t (hK P w k) (c + (q + 1)))) Q E s := by
        unfold searchRest
        rw [er]
        dsimp only
        refine wpAny_bind (wpAny_holding (wpAny_eqBool_tuple hu (R.rows r mem) hx (wpAny_bind (wpAny_setState_of ho hd R.fits ?_))))
        dsimp only
        by_cases eq : r.2 = k
        · exact wp_if_pos (by simp [eq]) (wpAny_pure (there (List.mem_map.mpr ⟨r, mem, eq⟩)))
        · refine wp_if_neg (by simp [eq]) ?_
          try refine wpAny_bind (wpAny_pure ?_)
          have live : t.slot (way t.mask (hK P w k) (c + q)) = .live i := slot_live R.table.ris hi
          rw [show t.sameMemory t.moves t.mask = some true by unfold SetTable.sameMemory; rw [if_pos (beq_self_eq_true _)]]
          dsimp only
          simp only [if_true, live, er]
          refine wpAny_bind (wpAny_isSame_ref_self (wpAny_bind (wpAny_pure ?_)))
          simp only [if_true]
          refine wp_if_neg (by simp [eq]) (ih (c + (q + 1)) _ rfl (by omega) (by omega) fun i0 r0 h0 e0 => ?_)
          obtain ⟨d, d1, d2, d3⟩ := ahead i0 r0 h0 e0
          refine ⟨d, ?_, d2, d3⟩
          rcases Nat.lt_trichotomy d (c + q) with z | z | z
          · have no' := no (d - c)
            refine absurd ⟨d - c, by omega, fun i1 h1 => ?_⟩ (kept d i0 r0 h0 e0 d3 d1)
            first | exact no' i1 (by omega) h1 | exact no' (by omega) i1 h1
          · exfalso
            rw [z] at d3
            have l2 := slot_live R.table.ris d3
            rw [live] at l2
            injection l2 with l2
            subst l2
            rw [hr] at h0
            cases h0
            exact eq e0
          · omega
      by_cases led : t.led = true
      · refine wp_if_neg (by simp [led]) ?_
        try refine wpAny_bind (wpAny_pure ?_)
        exact compare
      · refine wp_if_pos (by simp [led]) (wpAny_bind (row_unseen hx (fun y hy => ?_) ?_))
        · obtain ⟨e, he, rfl⟩ := List.mem_map.mp hy
          have he : e ∈ es.toList := by
            have h2 : e ∈ es ∧ e.1 = hK P w k := by simpa using he
            simpa using h2.1
          rw [R.ents] at he
          obtain ⟨r0, m0, rfl⟩ := List.mem_map.mp he
          exact ⟨r0.2, r0.1, rfl, R.rows r0 m0⟩
        · refine wp_if_neg (by decide) ?_
          try refine wpAny_bind (wpAny_pure ?_)
          exact compare
    · have met' : t.probe (fun i => (es[i]?.map (·.1)).getD 0) (hK P w k) (from'.getD (t.probeStart (hK P w k))) = some (.empty (way t.mask (hK P w k) K) none) := by
        have e2 : way t.mask (hK P w k) K = (nth t.mask (stop t (hK P w k) c) (K - c)).j := by rw [stop_j, cK]
        rw [start, e2]
        exact met
      rw [met']
      dsimp only
      refine wpAny_pure (gone fun m => ?_)
      obtain ⟨r, mem, e⟩ := List.mem_map.mp m
      obtain ⟨i, hi, ei⟩ := List.getElem_of_mem mem
      have hr : L[i]? = some r := by rw [List.getElem?_eq_getElem hi, ei]
      obtain ⟨d, d1, d2, d3⟩ := ahead i r hr e
      have no' := no (d - c)
      refine kept d i r hr e d3 d1 ⟨d - c, by omega, fun i1 h1 => ?_⟩
      first | exact no' i1 (by omega) h1 | exact no' (by omega) i1 h1
end
end KL
set_option Elab.async false
set_option linter.all false
set_option maxRecDepth 100000
set_option maxHeartbeats 4000000
namespace KL
open PySem L2 PySem.Spec PyProof.Rows
/-! ### one more such tuple -/
theorem all_picked {α : Type} (L : List α) : ∀ n, n ≤ L.length → (List.range n).filterMap (fun i => L[i]?) = L.take n
  | 0, _ => rfl
  | n + 1, h => by
    rw [List.range_succ, List.filterMap_append, all_picked L n (Nat.le_of_succ_le h), List.take_add_one, List.getElem?_eq_getElem h, List.filterMap_cons_some (List.getElem?_eq_getElem h)]
    rfl
theorem picked {α : Type} (L : List α) {o : List Nat} (h : o.Perm (List.range L.length)) : (o.filterMap fun i => L[i]?).Perm L := by
  have e := all_picked L L.length (Nat.le_refl _)
  rw [List.take_length] at e
  exact (h.filterMap _).trans (by rw [e])
section
variable {P : Program} {w : World}
theorem picked_ents {L : List KRow} {es : Array (Int × Value)} (he : es.toList = entK P w L) (o : List Nat) : (o.filterMap fun i => es[i]?) = entK P w (o.filterMap fun i => L[i]?) := by
  unfold entK
  rw [List.map_filterMap]
  congr 1
  funext i
  rw [← Array.getElem?_toList, he]
  unfold entK
  rw [List.getElem?_map]
theorem picked_hashes {L : List KRow} {es : Array (Int × Value)} (he : es.toList = entK P w L) : ∀ {o : List Nat}, (∀ i ∈ o, i < L.length) → hashesK P w (o.filterMap fun i => L[i]?) = o.map fun i => (es.map (·.1)).getD i 0
  | [], _ => rfl
  | i :: o, h => by
    have hi := h i List.mem_cons_self
    rw [List.filterMap_cons_some (List.getElem?_eq_getElem hi), List.map_cons, ← picked_hashes he fun j hj => h j (List.mem_cons_of_mem _ hj)]
    have e : (es.map (·.1))[i]? = some (hK P w (L[i]).2) := by
      rw [Array.getElem?_map, ent_at he (List.getElem?_eq_getElem hi)]
      rfl
    have e2 : (es.map (·.1)).getD i 0 = hK P w (L[i]).2 := by simp [Array.getD_eq_getD_getElem?, e]
    rw [e2]
    rfl
theorem dull {t : SetTable} {hs : List Int} (T : TabOk t hs) (c : Bool) : TabOk (if c = true then t else { t with plain := false }) hs := by
  cases c
  · exact ⟨T.ris, T.dm, T.sz, T.mok, T.bd, T.reach⟩
  · exact T
variable {A : Around} {E : Value → Shared → Prop} {s : Shared} {a x : Addr} {L : List KRow} {es : Array (Int × Value)} {ep : Nat} {t : SetTable} {k : List Key}
theorem seek0 (R : RowSet P w s.heap a L es ep t) (hx : AtK P w s.heap k x) (hu : A.units < cLine) {Q : SetFound → Shared → Prop} (there : k ∈ L.map (·.2) → Q (.there none) s)
    (gone : ∀ K, k ∉ L.map (·.2) → way t.mask (hK P w k) K ∉ t.place.toList → (∀ c, c < K → way t.mask (hK P w k) c ∈ t.place.toList) → Q (.free (way t.mask (hK P w k) K) false) s) :
    wpAny (model P w) A (setSearch a (.ref x) (hK P w k) true) Q E s := by
  have room := R.loose
  have hl : (hashesK P w L).length = L.length := List.length_map _
  obtain ⟨K, lim, free, full⟩ := R.table.first (by rw [hl]; omega) (hK P w k)
  have big : K < 100000 := by
    have : SetTable.turns t.mask ≤ 142 := by
      unfold SetTable.turns
      rcases R.table.mok with e | e | e <;> rw [e] <;> decide
    omega
  unfold setSearch
  refine seek R hx hu lim free full there (fun n => gone K n free full) 100000 0 none rfl (Nat.zero_le _) (by omega) fun i r hr e => ?_
  have h1 : (hashesK P w L)[i]? = some (hK P w k) := by
    unfold hashesK
    rw [List.getElem?_map, hr, ← e]
    rfl
  have h2 : i < t.place.toList.length := by
    rw [Array.length_toList, R.table.sz, hl]
    exact (List.getElem?_eq_some_iff.mp hr).1
  obtain ⟨d, d1, d2⟩ := R.table.before free h1 (List.getElem?_eq_getElem h2)
  exact ⟨d, Nat.zero_le _, d1, by rw [d2]; exact List.getElem?_eq_getElem h2⟩
/-- the table laid anew -/
theorem grow {o : Obj} (ho : s.heap.get? a = some o) (hex : o.ExactSet) (hd : o.data = .set es ep t) (he : es.toList = entK P w L) (T : TabOk t (hashesK P w L)) (fit : L.length ≤ t.mask) (once : (L.map (·.2)).Nodup)
    (rows : ∀ r ∈ L, AtK P w s.heap r.2 r.1) (ord : w.params.followText "set-order" = true ∨ t.led = true) (few : L.length < 64) {want M : Nat} (hw : SetTable.sizeAbove want - 1 = M) (hM : MaskOk M) (small : SetTable.sizeAbove want ≤ 128) (loose : L.length * 5 < M * 3)
    {Q : Unit → Shared → Prop} (q : ∀ h' L' es' ep' t', Heap.SameBut a s.heap h' → RowSet P w h' a L' es' ep' t' → L'.Perm L → Q () { s with heap := h' }) : wpAny (model P w) A (setRelay a want) Q E s := by
  have el := ent_len he
  have hl : (hashesK P w L).length = L.length := List.length_map _
  have fits := fits_of T (n := es.size) (by rw [el, hl]) (by rw [el]; exact fit)
  obtain ⟨t1, ord1, e1, perm, T1, m1, l1, _, _⟩ := relaid_ok t (hs := es.map (·.1)) (wanted := want) hw hM (by rw [Array.size_map, el]; omega)
  rw [Array.size_map, el] at perm
  have pk := picked L perm
  have same : (ord1.filterMap (es[·]?)).toList = entK P w (ord1.toList.filterMap fun i => L[i]?) := by
    rw [← picked_ents he]
    first | exact Array.toList_filterMap .. | simp
  rw [← picked_hashes he fun i hi => List.mem_range.mp (perm.mem_iff.mp hi)] at T1
  generalize ord1.toList.filterMap (fun i => L[i]?) = L1 at pk same T1
  have n1 : (ord1.filterMap (es[·]?)).size = es.size := by rw [ent_len same, pk.length_eq, el]
  rw [setRelay_eq]
  refine wpAny_bind (wpAny_setState_of ho hd fits ?_)
  dsimp only
  refine wp_if_neg (by rw [sizeLine_eq]; omega) ?_
  try refine wpAny_bind (wpAny_pure ?_)
  rw [e1]
  dsimp only
  refine wpAny_bind (wp_if_neg (by rw [n1]; simp) ?_)
  try refine wpAny_bind (wpAny_pure ?_)
  refine wpAny_pure ?_
  dsimp only
  have sb : Heap.SameBut a s.heap (s.heap.update a (Obj.putSet (ord1.filterMap (es[·]?)) t1)) := Heap.SameBut.update ..
  refine wpAny_storeSet_of ho hd (q _ L1 _ (ep + 1) t1 sb ⟨⟨_, store_at ho hd, ⟨hex.1, hex.2.1, hex.2.2⟩, rfl⟩, same, T1, (pk.map (·.2)).nodup_iff.mpr once, fun r hr => row_keeps (rows r (pk.mem_iff.mp hr)) ho hd sb, by rw [l1]; exact ord, ?_, by rw [pk.length_eq]; exact few⟩ pk) (by rw [n1, el, sizeLine_eq]; omega)
  rw [pk.length_eq, m1]
  exact loose
/-- what stands in the set behind it -/
def Joined (x : Addr) (k : List Key) (L L' : List KRow) : Prop := (k ∈ L.map (·.2) ∧ L' = L) ∨ (k ∉ L.map (·.2) ∧ L'.Perm ((x, k) :: L))
theorem join (R : RowSet P w s.heap a L es ep t) (hx : AtK P w s.heap k x) (hu : A.units < cLine) (room : L.length + 1 < 64) {Q : Bool → Shared → Prop}
    (q : ∀ b h' L' es' ep' t', Heap.SameBut a s.heap h' → RowSet P w h' a L' es' ep' t' → Joined x k L L' → Q b { s with heap := h' }) : wpAny (model P w) A (setAddHashed a (.ref x) (hK P w k)) Q E s := by
  obtain ⟨o, ho, hex, hd⟩ := R.obj
  have el := ent_len R.ents
  have hl : (hashesK P w L).length = L.length := List.length_map _
  have loose := R.loose
  unfold setAddHashed
  refine wpAny_holding ?_
  rw [show (100000 : Nat) = 99999 + 1 from rfl, setAddHashedIn_succ]
  refine wpAny_bind (wpAny_setState_of ho hd R.fits ?_)
  dsimp only
  refine wp_if_neg (by simp [byScan, Value.scannable]) ?_
  try refine wpAny_bind (wpAny_pure ?_)
  refine wpAny_bind (seek0 R hx hu (fun m => ?_) fun K n free full => ?_)
  · exact wpAny_pure (q false s.heap L es ep t (Heap.SameBut.refl a s.heap) R (.inl ⟨m, rfl⟩))
  · dsimp only
    refine wpAny_bind (wpAny_setState_of ho hd R.fits ?_)
    dsimp only
    obtain ⟨p1, p2, p3, p4, p5, _, _, _, p9⟩ := R.table.put free full
    generalize t.put (way t.mask (hK P w k) K) = tp at p1 p3 p4 p5 p9 ⊢
    obtain ⟨t1, p⟩ := tp
    dsimp only at p1 p3 p4 p5 p9 ⊢
    subst p1
    generalize SetTable.below t.place (way t.mask (hK P w k) K) = p at p2 p3 ⊢
    have cont : ∀ c : Bool, wpAny (model P w) A (do
        storeSet a (SetTable.insertAt es p (hK P w k, Value.ref x)) (if c = true then t1 else { t1 with plain := false })
        if (!false && (if c = true then t1 else { t1 with plain := false }).tooFull) = true then setRelay a (SetTable.grown (es.size + 1))
        pure true) Q E s := fun c => by
      have T1 := dull p3 c
      have k1 : (if c = true then t1 else { t1 with plain := false }).mask = t.mask ∧ (if c = true then t1 else { t1 with plain := false }).led = t.led ∧ (if c = true then t1 else { t1 with plain := false }).fill = (hashesK P w L).length + 1 := by
        cases c <;> exact ⟨p4, p5, p9⟩
      generalize (if c = true then t1 else { t1 with plain := false }) = t2 at T1 k1 ⊢
      obtain ⟨m2, o2, f2⟩ := k1
      rw [hl] at f2
      have pm : (L.take p ++ (x, k) :: L.drop p).Perm ((x, k) :: L) := put_perm L p (x, k)
      have ie : (SetTable.insertAt es p (hK P w k, Value.ref x)).toList = entK P w (L.take p ++ (x, k) :: L.drop p) := by
        rw [SetTable.toList_insertAt, R.ents]
        unfold entK
        rw [List.map_append, List.map_cons, List.map_take, List.map_drop]
      have ih : hashesK P w (L.take p ++ (x, k) :: L.drop p) = (hashesK P w L).take p ++ hK P w k :: (hashesK P w L).drop p := by
        unfold hashesK
        rw [List.map_append, List.map_cons, List.map_take, List.map_drop]
      rw [← ih] at T1
      have once : ((L.take p ++ (x, k) :: L.drop p).map (·.2)).Nodup := (pm.map (·.2)).nodup_iff.mpr (List.nodup_cons.mpr ⟨n, R.once⟩)
      generalize SetTable.insertAt es p (hK P w k, Value.ref x) = es1 at ie ⊢
      generalize L.take p ++ (x, k) :: L.drop p = L1 at pm T1 once ie
      have l1 : L1.length = L.length + 1 := pm.length_eq
      have e1 := ent_len ie
      refine wpAny_bind (wpAny_storeSet_of ho hd ?_ (by rw [e1, l1, sizeLine_eq]; omega))
      have sb : Heap.SameBut a s.heap (s.heap.update a (Obj.putSet es1 t2)) := Heap.SameBut.update ..
      have ho1 := store_at (es' := es1) (t' := t2) ho hd
      generalize s.heap.update a (Obj.putSet es1 t2) = h1 at sb ho1 ⊢
      have rows1 : ∀ r ∈ L1, AtK P w h1 r.2 r.1 := fun r hr => by
        rcases List.mem_cons.mp (pm.mem_iff.mp hr) with e | hr
        · rw [e]
          exact row_keeps hx ho hd sb
        · exact row_keeps (R.rows r hr) ho hd sb
      have ord1 : w.params.followText "set-order" = true ∨ t2.led = true := by
        rw [o2]
        exact R.order
      by_cases tf : t2.tooFull = true
      · have over : (L.length + 1) * 5 ≥ t.mask * 3 := by
          have h := tf
          unfold SetTable.tooFull at h
          rw [decide_eq_true_eq, f2, m2] at h
          exact h
        have at2 : (t.mask = 7 ∧ L.length = 4) ∨ (t.mask = 31 ∧ L.length = 18) := by
          rcases R.table.mok with e | e | e
          · exact .inl ⟨e, by omega⟩
          · exact .inr ⟨e, by omega⟩
          · exfalso
            omega
        have laid : ∀ M, SetTable.sizeAbove (SetTable.grown (L.length + 1)) - 1 = M → MaskOk M → SetTable.sizeAbove (SetTable.grown (L.length + 1)) ≤ 128 → (L.length + 1) * 5 < M * 3 →
            wpAny (model P w) A (setRelay a (SetTable.grown (L.length + 1))) (fun _ s' => wpAny (model P w) A (pure true) Q E s') E { s with heap := h1 } := fun M q1 q2 q3 q4 =>
          grow (s := { s with heap := h1 }) ho1 ⟨hex.1, hex.2.1, hex.2.2⟩ rfl ie T1 (by rw [l1, m2]; rcases at2 with ⟨z, z2⟩ | ⟨z, z2⟩ <;> omega) once rows1 ord1 (by omega) q1 q2 q3 (by rw [l1]; exact q4) fun h2 L2 es2 ep2 t3 sb2 R2 pm2 =>
            wpAny_pure (q true h2 L2 es2 ep2 t3 (sb.trans sb2) R2 (.inr ⟨n, pm2.trans pm⟩))
        rw [el]
        first
          | (refine wpAny_bind (wp_if_pos (by simp [tf]) ?_)
             rcases at2 with ⟨_, z⟩ | ⟨_, z⟩
             · exact laid 31 (by rw [z, size_20]) (.inr (.inl rfl)) (by rw [z, size_20]; decide) (by omega)
             · exact laid 127 (by rw [z, size_76]) (.inr (.inr rfl)) (by rw [z, size_76]; decide) (by omega))
          | (refine wp_if_pos (by simp [tf]) (wpAny_bind ?_)
             rcases at2 with ⟨_, z⟩ | ⟨_, z⟩
             · exact laid 31 (by rw [z, size_20]) (.inr (.inl rfl)) (by rw [z, size_20]; decide) (by omega)
             · exact laid 127 (by rw [z, size_76]) (.inr (.inr rfl)) (by rw [z, size_76]; decide) (by omega))
      · have fin := q true h1 L1 es1 (ep + 1) t2 sb ⟨⟨_, ho1, ⟨hex.1, hex.2.1, hex.2.2⟩, rfl⟩, ie, T1, once, rows1, ord1, by
          have h := tf
          unfold SetTable.tooFull at h
          rw [decide_eq_true_eq, f2, m2] at h
          rw [l1, m2]
          omega, by omega⟩ (.inr ⟨n, pm⟩)
        first
          | exact wp_if_neg (by simp [tf]) (wpAny_pure fin)
          | exact wpAny_bind (wp_if_neg (by simp [tf]) (wpAny_pure (wpAny_pure fin)))
    by_cases pl : t1.plain = true
    · first
        | exact wpAny_bind (wp_if_pos pl (row_value hx cont))
        | exact wp_if_pos pl (wpAny_bind (row_value hx cont))
    · first
        | exact wpAny_bind (wp_if_neg pl (wpAny_pure (cont true)))
        | exact wp_if_neg pl (wpAny_bind (wpAny_pure (cont true)))
        | exact wp_if_neg pl (cont true)
end
end KL
set_option Elab.async false
set_option linter.all false
set_option maxRecDepth 100000
set_option maxHeartbeats 4000000
namespace KL
open PySem L2 PySem.Spec PyProof.Rows
/-! ### set(xs), xs rows of ints and texts -/
/-- what the first i rows leave in the set -/
structure Took (rs : List KRow) (i : Nat) (L : List KRow) : Prop where
  sub : ∀ r ∈ L, r ∈ rs.take i
  all : ∀ r ∈ rs.take i, r.2 ∈ L.map (·.2)
  len : L.length ≤ i
theorem Took.on {rs L L' : List KRow} {i : Nat} {r : KRow} (g : Took rs i L) (h : rs[i]? = some r) (j : Joined r.1 r.2 L L') : Took rs (i + 1) L' := by
  have et : rs.take (i + 1) = rs.take i ++ [r] := by
    rw [List.take_add_one, h]
    rfl
  rcases j with ⟨m, rfl⟩ | ⟨_, pm⟩
  · refine ⟨fun x hx => ?_, fun x hx => ?_, Nat.le_succ_of_le g.len⟩
    · rw [et]
      exact List.mem_append_left _ (g.sub x hx)
    · rw [et] at hx
      rcases List.mem_append.mp hx with z | z
      · exact g.all x z
      · rw [List.mem_singleton.mp z]
        exact m
  · refine ⟨fun x hx => ?_, fun x hx => ?_, ?_⟩
    · rw [et]
      rcases List.mem_cons.mp (pm.mem_iff.mp hx) with e | z
      · rw [e]
        exact List.mem_append_right _ (List.mem_singleton.mpr rfl)
      · exact List.mem_append_left _ (g.sub x z)
    · rw [(pm.map (·.2)).mem_iff, List.map_cons]
      rw [et] at hx
      rcases List.mem_append.mp hx with z | z
      · exact List.mem_cons_of_mem _ (g.all x z)
      · rw [List.mem_singleton.mp z]
        exact List.mem_cons_self
    · have l := g.len
      rw [pm.length_eq, List.length_cons]
      omega
section
variable {P : Program} {w : World} {A : Around} {E : Value → Shared → Prop} {s : Shared}
theorem RowSet.move {h h' : Heap} {a : Addr} {L : List KRow} {es : Array (Int × Value)} {ep : Nat} {t : SetTable} (R : RowSet P w h a L es ep t) (k : ∀ o, h.get? a = some o → h'.get? a = some o) (rows : ∀ r ∈ L, AtK P w h' r.2 r.1) : RowSet P w h' a L es ep t := by
  obtain ⟨o, ho, r⟩ := R.obj
  exact ⟨⟨o, k o ho, r⟩, R.ents, R.table, R.once, rows, R.order, R.loose, R.few⟩
theorem rows_fill {I D : Addr} {fp wr : List Addr} {G : Array GenState → Array GenState → Prop} {n : Nat} {Pv : Nat → Value → Prop} {St : Nat → Shared → Prop} {R : Result → Shared → Prop} (W : WalksS P w A.in1 I fp wr G n Pv St) (hD : D ∉ fp)
    (rs : List KRow) (hn : rs.length = n) (few : n < 64) (hv : ∀ i v, Pv i v → ∃ r, rs[i]? = some r ∧ v = .ref r.1) (h0 : Heap) (at0 : ∀ r ∈ rs, AtK P w h0 r.2 r.1) (D0 : h0.get? D = none) (w0 : ∀ b ∈ wr, h0.get? b = none) (hu : A.in1.units < cLine) (left : Nat) :
    ∀ (i : Nat) (s : Shared) (L : List KRow), i + left = n → St i s → (∀ b o, h0.get? b = some o → s.heap.get? b = some o) → (∃ es ep t, RowSet P w s.heap D L es ep t) → Took rs i L →
      (∀ s' L', Moved (D :: wr) G s s' → (∃ es ep t, RowSet P w s'.heap D L' es ep t) → Took rs n L' → R (.ok (.ret .none)) s') → codeAny (model P w) A (.builtin "set.update.loop" ⟨[.ref D, .ref I], []⟩) R s := by
  have off : D ∉ wr := fun z => hD (W.sub _ z)
  have more : ∀ b ∈ wr, b ∈ D :: wr := fun b z => List.mem_cons_of_mem _ z
  have stay : ∀ {s s' : Shared}, Moved wr G s s' → (∀ b o, h0.get? b = some o → s.heap.get? b = some o) → ∀ b o, h0.get? b = some o → s'.heap.get? b = some o := fun mv up b o e => mv.heap b o (fun z => by rw [w0 b z] at e; cases e) (up b o e)
  induction left with
  | zero =>
    intro i s L e st up S g k
    have e : i = n := e
    subst e
    obtain ⟨es, ep, t, S⟩ := S
    refine codeAny_builtin F.entry_set_update_loop ?_
    rw [Around.under_plainId F.plain_set_update_loop _]
    show wpAny _ A.in1 (pyNext (.ref I) >>= _) _ _ s
    refine wpAny_bind (W.done s _ _ st fun s' mv => ?_)
    show wpAny _ A.in1 (ret Value.none) _ _ s'
    exact wpAny_pure (k s' L (mv.mono more) ⟨es, ep, t, S.move (fun o q => mv.heap D o off q) fun r hr => row_more (at0 r (List.mem_of_mem_take (g.sub r hr))) (stay mv up)⟩ g)
  | succ left ih =>
    intro i s L e st up S g k
    obtain ⟨es, ep, t, S⟩ := S
    refine codeAny_builtin F.entry_set_update_loop ?_
    rw [Around.under_plainId F.plain_set_update_loop _]
    show wpAny _ A.in1 (pyNext (.ref I) >>= _) _ _ s
    refine wpAny_bind (W.item i s _ _ (by omega) st fun v s' hp st' mv => ?_)
    obtain ⟨r, hr, rfl⟩ := hv i v hp
    have up2 := stay mv up
    have hx : AtK P w s'.heap r.2 r.1 := row_more (at0 r (List.mem_of_getElem? hr)) up2
    show wpAny _ A.in1 (holding [Value.ref r.1] (setAdd D (.ref r.1)) >>= _) _ _ s'
    refine wpAny_bind (wpAny_holding ?_)
    unfold setAdd
    refine wpAny_holding (wpAny_bind (wpAny_pyHash_tuple hu hx ?_))
    have S1 := S.move (h' := s'.heap) (fun o q => mv.heap D o off q) fun q hq => row_more (at0 q (List.mem_of_mem_take (g.sub q hq))) up2
    refine join (s := { s' with toks := s'.toks + (r.2.length + 1) }) S1 hx hu (by have := g.len; omega) fun bb h' L' es' ep' t' sb S2 j => ?_
    have up3 : ∀ b o, h0.get? b = some o → h'.get? b = some o := fun b o e => (sb.2 b fun z => by rw [z, D0] at e; cases e).trans (up2 b o e)
    refine wpAny_pure ⟨plainId_quiet F.plain_set_update_loop _, ih (i + 1) _ L' (by omega) (W.frame _ s' _ _ st' (Nat.le_add_right _ _) fun b hb o e => ?_) up3 ⟨es', ep', t', S2⟩ (g.on hr j) fun s2 L2 mv2 S3 g3 => ?_⟩
    · have nb : b ≠ D := fun c => hD (by rw [← c]; exact hb)
      rw [sb.2 b nb]
      exact e
    · refine k s2 L2 (Moved.trans W.gtrans ((mv.mono more).then_heap (Nat.le_add_right _ _) fun b o hb e => ?_) mv2) S3 g3
      have nb : b ≠ D := fun c => hb (by rw [c]; exact List.mem_cons_self)
      rw [sb.2 b nb]
      exact e
theorem call_set_rows {l : Addr} {us : Array Value} {rs : List KRow} {Q : Value → Shared → Prop} (hh : A.handled = none) (hl : s.heap.IsList l us) (rv : us.toList = rs.map fun r => Value.ref r.1) (at0 : ∀ r ∈ rs, AtK P w s.heap r.2 r.1) (few : rs.length < 64) (hu : A.units + 3 < cLine)
    (h : ∀ h' tk L, (∃ es ep t, RowSet P w h' s.heap.objs.size L es ep t) → Took rs rs.length L → (∀ b o, s.heap.get? b = some o → h'.get? b = some o) → Q (.ref s.heap.objs.size) { s with heap := h', toks := tk }) :
    wpAny (model P w) A (call (.type "set") [.ref l]) Q E s := by
  have sz : us.size = rs.length := by
    rw [← Array.length_toList, rv, List.length_map]
  refine type_made (Q₁ := fun obj s₁ => obj = .ref s.heap.objs.size ∧ s₁ = { s with heap := s.heap.push { cls := .type "set", dict := none, data := .set #[] 0 (.fresh 0 0 (!w.params.followText "set-order")) } }) F.called_set (F.typeCall_set_1 _) F.entry_set_init (code_set_led1 _ ⟨rfl, rfl⟩) ?_
  rintro obj s₁ ⟨rfl, rfl⟩
  have new : (s.heap.push { cls := .type "set", dict := none, data := .set #[] 0 (.fresh 0 0 (!w.params.followText "set-order")) }).get? s.heap.objs.size = some { cls := .type "set", dict := none, data := .set #[] 0 (.fresh 0 0 (!w.params.followText "set-order")) } := Heap.get?_push_size _ rfl
  refine ⟨⟨_, new, rfl⟩, fun q => check_set_init_1 ⟨_, new, rfl⟩ q, ?_⟩
  have hT : Shared.TypeIs { s with heap := s.heap.push { cls := .type "set", dict := none, data := .set #[] 0 (.fresh 0 0 (!w.params.followText "set-order")) } } (.ref s.heap.objs.size) "set" := ⟨_, new, rfl⟩
  obtain ⟨⟨cls, dd, dat, sl⟩, ho, hc, n, hd⟩ := hl
  simp only at hc hd
  subst hc hd
  have ho' : (s.heap.push { cls := .type "set", dict := none, data := .set #[] 0 (.fresh 0 0 (!w.params.followText "set-order")) }).get? l = some { cls := .type "list", dict := dd, data := .seq us n, slots := sl } := Heap.get?_push_of_some _ ho
  have hl' : (s.heap.push { cls := .type "set", dict := none, data := .set #[] 0 (.fresh 0 0 (!w.params.followText "set-order")) }).IsList l us := ⟨_, ho', rfl, n, rfl⟩
  have hz : (s.heap.push { cls := .type "set", dict := none, data := .set #[] 0 (.fresh 0 0 (!w.params.followText "set-order")) }).objs.size = s.heap.objs.size + 1 := Heap.size_push ..
  have b1 := F.sub_list_set
  have b2 := F.sub_list_frozenset
  have b3 : (Value.type "list" == Value.type "dict") = false := by decide
  unfold Builtin.«set.__init__» noKeywords Builtin.Frozenset.updateFrom
  generalize hPI : pyIter = PI
  wp_walk
  subst hPI
  have lS : l < s.heap.objs.size := Heap.lt_size ho
  have nI : l ≠ (s.heap.push { cls := .type "set", dict := none, data := .set #[] 0 (.fresh 0 0 (!w.params.followText "set-order")) }).objs.size := by
    rw [hz]
    exact Nat.ne_of_lt (Nat.lt_succ_of_lt lS)
  have hD : s.heap.objs.size ∉ [(s.heap.push { cls := .type "set", dict := none, data := .set #[] 0 (.fresh 0 0 (!w.params.followText "set-order")) }).objs.size, l] := fun z => by
    rcases List.mem_cons.mp z with z | z
    · rw [hz] at z
      exact Nat.ne_of_lt (Nat.lt_succ_self _) z
    · have := List.mem_singleton.mp z
      exact Nat.ne_of_gt lS this
  have hv : ∀ (i : Nat) (v : Value), us[i]? = some v → ∃ r, rs[i]? = some r ∧ v = .ref r.1 := fun i v e => by
    have e : us.toList[i]? = some v := by rw [Array.getElem?_toList]; exact e
    rw [rv, List.getElem?_map] at e
    cases ex : rs[i]? with
    | none =>
      rw [ex] at e
      cases e
    | some x =>
      rw [ex] at e
      exact ⟨x, rfl, (Option.some.inj e).symm⟩
  have gone : ∀ b, s.heap.objs.size ≤ b → s.heap.get? b = none := fun b hb => by
    cases q : s.heap.get? b with
    | none => rfl
    | some o => exact absurd (Heap.lt_size q) (Nat.not_lt.mpr hb)
  refine wpAny_pyIter_list hl' ?_
  refine wpAny_bind (wpAny_runValue ?_)
  refine rows_fill ((Walks.list (show A.in1.in1.in1.handled = none by simp [hh]) _ l nI us).toS) hD rs sz.symm (by omega) hv s.heap at0 (gone _ (Nat.le_refl _)) (fun b hb => gone b (by
      rw [List.mem_singleton.mp hb, hz]
      exact Nat.le_succ _)) hu us.size 0 _ [] (by omega)
    ⟨⟨_, Heap.get?_push_size _ rfl, rfl, rfl⟩, hl'.push _⟩ (fun b o e => Heap.get?_push_of_some _ (Heap.get?_push_of_some _ e)) ⟨#[], 0, _, ⟨_, Heap.get?_push_of_some _ new, ⟨rfl, rfl, rfl⟩, rfl⟩, rfl, ⟨List.Pairwise.nil, rfl, rfl, .inl rfl, fun x hx => (by cases hx), fun i h j hi => (by simp [hashesK] at hi)⟩, List.nodup_nil, fun r hr => (by cases hr), ?_, (by show 0 * 5 < 7 * 3; decide), (by show 0 < 64; decide)⟩ ⟨fun r hr => (by cases hr), fun r hr => (by simp at hr), Nat.le_refl _⟩ ?_
  · show _ ∨ (!w.params.followText "set-order") = true
    cases w.params.followText "set-order"
    · exact .inr rfl
    · exact .inl rfl
  · intro s' L mv S g
    obtain ⟨h', g', d', tk', os'⟩ := s'
    have eg : g' = s.gens := mv.gens
    have ed : d' = s.drawn := mv.drawn
    have eo : os' = s.os := mv.os
    subst eg ed eo
    show wpAny _ _ _ _ _ _
    refine wpAny_pure ?_
    show wpAny _ _ (ret Value.none) _ _ _
    rw [sz] at g
    refine wpAny_pure ⟨rfl, h h' tk' L S g fun b o e => ?_⟩
    have bS : b < s.heap.objs.size := Heap.lt_size e
    refine mv.heap b o (fun z => ?_) (Heap.get?_push_of_some _ (Heap.get?_push_of_some _ e))
    rcases List.mem_cons.mp z with z | z
    · exact Nat.ne_of_lt bS z
    · have z := List.mem_singleton.mp z
      rw [hz] at z
      exact Nat.ne_of_lt (Nat.lt_succ_of_lt bS) z
end
end KL
set_option Elab.async false
set_option linter.all false
set_option maxRecDepth 100000
set_option maxHeartbeats 4000000
namespace KL
open PySem L2 PySem.Spec PyProof.Rows
/-! ### sets of rows by rule: set(xs), sorted(set) -/
def keyD : Key → PyData
  | .inl i => .int i
  | .inr x => .str x
def rowD (k : List Key) : PyData := .tuple (k.map keyD)
theorem keys_dq {H : Hp} : ∀ k : List Key, DqAll H (k.map kV) (k.map keyD)
  | [] => .nil
  | .inl i :: k => .cons (.int i) (keys_dq k)
  | .inr x :: k => .cons (.str x) (keys_dq k)
theorem row_dq {H : Hp} {r : KRow} (h : H r.1 = some (.tup (r.2.map kV))) : Dq H (.ref r.1) (rowD r.2) := .tup h (keys_dq r.2)
theorem row_depth : ∀ k : List Key, PyData.depthAll (k.map keyD) = 0
  | [] => rfl
  | .inl i :: k => by
    show max 0 (PyData.depthAll (k.map keyD)) = 0
    rw [row_depth k]
    rfl
  | .inr x :: k => by
    show max 0 (PyData.depthAll (k.map keyD)) = 0
    rw [row_depth k]
    rfl
theorem items_read {P : Program} {w : World} {h : Heap} : ∀ {k : List Key} {vs : List Value}, ItemsAre (mixKind P w) k vs → ReadsAll h vs (k.map keyD) []
  | _, _, .nil => .nil
  | _, _, .cons (k := k0) h1 t => by
    have r := items_read (h := h) t
    rcases keyIs_shape (k := k0) h1 with ⟨i, tk, rfl, rfl⟩ | ⟨x, tk, rfl, rfl⟩
    · exact .cons (as := []) (bs := []) (.int i tk) r
    · exact .cons (as := []) (bs := []) (.str x tk) r
theorem AtK.read {P : Program} {w : World} {h : Heap} {k : List Key} {b : Addr} (x : AtK P w h k b) : Reads h (.ref b) (rowD k) [] := by
  obtain ⟨ob, its, c, h1, h2, h3, h4⟩ := x
  exact .tuple h1 h2 h3 (items_read h4)
structure RowS0 (P : Program) (w : World) (h : Heap) (a : Addr) (L : List KRow) : Prop where
  ex : ∃ es ep t, (∃ o, h.get? a = some o ∧ o.ExactSet ∧ o.data = .set es ep t) ∧ es.toList = entK P w L ∧ TabOk t (hashesK P w L) ∧ (w.params.followText "set-order" = true ∨ t.led = true) ∧ L.length * 5 < t.mask * 3
  once : (L.map (·.2)).Nodup
  few : L.length < 64
def RowsO (P : Program) (w : World) (a : Addr) (L : List KRow) : HO := .ext fun h => RowS0 P w h a L
theorem rowsO_ok {P : Program} {w : World} {H : Hp} {h : Heap} {a : Addr} {L : List KRow} (R : RowS0 P w h a L) : ObjOk P w H h a (RowsO P w a L) := by
  obtain ⟨⟨es, ep, t, ⟨o, ho, r⟩, q⟩, o1, f⟩ := id R
  exact ⟨R, ⟨o, ho⟩, fun _ _ p k => by
    obtain ⟨⟨es, ep, t, ⟨o, ho, r⟩, q⟩, o1, f⟩ := p
    exact ⟨⟨es, ep, t, ⟨o, k o ho, r⟩, q⟩, o1, f⟩⟩
theorem RowSet.bare {P : Program} {w : World} {h : Heap} {a : Addr} {L : List KRow} {es : Array (Int × Value)} {ep : Nat} {t : SetTable} (R : RowSet P w h a L es ep t) : RowS0 P w h a L :=
  ⟨⟨es, ep, t, R.obj, R.ents, R.table, R.order, R.loose⟩, R.once, R.few⟩
def rSetR (K : PySem.W.Frag) (P : Program) (w : World) : List V → Hp → VK → Prop := fun vs H Q => ∃ (a : Addr) (rs : List KRow), vs = [V.ref a] ∧ SqL K H a (rs.map fun r => V.ref r.1) ∧ (∀ r ∈ rs, H r.1 = some (.tup (r.2.map kV))) ∧ rs.length < 64 ∧
  ∀ p L, H p = none → (∀ r ∈ L, r ∈ rs) → (L.map (·.2)).Nodup → (∀ r ∈ rs, r.2 ∈ L.map (·.2)) → Q (.ref p) (upd H p (RowsO P w p L))
def rSortR (P : Program) (w : World) : List V → Hp → VK → Prop := fun vs H Q => ∃ (a : Addr) (L : List KRow), vs = [V.ref a] ∧ H a = some (RowsO P w a L) ∧ (∀ r ∈ L, H r.1 = some (.tup (r.2.map kV))) ∧ (∀ r ∈ L, ∀ r' ∈ L, PySem.W.alike (rowD r.2) (rowD r'.2) = true) ∧ (∀ r ∈ L, r.2 ≠ []) ∧
  ∀ (ms : List KRow) (ys : List V) (p : Addr), ms.Perm L → DqAll H ys ((ms.map fun r => rowD r.2).mergeSort leD) → H p = none → Q (.ref p) (upd H p (.lst ys))
theorem refs_vals : ∀ {rs : List KRow} {us : List Value}, Vals (rs.map fun r => V.ref r.1) us → us = rs.map fun r => Value.ref r.1
  | [], _, h => by
    cases h
    rfl
  | r :: rs, _, h => by
    cases h with
    | cons h1 h2 =>
      rw [refs_vals h2]
      cases (show _ = Value.ref r.1 from h1)
      rfl
theorem vals_rows : ∀ rs : List KRow, Vals (rs.map fun r => V.ref r.1) (rs.map fun r => Value.ref r.1)
  | [] => .nil
  | _ :: rs => .cons rfl (vals_rows rs)
theorem paired_rows : ∀ L : List KRow, Paired (fun (v : Value) (r : KRow) => v = .ref r.1) (L.map fun r => Value.ref r.1) L
  | [] => .nil
  | _ :: L => .cons rfl (paired_rows L)
theorem rows_paired : ∀ {out : List Value} {ms : List KRow}, Paired (fun (v : Value) (r : KRow) => v = .ref r.1) out ms → out = ms.map fun r => Value.ref r.1
  | _, _, .nil => rfl
  | _, _, .cons h t => by
    rw [rows_paired t, h]
    rfl
theorem each_rows {R : Value → KRow → Prop} : ∀ (ms : List KRow), (∀ r ∈ ms, R (.ref r.1) r) → PySem.W.EachIs R (ms.map fun r => Value.ref r.1) ms
  | [], _ => .nil
  | r :: ms, h => .cons (h r List.mem_cons_self) (each_rows ms fun x hx => h x (List.mem_cons_of_mem _ hx))
theorem rows_each : ∀ {us : List Value} {ms : List KRow}, PySem.W.EachIs (fun (v : Value) (r : KRow) => v = .ref r.1) us ms → us = ms.map fun r => Value.ref r.1
  | _, _, .nil => rfl
  | _, _, .cons h t => by
    rw [rows_each t, h]
    rfl
section
variable {X : Cx}
theorem cr_setR (hc : X.calm = true) (hu : X.A.units + 64 < cLine) : CallR X (.type "set") (rSetR X.K X.prog X.w) := by
  intro pins s σ H vs us Q I r h
  obtain ⟨a, rs, rfl, hs, rows, few, q⟩ := h
  obtain ⟨its, rv, hl, _⟩ := I.list hs
  rw [Vals.ref1 r]
  refine call_set_rows (rs := rs) (I.ok.hd hc) hl.isList (by rw [← refs_vals rv]) (fun x hx => key_of I.hok (rows x hx)) few (by omega) fun h' tk L S g keep => ?_
  obtain ⟨es, ep, t, S⟩ := S
  have all := g.all
  have sub := g.sub
  rw [List.take_length] at all sub
  exact ⟨.ref s.heap.objs.size, upd H s.heap.objs.size (RowsO X.prog X.w s.heap.objs.size L), I.laid (t' := tk) keep (Nat.le_refl _) (rowsO_ok S.bare), rfl, q _ L (I.hok.fresh (Nat.le_refl _)) sub S.once all⟩
theorem cr_sortR (hc : X.calm = true) (hu : X.A.units + 64 < cLine) : CallR X (.builtin "sorted") (rSortR X.prog X.w) := by
  intro pins s σ H vs us Q I r h
  obtain ⟨a, L, rfl, ha, rows, alk, ne, q⟩ := h
  have R : RowS0 X.prog X.w s.heap a L := (I.hok a _ ha).1
  rw [Vals.ref1 r]
  obtain ⟨⟨es, ep, t, ⟨o, ho, hx, hd⟩, ents, tab, ord, loose⟩, once, few⟩ := R
  have el := ent_len ents
  have at0 : ∀ x ∈ L, AtK X.prog X.w s.heap x.2 x.1 := fun x hx => key_of I.hok (rows x hx)
  have hf : t.fits es.size = true := fits_of tab (by rw [el]; exact (List.length_map _).symm) (by omega)
  refine Calls.call_function_entry kind_sorted plain_sorted entry_sorted (args_sorted1 _) ?_
  unfold Builtin.«sorted»
  refine wpAny_bind (m := checkCount "sorted" 1 1 _) (wpAny_pure ?_)
  refine wpAny_bind (collect_set (A := X.A.in1) (I.ok.hd hc) ⟨o, ho, hx.1, hd⟩ hf (by unfold scanBound; omega) tab.ris ord fun s1 out k1 z1 g1 o1 pm => ?_)
  have ev : es.toList.map (·.2) = L.map fun r => Value.ref r.1 := by
    rw [ents]
    unfold entK
    rw [List.map_map]
    rfl
  rw [ev] at pm
  obtain ⟨ms, pms, prm⟩ := paired_perm pm (paired_rows L)
  have eo := rows_paired prm
  subst eo
  have lm : ms.length = L.length := pms.length_eq
  have lz : (ms.map fun r => Value.ref r.1).length ≤ sizeLine := by
    rw [List.length_map, sizeLine_eq]
    omega
  refine wpAny_bind (wpAny_newList ?_ lz)
  have hoL : (s1.heap.push (seqObj "list" (ms.map fun r => Value.ref r.1).toArray 0)).get? s1.heap.objs.size = some (seqObj "list" (ms.map fun r => Value.ref r.1).toArray 0) := Heap.get?_push_size _ rfl
  have inL : ∀ x ∈ ms, x ∈ L := fun x hx => pms.mem_iff.mp hx
  have e1 : PySem.W.EachIs (fun (v : Value) (r : KRow) => v = .ref r.1) (ms.map fun r => Value.ref r.1) ms := each_rows ms fun _ _ => rfl
  have e2 : PySem.W.EachIs (fun (v : Value) (r : KRow) => ∃ as, Reads (s1.heap.push (seqObj "list" (ms.map fun r => Value.ref r.1).toArray 0)) v (rowD r.2) as ∧ s1.heap.objs.size ∉ as) (ms.map fun r => Value.ref r.1) ms :=
    each_rows ms fun x hx => ⟨[], (row_more (at0 x (inL x hx)) fun c o e => Heap.get?_push_of_some _ (k1 c o e)).read, fun z => nomatch z⟩
  have al : PySem.W.AllAlike (ms.map fun r => rowD r.2) := fun d hd d' hd' => by
    obtain ⟨x, hx, rfl⟩ := List.mem_map.mp hd
    obtain ⟨y, hy, rfl⟩ := List.mem_map.mp hd'
    exact alk x (inL x hx) y (inL y hy)
  have so : PySem.W.Sortable (ms.map fun r => rowD r.2) := .inl fun d hd => by
    obtain ⟨x, hx, rfl⟩ := List.mem_map.mp hd
    have := ne x (inL x hx)
    obtain ⟨_, k⟩ := x
    cases k with
    | nil => exact absurd rfl this
    | cons k0 k => exact ⟨_, _, rfl⟩
  refine wpAny_bind (wpAny_holding (PySem.W.list_sort_data hoL e1 e2 al so (by rw [lm, sizeLine_eq]; omega) (fun b _ => (by show X.A.units + 1 + 1 + (PyData.depthAll (b.2.map keyD) + 1) < cLine; rw [row_depth]; omega)) fun srt ls es' => ?_))
  have evs := rows_each es'
  have ed : (ms.mergeSort (PySem.W.dataLe false fun r : KRow => rowD r.2)).map (fun r => rowD r.2) = (ms.map fun r => rowD r.2).mergeSort leD := List.map_mergeSort fun _ _ _ _ => rfl
  have pmm : (ms.mergeSort (PySem.W.dataLe false fun r : KRow => rowD r.2)).Perm ms := List.mergeSort_perm _ _
  generalize ms.mergeSort (PySem.W.dataLe false fun r : KRow => rowD r.2) = ns at evs ed pmm
  subst evs
  obtain ⟨c, hcc⟩ := sortedHeap_at (vs := ms.map fun r => Value.ref r.1) (out := (ns.map fun r => Value.ref r.1).toArray) hoL
  have len : (ns.map fun r => V.ref r.1).length ≤ sizeLine := by
    rw [List.length_map, pmm.length_eq, lm, sizeLine_eq]
    omega
  have keep : ∀ b u, s.heap.get? b = some u → (sortedHeap (s1.heap.push (seqObj "list" (ms.map fun r => Value.ref r.1).toArray 0)) s1.heap.objs.size (ms.map fun r => Value.ref r.1) (ns.map fun r => Value.ref r.1).toArray).get? b = some u := fun b u e => by
    have e1 := k1 b u e
    have lt := Heap.lt_size e1
    rw [sortedHeap_old (Nat.ne_of_lt lt) (by rw [size_push']; exact Nat.lt_succ_of_lt lt)]
    exact Heap.get?_push_of_some _ e1
  have hn : H s1.heap.objs.size = none := I.hok.fresh z1
  have J : Inv X pins σ (upd H s1.heap.objs.size (.lst (ns.map fun r => V.ref r.1))) { s with heap := sortedHeap (s1.heap.push (seqObj "list" (ms.map fun r => Value.ref r.1).toArray 0)) s1.heap.objs.size (ms.map fun r => Value.ref r.1) (ns.map fun r => Value.ref r.1).toArray, gens := s1.gens, drawn := s1.drawn, toks := s1.toks } :=
    I.call (ch := []) (Un.laid keep z1 hn) (I.hok.laid keep z1 ⟨len, _, c, vals_rows ns, hcc⟩) (by rw [g1]; exact I.bare) (fun _ z => nomatch z)
  have es1 : ({ s1 with heap := sortedHeap (s1.heap.push (seqObj "list" (ms.map fun r => Value.ref r.1).toArray 0)) s1.heap.objs.size (ms.map fun r => Value.ref r.1) (ns.map fun r => Value.ref r.1).toArray } : Shared) = { s with heap := sortedHeap (s1.heap.push (seqObj "list" (ms.map fun r => Value.ref r.1).toArray 0)) s1.heap.objs.size (ms.map fun r => Value.ref r.1) (ns.map fun r => Value.ref r.1).toArray, gens := s1.gens, drawn := s1.drawn, toks := s1.toks } := by
    cases s1
    cases s
    cases o1
    rfl
  refine wpAny_pure ⟨_, rfl, ?_⟩
  rw [es1]
  refine ⟨.ref _, _, J, rfl, q ms _ _ pms ?_ hn⟩
  rw [← ed]
  have rowsN : ∀ x ∈ ns, H x.1 = some (.tup (x.2.map kV)) := fun x hx => rows x (inL x (pmm.mem_iff.mp hx))
  clear ed pmm len keep J es1 hcc ls es'
  induction ns with
  | nil => exact .nil
  | cons x ns ih => exact .cons (row_dq (rowsN x List.mem_cons_self)) (ih fun y hy => rowsN y (List.mem_cons_of_mem _ hy))
end
end KL
set_option Elab.async false
set_option linter.all false
set_option maxRecDepth 100000
set_option maxHeartbeats 2000000
namespace KL
open PySem L2 PySem.Spec PyProof.Rows
abbrev sIsMark : Stmt := top 10
abbrev sAreMarks : Stmt := top 11
abbrev sIsMove : Stmt := top 18
abbrev sAreMoves : Stmt := top 19
abbrev sAreEnds : Stmt := top 20
/-! ### the mirror: marks, moves, ends -/
def okS (x : Str) : Bool := PyData.strOk x
mutual
/-- all texts in it can be laid -/
def okD : PyData → Bool
  | .str x => okS x
  | .list ds => okAll ds
  | .tuple ds => okAll ds
  | _ => true
def okAll : List PyData → Bool
  | [] => true
  | d :: r => okD d && okAll r
end
theorem ok_at : ∀ {ds : List PyData} {i : Nat} {d : PyData}, okAll ds = true → ds[i]? = some d → okD d = true
  | [], _, _, _, e => by simp at e
  | d :: ds, 0, d', h, e => by
    simp at e
    subst e
    exact (Bool.and_eq_true_iff.mp (show (okD d && okAll ds) = true from h)).1
  | d :: ds, i + 1, d', h, e => ok_at (Bool.and_eq_true_iff.mp (show (okD d && okAll ds) = true from h)).2 (by simpa using e)
def markD (d : PyData) : Bool := strB d && !isStrD "" d
def marksD (d : PyData) : Bool := isTupD d && allD markD d
def moveD (n : Int) (d : PyData) : Bool := tupD 4 4 d && (betD 0 (n - 1) (itemD 0 d) && (markD (itemD 1 d) && (marksD (itemD 2 d) && betD 0 (n - 1) (itemD 3 d))))
def cut2 : PyData → PyData
  | .tuple ds => .tuple (ds.take 2)
  | d => d
def movesD (n : Int) (d : PyData) : Bool := isTupD d && (allD (moveD n) d && ascD ((itemsD d).map cut2))
def endD (n : Int) (d : PyData) : Bool := betD 0 (n - 1) (itemD 0 d) && marksD (itemD 1 d)
def endsD (n : Int) (d : PyData) : Bool := isTupD d && (allD (tupD 2 2) d && (allD (endD n) d && ascD ((itemsD d).map (itemD 0))))
/-- a test of one thing behind a number -/
def spTestN (f : Int → PyData → Bool) : Sp := fun vs H Q _ => ∃ (v : V) (d : PyData) (n : Int), vs = [.int n, v] ∧ Dq H v d ∧ smB d = true ∧ okD d = true ∧ ∀ H', Same H H' → Q (.bl (f n d)) H'
theorem four {ds : List PyData} (h1 : (4 : Int) ≤ (ds.length : Int)) (h2 : (ds.length : Int) ≤ 4) : ∃ a b c d, ds = [a, b, c, d] := by
  match ds, h1, h2 with
  | [a, b, c, d], _, _ => exact ⟨a, b, c, d, rfl⟩
  | [], h, _ => simp at h
  | [_], h, _ => simp at h
  | [_, _], h, _ => simp at h
  | [_, _, _], h, _ => simp at h
  | _ :: _ :: _ :: _ :: _ :: _, _, h =>
    simp at h
    omega
theorem two {ds : List PyData} (h1 : (2 : Int) ≤ (ds.length : Int)) (h2 : (ds.length : Int) ≤ 2) : ∃ a b, ds = [a, b] := by
  match ds, h1, h2 with
  | [a, b], _, _ => exact ⟨a, b, rfl⟩
  | [], h, _ => simp at h
  | [_], h, _ => simp at h
  | _ :: _ :: _ :: _, _, h =>
    simp at h
    omega
theorem mark_of {d : PyData} (h : markD d = true) : ∃ x, d = .str x ∧ x ≠ "" := by
  cases d with
  | str x =>
    refine ⟨x, rfl, fun e => ?_⟩
    subst e
    have h : (true && !((("" : Str) == ("" : Str)))) = true := h
    simp at h
  | _ => cases h
theorem move_of {n : Int} {d : PyData} (h : moveD n d = true) : ∃ i x w t, d = .tuple [.int i, .str x, w, .int t] := by
  simp only [moveD, Bool.and_eq_true] at h
  obtain ⟨h1, h2, h3, h4, h5⟩ := h
  obtain ⟨ds, rfl, l1, l2⟩ := tup_of h1
  obtain ⟨a, b, c, d, rfl⟩ := four l1 l2
  obtain ⟨i, rfl, _⟩ := bet_of (show betD 0 (n - 1) a = true from h2)
  obtain ⟨x, rfl, _⟩ := mark_of (show markD b = true from h3)
  obtain ⟨t, rfl, _⟩ := bet_of (show betD 0 (n - 1) d = true from h5)
  exact ⟨i, x, c, t, rfl⟩
theorem lay_cuts {n : Int} : ∀ {ds : List PyData}, ds.all (moveD n) = true → okAll ds = true → PyData.canLayAll0 (ds.map cut2) = true ∧ PyData.depthAll (ds.map cut2) ≤ 1
  | [], _, _ => ⟨rfl, Nat.zero_le _⟩
  | d :: ds, h, o => by
    have h' := Bool.and_eq_true_iff.mp (show (moveD n d && ds.all (moveD n)) = true from h)
    have o' := Bool.and_eq_true_iff.mp (show (okD d && okAll ds) = true from o)
    obtain ⟨q1, q2⟩ := lay_cuts h'.2 o'.2
    obtain ⟨i, x, w, t, rfl⟩ := move_of h'.1
    have ox : PyData.strOk x = true := ok_at (i := 1) (d := .str x) (show okAll _ = true from o'.1) rfl
    refine ⟨?_, ?_⟩
    · show ((true && (PyData.strOk x && true)) && PyData.canLayAll0 (ds.map cut2)) = true
      rw [ox, q1]
      rfl
    · show max 1 (PyData.depthAll (ds.map cut2)) ≤ 1
      omega
theorem cmp_cuts {n : Int} {ds : List PyData} (h : ds.all (moveD n) = true) (i : Nat) (hi : i + 1 < (ds.map cut2).length) : cmpD ((ds.map cut2).getD i .none) ((ds.map cut2).getD (i + 1) .none) = true := by
  rw [List.length_map] at hi
  rw [getD_map (by omega), getD_map hi]
  obtain ⟨i1, x1, w1, t1, e1⟩ := move_of (all_at (f := moveD n) h (show i < ds.length by omega))
  obtain ⟨i2, x2, w2, t2, e2⟩ := move_of (all_at (f := moveD n) h hi)
  rw [e1, e2]
  rfl
section
variable {P : Program} {w : World} {K : PySem.W.Frag} {mg : Str → Option Value} {base : Heap}
theorem scIsMark : FnScope ["thing"] ["thing"] (defScope sIsMark) := ⟨rfl, rfl, rfl, by decide +kernel, rfl, by decide +kernel, by decide +kernel⟩
theorem ok_mark {f : Addr} {fd : FuncData} (F : Fun K "is_mark" "is_mark" sIsMark f fd) (T : TxtB mg) : FnOk P w K mg base CX0 1 f fd ["thing"] (spTest markD) := by
  refine F.ok scIsMark (fun vs H Q E h => ?_) (fun cdv A outer s H vs Q E hr h => ?_)
  · obtain ⟨v, d, rfl, _⟩ := h
    rfl
  · obtain ⟨v, d, rfl, hd, sm, k⟩ := h
    refine ⟨_, pss_one (ps_ret (pe_and (pe_callB call_isD (by rfl) T.isi (by decide +kernel) (pa_cons (pv 0) (pa_cons (pe_bltn (v := .ty "str") (by rfl) T.str (by decide +kernel) rfl) pa_nil)))
      (pe_one (pe_cmpR (op_neStr hr.units) (pv 0) pe_str (nomark _))))), ?_⟩
    have q := k H (Same.refl H)
    refine ⟨_, rfl, v, d, "str", rfl, by decide, hd, _, rfl, ?_⟩
    cases hd with
    | str x =>
      refine iteYes rfl ?_
      exact ⟨_, rfl, .str x, "", .str x, rfl, q⟩
    | non => exact q
    | bl _ => exact q
    | int _ => exact q
    | lst _ _ => exact q
    | tup _ _ => exact q
    | dct0 _ => exact q
    | dct1 _ => exact q
theorem scAreMarks : FnScope ["thing", "mark"] ["thing"] (defScope sAreMarks) := ⟨rfl, rfl, rfl, by decide +kernel, rfl, by decide +kernel, by decide +kernel⟩
theorem ok_marks {f g : Addr} {fd gd : FuncData} (F : Fun K "are_marks" "are_marks" sAreMarks f fd) (T : TxtB mg) (G : FnOk P w K mg base CX0 1 g gd ["thing"] (spTest markD)) (c : Cal K mg "is_mark" g gd ["thing"]) : FnOk P w K mg base CX0 2 f fd ["thing"] (spTest marksD) := by
  refine F.ok scAreMarks (fun vs H Q E h => ?_) (fun cdv A outer s H vs Q E hr h => ?_)
  · obtain ⟨v, d, rfl, _⟩ := h
    rfl
  · obtain ⟨v, d, rfl, hd, sm, k⟩ := h
    refine ⟨_, pss_one (ps_ret (pe_and (pe_callB call_isD (by rfl) T.isi (by decide +kernel) (pa_cons (pv 0) (pa_cons (pe_bltn (v := .ty "tuple") (by rfl) T.tuple (by decide +kernel) rfl) pa_nil)))
      (pe_one (pe_callB (cr_all rfl) (by rfl) T.all (by decide +kernel) (pa_cons (pe_lc (own := [("mark", 1)]) (g := gName 1) (tt := tYes) rfl scAreMarks.nd (pi_tup (pv 0)) (blkOk_by (N := ["thing", "mark"]) (sc := defScope sAreMarks) (by decide +kernel)) (fun _ _ _ _ _ => pg_name (i := 1) scAreMarks.nd rfl (.inl rfl)) (fun _ _ _ _ _ => pts_nil)
        (fun _ _ _ _ _ => pe_call G hr (by rfl) c.m c.k c.b .nil pass0 (pa_cons (pv 1) pa_nil))) pa_nil))))), ?_⟩
    have q := k H (Same.refl H)
    refine ⟨_, rfl, v, d, "tuple", rfl, by decide, hd, _, rfl, ?_⟩
    cases hd with
    | @tup b ys ds e hda =>
      refine iteYes rfl ?_
      refine ⟨_, rfl, b, rfl, ⟨_, SqT.of e⟩, fun D nD => ?_⟩
      refine lc_tup (K := K) (a := b) (xs := ys) (fun i H2 => MadeTo H D (((ds.take i).map markD).map V.bl) H2) ⟨same_new nD, upd_same⟩ (fun i H2 _ M => SqT.of (M.1 _ _ e)) ?_ ?_
      · rintro i x H2 hx M
        obtain ⟨d', hd', hq⟩ := DqAll.at hda hx
        exact ⟨rfl, _, rfl, x, d', rfl, Dq.same M.1 d' x hq, sm_at (sm_all sm) hd', fun H3 S3 => M.turn nD S3 (sm_len sm) hd'⟩
      · rintro H2 M
        rw [hda.len, List.take_length] at M
        refine ⟨D, _, rfl, SqL.of M.2, ?_⟩
        have q := k H2 M.1
        have e : marksD (.tuple ds) = (ds.map markD).all id := by simp only [marksD, isTupD, Bool.true_and, allD_map]
        rw [e] at q
        exact q
    | non => exact q
    | bl _ => exact q
    | int _ => exact q
    | str _ => exact q
    | lst _ _ => exact q
    | dct0 _ => exact q
    | dct1 _ => exact q
theorem scMove : FnScope ["states", "thing"] ["states", "thing"] (defScope sIsMove) := ⟨rfl, rfl, rfl, by decide +kernel, rfl, by decide +kernel, by decide +kernel⟩
theorem ok_move {f g1 g2 g3 g4 : Addr} {fd gd1 gd2 gd3 gd4 : FuncData} (F : Fun K "is_move" "is_move" sIsMove f fd) (T : TxtB mg) (G1 : FnOk P w K mg base CX0 1 g1 gd1 ["thing", "low", "high"] (spTest2 tupD)) (c1 : Cal K mg "is_tuple_of" g1 gd1 ["thing", "low", "high"])
    (G2 : FnOk P w K mg base CX0 2 g2 gd2 ["thing", "low", "high"] (spTest2 betD)) (c2 : Cal K mg "is_between" g2 gd2 ["thing", "low", "high"]) (G3 : FnOk P w K mg base CX0 1 g3 gd3 ["thing"] (spTest markD)) (c3 : Cal K mg "is_mark" g3 gd3 ["thing"])
    (G4 : FnOk P w K mg base CX0 2 g4 gd4 ["thing"] (spTest marksD)) (c4 : Cal K mg "are_marks" g4 gd4 ["thing"]) : FnOk P w K mg base CX0 3 f fd ["states", "thing"] (spTestN moveD) := by
  refine F.ok scMove (fun vs H Q E h => ?_) (fun cdv A outer s H vs Q E hr h => ?_)
  · obtain ⟨v, d, n, rfl, _⟩ := h
    rfl
  · obtain ⟨v, d, n, rfl, hd, sm, ok, k⟩ := h
    have hr1 : Room 1 _ := hr.mono (by decide)
    have at_ : ∀ i : Int, True := fun _ => trivial
    refine ⟨_, pss_cons (ps_if (PW.pt (pw_or (pt_not (pt_val (pe_call G1 hr1 (by rfl) c1.m c1.k c1.b .nil pass0 (pa_cons (pv 1) (pa_cons pe_int (pa_cons pe_int pa_nil))))))
        (pw_or (pt_not (pt_val (pe_call G2 hr (by rfl) c2.m c2.k c2.b .nil pass0 (pa_cons (pe_ix ix_tup (pv 1) pe_int (fun _ _ => rfl)) (pa_cons pe_int (pa_cons (pe_op op_sub (pv 0) pe_int) pa_nil))))))
        (pw_or1 (pt_not (pt_val (pe_call G3 hr1 (by rfl) c3.m c3.k c3.b .nil pass0 (pa_cons (pe_ix ix_tup (pv 1) pe_int (fun _ _ => rfl)) pa_nil)))))))) (pss_one (ps_ret pe_bl)) pss_nil)
      (pss_one (ps_ret (pe_and (pe_call G4 hr (by rfl) c4.m c4.k c4.b .nil pass0 (pa_cons (pe_ix ix_tup (pv 1) pe_int (fun _ _ => rfl)) pa_nil))
        (pe_one (pe_call G2 hr (by rfl) c2.m c2.k c2.b .nil pass0 (pa_cons (pe_ix ix_tup (pv 1) pe_int (fun _ _ => rfl)) (pa_cons pe_int (pa_cons (pe_op op_sub (pv 0) pe_int) pa_nil)))))))), ?_⟩
    refine ⟨_, rfl, v, d, 4, 4, rfl, hd, sm, fun H1 S1 => ⟨_, rfl, ?_⟩⟩
    rcases bool_ft (tupD 4 4 d) with hb | hb
    · refine iteYes (by rw [hb]; rfl) (iteYes rfl ?_)
      have q := k H1 S1
      have e : moveD n d = false := by simp only [moveD, hb, Bool.false_and]
      rw [e] at q
      exact q
    refine iteNo (by rw [hb]; rfl) ?_
    obtain ⟨ds, rfl, l1, l2⟩ := tup_of hb
    obtain ⟨d0, d1, d2, d3, rfl⟩ := four l1 l2
    cases hd with
    | @tup b xs _ e hda =>
      cases hda with
      | @cons y0 _ _ _ q0 hda =>
      cases hda with
      | @cons y1 _ _ _ q1 hda =>
      cases hda with
      | @cons y2 _ _ _ q2 hda =>
      cases hda with
      | @cons y3 _ _ _ q3 hda =>
      cases hda
      have sA := sm_all sm
      have s0 : smB d0 = true := sm_at (i := 0) sA rfl
      have s1 : smB d1 = true := sm_at (i := 1) sA rfl
      have s2 : smB d2 = true := sm_at (i := 2) sA rfl
      have s3 : smB d3 = true := sm_at (i := 3) sA rfl
      have key : moveD n (.tuple [d0, d1, d2, d3]) = (betD 0 (n - 1) d0 && (markD d1 && (marksD d2 && betD 0 (n - 1) d3))) := by
        show (tupD 4 4 _ && (betD 0 (n - 1) d0 && (markD d1 && (marksD d2 && betD 0 (n - 1) d3)))) = _
        rw [hb, Bool.true_and]
      refine ⟨_, rfl, b, _, _, y0, rfl, rfl, SqT.of (S1 _ _ e), rfl, _, rfl, _, _, rfl, rfl, y0, d0, 0, n - 1, rfl, Dq.same S1 _ _ q0, s0, fun H2 S2 => ⟨_, rfl, ?_⟩⟩
      have S12 := S1.trans S2
      rcases bool_ft (betD 0 (n - 1) d0) with h1 | h1
      · refine iteYes (by rw [h1]; rfl) (iteYes rfl ?_)
        have q := k H2 S12
        rw [key, h1] at q
        exact q
      refine iteNo (by rw [h1]; rfl) ?_
      refine ⟨_, rfl, b, _, _, y1, rfl, rfl, SqT.of (S12 _ _ e), rfl, y1, d1, rfl, Dq.same S12 _ _ q1, s1, fun H3 S3 => ⟨_, rfl, ?_⟩⟩
      have S13 := S12.trans S3
      rcases bool_ft (markD d1) with h2 | h2
      · refine iteYes (by rw [h2]; rfl) ?_
        have q := k H3 S13
        rw [key, h1, h2] at q
        exact q
      refine iteNo (by rw [h2]; rfl) ?_
      refine ⟨_, rfl, b, _, _, y2, rfl, rfl, SqT.of (S13 _ _ e), rfl, y2, d2, rfl, Dq.same S13 _ _ q2, s2, fun H4 S4 => ⟨_, rfl, ?_⟩⟩
      have S14 := S13.trans S4
      rcases bool_ft (marksD d2) with h3 | h3
      · refine iteNo h3 ?_
        have q := k H4 S14
        rw [key, h1, h2, h3] at q
        exact q
      refine iteYes h3 ?_
      refine ⟨_, rfl, b, _, _, y3, rfl, rfl, SqT.of (S14 _ _ e), rfl, _, rfl, _, _, rfl, rfl, y3, d3, 0, n - 1, rfl, Dq.same S14 _ _ q3, s3, fun H5 S5 => ?_⟩
      have q := k H5 (S14.trans S5)
      rw [key, h1, h2, h3] at q
      exact q
end
end KL
set_option Elab.async false
set_option linter.all false
set_option maxRecDepth 100000
set_option maxHeartbeats 2000000
namespace KL
open PySem L2 PySem.Spec PyProof.Rows
theorem lay_int : ∀ {ds : List PyData}, (∀ i, i < ds.length → ∃ j, ds.getD i .none = PyData.int j) → PyData.canLayAll0 ds = true ∧ PyData.depthAll ds = 0
  | [], _ => ⟨rfl, rfl⟩
  | d :: ds, h => by
    obtain ⟨j, e⟩ := h 0 (Nat.succ_pos _)
    have e : d = .int j := e
    subst e
    obtain ⟨q1, q2⟩ := lay_int (ds := ds) fun i hi => h (i + 1) (Nat.succ_lt_succ hi)
    refine ⟨?_, ?_⟩
    · show (true && PyData.canLayAll0 ds) = true
      rw [q1]
      rfl
    · show max 0 (PyData.depthAll ds) = 0
      rw [q2]
      rfl
section
variable {P : Program} {w : World} {K : PySem.W.Frag} {mg : Str → Option Value} {base : Heap}
theorem scMoves : FnScope ["states", "thing", "item"] ["states", "thing"] (defScope sAreMoves) := ⟨rfl, rfl, rfl, by decide +kernel, rfl, by decide +kernel, by decide +kernel⟩
theorem ok_moves {f g1 g2 : Addr} {fd gd1 gd2 : FuncData} (F : Fun K "are_moves" "are_moves" sAreMoves f fd) (T : TxtB mg) (G1 : FnOk P w K mg base CX0 3 g1 gd1 ["states", "thing"] (spTestN moveD)) (c1 : Cal K mg "is_move" g1 gd1 ["states", "thing"])
    (G2 : FnOk P w K mg base CX0 1 g2 gd2 ["items"] spAsc) (c2 : Cal K mg "is_ascending" g2 gd2 ["items"]) : FnOk P w K mg base CX0 4 f fd ["states", "thing"] (spTestN movesD) := by
  refine F.ok scMoves (fun vs H Q E h => ?_) (fun cdv A outer s H vs Q E hr h => ?_)
  · obtain ⟨v, d, n, rfl, _⟩ := h
    rfl
  · obtain ⟨v, d, n, rfl, hd, sm, ok, k⟩ := h
    have hr1 : Room 1 _ := hr.mono (by decide)
    refine ⟨_, pss_cons (ps_if (PW.pt (pw_or (pt_not (pt_val (pe_callB call_isD (by rfl) T.isi (by decide +kernel) (pa_cons (pv 1) (pa_cons (pe_bltn (v := .ty "tuple") (by rfl) T.tuple (by decide +kernel) rfl) pa_nil)))))
        (pw_or1 (pt_not (pt_val (pe_callB (cr_all rfl) (by rfl) T.all (by decide +kernel) (pa_cons (pe_lc (own := [("item", 2)]) (g := gName 2) (tt := tYes) rfl scMoves.nd (pi_tup (pv 1)) (blkOk_by (N := ["states", "thing", "item"]) (sc := defScope sAreMoves) (by decide +kernel)) (fun _ _ _ _ _ => pg_name (i := 2) scMoves.nd rfl (.inl rfl)) (fun _ _ _ _ _ => pts_nil)
          (fun _ _ _ _ _ => pe_call G1 hr (by rfl) c1.m c1.k c1.b .nil pass0 (pa_cons (pv 0) (pa_cons (pv 2) pa_nil)))) pa_nil))))))) (pss_one (ps_ret pe_bl)) pss_nil)
      (pss_one (ps_ret (pe_call G2 hr1 (by rfl) c2.m c2.k c2.b .nil pass0 (pa_cons (pe_lc (own := [("item", 2)]) (g := gName 2) (tt := tYes) rfl scMoves.nd (pi_tup (pv 1)) (blkOk_by (N := ["states", "thing", "item"]) (sc := defScope sAreMoves) (by decide +kernel)) (fun _ _ _ _ _ => pg_name (i := 2) scMoves.nd rfl (.inl rfl)) (fun _ _ _ _ _ => pts_nil)
          (fun _ _ _ _ _ => pe_slice (r := rSlT K) sl_tup (pv 2) po_none (po_some pe_int))) pa_nil)))), ?_⟩
    refine ⟨_, rfl, v, d, "tuple", rfl, by decide, hd, _, rfl, ?_⟩
    have no : isTupD d = false → Q (.bl false) H := fun z => by
      have q := k H (Same.refl H)
      have e : movesD n d = false := by simp only [movesD, z, Bool.false_and]
      rw [e] at q
      exact q
    cases hd with
    | @tup b xs ds e hda =>
      refine iteNo rfl ?_
      refine ⟨_, rfl, b, rfl, ⟨_, SqT.of e⟩, fun D nD => ?_⟩
      refine lc_tup (K := K) (a := b) (xs := xs) (fun i H2 => MadeTo H D (((ds.take i).map (moveD n)).map V.bl) H2) ⟨same_new nD, upd_same⟩ (fun i H2 _ M => SqT.of (M.1 _ _ e)) ?_ ?_
      · rintro i x H2 hx M
        obtain ⟨d', hd', hq⟩ := DqAll.at hda hx
        exact ⟨rfl, _, rfl, _, rfl, x, d', n, rfl, Dq.same M.1 d' x hq, sm_at (sm_all sm) hd', ok_at ok hd', fun H3 S3 => M.turn nD S3 (sm_len sm) hd'⟩
      · rintro H2 M
        rw [hda.len, List.take_length] at M
        refine ⟨D, _, rfl, SqL.of M.2, _, rfl, ?_⟩
        rw [allD_map]
        rcases bool_ft (allD (moveD n) (.tuple ds)) with a1 | a1
        · refine iteYes (by rw [a1]; rfl) ?_
          have q := k H2 M.1
          have e : movesD n (.tuple ds) = false := by simp only [movesD, isTupD, a1, Bool.true_and, Bool.false_and]
          rw [e] at q
          exact q
        refine iteNo (by rw [a1]; rfl) ?_
        have S1 := M.1
        have a1 : ds.all (moveD n) = true := a1
        refine ⟨_, rfl, b, rfl, ⟨_, SqT.of (S1 _ _ e)⟩, fun B nB => ?_⟩
        refine lc_tup (K := K) (a := b) (xs := xs) (fun i H3 => MadeN H2 B ((ds.take i).map cut2) H3) (MadeN.start nB) (fun i H3 _ M => SqT.of (M.same _ _ (S1 _ _ e))) ?_ ?_
        · rintro i x H3 hx M3
          obtain ⟨d', hd', hq⟩ := DqAll.at hda hx
          obtain ⟨i1, x1, w1, t1, rfl⟩ := move_of (List.all_eq_true.mp a1 d' (List.mem_of_getElem? hd'))
          cases hq with
          | @tup c zs _ e' hza =>
            have hl : zs.length = 4 := hza.len
            refine ⟨rfl, _, rfl, _, rfl, c, zs, rfl, SqT.of (M3.same _ _ (S1 _ _ e')), not_whole zs (by omega), fun p np => ?_⟩
            rw [cut_two zs (by omega)]
            obtain ⟨acc, h1, h2, h3⟩ := M3.turn np (DqAll.same S1 _ _ (hza.take 2))
            refine ⟨acc, h1, ?_, ?_⟩
            · rw [h2, List.length_map, List.length_take]
              have := sm_len sm
              rw [sizeLine_eq]
              omega
            · rw [take_map hd']
              exact h3
        · rintro H3 M3
          rw [hda.len, List.take_length] at M3
          obtain ⟨J, ys, S2, _, S3, hy, hq⟩ := M3
          obtain ⟨z1, z2⟩ := lay_cuts a1 ok
          refine ⟨B, ys, ds.map cut2, rfl, .inl hy, DqAll.same S3 _ ys hq, by rw [List.length_map]; exact sm_len sm, z1, Nat.le_trans z2 (by decide), cmp_cuts a1, fun H4 S4 => ?_⟩
          have q := k H4 (S1.trans (S2.trans (S3.trans S4)))
          have e : movesD n (.tuple ds) = ascD (ds.map cut2) := by
            show (true && (ds.all (moveD n) && ascD (ds.map cut2))) = _
            rw [a1]
            rfl
          rw [e] at q
          exact q
    | non => exact iteYes rfl (no rfl)
    | bl _ => exact iteYes rfl (no rfl)
    | int _ => exact iteYes rfl (no rfl)
    | str _ => exact iteYes rfl (no rfl)
    | lst _ _ => exact iteYes rfl (no rfl)
    | dct0 _ => exact iteYes rfl (no rfl)
    | dct1 _ => exact iteYes rfl (no rfl)
theorem pair_of {d : PyData} (h : tupD 2 2 d = true) : ∃ a b, d = .tuple [a, b] := by
  obtain ⟨ds, rfl, l1, l2⟩ := tup_of h
  obtain ⟨a, b, rfl⟩ := two l1 l2
  exact ⟨a, b, rfl⟩
abbrev nEnds : List Str := ["states", "thing", "item", "state", "written"]
theorem scEnds : FnScope nEnds ["states", "thing"] (defScope sAreEnds) := ⟨rfl, rfl, rfl, by decide +kernel, rfl, by decide +kernel, by decide +kernel⟩
theorem ok_ends {f g1 g2 g3 g4 : Addr} {fd gd1 gd2 gd3 gd4 : FuncData} (F : Fun K "are_ends" "are_ends" sAreEnds f fd) (T : TxtB mg) (G1 : FnOk P w K mg base CX0 1 g1 gd1 ["thing", "low", "high"] (spTest2 tupD)) (c1 : Cal K mg "is_tuple_of" g1 gd1 ["thing", "low", "high"])
    (G2 : FnOk P w K mg base CX0 2 g2 gd2 ["thing", "low", "high"] (spTest2 betD)) (c2 : Cal K mg "is_between" g2 gd2 ["thing", "low", "high"]) (G3 : FnOk P w K mg base CX0 2 g3 gd3 ["thing"] (spTest marksD)) (c3 : Cal K mg "are_marks" g3 gd3 ["thing"])
    (G4 : FnOk P w K mg base CX0 1 g4 gd4 ["items"] spAsc) (c4 : Cal K mg "is_ascending" g4 gd4 ["items"]) : FnOk P w K mg base CX0 3 f fd ["states", "thing"] (spTestN endsD) := by
  refine F.ok scEnds (fun vs H Q E h => ?_) (fun cdv A outer s H vs Q E hr h => ?_)
  · obtain ⟨v, d, n, rfl, _⟩ := h
    rfl
  · obtain ⟨v, d, n, rfl, hd, sm, ok, k⟩ := h
    have hr1 : Room 1 _ := hr.mono (by decide)
    refine ⟨_, pss_cons (ps_if (PW.pt (pw_or (pt_not (pt_val (pe_callB call_isD (by rfl) T.isi (by decide +kernel) (pa_cons (pv 1) (pa_cons (pe_bltn (v := .ty "tuple") (by rfl) T.tuple (by decide +kernel) rfl) pa_nil)))))
        (pw_or1 (pt_not (pt_val (pe_callB (cr_all rfl) (by rfl) T.all (by decide +kernel) (pa_cons (pe_lc (own := [("item", 2)]) (g := gName 2) (tt := tYes) rfl scEnds.nd (pi_tup (pv 1)) (blkOk_by (N := nEnds) (sc := defScope sAreEnds) (by decide +kernel)) (fun _ _ _ _ _ => pg_name (i := 2) scEnds.nd rfl (.inl rfl)) (fun _ _ _ _ _ => pts_nil)
          (fun _ _ _ _ _ => pe_call G1 hr1 (by rfl) c1.m c1.k c1.b .nil pass0 (pa_cons (pv 2) (pa_cons pe_int (pa_cons pe_int pa_nil))))) pa_nil))))))) (pss_one (ps_ret pe_bl)) pss_nil)
      (pss_cons (ps_if (pt_not (pt_val (pe_callB (cr_all rfl) (by rfl) T.all (by decide +kernel) (pa_cons (pe_lc (own := [("state", 3), ("written", 4)]) (g := gTup K 2 (gCons (gName 3) (gCons (gName 4) gNil))) (tt := tYes) rfl scEnds.nd (pi_tup (pv 1)) (blkOk_by (N := nEnds) (sc := defScope sAreEnds) (by decide +kernel)) (fun _ _ _ _ _ => pg_tup rfl (pgs_cons (pg_name (i := 3) scEnds.nd rfl (.inl rfl)) (pgs_cons (pg_name (i := 4) scEnds.nd rfl (.inl rfl)) pgs_nil))) (fun _ _ _ _ _ => pts_nil)
          (fun _ _ _ _ _ => pe_and (pe_call G2 hr (by rfl) c2.m c2.k c2.b .nil pass0 (pa_cons (pv 3) (pa_cons pe_int (pa_cons (pe_op op_sub (pv 0) pe_int) pa_nil)))) (pe_one (pe_call G3 hr (by rfl) c3.m c3.k c3.b .nil pass0 (pa_cons (pv 4) pa_nil))))) pa_nil)))) (pss_one (ps_ret pe_bl)) pss_nil)
      (pss_one (ps_ret (pe_call G4 hr1 (by rfl) c4.m c4.k c4.b .nil pass0 (pa_cons (pe_lc (own := [("state", 3), ("written", 4)]) (g := gTup K 2 (gCons (gName 3) (gCons (gName 4) gNil))) (tt := tYes) rfl scEnds.nd (pi_tup (pv 1)) (blkOk_by (N := nEnds) (sc := defScope sAreEnds) (by decide +kernel)) (fun _ _ _ _ _ => pg_tup rfl (pgs_cons (pg_name (i := 3) scEnds.nd rfl (.inl rfl)) (pgs_cons (pg_name (i := 4) scEnds.nd rfl (.inl rfl)) pgs_nil))) (fun _ _ _ _ _ => pts_nil)
          (fun _ _ _ _ _ => pv 3)) pa_nil))))), ?_⟩
    refine ⟨_, rfl, v, d, "tuple", rfl, by decide, hd, _, rfl, ?_⟩
    have no : isTupD d = false → Q (.bl false) H := fun z => by
      have q := k H (Same.refl H)
      have e : endsD n d = false := by simp only [endsD, z, Bool.false_and]
      rw [e] at q
      exact q
    cases hd with
    | @tup b xs ds e hda =>
      refine iteNo rfl ?_
      refine ⟨_, rfl, b, rfl, ⟨_, SqT.of e⟩, fun D nD => ?_⟩
      refine lc_tup (K := K) (a := b) (xs := xs) (fun i H2 => MadeTo H D (((ds.take i).map (tupD 2 2)).map V.bl) H2) ⟨same_new nD, upd_same⟩ (fun i H2 _ M => SqT.of (M.1 _ _ e)) ?_ ?_
      · rintro i x H2 hx M
        obtain ⟨d', hd', hq⟩ := DqAll.at hda hx
        exact ⟨rfl, _, rfl, x, d', 2, 2, rfl, Dq.same M.1 d' x hq, sm_at (sm_all sm) hd', fun H3 S3 => M.turn nD S3 (sm_len sm) hd'⟩
      · rintro H2 M
        rw [hda.len, List.take_length] at M
        refine ⟨D, _, rfl, SqL.of M.2, _, rfl, ?_⟩
        rw [allD_map]
        rcases bool_ft (allD (tupD 2 2) (.tuple ds)) with a1 | a1
        · refine iteYes (by rw [a1]; rfl) ?_
          have q := k H2 M.1
          have e : endsD n (.tuple ds) = false := by simp only [endsD, isTupD, a1, Bool.true_and, Bool.false_and]
          rw [e] at q
          exact q
        refine iteNo (by rw [a1]; rfl) ?_
        have S1 := M.1
        have a1 : ds.all (tupD 2 2) = true := a1
        refine ⟨_, rfl, b, rfl, ⟨_, SqT.of (S1 _ _ e)⟩, fun B nB => ?_⟩
        refine lc_tup (K := K) (a := b) (xs := xs) (fun i H3 => MadeTo H2 B (((ds.take i).map (endD n)).map V.bl) H3) ⟨same_new nB, upd_same⟩ (fun i H3 _ M => SqT.of (M.1 _ _ (S1 _ _ e))) ?_ ?_
        · rintro i x H3 hx M3
          obtain ⟨d', hd', hq⟩ := DqAll.at hda hx
          obtain ⟨u1, u2, rfl⟩ := pair_of (List.all_eq_true.mp a1 d' (List.mem_of_getElem? hd'))
          have smd := sm_all (sm_at (sm_all sm) hd')
          cases hq with
          | @tup c zs _ e' hza =>
            cases hza with
            | @cons y0 _ _ _ q0 hza =>
            cases hza with
            | @cons y1 _ _ _ q1 hza =>
            cases hza
            refine ⟨c, _, rfl, SqT.of (M3.1 _ _ (S1 _ _ e')), rfl, y0, _, rfl, y1, _, rfl, rfl, rfl, ?_⟩
            refine ⟨_, rfl, _, rfl, _, _, rfl, rfl, y0, u1, 0, n - 1, rfl, Dq.same (S1.trans M3.1) _ _ q0, sm_at (i := 0) smd rfl, fun H4 S4 => ⟨_, rfl, ?_⟩⟩
            rcases bool_ft (betD 0 (n - 1) u1) with h1 | h1
            · refine iteNo h1 ?_
              have q := M3.turn (g := endD n) nB S4 (sm_len sm) hd'
              have e : endD n (.tuple [u1, u2]) = false := by
                show (betD 0 (n - 1) u1 && marksD u2) = false
                rw [h1]
                rfl
              rw [e] at q
              exact q
            refine iteYes h1 ?_
            refine ⟨_, rfl, y1, u2, rfl, Dq.same (S1.trans (M3.1.trans S4)) _ _ q1, sm_at (i := 1) smd rfl, fun H5 S5 => ?_⟩
            have q := M3.turn (g := endD n) nB (S4.trans S5) (sm_len sm) hd'
            have e : endD n (.tuple [u1, u2]) = marksD u2 := by
              show (betD 0 (n - 1) u1 && marksD u2) = _
              rw [h1, Bool.true_and]
            rw [e] at q
            exact q
        · rintro H3 M3
          rw [hda.len, List.take_length] at M3
          have S2 := M3.1
          refine ⟨B, _, rfl, SqL.of M3.2, _, rfl, ?_⟩
          rw [allD_map]
          rcases bool_ft (allD (endD n) (.tuple ds)) with a2 | a2
          · refine iteYes (by rw [a2]; rfl) ?_
            have q := k H3 (S1.trans S2)
            have e : endsD n (.tuple ds) = false := by
              show (true && (ds.all (tupD 2 2) && (allD (endD n) (.tuple ds) && _))) = false
              rw [a1, a2]
              rfl
            rw [e] at q
            exact q
          refine iteNo (by rw [a2]; rfl) ?_
          have a2 : ds.all (endD n) = true := a2
          have S12 := S1.trans S2
          refine ⟨_, rfl, b, rfl, ⟨_, SqT.of (S12 _ _ e)⟩, fun C nC => ?_⟩
          refine lc_tup (K := K) (a := b) (xs := xs) (fun i H4 => MadeQ H3 C ((ds.take i).map (itemD 0)) H4) (MadeQ.start nC) (fun i H4 _ M => SqT.of (M.1 _ _ (S12 _ _ e))) ?_ ?_
          · rintro i x H4 hx M4
            obtain ⟨d', hd', hq⟩ := DqAll.at hda hx
            obtain ⟨u1, u2, rfl⟩ := pair_of (List.all_eq_true.mp a1 d' (List.mem_of_getElem? hd'))
            cases hq with
            | @tup c zs _ e' hza =>
              cases hza with
              | @cons y0 _ _ _ q0 hza =>
              cases hza with
              | @cons y1 _ _ _ q1 hza =>
              cases hza
              refine ⟨c, _, rfl, SqT.of (M4.1 _ _ (S12 _ _ e')), rfl, y0, _, rfl, y1, _, rfl, rfl, rfl, ?_⟩
              exact ⟨_, rfl, M4.turn nC (Same.refl _) (sm_len sm) hd' (Dq.same S12 _ y0 q0)⟩
          · rintro H4 M4
            rw [hda.len, List.take_length] at M4
            obtain ⟨S3, ys, hy, hq⟩ := M4
            have alli : ∀ i, i < (ds.map (itemD 0)).length → ∃ j, (ds.map (itemD 0)).getD i .none = .int j := fun i hi => by
              rw [List.length_map] at hi
              rw [getD_map hi]
              have q := all_at (f := endD n) a2 hi
              obtain ⟨j, e, _⟩ := bet_of (Bool.and_eq_true_iff.mp (show (betD 0 (n - 1) (itemD 0 (ds.getD i .none)) && _) = true from q)).1
              exact ⟨j, e⟩
            obtain ⟨l1, l2⟩ := lay_int alli
            refine ⟨C, ys, ds.map (itemD 0), rfl, .inl hy, DqAll.same S3 _ ys hq, by rw [List.length_map]; exact sm_len sm, l1, by rw [l2]; decide, fun i hi => ?_, fun H5 S5 => ?_⟩
            · obtain ⟨x, ex⟩ := alli i (by omega)
              obtain ⟨y, ey⟩ := alli (i + 1) hi
              rw [ex, ey]
              rfl
            · have q := k H5 (S12.trans (S3.trans S5))
              have e : endsD n (.tuple ds) = ascD (ds.map (itemD 0)) := by
                show (true && (ds.all (tupD 2 2) && (ds.all (endD n) && ascD (ds.map (itemD 0))))) = _
                rw [a1, a2]
                rfl
              rw [e] at q
              exact q
    | non => exact iteYes rfl (no rfl)
    | bl _ => exact iteYes rfl (no rfl)
    | int _ => exact iteYes rfl (no rfl)
    | str _ => exact iteYes rfl (no rfl)
    | lst _ _ => exact iteYes rfl (no rfl)
    | dct0 _ => exact iteYes rfl (no rfl)
    | dct1 _ => exact iteYes rfl (no rfl)
end
end KL
set_option Elab.async false
set_option linter.all false
set_option maxRecDepth 100000
set_option maxHeartbeats 2000000
namespace KL
open PySem L2 PySem.Spec PyProof.Rows
abbrev sMoveTable : Stmt := top 13
abbrev sReadOn : Stmt := top 14
/-- a move -/
structure Mv where
  s : Int
  m : Str
  w : List Str
  t : Int
def strsD (w : List Str) : PyData := .tuple (w.map .str)
def mvD (x : Mv) : PyData := .tuple [.int x.s, .str x.m, strsD x.w, .int x.t]
/-- the last move of a state and a mark -/
def lastM (mv : List Mv) (s : Int) (m : Str) : Option Mv := mv.reverse.find? fun x => decide (x.s = s) && decide (x.m = m)
theorem last_snoc (mv : List Mv) (x : Mv) (s : Int) (m : Str) : lastM (mv ++ [x]) s m = if x.s = s ∧ x.m = m then some x else lastM mv s m := by
  unfold lastM
  rw [List.reverse_append]
  show (x :: mv.reverse).find? _ = _
  by_cases h : x.s = s ∧ x.m = m
  · rw [if_pos h, List.find?_cons_of_pos]
    simp [h.1, h.2]
  · rw [if_neg h, List.find?_cons_of_neg]
    simp
    exact fun a b => h ⟨a, b⟩
/-- what stands in the table for a move -/
def CellAt (Hb H0 H : Hp) (u : V) (x : Mv) : Prop := ∃ b wv, u = .ref b ∧ H0 b = none ∧ H b = some (.tup [wv, .int x.t]) ∧ Dq Hb wv (strsD x.w)
def InnerAt (Hb H0 H : Hp) (a : Addr) (n : Nat) (f : Str → Option Mv) : Prop := ∃ ks, H a = some (.dK ks) ∧ ks.length ≤ n ∧ ∀ m, (f m = none ∧ valV ks (Sum.inr m) = none) ∨ ∃ x u, f m = some x ∧ valV ks (Sum.inr m) = some u ∧ CellAt Hb H0 H u x
structure Tab (Hb H0 H : Hp) (tb : Addr) (n : Nat) (f : Int → Str → Option Mv) : Prop where
  s : Same H0 H
  n0 : H0 tb = none
  ex : ∃ kvs, H tb = some (.dK kvs) ∧ kvs.length ≤ n ∧ (∀ k v, valV kvs k = some v → ∃ i a, k = Sum.inl i ∧ v = .ref a ∧ H0 a = none ∧ a ≠ tb) ∧ (∀ k k' v, valV kvs k = some v → valV kvs k' = some v → k = k') ∧
    ∀ i, ((∀ m, f i m = none) ∧ valV kvs (Sum.inl i) = none) ∨ ∃ a, valV kvs (Sum.inl i) = some (.ref a) ∧ InnerAt Hb H0 H a n (f i)
def spTable : Sp := fun vs H Q _ => ∃ (Hb : Hp) (a : Addr) (xs : List V) (mv : List Mv), vs = [.ref a] ∧ Same Hb H ∧ H a = some (.tup xs) ∧ DqAll Hb xs (mv.map mvD) ∧ mv.length ≤ 1000 ∧ ∀ H' tb, Tab Hb H H' tb mv.length (lastM mv) → Q (.ref tb) H'
theorem CellAt.keep {Hb H0 H H' : Hp} {u : V} {x : Mv} (c : CellAt Hb H0 H u x) (e : ∀ b ys, H b = some (.tup ys) → H' b = some (.tup ys)) : CellAt Hb H0 H' u x := by
  obtain ⟨b, wv, rfl, n, h, d⟩ := c
  exact ⟨b, wv, rfl, n, e _ _ h, d⟩
theorem InnerAt.keep {Hb H0 H H' : Hp} {a : Addr} {n n' : Nat} {f : Str → Option Mv} (c : InnerAt Hb H0 H a n f) (hn : n ≤ n') (e : ∀ b ys, H b = some (.tup ys) → H' b = some (.tup ys)) (ha : H' a = H a) : InnerAt Hb H0 H' a n' f := by
  obtain ⟨ks, h, l, r⟩ := c
  refine ⟨ks, by rw [ha]; exact h, Nat.le_trans l hn, fun m => ?_⟩
  rcases r m with q | ⟨x, u, q1, q2, q3⟩
  · exact .inl q
  · exact .inr ⟨x, u, q1, q2, q3.keep e⟩
theorem Tab.start {Hb H0 : Hp} {tb : Addr} (n0 : H0 tb = none) : Tab Hb H0 (upd H0 tb (.dK [])) tb 0 (lastM []) :=
  ⟨same_new n0, n0, [], upd_same, Nat.le_refl _, fun k v e => (nomatch e), fun k k' v e => (nomatch e), fun i => .inl ⟨fun _ => rfl, rfl⟩⟩
/-- one more cell in an inner table -/
theorem inner_put {Hb H0 H' : Hp} {a b : Addr} {n : Nat} {mv : List Mv} {x : Mv} {ks : List (Key × V)} (l : ks.length ≤ n) (hb : CellAt Hb H0 H' (.ref b) x) (r : ∀ m, (lastM mv x.s m = none ∧ valV ks (Sum.inr m) = none) ∨ ∃ y u, lastM mv x.s m = some y ∧ valV ks (Sum.inr m) = some u ∧ CellAt Hb H0 H' u y)
    (ha : H' a = some (.dK (putK ks (Sum.inr x.m) (.ref b)))) : InnerAt Hb H0 H' a (n + 1) (lastM (mv ++ [x]) x.s) := by
  refine ⟨_, ha, Nat.le_trans (length_putK _ _ _) (by omega), fun m => ?_⟩
  by_cases e : x.m = m
  · subst e
    refine .inr ⟨x, .ref b, ?_, by rw [valV_put, if_pos rfl], hb⟩
    rw [last_snoc, if_pos ⟨rfl, rfl⟩]
  · have e1 : lastM (mv ++ [x]) x.s m = lastM mv x.s m := by
      rw [last_snoc, if_neg fun z => e z.2]
    have e2 : valV (putK ks (Sum.inr x.m) (.ref b)) (Sum.inr m) = valV ks (Sum.inr m) := by rw [valV_put, if_neg fun z => e (by injection z with z; exact z.symm)]
    rw [e1, e2]
    exact r m
/-- the heap behind one more move, its state known already -/
theorem Tab.old {Hb H0 H : Hp} {tb a b q : Addr} {n : Nat} {mv : List Mv} {x : Mv} {wv : V} {kvs ks : List (Key × V)} (T : Tab Hb H0 H tb n (lastM mv)) (hw : Dq Hb wv (strsD x.w)) (hb : H b = none) (hq : upd H b (.tup [wv, .int x.t]) q = none)
    (hk : H tb = some (.dK kvs)) (hv : valV kvs (Sum.inl x.s) = some (.ref a)) (ha : H a = some (.dK ks)) :
    Tab Hb H0 (upd (upd (upd H b (.tup [wv, .int x.t])) q (.dK [])) a (.dK (putK ks (Sum.inr x.m) (.ref b)))) tb (n + 1) (lastM (mv ++ [x])) := by
  obtain ⟨S, n0, kvs', hk', hl, sh, inj, look⟩ := T
  rw [hk] at hk'
  cases hk'
  have qb : q ≠ b := fun z => by
    rw [z, upd_same] at hq
    cases hq
  have hq0 : H q = none := by
    rw [upd_ne qb] at hq
    exact hq
  have ab : a ≠ b := ne_of_none ha hb
  have aq : a ≠ q := ne_of_none ha hq0
  have tb_b : tb ≠ b := ne_of_none hk hb
  have tb_q : tb ≠ q := ne_of_none hk hq0
  obtain ⟨_, a', _, ea, a0, atb⟩ := sh _ _ hv
  cases ea
  have keep : ∀ c ys, H c = some (.tup ys) → upd (upd (upd H b (.tup [wv, .int x.t])) q (.dK [])) a (.dK (putK ks (Sum.inr x.m) (.ref b))) c = some (.tup ys) := fun c ys e => by
    rw [upd_ne (ne_of e ha (fun z => nomatch z)), upd_ne (ne_of_none e hq0), upd_ne (ne_of_none e hb)]
    exact e
  refine ⟨fun c o e => ?_, n0, kvs, ?_, Nat.le_succ_of_le hl, sh, inj, fun i => ?_⟩
  · have e1 := S _ _ e
    rw [upd_ne (ne_of_none e a0), upd_ne (ne_of_none e1 hq0), upd_ne (ne_of_none e1 hb)]
    exact e1
  · rw [upd_ne atb.symm, upd_ne tb_q, upd_ne tb_b]
    exact hk
  · by_cases hi : i = x.s
    · subst hi
      refine .inr ⟨a, hv, ?_⟩
      rcases look x.s with ⟨_, z⟩ | ⟨a2, z, ks', hks, lks, r⟩
      · rw [hv] at z
        cases z
      · rw [hv] at z
        cases z
        rw [ha] at hks
        cases hks
        refine inner_put lks ⟨b, wv, rfl, S.free hb, ?_, hw⟩ (fun m => ?_) upd_same
        · rw [upd_ne ab.symm, upd_ne qb.symm, upd_same]
        · rcases r m with r | ⟨y, u, r1, r2, r3⟩
          · exact .inl r
          · exact .inr ⟨y, u, r1, r2, r3.keep keep⟩
    · have e1 : ∀ m, lastM (mv ++ [x]) i m = lastM mv i m := fun m => by
        rw [last_snoc, if_neg fun z => hi z.1.symm]
      rcases look i with ⟨z1, z2⟩ | ⟨a2, z, ks', hks, lks, r⟩
      · exact .inl ⟨fun m => by rw [e1]; exact z1 m, z2⟩
      · have na : a2 ≠ a := fun q => by
          subst q
          have := inj _ _ _ z hv
          injection this with this
          exact hi this
        refine .inr ⟨a2, z, ks', ?_, Nat.le_succ_of_le lks, fun m => ?_⟩
        · rw [upd_ne na, upd_ne (ne_of_none hks hq0), upd_ne (ne_of_none hks hb)]
          exact hks
        · rw [e1]
          rcases r m with r | ⟨y, u, r1, r2, r3⟩
          · exact .inl r
          · exact .inr ⟨y, u, r1, r2, r3.keep keep⟩
/-- .. and the first one of its state -/
theorem Tab.new {Hb H0 H : Hp} {tb b q : Addr} {n : Nat} {mv : List Mv} {x : Mv} {wv : V} {kvs : List (Key × V)} (T : Tab Hb H0 H tb n (lastM mv)) (hw : Dq Hb wv (strsD x.w)) (hb : H b = none) (hq : upd H b (.tup [wv, .int x.t]) q = none)
    (hk : H tb = some (.dK kvs)) (hv : valV kvs (Sum.inl x.s) = none) :
    Tab Hb H0 (upd (upd (upd (upd H b (.tup [wv, .int x.t])) q (.dK [])) tb (.dK (putK kvs (Sum.inl x.s) (.ref q)))) q (.dK (putK [] (Sum.inr x.m) (.ref b)))) tb (n + 1) (lastM (mv ++ [x])) := by
  obtain ⟨S, n0, kvs', hk', hl, sh, inj, look⟩ := T
  rw [hk] at hk'
  cases hk'
  have qb : q ≠ b := fun z => by
    rw [z, upd_same] at hq
    cases hq
  have hq0 : H q = none := by
    rw [upd_ne qb] at hq
    exact hq
  have tb_b : tb ≠ b := ne_of_none hk hb
  have tb_q : tb ≠ q := ne_of_none hk hq0
  have free : ∀ c, H c = none → H0 c = none := fun c e => S.free e
  have keep : ∀ c ys, H c = some (.tup ys) → upd (upd (upd (upd H b (.tup [wv, .int x.t])) q (.dK [])) tb (.dK (putK kvs (Sum.inl x.s) (.ref q)))) q (.dK (putK [] (Sum.inr x.m) (.ref b))) c = some (.tup ys) := fun c ys e => by
    rw [upd_ne (ne_of_none e hq0), upd_ne (ne_of e hk (fun z => nomatch z)), upd_ne (ne_of_none e hq0), upd_ne (ne_of_none e hb)]
    exact e
  have val : ∀ k v, valV (putK kvs (Sum.inl x.s) (.ref q)) k = some v → (k = Sum.inl x.s ∧ v = .ref q) ∨ valV kvs k = some v := fun k v e => by
    rw [valV_put] at e
    by_cases z : k = Sum.inl x.s
    · rw [if_pos z] at e
      exact .inl ⟨z, (Option.some.inj e).symm⟩
    · rw [if_neg z] at e
      exact .inr e
  have notq : ∀ k, valV kvs k ≠ some (.ref q) := fun k e => by
    obtain ⟨i, a, rfl, ea, _, _⟩ := sh _ _ e
    cases ea
    rcases look i with ⟨_, z2⟩ | ⟨a2, z, ks', hks, _⟩
    · rw [e] at z2
      cases z2
    · rw [e] at z
      cases z
      rw [hq0] at hks
      cases hks
  refine ⟨fun c o e => ?_, n0, putK kvs (Sum.inl x.s) (.ref q), ?_, Nat.le_trans (length_putK _ _ _) (by omega), fun k v e => ?_, fun k k' v e e' => ?_, fun i => ?_⟩
  · have e1 := S _ _ e
    rw [upd_ne (ne_of_none e1 hq0), upd_ne (ne_of_none e n0), upd_ne (ne_of_none e1 hq0), upd_ne (ne_of_none e1 hb)]
    exact e1
  · rw [upd_ne tb_q, upd_same]
  · rcases val _ _ e with ⟨z, rfl⟩ | e
    · exact ⟨_, q, z, rfl, free q hq0, tb_q.symm⟩
    · exact sh _ _ e
  · rcases val _ _ e with ⟨z1, z2⟩ | e
    · rcases val _ _ e' with ⟨z3, _⟩ | e'
      · rw [z1, z3]
      · rw [z2] at e'
        exact absurd e' (notq _)
    · rcases val _ _ e' with ⟨_, z4⟩ | e'
      · rw [z4] at e
        exact absurd e (notq _)
      · exact inj _ _ _ e e'
  · by_cases hi : i = x.s
    · subst hi
      refine .inr ⟨q, by rw [valV_put, if_pos rfl], ?_⟩
      have none_ : ∀ m, lastM mv x.s m = none := by
        rcases look x.s with ⟨z, _⟩ | ⟨a2, z, _⟩
        · exact z
        · rw [hv] at z
          cases z
      refine inner_put (ks := []) (Nat.zero_le n) ⟨b, wv, rfl, S.free hb, ?_, hw⟩ (fun m => .inl ⟨none_ m, rfl⟩) upd_same
      rw [upd_ne qb.symm, upd_ne tb_b.symm, upd_ne qb.symm, upd_same]
    · have e1 : ∀ m, lastM (mv ++ [x]) i m = lastM mv i m := fun m => by
        rw [last_snoc, if_neg fun z => hi z.1.symm]
      have e2 : valV (putK kvs (Sum.inl x.s) (.ref q)) (Sum.inl i) = valV kvs (Sum.inl i) := by
        rw [valV_put, if_neg fun z => hi (by injection z)]
      rcases look i with ⟨z1, z2⟩ | ⟨a2, z, ks', hks, lks, r⟩
      · exact .inl ⟨fun m => by rw [e1]; exact z1 m, by rw [e2]; exact z2⟩
      · obtain ⟨_, a3, _, ea, _, na⟩ := sh _ _ z
        cases ea
        refine .inr ⟨a2, by rw [e2]; exact z, ks', ?_, Nat.le_succ_of_le lks, fun m => ?_⟩
        · rw [upd_ne (ne_of_none hks hq0), upd_ne na, upd_ne (ne_of_none hks hq0), upd_ne (ne_of_none hks hb)]
          exact hks
        · rw [e1]
          rcases r m with r | ⟨y, u, r1, r2, r3⟩
          · exact .inl r
          · exact .inr ⟨y, u, r1, r2, r3.keep keep⟩
section
variable {P : Program} {w : World} {K : PySem.W.Frag} {mg : Str → Option Value} {base : Heap}
abbrev nTab : List Str := ["moves", "table", "state", "mark", "written", "target"]
theorem scTab : FnScope nTab ["moves"] (defScope sMoveTable) := ⟨rfl, rfl, rfl, by decide +kernel, rfl, by decide +kernel, by decide +kernel⟩
theorem ok_table {f : Addr} {fd : FuncData} (F : Fun K "move_table" "move_table" sMoveTable f fd) : FnOk P w K mg base CX0 1 f fd ["moves"] spTable := by
  refine F.ok scTab (fun vs H Q E h => ?_) (fun cdv A outer s H vs Q E hr h => ?_)
  · obtain ⟨Hb, a, xs, mv, rfl, _⟩ := h
    rfl
  · obtain ⟨Hb, a, xs, mv, rfl, SB, ha, hda, hn, k⟩ := h
    have hu := hu_of hr
    refine ⟨_, pss_cons (ps_set (i := 1) scTab.nd rfl (.inl rfl) pe_dnewK)
      (pss_cons (ps_for PassesOwn.never rfl (pi_tup (pv 0)) (pg_tup rfl (pgs_cons (pg_name (i := 2) scTab.nd rfl (.inl rfl)) (pgs_cons (pg_name (i := 3) scTab.nd rfl (.inl rfl)) (pgs_cons (pg_name (i := 4) scTab.nd rfl (.inl rfl)) (pgs_cons (pg_name (i := 5) scTab.nd rfl (.inl rfl)) pgs_nil)))))
        (pss_one (ps_dput hu (pe_dsetd (pv 1) (pv 2) pe_dnewK ⟨rfl, rfl, rfl, rfl⟩) (pv 3) (pe_tup (pa_cons (pv 4) (pa_cons (pv 5) pa_nil))) rfl)))
      (pss_one (ps_ret (pv 1)))), ?_⟩
    refine fun tb ntb => ⟨_, rfl, a, rfl, ⟨xs, SqT.of (same_new ntb _ _ ha)⟩, for_tup (K := K) (a := a) (xs := xs) (fun i σ H1 => Tab Hb H H1 tb i (lastM (mv.take i)) ∧ ∃ o1 o2 o3 o4, σ = [some (.ref a), some (.ref tb), o1, o2, o3, o4]) ⟨Tab.start ntb, _, _, _, _, rfl⟩ (fun i σ H1 _ M => SqT.of (M.1.s _ _ ha)) ?_ ?_⟩
    · rintro i y σ H1 hy ⟨T, o1, o2, o3, o4, rfl⟩
      obtain ⟨d', hd', hq⟩ := DqAll.at hda hy
      obtain ⟨x, hx, rfl⟩ : ∃ x, mv[i]? = some x ∧ mvD x = d' := by
        rw [List.getElem?_map] at hd'
        cases e : mv[i]? with
        | none =>
          rw [e] at hd'
          cases hd'
        | some x =>
          rw [e] at hd'
          exact ⟨x, rfl, Option.some.inj hd'⟩
      have hi : i < mv.length := (List.getElem?_eq_some_iff.mp hx).1
      have et : mv.take (i + 1) = mv.take i ++ [x] := by
        rw [List.take_add_one, hx]
        rfl
      cases hq with
      | @tup c zs _ e hza =>
        cases hza with
        | @cons y0 _ _ _ q0 hza =>
        cases hza with
        | @cons y1 _ _ _ q1 hza =>
        cases hza with
        | @cons y2 _ _ _ q2 hza =>
        cases hza with
        | @cons y3 _ _ _ q3 hza =>
        cases hza
        cases q0
        cases q1
        cases q3
        obtain ⟨kvs, hk, hl, sh, inj, look⟩ := T.ex
        have lz : ∀ n, n ≤ i → n < sizeLine := fun n h => Nat.lt_of_le_of_lt (Nat.le_trans h (Nat.le_trans (Nat.le_of_lt hi) hn)) (by rw [sizeLine_eq]; omega)
        refine ⟨c, _, rfl, SqT.of (T.s _ _ (SB _ _ e)), rfl, _, _, rfl, _, _, rfl, _, _, rfl, _, _, rfl, rfl, ?_⟩
        refine ⟨_, rfl, _, rfl, (by show 2 ≤ sizeLine; decide), fun b nb => ?_⟩
        have tb_b : tb ≠ b := ne_of_none hk nb
        have hk1 : upd H1 b (.tup [y2, .int x.t]) tb = some (.dK kvs) := by
          rw [upd_ne tb_b]
          exact hk
        refine ⟨_, rfl, tb, rfl, .inl ⟨kvs, .inl hk1⟩, _, rfl, fun q nq => ?_⟩
        have tb_q : tb ≠ q := ne_of_none hk1 nq
        have hk2 : upd (upd H1 b (.tup [y2, .int x.t])) q (.dK []) tb = some (.dK kvs) := by
          rw [upd_ne tb_q]
          exact hk1
        refine ⟨kvs, Sum.inl x.s, hk2, rfl, lz _ hl, fun v hv => ?_, fun hv => ?_⟩
        · rcases look x.s with ⟨_, z⟩ | ⟨a2, z, ks, hks, lks, r⟩
          · rw [hv] at z
            cases z
          · rw [hv] at z
            cases z
            have T2 := T.old (x := x) q2 nb nq hk hv hks
            refine ⟨_, rfl, a2, _, rfl, DPut.k (k := Sum.inr x.m) ?_ (lz _ lks), ?_⟩
            · rw [upd_ne (ne_of_none (show upd H1 b (.tup [y2, .int x.t]) a2 = some (.dK ks) by rw [upd_ne (ne_of_none hks nb)]; exact hks) nq), upd_ne (ne_of_none hks nb)]
              exact hks
            · rw [et]
              exact ⟨T2, _, _, _, _, rfl⟩
        · have T2 := T.new (x := x) q2 nb nq hk hv
          refine ⟨_, rfl, q, _, rfl, DPut.k (k := Sum.inr x.m) (kvs := []) ?_ (by rw [sizeLine_eq]; decide), ?_⟩
          · rw [upd_ne tb_q.symm, upd_same]
          · rw [et]
            exact ⟨T2, _, _, _, _, rfl⟩
    · rintro σ H1 ⟨T, o1, o2, o3, o4, rfl⟩
      have len : xs.length = mv.length := by
        rw [hda.len, List.length_map]
      rw [len, List.take_length] at T
      exact ⟨_, rfl, k H1 tb T⟩
end
end KL
set_option Elab.async false
set_option linter.all false
set_option maxRecDepth 100000
set_option maxHeartbeats 2000000
namespace KL
open PySem L2 PySem.Spec PyProof.Rows
/-! ### a table that stands, read -/
def CellR (H : Hp) (u : V) (x : Mv) : Prop := ∃ b wv, u = .ref b ∧ H b = some (.tup [wv, .int x.t]) ∧ Dq H wv (strsD x.w)
def InnerR (H : Hp) (a : Addr) (f : Str → Option Mv) : Prop := ∃ ks, H a = some (.dK ks) ∧ ∀ m, (f m = none ∧ valV ks (Sum.inr m) = none) ∨ ∃ x u, f m = some x ∧ valV ks (Sum.inr m) = some u ∧ CellR H u x
def TabR (H : Hp) (tb : Addr) (f : Int → Str → Option Mv) : Prop := ∃ kvs, H tb = some (.dK kvs) ∧ ∀ i, ((∀ m, f i m = none) ∧ valV kvs (Sum.inl i) = none) ∨ ∃ a, valV kvs (Sum.inl i) = some (.ref a) ∧ InnerR H a (f i)
theorem CellR.same {H H' : Hp} {u : V} {x : Mv} (h : CellR H u x) (S : Same H H') : CellR H' u x := by
  obtain ⟨b, wv, rfl, h1, h2⟩ := h
  exact ⟨b, wv, rfl, S _ _ h1, Dq.same S _ _ h2⟩
theorem TabR.same {H H' : Hp} {tb : Addr} {f : Int → Str → Option Mv} (h : TabR H tb f) (S : Same H H') : TabR H' tb f := by
  obtain ⟨kvs, h1, h2⟩ := h
  refine ⟨kvs, S _ _ h1, fun i => ?_⟩
  rcases h2 i with h | ⟨a, h3, ks, h4, h5⟩
  · exact .inl h
  · refine .inr ⟨a, h3, ks, S _ _ h4, fun m => ?_⟩
    rcases h5 m with h | ⟨x, u, h6, h7, h8⟩
    · exact .inl h
    · exact .inr ⟨x, u, h6, h7, h8.same S⟩
/-- in a heap that has what is new in it -/
theorem Tab.stands {Hb H0 H Hk : Hp} {tb : Addr} {n : Nat} {f : Int → Str → Option Mv} (T : Tab Hb H0 H tb n f) (SB : Same Hb Hk) (nw : ∀ c o, H0 c = none → H c = some o → Hk c = some o) : TabR Hk tb f := by
  obtain ⟨S, n0, kvs, h1, _, sh, _, h2⟩ := T
  refine ⟨kvs, nw _ _ n0 h1, fun i => ?_⟩
  rcases h2 i with h | ⟨a, h3, ks, h4, _, h5⟩
  · exact .inl h
  · obtain ⟨_, _, _, ea, na, _⟩ := sh _ _ h3
    cases ea
    refine .inr ⟨a, h3, ks, nw _ _ na h4, fun m => ?_⟩
    rcases h5 m with h | ⟨x, u, h6, h7, b, wv, h8, n8, h9, h10⟩
    · exact .inl h
    · exact .inr ⟨x, u, h6, h7, b, wv, h8, nw _ _ n8 h9, Dq.same SB _ _ h10⟩
/-- what is written, and the state, behind one mark more -/
def stepM (f : Int → Str → Option Mv) (r : Option (List Str × Int)) (m : Str) : Option (List Str × Int) := r.bind fun p => (f p.2 m).map fun x => (p.1 ++ x.w, x.t)
def readM (f : Int → Str → Option Mv) (w : List Str) (s : Int) (ms : List Str) : Option (List Str × Int) := ms.foldl (stepM f) (some (w, s))
theorem step_none (f : Int → Str → Option Mv) : ∀ ms : List Str, ms.foldl (stepM f) none = none
  | [] => rfl
  | _ :: ms => step_none f ms
theorem read_take {f : Int → Str → Option Mv} {w : List Str} {s : Int} {ms : List Str} {i : Nat} {m : Str} (h : ms[i]? = some m) : readM f w s (ms.take (i + 1)) = stepM f (readM f w s (ms.take i)) m := by
  unfold readM
  rw [List.take_add_one, h, List.foldl_append]
  rfl
theorem read_dead {f : Int → Str → Option Mv} {w : List Str} {s : Int} {ms : List Str} {i : Nat} (h : readM f w s (ms.take i) = none) : readM f w s ms = none := by
  unfold readM at h ⊢
  rw [← List.take_append_drop i ms, List.foldl_append, h, step_none]
theorem strs_dq {H : Hp} : ∀ w : List Str, DqAll H (w.map V.str) (w.map .str)
  | [] => .nil
  | x :: w => .cons (.str x) (strs_dq w)
theorem strs_of {H : Hp} : ∀ {w : List Str} {xs : List V}, DqAll H xs (w.map .str) → xs = w.map V.str
  | [], _, h => by
    cases h
    rfl
  | x :: w, _, h => by
    cases h with
    | cons h1 h2 =>
      cases h1
      rw [strs_of h2]
      rfl
theorem strsD_of {H : Hp} {v : V} {w : List Str} (h : Dq H v (strsD w)) : ∃ a, v = .ref a ∧ H a = some (.tup (w.map V.str)) := by
  cases h with
  | @tup a xs _ e h => exact ⟨a, rfl, by rw [e, strs_of h]⟩
def spRead : Sp := fun vs H Q _ => ∃ (tb a : Addr) (s : Int) (ms : List Str) (f : Int → Str → Option Mv), vs = [.ref tb, .int s, .ref a] ∧ TabR H tb f ∧ H a = some (.tup (ms.map V.str)) ∧ ms.length ≤ 1000 ∧ (∀ i m x, f i m = some x → x.w.length ≤ 1000) ∧
  (readM f [] s ms = none → ∀ H', Same H H' → Q .non H') ∧ ∀ w e, readM f [] s ms = some (w, e) → ∀ H' p q, Same H H' → H' p = some (.tup [.ref q, .int e]) → H' q = some (.tup (w.map V.str)) → w.length ≤ 1000000 → Q (.ref p) H'
section
variable {P : Program} {w : World} {K : PySem.W.Frag} {mg : Str → Option Value} {base : Heap}
abbrev nRead : List Str := ["moves", "state", "marks", "written", "mark", "move"]
theorem scRead : FnScope nRead ["moves", "state", "marks"] (defScope sReadOn) := ⟨rfl, rfl, rfl, by decide +kernel, rfl, by decide +kernel, by decide +kernel⟩
theorem ok_read {f : Addr} {fd : FuncData} (F : Fun K "read_on" "read_on" sReadOn f fd) (tup : mg "tuple" = none) : FnOk P w K mg base CX0 1 f fd ["moves", "state", "marks"] spRead := by
  refine F.ok scRead (fun vs H Q E h => ?_) (fun cdv A outer s H vs Q E hr h => ?_)
  · obtain ⟨tb, a, st, ms, g, rfl, _⟩ := h
    rfl
  · obtain ⟨tb, a, st, ms, g, rfl, hT, ha, hn, hg, kN, kS⟩ := h
    have hu := hu_of hr
    refine ⟨_, pss_cons (ps_set (i := 3) scRead.nd rfl (.inl rfl) (pe_lst pa_nil))
      (pss_cons (ps_for PassesOwn.never rfl (pi_tup (pv 2)) (pg_name (i := 4) scRead.nd rfl (.inl rfl))
        (pss_cons (ps_set (i := 5) scRead.nd rfl (.inl rfl) (pe_dget1 hu (pe_dget2 hu (pv 0) (pv 1) pe_dnewK ⟨rfl, rfl, rfl, rfl⟩) (pv 4) ⟨rfl, rfl, rfl, rfl⟩))
        (pss_cons (ps_if (pt_cmpR op_isN (pv 5) pe_non (nomark _)) (pss_one (ps_ret pe_non)) pss_nil)
        (pss_cons (ps_expr (pe_bm PySem.F.plainAttrs_list PySem.F.slot_list_extend PySem.F.type_list_extend mt_extT (pv 3) (pa_cons (pe_ix ix_tup (pv 5) pe_int (fun _ _ => rfl)) pa_nil)))
        (pss_one (ps_set (i := 1) scRead.nd rfl (.inl rfl) (pe_ix ix_tup (pv 5) pe_int (fun _ _ => rfl))))))))
      (pss_one (ps_ret (pe_tup (pa_cons (pe_tupleOf (by rfl) tup (pv 3)) (pa_cons (pv 1) pa_nil)))))), ?_⟩
    refine ⟨Nat.zero_le _, fun L nL => ⟨_, rfl, a, rfl, ⟨_, SqT.of (same_new nL _ _ ha)⟩, for_tup (K := K) (a := a) (xs := ms.map V.str) (fun i σ H1 => Same H H1 ∧ ∃ w e o1 o2, readM g [] st (ms.take i) = some (w, e) ∧ w.length ≤ i * 1000 ∧ H1 L = some (.lst (w.map V.str)) ∧ σ = [some (.ref tb), some (.int e), some (.ref a), some (.ref L), o1, o2])
      ⟨same_new nL, [], st, none, none, rfl, Nat.zero_le _, upd_same, rfl⟩ (fun i σ H1 _ M => SqT.of (M.1 _ _ ha)) ?_ ?_⟩⟩
    · rintro i y σ H1 hy ⟨S1, w, e, o1, o2, hw, lw, hL, rfl⟩
      obtain ⟨m, hm, rfl⟩ : ∃ m, ms[i]? = some m ∧ V.str m = y := by
        rw [List.getElem?_map] at hy
        cases ex : ms[i]? with
        | none =>
          rw [ex] at hy
          cases hy
        | some x =>
          rw [ex] at hy
          exact ⟨x, rfl, Option.some.inj hy⟩
      have hi : i < ms.length := (List.getElem?_eq_some_iff.mp hm).1
      obtain ⟨kvs, hk, look⟩ := hT.same S1
      have next := read_take (f := g) (w := []) (s := st) hm
      rw [hw] at next
      refine ⟨_, rfl, tb, rfl, .inl ⟨kvs, .inl hk⟩, _, rfl, fun q nq => ?_⟩
      have Sq := same_new (o := .dK []) nq
      have dead : g e m = none → readM g [] st ms = none := fun z => by
        refine read_dead (i := i + 1) ?_
        rw [next]
        show ((g e m).map fun x => (w ++ x.w, x.t)) = none
        rw [z]
        rfl
      rcases look e with ⟨z1, z2⟩ | ⟨a2, z, ks, hks, r⟩
      · refine ⟨_, DGet.k (k := Sum.inl e) (Sq _ _ hk), ?_⟩
        rw [z2]
        refine ⟨q, rfl, .inl ⟨[], .inl upd_same⟩, _, rfl, _, DGet.k (k := Sum.inr m) upd_same, ?_⟩
        refine ⟨_, rfl, rfl, _, rfl, ?_⟩
        refine iteYes rfl ?_
        exact kN (dead (z1 m)) _ (S1.trans Sq)
      · refine ⟨_, DGet.k (k := Sum.inl e) (Sq _ _ hk), ?_⟩
        rw [z]
        refine ⟨a2, rfl, .inl ⟨ks, .inl (Sq _ _ hks)⟩, _, rfl, _, DGet.k (k := Sum.inr m) (Sq _ _ hks), ?_⟩
        rcases r m with ⟨r1, r2⟩ | ⟨x, u, r1, r2, b, wv, rfl, r3, r4⟩
        · rw [r2]
          refine ⟨_, rfl, rfl, _, rfl, ?_⟩
          refine iteYes rfl ?_
          exact kN (dead r1) _ (S1.trans Sq)
        · rw [r2]
          refine ⟨_, rfl, rfl, _, rfl, ?_⟩
          refine iteNo rfl ?_
          obtain ⟨c, rfl, hc⟩ := strsD_of r4
          have hz := hg e m x r1
          have hL2 : upd H1 q (.dK []) L = some (.lst (w.map V.str)) := Sq _ _ hL
          have S2 := S1.trans Sq
          have lz : (w.map V.str).length + (x.w.map V.str).length ≤ sizeLine := by
            rw [List.length_map, List.length_map, sizeLine_eq]
            have : i * 1000 ≤ 1000 * 1000 := Nat.mul_le_mul_right 1000 (by omega)
            omega
          refine ⟨_, rfl, .inl ⟨rfl, _, SqL.of hL2⟩, _, rfl, b, _, _, .ref c, rfl, rfl, SqT.of (Sq _ _ r3), rfl, L, c, _, _, rfl, rfl, hL2, SqT.of (Sq _ _ hc), lz, ?_⟩
          have S3 : Same H (upd (upd H1 q (.dK [])) L (.lst (w.map V.str ++ x.w.map V.str))) := fun d o ed => by
            rw [upd_ne (ne_of_none ed nL)]
            exact S2 _ _ ed
          have bL : b ≠ L := ne_of (Sq _ _ r3) hL2 (fun z => nomatch z)
          refine ⟨_, rfl, b, _, _, .int x.t, rfl, rfl, SqT.of (by rw [upd_ne bL]; exact Sq _ _ r3), rfl, S3, w ++ x.w, x.t, _, _, ?_, ?_, ?_, rfl⟩
          · rw [next]
            show ((g e m).map fun x => (w ++ x.w, x.t)) = _
            rw [r1]
            rfl
          · rw [List.length_append]
            have : (i + 1) * 1000 = i * 1000 + 1000 := by omega
            omega
          · rw [upd_same, List.map_append]
    · rintro σ H1 ⟨S1, w, e, o1, o2, hw, lw, hL, rfl⟩
      rw [List.length_map, List.take_length] at hw
      rw [List.length_map] at lw
      refine ⟨_, rfl, .inl ⟨L, _, rfl, SqL.of hL, fun q nq => ⟨_, rfl, by show 2 ≤ sizeLine; decide, fun p np => ?_⟩⟩⟩
      have Sq := same_new (o := .tup (w.map V.str)) nq
      have Sp := same_new (o := .tup [.ref q, .int e]) np
      exact kS w e hw _ p q (S1.trans (Sq.trans Sp)) upd_same (Sp _ _ upd_same) (by
        have : ms.length * 1000 ≤ 1000 * 1000 := Nat.mul_le_mul_right 1000 hn
        omega)
end
end KL
set_option Elab.async false
set_option linter.all false
set_option maxRecDepth 100000
set_option maxHeartbeats 4000000
namespace PySem
namespace KX
open PySem.W PySem.Calls PyProof.Rows
abbrev excB : List Value := [.type "Exception", .type "BaseException", .type "object"]
/-! ### a call of an error's class with keywords alone -/
section
variable {M : Model} {A : Around} {E : Value → Shared → Prop} {h : Heap} {g : Array GenState} {d : Drawn} {t : Nat} {os : OsState}
variable {nm q : Str} {C N : Addr} {bs bm bmB : List Value} {hdct : Bool} {sn : List Str} {sub : List Value} {ab : Bool} {col : Option Bool} {dd : Option Addr} {k0 k1 k2 k3 k5 : Option Value} {B newId initId : String}
theorem newCheckK (F : ExcBaseFacts B newId initId bmB) (hT : ∀ X : String, bm.contains (.type X) = bmB.contains (.type X)) {kw : List (Str × Value)} {Q : Unit → Shared → Prop}
    (hC : h.get? C = some (excClassObj nm q C N bs bm hdct sn sub ab col dd k0 k1 k2 k3 k5 newId)) (hq : Q () ⟨h, g, d, t, os⟩) : wpAny M A (checkBuiltinCall newId ⟨[.ref C], kw⟩) Q E ⟨h, g, d, t, os⟩ := by
  have z1 : (Value.ref C :: bm).contains (.type B) = true := by
    rw [List.contains_cons, hT, F.hasB, Bool.or_true]
  have z2 := F.noStar
  simp only [checkBuiltinCall, F.newKind, F.newSplit, F.newRow]
  repeat (first
    | refine wpAny_loadPart_at hC ?_
    | (refine wpAny_isSubtype_exc hC ?_
       rw [z1])
    | refine wpAny_staticBase_exc hC ?_
    | refine wpAny_madeBy_exc hC ?_
    | simp only [bne_self_eq_false, Bool.false_eq_true, if_false]
    | wp_step)
  exact hq
end
section
variable {prog : Program} {w : World} {A : Around} {E : Value → Shared → Prop} {R : Result → Shared → Prop} {h : Heap} {g : Array GenState} {d : Drawn} {t : Nat} {os : OsState}
variable {nm q : Str} {C N : Addr} {bs bm bmB : List Value} {hdct : Bool} {sn : List Str} {sub : List Value} {ab : Bool} {col : Option Bool} {dd : Option Addr} {k0 k1 k2 k3 k5 : Option Value} {B newId initId : String}
/-- the heap behind: empty args, the object -/
abbrev madeH (h : Heap) (C : Addr) : Heap := (h.push (kdv_tup [])).push (PX.excO C h.objs.size)
theorem newK (F : ExcBaseFacts B newId initId bmB) (hT : ∀ X : String, bm.contains (.type X) = bmB.contains (.type X)) {kw : List (Str × Value)}
    (hC : h.get? C = some (excClassObj nm q C N bs bm hdct sn sub ab col dd k0 k1 k2 k3 k5 newId)) (hq : R (.ok (.ret (.ref (h.objs.size + 1)))) ⟨madeH h C, g, d, t, os⟩) :
    codeAny (model prog w) A (.builtin newId ⟨[.ref C], kw⟩) R ⟨h, g, d, t, os⟩ := by
  have z0 := F.ends
  have z1 : (Value.ref C :: bm).contains (.type B) = true := by
    rw [List.contains_cons, hT, F.hasB, Bool.or_true]
  have z2 : (Value.ref C :: bm).contains (.type "AttributeError") = false := by
    rw [List.contains_cons, hT, F.noAttr]
    rfl
  have z3 : (Value.ref C :: bm).contains (.type "NameError") = false := by
    rw [List.contains_cons, hT, F.noName]
    rfl
  refine codeAny_builtinAt F.entry ?_
  unfold Builtin.«BaseException.__new__»
  refine wpAt_bind ?_
  show wpAt _ _ _ (stack >>= _) _ _ _
  refine wpAt_bind (wpAt_stack fun p below => wpAt_of_wpAny ?_)
  wp_walk
  refine wpAt_of_wpAny ?_
  rw [F.owner]
  repeat (first
    | with_reducible refine wpAny_madeHere_exc F.canon hC ?_
    | with_reducible refine wpAny_loadPart_at hC ?_
    | (with_reducible refine wpAny_isSubtype_exc hC ?_
       first
         | rw [z1]
         | rw [z2]
         | rw [z3])
    | wp_step)
  show R _ _
  rw [Heap.size_push]
  exact hq
theorem typeCallK (F : ExcBaseFacts B newId initId bmB) (hT : ∀ X : String, bm.contains (.type X) = bmB.contains (.type X)) {kw : List (Str × Value)} {fI : Addr} {Q : Fin → Shared → Prop}
    (hC : h.get? C = some (excClassObj nm q C N bs bm hdct sn sub ab col dd k0 k1 k2 k3 k5 newId)) (hi : Looks (model prog w) h (typeLookup (.ref C) "__init__") (some (.ref fI))) (hb : ∀ self, Looks (model prog w) h (bindSpecial (.ref fI) self) (.ref fI, [self]))
    (hq : codeAny (model prog w) A (.call (.ref fI) ⟨[.ref (h.objs.size + 1)], kw⟩) (fun r s' => match r with
      | .ok (.ret v) => v = .none ∧ Q (.done (.ret (.ref (h.objs.size + 1)))) s'
      | .ok _ => False
      | .error e => E e s') ⟨madeH h C, g, d, t, os⟩) : wpAny (model prog w) A (Builtin.«type.__call__» ⟨[.ref C], kw⟩) Q E ⟨h, g, d, t, os⟩ := by
  repeat (first
    | with_reducible refine wpAny_loadPart_at hC ?_
    | with_reducible refine wpAny_madeBy_exc hC ?_
    | wp_step)
  refine codeAny_call_builtin_code (Code.quiet_builtin _ F.quiet) (newCheckK F hT hC ?_)
  refine newK F hT hC ?_
  show wpAny _ _ _ _ _ _
  have k : ∀ b o, h.get? b = some o → (madeH h C).get? b = some o := fun b o e => Heap.get?_push_of_some _ (Heap.get?_push_of_some _ e)
  have hC1 := k _ _ hC
  have hg1 : (madeH h C).get? (h.objs.size + 1) = some (PX.excO C h.objs.size) := by heap_get
  have z : (Value.ref C :: bm).contains (.ref C) = true := by simp
  have i1 := hi.keeps k
  have b1 := (hb (.ref (h.objs.size + 1))).keeps k
  unfold isInstance
  repeat (first
    | with_reducible refine wpAny_loadPart_at hg1 ?_
    | (with_reducible refine wpAny_isSubtype_exc hC1 ?_
       rw [z])
    | wp_step)
  show wpAny _ _ (typeLookup (.ref C) _) _ _ _
  refine i1.at ?_
  refine wpAny_holding (wpAny_bind (b1.at ?_))
  refine wpAny_bind (wpAny_call (codeAny_mono hq fun r s' y => ?_))
  rcases r with e | (v | _ | _ | _) <;> first | exact y | exact y.elim | skip
  obtain ⟨rfl, y⟩ := y
  first
    | exact wpAny_pure (wpAny_pure y)
    | (wp_walk
       exact y)
theorem typeCheckK {M : Model} {E : Value → Shared → Prop} {kw : List (Str × Value)} {Q : Unit → Shared → Prop} (hC : h.get? C = some (excClassObj nm q C N bs bm hdct sn sub ab col dd k0 k1 k2 k3 k5 newId)) (hq : Q () ⟨h, g, d, t, os⟩) :
    wpAny M A (checkBuiltinCall "type.__call__" ⟨[.ref C], kw⟩) Q E ⟨h, g, d, t, os⟩ := by
  have y1 := tc_sub
  have y2 : (⟨h, g, d, t, os⟩ : Shared).TypeIs (.ref C) "type" := ⟨_, hC, rfl⟩
  simp only [checkBuiltinCall, tc_kind, tc_split]
  repeat (any_goals (first
    | assumption
    | with_reducible refine wpAny_loadPart_at hC ?_
    | with_reducible refine wpAny_onRaise ?_
    | with_reducible refine wpAny_map ?_
    | wp_step))
theorem callK (F : ExcBaseFacts B newId initId bmB) (hT : ∀ X : String, bm.contains (.type X) = bmB.contains (.type X)) {kw : List (Str × Value)} {fI : Addr}
    (hC : h.get? C = some (excClassObj nm q C N bs bm hdct sn sub ab col dd k0 k1 k2 k3 k5 newId)) (hi : Looks (model prog w) h (typeLookup (.ref C) "__init__") (some (.ref fI))) (hb : ∀ self, Looks (model prog w) h (bindSpecial (.ref fI) self) (.ref fI, [self]))
    (hq : codeAny (model prog w) (A.under (.builtin "type.__call__" ⟨[.ref C], kw⟩)) (.call (.ref fI) ⟨[.ref (h.objs.size + 1)], kw⟩) (InitBack (h.objs.size + 1) R) ⟨madeH h C, g, d, t, os⟩) :
    codeAny (model prog w) A (.call (.ref C) ⟨[], kw⟩) R ⟨h, g, d, t, os⟩ := by
  have y1 := tc_lookup
  have y2 := tc_bind (.ref C)
  have y3 : (⟨h, g, d, t, os⟩ : Shared).TypeIs (.ref C) "type" := ⟨_, hC, rfl⟩
  refine codeAny_of_tree ?_
  show wpAny _ _ (callAny (.ref C) _) _ _ _
  repeat (any_goals (first
    | assumption
    | with_reducible refine wpAny_loadPart_at hC ?_
    | wp_step))
  refine ⟨rfl, ?_⟩
  refine codeAny_call_builtin_at (Code.quiet_builtin _ (by decide +kernel)) entry_typeCall (typeCheckK hC (typeCallK F hT hC hi hb ?_))
  refine codeAny_mono hq fun r s' y => ?_
  rcases r with e | (v | _ | _ | _) <;> exact y
end
end KX
end PySem
set_option Elab.async false
set_option linter.all false
set_option maxRecDepth 100000
set_option maxHeartbeats 4000000
namespace PySem
namespace KX
open PySem.W PySem.Calls PyProof.Rows PySem.HandSPX
def iA (fl : Str) (p1 p2 : Pos) : Arguments := { posonlyargs := [], args := [{ arg := "self", annotation := none, pos := p1 }, { arg := fl, annotation := none, pos := p2 }], vararg := none, kwonlyargs := [], kw_defaults := [], kwarg := none, defaults := [] }
def iB (fl : Str) (q1 q2 q3 q4 : Pos) : List Stmt := [.Assign [.Attribute (.Name "self" q1) fl q2] (.Name fl q3) q4]
def iS (fl : Str) : Scope := { kind := .function, names := [(PySem.Str.ofString "self", .local), (fl, .local)], isGenerator := false, isCoroutine := false, more := [] }
/-- the fields of the errors -/
def IsFl (fl : Str) : Prop := fl = "part" ∨ fl = "line" ∨ fl = "index" ∨ fl = "paper" ∨ fl = "deed" ∨ fl = "thing" ∨ fl = "tries"
/-- what the written part says of an error's class at C -/
structure EC (K : Frag) (C : Addr) : Prop where
  ini : excInitIn K C excB "Exception.__new__" = true
  sa : findIn K (.ref C) "__setattr__" = some (some (.builtin "object.__setattr__"))
  ov : excOver K C excB = true
  hd : hasDictIn K C = true
  kp : keepIn K (.ref C) = true
  is : L2.ExcC K C
/-- .. and of its field and its __init__ -/
structure EI (K : Frag) (C fI : Addr) (fl qual : Str) : Prop where
  c : EC K C
  fls : IsFl fl
  nf : findIn K (.ref C) fl = some none
  iC : findIn K (.ref C) "__init__" = some (some (.ref fI))
  fn : ∃ (od : Option Addr) (doc pm : Value) (an : Option Addr) (cdv ct : Value) (osl : Array (Option Value)) (p1 p2 q1 q2 q3 q4 : Pos),
    K.lookup fI = some ⟨.type "function", od, .func (fnOf "__init__" qual (iA fl p1 p2) (iB fl q1 q2 q3 q4) (iS fl) .none .none doc pm an cdv ct), osl⟩ ∧ codeIn K cdv qual = true
/-- a made error: at e, its dict at d -/
structure Made (h h' : Heap) (e C d : Addr) (fl : Str) (v : Value) : Prop where
  keep : ∀ b o, h.get? b = some o → h'.get? b = some o
  new : h.objs.size ≤ e
  obj : ∃ t1 : Addr, h'.get? e = some { cls := .ref C, dict := some d, data := .fields #[.ref t1, .none, .none, .none, .bool false, .none] }
  dbig : h.objs.size ≤ d
  dne : d ≠ e
  ns : h'.Ns1 d (fun y => if y = fl then some v else none)
section
variable {prog : Program} {w : World} {A : Around} {E : Value → Shared → Prop} {R : Result → Shared → Prop} {s : Shared} {K : Frag} {C fI : Addr} {fl qual : Str}
theorem nameAt {M : Model} {s : Shared} {name : Str} {scope : Scope} {L a : Addr} {cd : Value} {m : Str → Option Value} {x : Str} {pos : Pos} {v : Value} {Q : Value → Shared → Prop} (hn : s.heap.Ns L m) (hv : m x = some v) (h : Q v s)
    (hk : scope.kind = .function) (hl : (envOfC name scope L a cd).kindOf x = some .local) (hd : (x == ("__debug__" : Str)) = false) : wpAny M A (eval (.Name x pos) (envOfC name scope L a cd)) Q E s :=
  wpAny_Name (wpAny_loadName_local hk hl hn hv h) hd
/-- self.fl = v on a fresh error -/
theorem storeE {x t0 : Addr} {tk : Tok} {v : Value} (T : EC K C) (nf : findIn K (.ref C) fl = some none) (X : K.In s.heap) (hx : s.heap.get? x = some (PX.excO C t0))
    (hq : ∀ h' tk' dx, (∀ b o, b ≠ x → s.heap.get? b = some o → h'.get? b = some o) → s.heap.objs.size ≤ dx → dx ≠ x → h'.get? x = some { cls := .ref C, dict := some dx, data := .fields #[.ref t0, .none, .none, .none, .bool false, .none] } →
      h'.Ns1 dx (fun y => if y = fl then some v else none) → R (.ok (.ret .none)) { s with heap := h', toks := tk' }) : codeAny (model prog w) A (.call (.builtin "object.__setattr__") ⟨[.ref x, .str fl tk, v], []⟩) R s := by
  refine osa_openX (od := none) F.store_Exception X ⟨hx, rfl, rfl, trivial⟩ T.ov (show takerIn K C fl = some none by unfold takerIn; rw [nf]; rfl) fun b => ?_
  obtain ⟨cd, hc, hd'⟩ := any_some T.hd
  have hxs : x ≠ s.heap.objs.size := Nat.ne_of_lt (Heap.lt_size hx)
  refine wpAny_bind (wpAny_pure (wpAny_bind (instanceDict_exc hx (looks_clsIn X hc) hd' ?_)))
  show wpAny _ _ (Builtin.ObjectAttr.storeInDict s.heap.objs.size (.str fl tk) fl v) _ _ _
  refine PX.store_in_new ?_ fun h' tk' hn' hs => ?_
  · exact ⟨_, #[], _, (Heap.get?_update_ne _ _ _ _ hxs.symm).trans (Heap.get?_push_at rfl rfl), rfl, fun e he => absurd he (by simp), fun _ => rfl⟩
  · have hx1 := Heap.get?_push_of_some (dictOf [] 0) hx
    refine hq h' tk' s.heap.objs.size (fun b o hb ho => ?_) (Nat.le_refl _) hxs.symm ?_ hn'
    · exact (hs.2 b (Nat.ne_of_lt (Heap.lt_size ho))).trans ((Heap.get?_update_ne _ _ _ _ hb).trans (Heap.get?_push_of_some _ ho))
    · exact (hs.2 x hxs).trans (Heap.get?_update_self _ hx1 rfl)
/-- the run of __init__ -/
theorem initRun (T : EI K C fI fl qual) {x t0 : Addr} {v : Value} {as : Args} (X : K.In s.heap) (hlim : s.heap.NoLimit) (hx : s.heap.get? x = some (PX.excO C t0)) (hroom : A.depth < recursionLimit)
    (has : as = ⟨[.ref x, v], []⟩ ∨ as = ⟨[.ref x], [(fl, v)]⟩)
    (hq : ∀ h' tk dx, (∀ b o, b ≠ x → s.heap.get? b = some o → h'.get? b = some o) → s.heap.objs.size ≤ dx → dx ≠ x → h'.get? x = some { cls := .ref C, dict := some dx, data := .fields #[.ref t0, .none, .none, .none, .bool false, .none] } →
      h'.Ns1 dx (fun y => if y = fl then some v else none) → R (.ok (.ret .none)) { s with heap := h', toks := tk }) : codeAny (model prog w) A (.call (.ref fI) as) R s := by
  obtain ⟨od, doc, pm, an, cdv, ct, osl, p1, p2, q1, q2, q3, q4, ho, hcd⟩ := T.fn
  have bd : BindsTo s (fnOf "__init__" qual (iA fl p1 p2) (iB fl q1 q2 q3 q4) (iS fl) .none .none doc pm an cdv ct) as [("self", .ref x), (fl, v)] := by
    rcases T.fls with e | e | e | e | e | e | e <;> subst e <;> rcases has with e | e <;> subst e <;> exact .of_eq (by first | rfl | with_unfolding_all rfl)
  have kd : ([(("self" : Str), Value.ref x), (fl, v)].all fun y => (iS fl).names.lookup y.1 == some .local || (iS fl).names.lookup y.1 == some .cell) = true := by
    rcases T.fls with e | e | e | e | e | e | e <;> subst e <;> first | rfl | with_unfolding_all rfl
  refine Att.call_fn X hlim ho hcd hroom bd kd (fun s₁ IC => ?_) rfl rfl rfl
  obtain ⟨h₁, tk₁, rfl⟩ := IC.toInCall.same
  have k : ∀ b o, s.heap.get? b = some o → h₁.get? b = some o := IC.toInCall.keep
  have hn := IC.toInCall.ns
  have X₁ : K.In h₁ := X.keeps k
  have hx₁ := k _ _ hx
  have z : s.heap.objs.size < h₁.objs.size := hn.lt
  show wpAny _ _ (execs _ _) _ _ _
  refine wpAny_execs_cons (plainObj_wpAny_Assign_Attribute ?_)
  have n1 : ∀ {a : Addr} {cd : Value}, (envOfC qual (iS fl) s.heap.objs.size a cd).kindOf fl = some .local := fun {a cd} => by
    rcases T.fls with e | e | e | e | e | e | e <;> subst e <;> first | rfl | with_unfolding_all rfl
  have n2 : ∀ {a : Addr} {cd : Value}, (envOfC qual (iS fl) s.heap.objs.size a cd).kindOf "self" = some .local := fun {a cd} => by
    rcases T.fls with e | e | e | e | e | e | e <;> subst e <;> first | rfl | with_unfolding_all rfl
  have n3 : (fl == ("__debug__" : Str)) = false := by
    rcases T.fls with e | e | e | e | e | e | e <;> subst e <;> decide +kernel
  refine nameAt (v := v) hn ?_ (nameAt (v := .ref x) hn ?_ ?_ rfl n2 (by decide +kernel)) rfl n1 n3
  · rcases T.fls with e | e | e | e | e | e | e <;> subst e <;> first | rfl | with_unfolding_all rfl | kernel_rfl
  · rcases T.fls with e | e | e | e | e | e | e <;> subst e <;> first | rfl | with_unfolding_all rfl | kernel_rfl
  refine set_plain X₁ (ox := PX.excO C t0) (od := none) ⟨hx₁, rfl, rfl, trivial⟩ T.c.sa ?_
  refine storeE T.c T.nf X₁ hx₁ fun h₃ tk₃ dx k₃ dn dne hx₃ hn₃ => ?_
  show wpAny _ _ (execs _ _) _ _ _
  exact wpAny_execs_nil (hq h₃ tk₃ dx (fun b o hb e => k₃ b o hb (k b o e)) (Nat.le_of_lt (Nat.lt_of_lt_of_le z dn)) dne hx₃ hn₃)
end
end KX
end PySem
set_option Elab.async false
set_option linter.all false
set_option maxRecDepth 100000
set_option maxHeartbeats 4000000
namespace PySem
namespace KX
open PySem.W PySem.Calls PyProof.Rows PySem.HandSPX
section
variable {prog : Program} {w : World} {A : Around} {E : Value → Shared → Prop} {R : Result → Shared → Prop} {s : Shared} {K : Frag} {C fI : Addr} {fl qual : Str}
theorem exMade (T : EI K C fI fl qual) {v : Value} {as : Args} (has : as = ⟨[v], []⟩ ∨ as = ⟨[], [(fl, v)]⟩) (X : K.In s.heap) (hlim : s.heap.NoLimit) (hroom : A.depth + 1 < recursionLimit)
    (hq : ∀ h' tk e d, Made s.heap h' e C d fl v → R (.ok (.ret (.ref e))) { s with heap := h', toks := tk }) : codeAny (model prog w) A (.call (.ref C) as) R s := by
  obtain ⟨nm, N, q, bs, bm, hdct, sn, sub, ab, col, dd, k0, k1, k2, k3, k5, hC, hT⟩ := excInit_of X T.c.ini
  obtain ⟨od, doc, pm, an, cdv, ct, osl, p1, p2, q1, q2, q3, q4, ho, hcd⟩ := T.fn
  obtain ⟨hp, g, dr, tk, os⟩ := s
  have hfI := X _ _ ho
  have fin : ∀ (pos : List Value) (c : Code) (as' : Args), (as' = ⟨[.ref (hp.objs.size + 1), v], []⟩ ∨ as' = ⟨[.ref (hp.objs.size + 1)], [(fl, v)]⟩) → (A.under c).depth = A.depth + 1 →
      codeAny (model prog w) (A.under c) (.call (.ref fI) as') (InitBack (hp.objs.size + 1) R) ⟨(hp.push (kdv_tup pos)).push (PX.excO C hp.objs.size), g, dr, tk, os⟩ := fun pos c as' ha hdp => by
    have k : ∀ b o, hp.get? b = some o → ((hp.push (kdv_tup pos)).push (PX.excO C hp.objs.size)).get? b = some o := fun b o e => Heap.get?_push_of_some _ (Heap.get?_push_of_some _ e)
    have hget : ((hp.push (kdv_tup pos)).push (PX.excO C hp.objs.size)).get? (hp.objs.size + 1) = some (PX.excO C hp.objs.size) := by heap_get
    refine initRun (s := ⟨(hp.push (kdv_tup pos)).push (PX.excO C hp.objs.size), g, dr, tk, os⟩) T (X.keeps k) (hlim.keeps k) hget ?_ ha fun h' tk' dx k' dn dne hx hns => ?_
    · rw [hdp]
      exact hroom
    · have z : hp.objs.size + 1 + 1 ≤ dx := by
        have q := dn
        rw [Heap.size_push, Heap.size_push] at q
        exact q
      exact ⟨rfl, hq h' tk' (hp.objs.size + 1) dx ⟨fun b o e => k' b o (Nat.ne_of_lt (Nat.lt_succ_of_lt (Heap.lt_size e))) (k b o e), Nat.le_succ _, ⟨_, hx⟩, Nat.le_trans (Nat.le_trans (Nat.le_succ _) (Nat.le_succ _)) z, dne, hns⟩⟩
  rcases has with rfl | rfl
  · refine PX.call_own F.excBase_Exception hT hC (looks_findIn X T.iC) (fun self => exc_bind hfI rfl self) (by show 1 ≤ sizeLine; rw [sizeLine_eq]; omega) (fin [v] _ _ (.inl rfl) ?_)
    first | rfl | simp [Around.under, Code.weight, Code.isCreation, Code.isGuard, Code.isCaller, Code.frames, Code.isFrame, guardIds]
  · refine callK F.excBase_Exception hT hC (looks_findIn X T.iC) (fun self => exc_bind hfI rfl self) (fin [] _ _ (.inr rfl) ?_)
    first | rfl | simp [Around.under, Code.weight, Code.isCreation, Code.isGuard, Code.isCaller, Code.frames, Code.isFrame, guardIds]
end
end KX
end PySem
namespace KL
open PySem L2 PySem.KX PySem.Spec PyProof.Rows
section
variable {X : Cx} {pins : List (Addr × Obj)} {σ : L2.St} {H : Hp} {s : Shared}
theorem invTwo {h' : Heap} {tk : Nat} {a C d : Addr} {fl : Str} {v : V} {u : Value} (I : Inv X pins σ H s) (M : Made s.heap h' a C d fl u) (rv : RelV v u) :
    H a = none ∧ H d = none ∧ Inv X pins σ (upd (upd H d (exd d [(fl, v)])) a (exo a C (some d))) { s with heap := h', toks := tk } := by
  have na : H a = none := I.hok.fresh M.new
  have nd : H d = none := I.hok.fresh M.dbig
  have fa : ∀ {b : Addr} {o : Obj}, s.heap.get? b = some o → b ≠ a := fun q => Nat.ne_of_lt (Nat.lt_of_lt_of_le (Heap.lt_size q) M.new)
  have fd : ∀ {b : Addr} {o : Obj}, s.heap.get? b = some o → b ≠ d := fun q => Nat.ne_of_lt (Nat.lt_of_lt_of_le (Heap.lt_size q) M.dbig)
  have S : Same H (upd (upd H d (exd d [(fl, v)])) a (exo a C (some d))) := fun b o e => by
    rw [upd_ne (ne_of_none e na), upd_ne (ne_of_none e nd)]
    exact e
  refine ⟨na, nd, I.un { keep := fun b o q _ _ _ => M.keep b o q, slot := fun b o q _ _ _ => ⟨o.slots, M.keep b o q⟩, free := fun b o q n _ => ?_, there := fun b o q _ => ⟨o, M.keep b o q⟩, tups := fun b xs q => S _ _ q, frzs := fun b o u q => S _ _ q, tbls := fun b ps q => ⟨#[], by rw [S _ _ q]; simp⟩ } fun b o e => ?_⟩
  · rw [upd_ne (fa q), upd_ne (fd q)]
    exact n
  · by_cases hb : b = a
    · subst hb
      rw [upd_same] at e
      cases e
      obtain ⟨t1, ho⟩ := M.obj
      exact exo_ok ho
    · rw [upd_ne hb] at e
      by_cases hd : b = d
      · subst hd
        rw [upd_same] at e
        cases e
        refine exd_ok M.ns fun f => ?_
        rw [lookup_put]
        by_cases hf : f = fl
        · rw [if_pos hf, if_pos hf]
          exact rv
        · rw [if_neg hf, if_neg hf]
          exact True.intro
      · rw [upd_ne hd] at e
        exact (I.hok b o e).stay (fun c w _ q => M.keep c w q) (fun c q => S _ _ q) fun c xs q => S _ _ q
end
/-- C(e) or C(fl = e) -/
def tEx (C : Addr) (fl : Str) (ta : TA) : TE := fun σ H Q => ta σ H fun vs H1 => ∃ v, vs = [v] ∧ ∀ a d, H1 a = none → H1 d = none → d ≠ a → Q (.ref a) (upd (upd H1 d (exd d [(fl, v)])) a (exo a C (some d)))
section
variable {X : Cx} {C fI : Addr} {fl qual x : Str} {p pos kpos : Pos} {e : Expr} {te : TE} {ta : TA}
theorem pe_ex (T : EI X.K C fI fl qual) (gC : X.mg x = some (.ref C)) (hr : Room 1 X.A) (hg : Gl X x) (ha : PA X [e] ta) (hdb : (x == ("__debug__" : Str)) = false := by decide) (he : starEach (e :: []) X.env = (false, eval e X.env) :: starEach [] X.env := by rfl)
    (hpl : (backTo pos (starEach [] X.env)).any (·.1) = false := by rfl) : PE X (.Call (.Name x p) [e] [] pos) (tEx C fl ta) := by
  refine ⟨fun pins s σ H Q I h => ?_⟩
  refine wpAny_Call_Name_kw (ld_glob I hg gC ?_ hdb)
  refine PySem.W.callWith_K (h₀ := X.base) I.ok.mod.kin T.c.kp (thn (ha.run pos pins s σ H _ I h) fun us s1 ⟨vs, H1, I1, r, v, ev, q⟩ => ⟨I1.kIn, ?_⟩) he hpl
  subst ev
  cases r with
  | cons rv rn =>
    cases rn
    rename_i u
    refine wpAny_call (exMade T (.inl rfl) I1.kIn I1.nolimit (by have := hr.dp; omega) fun h' tk a d M => ?_)
    obtain ⟨n1, n2, J⟩ := invTwo (tk := tk) I1 M rv
    exact ⟨.ref a, _, J, rfl, q a d n1 n2 M.dne⟩
theorem pe_exK (T : EI X.K C fI fl qual) (gC : X.mg x = some (.ref C)) (hr : Room 1 X.A) (hg : Gl X x) (ha : PE X e te) (hdb : (x == ("__debug__" : Str)) = false := by decide)
    (hall : (backToKw pos (keywordEach [⟨some fl, e, kpos⟩] X.env)).all (·.1.isSome) = true := by rfl) (hks : (backToKw pos (keywordEach [⟨some fl, e, kpos⟩] X.env)).filterMap (·.1) = [fl] := by rfl)
    (hpl : ((backTo pos (starEach [] X.env)).any (·.1) || (backToKw pos (keywordEach [⟨some fl, e, kpos⟩] X.env)).any (·.1.isNone)) = false := by rfl) :
    PE X (.Call (.Name x p) [] [⟨some fl, e, kpos⟩] pos) (tEx C fl (tCons te tNil)) := by
  refine ⟨fun pins s σ H Q I h => ?_⟩
  refine wpAny_Call_Name_kw (ld_glob I hg gC ?_ hdb)
  refine PySem.W.callWith_KW0 (h₀ := X.base) I.ok.mod.kin T.c.kp hall ?_ hpl
  refine thn ((pk_cons ha pk_nil).run pos pins s σ H _ I h) fun us s1 ⟨vs, H1, I1, r, v, ev, q⟩ => ⟨I1.kIn, ?_⟩
  rw [hks]
  subst ev
  cases r with
  | cons rv rn =>
    cases rn
    rename_i u
    refine wpAny_call (exMade T (.inr rfl) I1.kIn I1.nolimit (by have := hr.dp; omega) fun h' tk a d M => ?_)
    obtain ⟨n1, n2, J⟩ := invTwo (tk := tk) I1 M rv
    exact ⟨.ref a, _, J, rfl, q a d n1 n2 M.dne⟩
end
end KL
set_option Elab.async false
set_option linter.all false
set_option maxRecDepth 100000
set_option maxHeartbeats 4000000
namespace KL
open PySem L2 PySem.KX PySem.Spec PyProof.Rows
/-- an error's class without an __init__ -/
structure EB (K : PySem.W.Frag) (C : Addr) : Prop where
  c : EC K C
  ex : PySem.W.excIn K C excB "Exception.__new__" = true
/-- C() -/
def tEx0 (C : Addr) : TE := fun _ H Q => ∀ a, H a = none → Q (.ref a) (upd H a (exo a C none))
/-- e.f of an error -/
def tExAt (K : PySem.W.Frag) (f : Str) (te : TE) : TE := fun σ H Q => te σ H fun x H1 => ∃ (a C d : Addr) (fs : List (Str × V)) (v : V), x = .ref a ∧ EC K C ∧ PySem.W.findIn K (.ref C) f = some none ∧ H1 a = some (exo a C (some d)) ∧ H1 d = some (exd d fs) ∧ fs.lookup f = some v ∧ Q v H1
/-- an error stands at a -/
def ErrAt (H : Hp) (a C : Addr) : Prop := H a = some (exo a C none) ∨ ∃ d fs, H a = some (exo a C (some d)) ∧ H d = some (exd d fs)
/-- isinstance(e, c) -/
def rExIs (K : PySem.W.Frag) : List V → Hp → VK → Prop := fun xs H Q => ∃ (a C : Addr) (c : V) (cv : Value) (b : Bool), xs = [.ref a, c] ∧ EC K C ∧ ErrAt H a C ∧ ClsV c cv ∧ PySem.W.kitOne K (.ref C) cv = some b ∧ Q (.bl b) H
section
variable {X : Cx}
theorem pe_ex0 {C : Addr} {x : Str} {p pos : Pos} (T : EB X.K C) (gC : X.mg x = some (.ref C)) (hg : Gl X x) (hdb : (x == ("__debug__" : Str)) = false := by decide) : PE X (.Call (.Name x p) [] [] pos) (tEx0 C) := by
  refine ⟨fun pins s σ H Q I h => ?_⟩
  refine wpAny_Call_Name_kw (ld_glob I hg gC ?_ hdb)
  refine PySem.W.callWith_K0 I.kIn T.c.kp ?_
  obtain ⟨bm, N, nm, qn, bs, hdct, sn, sub, ab, col, dd, k0, k1, k2, k3, k5, mN, hC, hN, hni, O⟩ := exc_obj I.kIn T.ex
  obtain ⟨hp, g, dr, tk, os⟩ := s
  refine wpAny_call_exc_subT F.excBase_Exception O hC hN hni (fun h' a hm => ?_) (Nat.zero_le _)
  have hn : H a = none := I.hok.gone hm.new
  obtain ⟨t, ht, _, _⟩ := hm.there
  exact ⟨.ref a, upd H a (exo a C none), I.laidN (t' := tk) hm.keeps hm.new hn (exo_ok ht), rfl, h a hn⟩
theorem pe_exAt {e : Expr} {f : Str} {te : TE} {pos : Pos} (he : PE X e te) (hb : attributeBase e f X.env (eval e X.env) = eval e X.env := by rfl) : PE X (.Attribute e f pos) (tExAt X.K f te) := by
  refine ⟨fun pins s σ H Q I h => ?_⟩
  refine attr_of hb (thn (he.run pins s σ H _ I h) fun u s1 ⟨x, H1, I1, rx, a, C, d, fs, v, ex, T, nf, ha, hd, l, q⟩ => ?_)
  subst ex
  obtain rfl : u = Value.ref a := rx
  obtain ⟨t1, ho⟩ := exo_at I1.hok ha
  obtain ⟨mA, hns, hr⟩ := exd_at I1.hok hd
  obtain ⟨od, hod, hl⟩ := lookIn_ns hns
  obtain ⟨u, hu, ru⟩ := RelO.some_of (v := v) (o := mA f) (by rw [← l]; exact hr f)
  exact PySem.PX.exc_get I1.kIn ⟨ho, rfl, rfl, hod⟩ T.is.hg T.is.hk T.is.hs (PySem.W.findObj_own T.hd nf rfl (by rw [hl, hu])) (handed_of ru) ⟨v, H1, I1.tok _, ru, q⟩
theorem call_exIs : CallR X (.builtin "isinstance") (rExIs X.K) := by
  intro pins s σ H xs us Q I r h
  obtain ⟨a, C, c, cv, b, rfl, T, ea, kc, e, q⟩ := h
  obtain ⟨u1, u2, rfl, r1, r2⟩ := vals2 r
  have e2 := kc.eq r2
  subst e2
  cases (show u1 = Value.ref a from r1)
  have hcl : (PySem.W.clsIn X.K C).isSome = true := by
    obtain ⟨cd, hc, _⟩ := PySem.W.any_some T.hd
    rw [hc]
    rfl
  have go : ∀ {ox : Obj} {od : Option Obj}, PySem.W.InstAt s.heap a ox C od → wpAny (model X.prog X.w) X.A (call (.builtin "isinstance") [.ref a, u2]) (EP X pins σ Q) X.xe s := fun {ox od} J =>
    PySem.W.kia_one (PySem.W.kitx_exc hcl T.is.hg T.is.hk T.is.hs T.is.ha T.is.hn T.is.ht T.is.hm) I.kIn J e (fun z => nomatch z) fun tk => ⟨.bl b, H, I.tok tk, rfl, q⟩
  rcases ea with ea | ⟨d, fs, ea, ed⟩
  · obtain ⟨t1, ho⟩ := exo_at I.hok ea
    exact go (od := none) ⟨ho, rfl, rfl, trivial⟩
  · obtain ⟨t1, ho⟩ := exo_at I.hok ea
    obtain ⟨mA, hns, hr⟩ := exd_at I.hok ed
    obtain ⟨od, hod, hl⟩ := lookIn_ns hns
    exact go (od := some od) ⟨ho, rfl, rfl, hod⟩
end
end KL
set_option Elab.async false
set_option linter.all false
set_option maxRecDepth 100000
set_option maxHeartbeats 4000000
namespace KL
open PySem L2 PySem.KX PySem.Spec PyProof.Rows
/-- a def's promise where no guard stands around its call -/
structure FnG (P : Program) (w : World) (K : PySem.W.Frag) (mg : Str → Option Value) (base : Heap) (CX : CXT) (k : Nat) (f : Addr) (fd : FuncData) (ps : List Str) (sp : Sp) : Prop where
  len : ∀ vs H Q E, sp vs H Q E → vs.length = ps.length
  run : ∀ (A : Around) (outer : List Env) (s : Shared) (H : Hp) (args : Args) (us : List Value) (vs : List V) (Q : VK) (E : XK), A.guards = some [] → Room k A → Env0 P w K mg base A outer s H → BindsTo s fd args (ps.zip us) → Vals vs us → sp vs H Q E →
    codeAny (model P w) A (.call (.ref f) args) (CR CX outer P w H s Q E) s
section
variable {P : Program} {w : World} {K : PySem.W.Frag} {mg : Str → Option Value} {base : Heap}
theorem fnG {CX : CXT} {k : Nat} {f : Addr} {qual x : Str} {st : Stmt} {N ps : List Str} {sp : Sp} {fd : FuncData} (F : Fun K x qual st f fd) (S : FnScope N ps (defScope st)) (len : ∀ vs H Q E, sp vs H Q E → vs.length = ps.length)
    (hbody : ∀ (cdv : Value) (A : Around) (outer : List Env) (s : Shared) (H : Hp) (vs : List V) (Q : VK) (E : XK), A.guards = some [] → Room k (A.deeper (envOfC qual (defScope st) s.heap.objs.size f cdv)) → sp vs H Q E →
      ∃ t, PSs (cxOf CX P w K mg base N qual (defScope st) f cdv A outer s H E) (defBody st) t ∧ t { nx := fun _ H' => Q .non H', rt := Q } (start N vs) H) : FnG P w K mg base CX (k + 1) f fd ps sp := by
  obtain ⟨oc, od, kV, doc, pm, an, cdv, ct, osl, rfl, lk, hcd⟩ := F.ex
  refine ⟨len, fun A outer s H args us vs Q E hg hr e0 hb r hs => ?_⟩
  have hl := len _ _ _ _ hs
  have KX := e0.mod.kin.keeps fun b o e => (e0.bs b o e).1
  have lim := e0.mod.nolimit.keeps fun b o e => (e0.bs b o e).1
  have hk : ∀ y ∈ ps.zip us, (defScope st).names.lookup y.1 = some .local ∨ ((defScope st).names.lookup y.1 = some .cell ∧ ((cellsFrom (s.heap.objs.size + 1) (defScope st).names []).lookup y.1).isSome = true) := by
    rintro ⟨n, v⟩ hy
    rcases S.par n (List.of_mem_zip hy).1 with q | q
    · exact Or.inl q
    · exact Or.inr ⟨q, PySem.W.cellsFrom_some _ _ _ (Or.inl q)⟩
  refine codeAny_call_function hr.depth (KX _ _ lk) rfl S.co S.gen rfl (PySem.W.codeRec_of KX hcd) (hb _ _ _ _ ?_)
  refine wpAny_newFunctionEnv_cells S.kind hk fun env he s1 z => ?_
  subst he
  refine ⟨lim.keeps z.toInCall.keep, codeAny_func ?_⟩
  obtain ⟨t, ht, hq⟩ := hbody cdv A outer s H vs Q E hg (hr.deeper _) hs
  have J0 := inv_start (CX := CX) (E := E) S hr.hd e0 hl r z
  refine wpAny_mono (ht.run [] s1 (start N vs) H _ J0 hq) (fun fl s' y => ?_) fun e s' y => y
  match fl, y with
  | .ret u, ⟨v, σ', H', J, rv, q⟩ => exact ⟨v, H', J.os, J.bare, J.base, J.hok, rv, q⟩
  | .next, ⟨σ', H', J, q⟩ => exact ⟨V.non, H', J.os, J.bare, J.base, J.hok, rfl, q⟩
  | .brk, ⟨_, _, _, q⟩ => exact q.elim
  | .cont, ⟨_, _, _, q⟩ => exact q.elim
end
section
variable {X : Cx} {CX : CXT} {k : Nat} {f : Addr} {fd : FuncData} {ps : List Str} {sp : Sp} {E : XK} {x : Str} {p pos : Pos} {e : Expr} {es : List Expr} {t : TA}
theorem pe_callG (F : FnG X.prog X.w X.K X.mg X.base CX k f fd ps sp) (hG : X.A.guards = some []) (hr : Room k X.A) (hg : Gl X x) (hm : X.mg x = some (.ref f)) (hk : PySem.W.keepIn X.K (.ref f) = true) (hb : L2.Binds X.K fd ps []) (hx : Passes CX X E)
    (ha : PA X (e :: es) t) (hdb : (x == ("__debug__" : Str)) = false := by decide) (he : starEach (e :: es) X.env = (false, eval e X.env) :: starEach es X.env := by rfl) (hpl : (backTo pos (starEach es X.env)).any (·.1) = false := by rfl) :
    PE X (.Call (.Name x p) (e :: es) [] pos) (tCall sp [] E t) := by
  refine ⟨fun pins s σ H Q I h => ?_⟩
  refine wpAny_Call_Name_kw (ld_glob I hg hm ?_ hdb)
  refine PySem.W.callWith_K (h₀ := X.base) I.ok.mod.kin hk (thn (ha.run pos pins s σ H _ I h) fun us s1 ⟨vs, H1, I1, r, q⟩ => ⟨I1.kIn, ?_⟩) he hpl
  have q' : sp vs H1 Q E := by
    have z : sp (vs ++ []) H1 Q E := q
    rwa [List.append_nil] at z
  have hl : (us ++ []).length = ps.length := by
    rw [List.append_nil, ← r.length]
    exact F.len _ _ _ _ q'
  have bd := hb s1 us I1.kIn hl
  rw [List.append_nil] at bd
  refine wpAny_call (codeAny_mono (F.run X.A X.stack s1 H1 ⟨us, []⟩ us vs Q E hG hr I1.env0 bd r q') fun res s' y => ?_)
  match res, y with
  | .error er, y => exact hx pins σ H1 s1 er s' I1 y
  | .ok (.ret u), y => exact I1.after y
  | .ok .next, y => exact False.elim y
  | .ok .brk, y => exact False.elim y
  | .ok .cont, y => exact False.elim y
end
section
variable {P : Program} {w : World} {K : PySem.W.Frag} {mg mb : Str → Option Value} {CX : CXT} {k : Nat} {fa a : Addr} {fd : FuncData} {x : Str} {sp : Sp} {s1 : Shared} {vs : List Value} {ns : List Int}
/-- the law's call, from a heap in which the script alone may be tracked -/
theorem law_core (KX : K.In s1.heap) (hns : s1.heap.Ns mainGlobals mg) (hb : s1.heap.Ns builtinsNs mb) (hbb : ∀ x : Str, x ≠ "__name__" → mb x = bootBuiltins x) (hlim : s1.heap.NoLimit) (hg : s1.gens = #[])
    (ha : s1.heap.get? a = some { cls := .type "list", data := .seq vs.toArray }) (hr : Room k PySem.callerA)
    (F : ∀ base : Heap, K.In base → base.Ns mainGlobals mg → FnG P w K mg base CX k fa fd [x] sp) (hbind : ∀ (s : Shared) (u : Value), BindsTo s fd ⟨[u], []⟩ [(x, u)])
    (hCX : ∀ H e s', CX [] H s1 (fun _ _ _ => False) e s' → False) (H : Hp) (hO : Only H) (q0 : sp [.ref a] H (fun v _ => v = .bl true) fun _ _ _ => False) (hok : HOk P w H s1.heap) (hA : ∀ b, H b ≠ none → b = a) (hK : H a ≠ none → K.lookup a = none) :
    codeAny (model P w) PySem.callerA (.call (.ref fa) ⟨[.ref a], []⟩) (fun r s' => r = .ok (.ret (.bool true)) ∧ OldK s1.heap s'.heap ∧ s'.os = s1.os ∧ AllBare s'.gens) s1 := by
  have only_a : ∀ {b : Addr} {u : HO}, H b = some u → b = a := fun {b u} q => hA b (by rw [q]; simp)
  have dict_free : ∀ {b : Addr} {o : Obj} {es : Array DictEntry} {ep : Nat}, s1.heap.get? b = some o → o.data = .dict es ep → H b = none := fun {b o es ep} e d => by
    cases q : H b with
    | none => rfl
    | some u =>
      have z := only_a q
      subst z
      rw [ha] at e
      cases e
      have d' : Data.seq vs.toArray _ = Data.dict es ep := d
      cases d'
  have up : ∀ {b : Addr} {m : Str → Option Value}, s1.heap.Ns b m → (hidT s1.heap H).Ns b m := fun {b m} ⟨o, es, ep, e, d, r⟩ => ⟨o, es, ep, hidT_get e (dict_free e d), d, r⟩
  have kIn : K.In (hidT s1.heap H) := fun b o e => by
    refine hidT_get (KX b o e) ?_
    cases q : H b with
    | none => rfl
    | some u =>
      have z := only_a q
      subst z
      rw [hK (by rw [q]; simp)] at e
      cases e
  have M : Mod K mg (hidT s1.heap H) := ⟨kIn, up hns, ⟨mb, up hb, hbb⟩, let ⟨mc, y1, y2⟩ := hlim; ⟨mc, up y1, y2⟩⟩
  have nil : ∀ b : Addr, b ∉ ([] : List Addr) := fun b z => by simp at z
  have e0 : Env0 P w K mg (hidT s1.heap H) PySem.callerA [] s1 H := ⟨rfl, M, fun b o e => of_hidT e, Nat.le_of_eq (hidT_size _ _), trivial, fun b z => absurd z (nil b), hok, .of_eq hg⟩
  refine codeAny_mono ((F _ kIn (up hns)).run PySem.callerA [] s1 H ⟨[.ref a], []⟩ [.ref a] [.ref a] _ _ rfl hr e0 (hbind s1 (.ref a)) (.cons rfl .nil) q0) fun r s' y => ?_
  match r, y with
  | .error e, y => exact (hCX H e s' y).elim
  | .ok .next, y => exact y.elim
  | .ok .brk, y => exact y.elim
  | .ok .cont, y => exact y.elim
  | .ok (.ret u), ⟨v, H', os, bare, un, hok', rv, q⟩ =>
    have q' : v = .bl true := q
    subst q'
    have eu : u = Value.bool true := rv
    subst eu
    refine ⟨rfl, OldK.of_keep fun b o e => ?_, os, bare⟩
    cases q : H b with
    | none => exact un.keep b o e q (nil b) (nil b)
    | some u =>
      rcases hO b with z | ⟨ob, xs, z⟩
      · rw [q] at z
        cases z
      · have e1 := (hok b _ z).1
        have e2 := (hok' b _ (un.frzs b ob _ z)).1
        rw [e] at e1
        cases e1
        exact e2
theorem law_callG (KX : K.In s1.heap) (hns : s1.heap.Ns mainGlobals mg) (hb : s1.heap.Ns builtinsNs mb) (hbb : ∀ x : Str, x ≠ "__name__" → mb x = bootBuiltins x) (hlim : s1.heap.NoLimit) (hg : s1.gens = #[])
    (ha : s1.heap.get? a = some { cls := .type "list", data := .seq vs.toArray }) (hi : IntsAre vs ns) (hl : ns.length ≤ sizeLine) (hr : Room k PySem.callerA)
    (F : ∀ base : Heap, K.In base → base.Ns mainGlobals mg → FnG P w K mg base CX k fa fd [x] sp) (hbind : ∀ (s : Shared) (u : Value), BindsTo s fd ⟨[u], []⟩ [(x, u)])
    (hsp : ∀ H : Hp, Only H → SqL K H a (ns.map V.int) → sp [.ref a] H (fun v _ => v = .bl true) fun _ _ _ => False) (hCX : ∀ H e s', CX [] H s1 (fun _ _ _ => False) e s' → False) :
    codeAny (model P w) PySem.callerA (.call (.ref fa) ⟨[.ref a], []⟩) (fun r s' => r = .ok (.ret (.bool true)) ∧ OldK s1.heap s'.heap ∧ s'.os = s1.os ∧ AllBare s'.gens) s1 := by
  have rv := vals_ints hi
  have lenV := hi.length
  cases hk : K.lookup a with
  | some o =>
    have e := KX a o hk
    rw [ha] at e
    cases e
    have hO : Only (fun _ => none) := fun _ => .inl rfl
    refine law_core KX hns hb hbb hlim hg ha hr F hbind hCX (fun _ => none) hO (hsp _ hO (.inr ⟨_, vs.toArray, _, hk, rfl, rfl, rfl, by rw [List.size_toArray, lenV]; exact hl, by simpa using rv⟩)) (fun b u z => ?_) (fun b z => absurd rfl z) fun z => absurd rfl z
    have z' : (none : Option HO) = some u := z
    cases z'
  | none =>
    let T : Hp := fun b => if b = a then some (.frz { cls := .type "list", data := .seq vs.toArray } (.lst (ns.map V.int))) else none
    have Ta : T a = some (.frz { cls := .type "list", data := .seq vs.toArray } (.lst (ns.map V.int))) := if_pos rfl
    have Tb : ∀ b, b ≠ a → T b = none := fun b hb => if_neg hb
    have hO : Only T := fun b => by
      by_cases z : b = a
      · exact .inr ⟨_, _, by rw [z]; exact Ta⟩
      · exact .inl (Tb b z)
    refine law_core KX hns hb hbb hlim hg ha hr F hbind hCX T hO (hsp T hO (.inl (.inr ⟨_, Ta⟩))) (fun b u z => ?_) (fun b z => ?_) fun _ => hk
    · by_cases y : b = a
      · subst y
        have z' := Ta.symm.trans z
        cases z'
        exact ⟨ha, by rw [List.length_map]; exact hl, vs, _, rv, ha⟩
      · have z' := (Tb b y).symm.trans z
        cases z'
    · by_cases y : b = a
      · exact y
      · exact absurd (Tb b y) z
end
/-- the goal that the head leaves, from the law's promise -/
theorem walkG {l : PySem.W.OpenLaw} {n k : Nat} {q : Program} {loose : List Str} {XP : (Str → Option Value) → Heap → Prop} {YP : World → Heap → Prop} {d : DefRec} {K : Params → PySem.W.Frag} {CX : World → CXT} {sp : World → Sp} {x : Str}
    (hn : l.most = some n) (hn2 : n ≤ sizeLine) (hdf : d.params.defaults = []) (hr : Room k PySem.callerA) (hY : ∀ (w : World) (h : Heap), YP w h → (K w.params).In h)
    (F : ∀ (w : World) (mg : Str → Option Value) (fa : Addr) (h : Heap), (K w.params).In h → h.Ns mainGlobals mg → mg d.name = some (.ref fa) →
      ∃ fd : FuncData, (∀ (s : Shared) (u : Value), BindsTo s fd ⟨[u], []⟩ [(x, u)]) ∧ ∀ base : Heap, (K w.params).In base → base.Ns mainGlobals mg → FnG l.prog w (K w.params) mg base (CX w) k fa fd [x] (sp w))
    (hsp : ∀ (w : World) (H : Hp) (a : Addr) (ns : List Int), ns.length ≤ n → Only H → SqL (K w.params) H a (ns.map V.int) → sp w [.ref a] H (fun v _ => v = .bl true) fun _ _ _ => False)
    (hCX : ∀ (w : World) (H : Hp) (s : Shared) (e : Value) (s' : Shared), CX w [] H s (fun _ _ _ => False) e s' → False) : PySem.W.WalkO q loose XP YP l.row.toRowW d [] (fun f vs => PySem.call f vs) := by
  refine Att.attach_call hn hdf fun w s0 s1 mg mb fa o pm cd doc a vs ns G Y ho hd hcd hmg hobj hints hlen hg => ?_
  have KX := hY w _ Y
  obtain ⟨fd, hb, hF⟩ := F w mg fa _ KX G.T.g hmg
  exact law_callG KX G.T.g G.T.b G.T.builtins G.T.nolimit hg hobj hints (Nat.le_trans hlen hn2) hr hF hb (fun H hO hS => hsp w H a ns hlen hO hS) fun H e s' => hCX w H s1 e s'
end KL
set_option Elab.async false
set_option linter.all false
set_option maxRecDepth 100000
set_option maxHeartbeats 4000000
namespace KL
open PySem L2 PySem.KX PySem.Spec PyProof.Rows
theorem fnG0 {P : Program} {w : World} {K : PySem.W.Frag} {mg : Str → Option Value} {base : Heap} {k : Nat} {f : Addr} {qual x : Str} {st : Stmt} {N ps : List Str} {sp : Sp} {fd : FuncData} (F : Fun K x qual st f fd) (S : FnScope N ps (defScope st)) (len : ∀ vs H Q E, sp vs H Q E → vs.length = ps.length)
    (hbody : ∀ (cdv : Value) (A : Around) (outer : List Env) (s : Shared) (H : Hp) (vs : List V) (Q : VK) (E : XK), A.guards = some [] → Room k (A.deeper (envOfC qual (defScope st) s.heap.objs.size f cdv)) → sp vs H Q E →
      ∃ t, PSs (cxOf CX0 P w K mg base N qual (defScope st) f cdv A outer s H E).nox (defBody st) t ∧ t { nx := fun _ H' => Q .non H', rt := Q } (start N vs) H) : FnG P w K mg base CX0 (k + 1) f fd ps sp :=
  fnG F S len fun cdv A outer s H vs Q E hg hr hs => by
    obtain ⟨t, ht, hq⟩ := hbody cdv A outer s H vs Q E hg hr hs
    exact ⟨t, ht.nox, hq⟩
/-- what a raised error leaves to be wished for -/
def tMkX (C : Addr) (fl : Str) (ta : TA) : L2.St → Hp → XK → Prop := fun σ H Q => ta σ H fun vs H1 => ∃ v, vs = [v] ∧ ∀ d, H1 d = none → Q (.ref C) (some d) (upd H1 d (.xd [(fl, v)]))
section
variable {X : Cx} {C fI : Addr} {fl qual x : Str} {p pos kpos : Pos} {e : Expr} {te : TE} {ta : TA}
theorem mkpOf {pins : List (Addr × Obj)} {σ : L2.St} {H : Hp} {s : Shared} {h' : Heap} {tk : Nat} {a d : Addr} {v : V} {u : Value} {Q : XK} (I : Inv X pins σ H s) (M : Made s.heap h' a C d fl u) (rv : RelV v u) (hR : Raises X (.ref C)) (q : ∀ d, H d = none → Q (.ref C) (some d) (upd H d (.xd [(fl, v)]))) :
    MkP X pins σ Q (.ref a) { s with heap := h', toks := tk } := by
  have nd : H d = none := I.hok.fresh M.dbig
  have na : H a = none := I.hok.fresh M.new
  obtain ⟨G, g1, g2⟩ := restrict h' fun b => decide (b ≠ a)
  have gk : ∀ b, b ≠ a → G.get? b = h'.get? b := fun b hb => g1 b (decide_eq_true hb)
  have ga : G.get? a = none := g2 a (by simp)
  have gs : ∀ b o, G.get? b = some o → h'.get? b = some o := fun b o e => by
    by_cases hb : b = a
    · rw [hb, ga] at e
      cases e
    · rw [← gk b hb]
      exact e
  obtain ⟨o, es, ep, y1, y2⟩ := M.ns
  have new : ObjOk X.prog X.w (upd H d (.xd [(fl, v)])) G d (.xd [(fl, v)]) := by
    refine ⟨_, ⟨o, es, ep, (gk d M.dne).trans y1, y2⟩, fun f => ?_⟩
    rw [lookup_put]
    by_cases hf : f = fl
    · rw [if_pos hf, if_pos hf]
      exact rv
    · rw [if_neg hf, if_neg hf]
      exact True.intro
  have J := I.laid (t' := tk) (a := d) (o := .xd [(fl, v)]) (h' := G) (fun b o e => (gk b (Nat.ne_of_lt (Nat.lt_of_lt_of_le (Heap.lt_size e) M.new))).trans (M.keep b o e)) M.dbig new
  obtain ⟨t1, ho⟩ := M.obj
  exact ⟨a, _, _, { s with heap := G, toks := tk }, _, .ref C, some d, rfl, J, gs, ga, ho, ⟨rfl, rfl⟩, rfl, rfl, by rw [upd_ne M.dne.symm]; exact na, rfl, I.bare, hR, q d nd⟩
theorem pmk_ex (T : EI X.K C fI fl qual) (tC : PySem.W.typeIn X.K (.ref C) = some (.type "type")) (gC : X.mg x = some (.ref C)) (hr : Room 1 X.A) (hg : Gl X x) (ha : PA X [e] ta) (hdb : (x == ("__debug__" : Str)) = false := by decide) (he : starEach (e :: []) X.env = (false, eval e X.env) :: starEach [] X.env := by rfl)
    (hpl : (backTo pos (starEach [] X.env)).any (·.1) = false := by rfl) : PMk X (.Call (.Name x p) [e] [] pos) (tMkX C fl ta) := by
  intro pins s σ H Q I h
  refine wpAny_Call_Name_kw (ld_glob I hg gC ?_ hdb)
  refine PySem.W.callWith_K (h₀ := X.base) I.ok.mod.kin T.c.kp (thn (ha.run pos pins s σ H _ I h) fun us s1 ⟨vs, H1, I1, r, v, ev, q⟩ => ⟨I1.kIn, ?_⟩) he hpl
  subst ev
  cases r with
  | cons rv rn =>
    cases rn
    exact wpAny_call (exMade T (.inl rfl) I1.kIn I1.nolimit (by have := hr.dp; omega) fun h' tk a d M => mkpOf I1 M rv (raises_own T.c.is.hs tC) q)
theorem pmk_exK (T : EI X.K C fI fl qual) (tC : PySem.W.typeIn X.K (.ref C) = some (.type "type")) (gC : X.mg x = some (.ref C)) (hr : Room 1 X.A) (hg : Gl X x) (ha : PE X e te) (hdb : (x == ("__debug__" : Str)) = false := by decide)
    (hall : (backToKw pos (keywordEach [⟨some fl, e, kpos⟩] X.env)).all (·.1.isSome) = true := by rfl) (hks : (backToKw pos (keywordEach [⟨some fl, e, kpos⟩] X.env)).filterMap (·.1) = [fl] := by rfl)
    (hpl : ((backTo pos (starEach [] X.env)).any (·.1) || (backToKw pos (keywordEach [⟨some fl, e, kpos⟩] X.env)).any (·.1.isNone)) = false := by rfl) : PMk X (.Call (.Name x p) [] [⟨some fl, e, kpos⟩] pos) (tMkX C fl (tCons te tNil)) := by
  intro pins s σ H Q I h
  refine wpAny_Call_Name_kw (ld_glob I hg gC ?_ hdb)
  refine PySem.W.callWith_KW0 (h₀ := X.base) I.ok.mod.kin T.c.kp hall ?_ hpl
  refine thn ((pk_cons ha pk_nil).run pos pins s σ H _ I h) fun us s1 ⟨vs, H1, I1, r, v, ev, q⟩ => ⟨I1.kIn, ?_⟩
  rw [hks]
  subst ev
  cases r with
  | cons rv rn =>
    cases rn
    exact wpAny_call (exMade T (.inr rfl) I1.kIn I1.nolimit (by have := hr.dp; omega) fun h' tk a d M => mkpOf I1 M rv (raises_own T.c.is.hs tC) q)
/-- isinstance of the error that the suite holds -/
def rIsX (K : PySem.W.Frag) (a : Addr) (cls : Value) (d : Option Addr) : List V → Hp → VK → Prop := fun xs H Q => ∃ (D dd : Addr) (fs : List (Str × V)) (c : V) (cv : Value) (b : Bool), xs = [.ref a, c] ∧ cls = .ref D ∧ d = some dd ∧ H dd = some (.xd fs) ∧ EC K D ∧ ClsV c cv ∧ PySem.W.kitOne K (.ref D) cv = some b ∧ Q (.bl b) H
theorem call_isX {a : Addr} {oe : Obj} {cls : Value} {d : Option Addr} {pn : List (Addr × Obj)} (hz : Zc cls d oe) (hf : ∃ vs, oe.data = .fields vs) : CallR (X.suite a ((a, oe) :: pn)) (.builtin "isinstance") (rIsX X.K a cls d) := by
  intro pins s σ H xs us Q I r h
  obtain ⟨D, dd, fs, c, cv, b, rfl, rfl, rfl, hd, T, kc, e, q⟩ := h
  obtain ⟨u1, u2, rfl, r1, r2⟩ := vals2 r
  have e2 := kc.eq r2
  subst e2
  cases (show u1 = Value.ref a from r1)
  obtain ⟨ha, _⟩ := I.pin (a, oe) (List.mem_append_left _ List.mem_cons_self)
  obtain ⟨vs, hv⟩ := hf
  have hx : ObjOk X.prog X.w H s.heap dd (.xd fs) := I.hok dd _ hd
  obtain ⟨mA, hns, _⟩ := hx
  obtain ⟨od, hod, _⟩ := lookIn_ns hns
  have J : PySem.W.InstAt s.heap a oe D (some od) := ⟨ha, hz.1, by unfold PySem.W.notCls; rw [hv] <;> rfl, by rw [hz.2]; exact hod⟩
  have hcl : (PySem.W.clsIn X.K D).isSome = true := by
    obtain ⟨cd, hc, _⟩ := PySem.W.any_some T.hd
    rw [hc]
    rfl
  exact PySem.W.kia_one (PySem.W.kitx_exc hcl T.is.hg T.is.hk T.is.hs T.is.ha T.is.hn T.is.ht T.is.hm) I.kIn J e (fun z => nomatch z) fun tk => ⟨.bl b, H, I.kept (t' := tk) fun _ _ z => z, rfl, q⟩
end
end KL
set_option Elab.async false
set_option linter.all false
set_option maxRecDepth 100000
set_option maxHeartbeats 2000000
namespace KL
open PySem L2 PySem.KX PySem.Spec PyProof.Rows
section
variable {X : Cx} {pins : List (Addr × Obj)} {σ : L2.St} {H : Hp} {s : Shared}
theorem most_two {h : Heap} {n m : Nat} {as bs : List Addr} (x : ReadAtMost h n as) (y : ReadAtMost h m bs) : ReadAtMost h (max n m) (as ++ bs) :=
  (x.mono (Nat.le_max_left n m)).append (y.mono (Nat.le_max_right n m))
mutual
theorem Dq.repr (I : Inv X pins σ H s) : ∀ (d : PyData) (v : V) (u : Value), Dq H v d → RelV v u → d.showable = true → d.shown.length ≤ sizeLine → ∃ bs, ReadAtMost s.heap d.depth bs ∧ ReprK X.prog X.w bs s.heap d.depth u d.shown
  | .list ds, v, u, h, r, w, z => by
    obtain ⟨as, rd, _⟩ := Dq.reads I (.list ds) v u h r
    cases h with
    | lst q ha =>
      cases r
      obtain ⟨_, its, n, rv, ho⟩ := I.hok _ _ q
      have z : (listText (PyData.shownAll ds)).length ≤ sizeLine := by simpa only [PyData.shown] using z
      obtain ⟨bs, h1, h2⟩ := DqAll.repr I ds _ its ha rv (by simpa [PyData.showable] using w) fun t ht => Nat.le_trans (listText_mem_le ht) z
      have out := not_mem_of_deeper rd (n := PyData.depthAll ds) (Nat.lt_succ_self _) h1
      refine ⟨_ :: bs, ReadAtMost.cons rd (Nat.le_succ (PyData.depthAll ds)) h1, ?_⟩
      rw [PyData.depth, PyData.shown]
      cases its with
      | nil =>
        cases ds with
        | nil =>
          rw [PyData.shownAll, listText_nil]
          exact ReprK.listEmpty ho rfl rfl
        | cons d ds => cases h2
      | cons x l => exact ReprK.list ho rfl rfl out (h2.length_eq.trans (by simp)) fun i y e => h2.item i y (by simpa using e)
  | .tuple ds, v, u, h, r, w, z => by
    obtain ⟨as, rd, _⟩ := Dq.reads I (.tuple ds) v u h r
    cases h with
    | tup q ha =>
      cases r
      obtain ⟨_, its, rv, o, o1, o2, n, o3⟩ := I.hok _ _ q
      have z : (tupleText (PyData.shownAll ds)).length ≤ sizeLine := by simpa only [PyData.shown] using z
      obtain ⟨bs, h1, h2⟩ := DqAll.repr I ds _ its ha rv (by simpa [PyData.showable] using w) fun t ht => Nat.le_trans (tupleText_mem_le ht) z
      refine ⟨_ :: bs, ReadAtMost.cons rd (Nat.le_succ (PyData.depthAll ds)) h1, ?_⟩
      rw [PyData.depth, PyData.shown]
      exact ReprK.tuple o1 o2 o3 (not_mem_of_deeper rd (n := PyData.depthAll ds) (Nat.lt_succ_self _) h1) h2
  | .none, v, u, h, r, w, z => let ⟨_, rd, _⟩ := Dq.reads I _ v u h r; ReprK.of_reads rd w (fun x => by cases x) z
  | .bool _, v, u, h, r, w, z => let ⟨_, rd, _⟩ := Dq.reads I _ v u h r; ReprK.of_reads rd w (fun x => by cases x) z
  | .int _, v, u, h, r, w, z => let ⟨_, rd, _⟩ := Dq.reads I _ v u h r; ReprK.of_reads rd w (fun x => by cases x) z
  | .str _, v, u, h, r, w, z => let ⟨_, rd, _⟩ := Dq.reads I _ v u h r; ReprK.of_reads rd w (fun x => by cases x) z
  | .dict _, v, u, h, r, w, z => let ⟨_, rd, sm⟩ := Dq.reads I _ v u h r; ReprK.of_reads rd w (fun _ => sm rfl) z
theorem DqAll.repr (I : Inv X pins σ H s) : ∀ (ds : List PyData) (vs : List V) (us : List Value), DqAll H vs ds → Vals vs us → PyData.showableAll ds = true → (∀ t ∈ PyData.shownAll ds, t.length ≤ sizeLine) →
    ∃ bs, ReadAtMost s.heap (PyData.depthAll ds) bs ∧ ReprAllK X.prog X.w bs s.heap (PyData.depthAll ds) us (PyData.shownAll ds)
  | [], _, _, h, r, _, _ => by
    cases h
    cases r
    exact ⟨[], (fun _ x => nomatch x), ReprAllK.nil⟩
  | d :: ds, _, _, h, r, w, z => by
    cases h with
    | cons h1 h2 =>
      cases r with
      | cons r1 r2 =>
        have w' := Bool.and_eq_true_iff.mp (show (d.showable && PyData.showableAll ds) = true from w)
        obtain ⟨b1, k1, j1⟩ := Dq.repr I d _ _ h1 r1 w'.1 (z _ (.head _))
        obtain ⟨b2, k2, j2⟩ := DqAll.repr I ds _ _ h2 r2 w'.2 fun t ht => z t (.tail _ ht)
        refine ⟨b1 ++ b2, most_two k1 k2, .cons ((j1.more fun b hb => ?_).level_le (Nat.le_max_left _ _)) (j2.more_le (fun b hb => ?_) (Nat.le_max_right _ _))⟩
        · exact List.mem_append_left b2 hb
        · exact List.mem_append_right b1 hb
end
end
/-- what the text of data needs -/
structure Seen (d : PyData) : Prop where
  w : d.showable = true
  z : d.shown.length ≤ 4000000
  p : d.depth ≤ 20
/-- repr of a list with items -/
def rRepL : List V → Hp → VK → Prop := fun xs H Q => ∃ (q : Addr) (v : V) (vs : List V) (d : PyData) (ds : List PyData), xs = [.ref q] ∧ H q = some (.lst (v :: vs)) ∧ DqAll H (v :: vs) (d :: ds) ∧ Seen (.list (d :: ds)) ∧ Q (.str (PyData.list (d :: ds)).shown) H
theorem call_repL {X : Cx} (hG : X.A.guards = some []) (hu : X.A.units + 64 < cLine) : CallR X (.builtin "repr") rRepL := by
  intro pins s σ H xs us Q I r h
  obtain ⟨q, v, vs, d, ds, rfl, hq, hd, S, k⟩ := h
  obtain ⟨u, rfl, ru⟩ := vals1 r
  cases (show u = Value.ref q from ru)
  obtain ⟨as, rd, _⟩ := Dq.reads I (.list (d :: ds)) (.ref q) (.ref q) (.lst hq hd) rfl
  obtain ⟨_, its, n, rv, ho⟩ := I.hok _ _ hq
  cases rv with
  | cons r1 rv =>
    rename_i u1 us1
    have zz : (PyData.list (d :: ds)).shown.length ≤ sizeLine := Nat.le_trans S.z (by rw [sizeLine_eq]; omega)
    have z : (listText (PyData.shownAll (d :: ds))).length ≤ sizeLine := by simpa only [PyData.shown] using zz
    obtain ⟨bs, h1, h2⟩ := DqAll.repr I (d :: ds) _ (u1 :: us1) hd (.cons r1 rv) (by simpa [PyData.showable] using S.w) fun t ht => Nat.le_trans (listText_mem_le ht) z
    have out := not_mem_of_deeper rd (n := PyData.depthAll (d :: ds)) (Nat.lt_succ_self _) h1
    have dp : PyData.depthAll (d :: ds) + 1 ≤ 20 := S.p
    refine call_repr_slot (T := "list") (idr := "list.__repr__") (by omega) ⟨_, ho, rfl⟩ F.slot_list_repr.toG ?_
    refine call_list_reprK (ts := PyData.shownAll (d :: ds)) (d := PyData.depthAll (d :: ds)) ho rfl rfl out (h2.length_eq.trans (by simp)) (fun i y e => h2.item i y (by simpa using e)) (g := []) hG (fun b _ => Clear.nil b) (by show X.A.units + 1 + (PyData.depthAll (d :: ds) + 1) < cLine; omega) (fun b o e => e) (fun h' u tk hk => ⟨_, _, rfl, .str _, H, I.kept hk, ⟨u, by simp only [PyData.shown]⟩, k⟩) z
end KL
set_option Elab.async false
set_option linter.all false
set_option maxRecDepth 100000
set_option maxHeartbeats 4000000
namespace KL
open PySem L2 PySem.KX PySem.Spec PyProof.Rows
/-- C(..), where __init__ may raise: what is wished of that may hang on the slots -/
def tMkS (C : Addr) (sp : Sp) (E : L2.St → XK) (g : List V → List V) (t : TA) : TE := fun σ H Q => t σ H fun vs H1 => ∀ x dx, H1 x = none → H1 dx = none → dx ≠ x → sp (.ref x :: g vs) (upd (upd H1 dx (.own x)) x (.ins C dx [])) (fun v H2 => v = .non ∧ Q (.ref x) H2) (E σ)
/-- C(k = v, ..), the keywords in the other order -/
def tMkKS (C : Addr) (n : Nat) (sp : Sp) (E : L2.St → XK) (t : TA) : TE := fun σ H Q => t σ H fun zs H1 => zs.length = n ∧ ∀ x dx, H1 x = none → H1 dx = none → dx ≠ x → sp (.ref x :: zs.reverse) (upd (upd H1 dx (.own x)) x (.ins C dx [])) (fun v H2 => v = .non ∧ Q (.ref x) H2) (E σ)
theorem vals_rev : ∀ {vs : List V} {us : List Value}, Vals vs us → Vals vs.reverse us.reverse
  | [], _, h => by
    cases h
    exact .nil
  | v :: vs, _, h => by
    cases h with
    | cons r rs =>
      rw [List.reverse_cons, List.reverse_cons]
      exact (vals_rev rs).append (.cons r .nil)
section
variable {X : Cx} {CX : CXT} {k : Nat} {f C : Addr} {fd : FuncData} {ps ks : List Str} {sp : Sp} {E : XK} {x : Str} {p pos : Pos} {e : Expr} {es : List Expr} {kws : List Keyword} {t : TA}
theorem run_mkS {pins : List (Addr × Obj)} {σ : L2.St} {H : Hp} {s : Shared} {Q : VK} {us bs : List Value} {vs : List V} {kw : List (Str × Value)} (M : Mk X.K C f) (F : FnOk X.prog X.w X.K X.mg X.base CX k f fd ps sp) (hr : Room (k + 1) X.A)
    (hb : ∀ (s2 : Shared) (a : Addr), X.K.In s2.heap → BindsTo s2 fd ⟨.ref a :: us, kw⟩ (ps.zip (.ref a :: bs))) (hx : PassesAt CX X σ E) (I : Inv X pins σ H s) (r : Vals vs bs)
    (h : ∀ x dx, H x = none → H dx = none → dx ≠ x → sp (.ref x :: vs) (upd (upd H dx (.own x)) x (.ins C dx [])) (fun v H2 => v = .non ∧ Q (.ref x) H2) E) : wpAny (model X.prog X.w) X.A (call (.ref C) us kw) (EP X pins σ Q) X.xe s := by
  have I2 := Inv.made (C := C) I
  have q := h (s.heap.objs.size + 1) s.heap.objs.size (I.hok.fresh (Nat.le_succ _)) (I.hok.fresh (Nat.le_refl _)) (Nat.ne_of_lt (Nat.lt_succ_self _))
  refine wpAny_call (make_map (f := f) I.kIn M.makes M.init (beq_iff_eq.mp M.fn) (codeAny_mono (F.run _ X.stack _ _ _ _ _ _ E (hr.make C us kw) (I2.env0.make C us kw) (hb _ _ I2.kIn) (show Vals (V.ref (s.heap.objs.size + 1) :: vs) (Value.ref (s.heap.objs.size + 1) :: bs) from .cons rfl r) q) fun res s2 y => ?_))
  match res, y with
  | .error er, y => exact hx pins _ _ er s2 I2 y
  | .ok (.ret u), y =>
    obtain ⟨v, H3, I3, rv, ev, q3⟩ := I2.after y
    subst ev
    exact ⟨rv, V.ref (s.heap.objs.size + 1), H3, I3, rfl, q3⟩
  | .ok .next, y => exact False.elim y
  | .ok .brk, y => exact False.elim y
  | .ok .cont, y => exact False.elim y
theorem pe_mkS {E : L2.St → XK} (M : Mk X.K C f) (F : FnOk X.prog X.w X.K X.mg X.base CX k f fd ps sp) (hr : Room (k + 1) X.A) (hg : Gl X x) (hm : X.mg x = some (.ref C)) (hb : L2.Binds X.K fd ps []) (hx : ∀ σ, PassesAt CX X σ (E σ)) (ha : PA X (e :: es) t)
    (hdb : (x == ("__debug__" : Str)) = false := by decide) (he : starEach (e :: es) X.env = (false, eval e X.env) :: starEach es X.env := by rfl) (hpl : (backTo pos (starEach es X.env)).any (·.1) = false := by rfl) :
    PE X (.Call (.Name x p) (e :: es) [] pos) (tMkS C sp E id t) := by
  refine ⟨fun pins s σ H Q I h => wpAny_Call_Name_kw (ld_glob I hg hm ?_ hdb)⟩
  refine PySem.W.callWith_K (h₀ := X.base) I.ok.mod.kin M.kp (thn (ha.run pos pins s σ H _ I h) fun us s1 ⟨vs, H1, I1, r, q⟩ => ⟨I1.kIn, ?_⟩) he hpl
  have ln : us.length + 1 = ps.length := by
    have z := F.len _ _ _ _ (q (s1.heap.objs.size + 1) s1.heap.objs.size (I1.hok.fresh (Nat.le_succ _)) (I1.hok.fresh (Nat.le_refl _)) (Nat.ne_of_lt (Nat.lt_succ_self _)))
    rw [← z, ← r.length]
    rfl
  refine run_mkS (bs := us) M F hr (fun s2 a K2 => ?_) (hx σ) I1 r q
  have b := hb s2 (.ref a :: us) K2 (by rw [List.append_nil]; exact ln)
  rwa [List.append_nil] at b
theorem pe_mkKS {E : L2.St → XK} (M : Mk X.K C f) (F : FnOk X.prog X.w X.K X.mg X.base CX k f fd ps sp) (hr : Room (k + 1) X.A) (hg : Gl X x) (hm : X.mg x = some (.ref C))
    (hb : ∀ (s2 : Shared) (a : Addr) (ws : List Value), X.K.In s2.heap → ws.length = ks.length → BindsTo s2 fd ⟨[.ref a], ks.zip ws⟩ (ps.zip (.ref a :: ws.reverse))) (hx : ∀ σ, PassesAt CX X σ (E σ)) (hkw : PK X kws t)
    (hall : (backToKw pos (keywordEach kws X.env)).all (·.1.isSome) = true := by rfl) (hks : (backToKw pos (keywordEach kws X.env)).filterMap (·.1) = ks := by rfl) (hdb : (x == ("__debug__" : Str)) = false := by decide)
    (hpl : ((backTo pos (starEach [] X.env)).any (·.1) || (backToKw pos (keywordEach kws X.env)).any (·.1.isNone)) = false := by rfl) : PE X (.Call (.Name x p) [] kws pos) (tMkKS C ks.length sp E t) := by
  refine ⟨fun pins s σ H Q I hq => wpAny_Call_Name_kw (ld_glob I hg hm ?_ hdb)⟩
  refine PySem.W.callWith_KW0 (h₀ := X.base) I.ok.mod.kin M.kp hall (thn (hkw.run pos pins s σ H _ I hq) fun ws s2 ⟨zs, H2, I2, rz, lz, q⟩ => ⟨I2.kIn, ?_⟩) hpl
  rw [hks]
  exact run_mkS (us := []) M F hr (fun s3 a K3 => hb s3 a ws K3 (rz.length.symm.trans lz)) (hx σ) I2 (vals_rev rz) q
end
end KL
set_option Elab.async false
set_option linter.all false
set_option maxRecDepth 100000
set_option maxHeartbeats 4000000
namespace KL
open PySem L2 PySem.Spec PyProof.Rows
/-! ### o.m(k=v) -/
def tMthK (C : Addr) (m : Str) (sp : Sp) (gV : List V → List V → List V) (E : XK) (ta : TE) (tk : TA) : TE := fun σ H Q => ta σ H fun x H1 => ∃ a dx fs, x = .ref a ∧ H1 a = some (.ins C dx fs) ∧ fs.lookup m = none ∧ tk σ H1 fun zs H2 => sp (gV [x] zs) H2 Q E
theorem pe_methK0 {X : Cx} {CX : CXT} {k : Nat} {f C : Addr} {fd : FuncData} {ps ks : List Str} {sp : Sp} {E : XK} {o : Expr} {m : Str} {apos pos : Pos} {kws : List Keyword} {ta : TE} {tk : TA} {g : List Value → List Value → List Value} {gV : List V → List V → List V} {pl : Sem Bool}
    (he : PE X o ta) (c : Cls X.K C) (hm : Meth X.K C m f) (F : FnOk X.prog X.w X.K X.mg X.base CX k f fd ps sp) (hr : Room k X.A) (hb : KBinds X.K fd ps ks g gV) (hx : Passes CX X E) (hkw : PK X kws tk)
    (hall : (backToKw pos (keywordEach kws X.env)).all (·.1.isSome) = true := by rfl) (hks : (backToKw pos (keywordEach kws X.env)).filterMap (·.1) = ks := by rfl)
    (hpl : ((backTo pos (starEach [] X.env)).any (·.1) || (backToKw pos (keywordEach kws X.env)).any (·.1.isNone)) = false := by rfl)
    (ht : eval (.Call (.Attribute o m apos) [] kws pos) X.env = (do
      let ov ← eval o X.env
      standAt apos.atName
      let (f, first) ← holding [ov] (getMethod ov m pl)
      callWith pos f first (backTo pos (starEach [] X.env)) (backToKw pos (keywordEach kws X.env))) := by rfl) :
    PE X (.Call (.Attribute o m apos) [] kws pos) (tMthK C m sp gV E ta tk) := by
  refine ⟨fun pins s σ H Q I h => ?_⟩
  refine PySem.W.methodCall_KW (pl := pl) (thn (he.run pins s σ H _ I h) fun u s1 ⟨x, H1, I1, rx, a, dx, fs, ex, ea, l, q⟩ => ?_) ht
  subst ex
  obtain rfl : u = Value.ref a := rx
  refine getmeth_ok I1 ea c hm l ?_
  refine PySem.W.callWith_KW0 (first := [.ref a]) (h₀ := X.base) I.ok.mod.kin hm.kp hall (thn (hkw.run pos pins s1 σ H1 _ I1 q) fun ws s2 ⟨zs, H2, I2, rz, q2⟩ => ⟨I2.kIn, ?_⟩) hpl
  rw [hks]
  exact run_fnk (us := [.ref a]) (vs := [.ref a]) F hr hb hx I2 (.cons rfl .nil) rz q2
/-- repr of a tuple -/
def rRepT : List V → Hp → VK → Prop := fun xs H Q => ∃ (q : Addr) (vs : List V) (ds : List PyData), xs = [.ref q] ∧ H q = some (.tup vs) ∧ DqAll H vs ds ∧ Seen (.tuple ds) ∧ Q (.str (PyData.tuple ds).shown) H
theorem call_repT {X : Cx} (hG : X.A.guards = some []) (hu : X.A.units + 64 < cLine) : CallR X (.builtin "repr") rRepT := by
  intro pins s σ H xs us Q I r h
  obtain ⟨q, vs, ds, rfl, hq, hd, S, k⟩ := h
  obtain ⟨u, rfl, ru⟩ := vals1 r
  cases (show u = Value.ref q from ru)
  obtain ⟨as, rd, _⟩ := Dq.reads I (.tuple ds) (.ref q) (.ref q) (.tup hq hd) rfl
  obtain ⟨_, its, rv, o, o1, o2, n, o3⟩ := I.hok _ _ hq
  have zz : (PyData.tuple ds).shown.length ≤ sizeLine := Nat.le_trans S.z (by rw [sizeLine_eq]; omega)
  have z : (tupleText (PyData.shownAll ds)).length ≤ sizeLine := by simpa only [PyData.shown] using zz
  obtain ⟨bs, h1, h2⟩ := DqAll.repr I ds _ its hd rv (by simpa [PyData.showable] using S.w) fun t ht => Nat.le_trans (tupleText_mem_le ht) z
  have out := not_mem_of_deeper rd (n := PyData.depthAll ds) (Nat.lt_succ_self _) h1
  have dp : PyData.depthAll ds + 1 ≤ 20 := S.p
  refine call_repr_slot (T := "tuple") (idr := "tuple.__repr__") (by omega) ⟨_, o1, o2⟩ F.slot_tuple_repr ?_
  exact call_tuple_reprK (ts := PyData.shownAll ds) (d := PyData.depthAll ds) o1 o2 o3 out h2 (g := []) hG (fun b _ => Clear.nil b) (by show X.A.units + 1 + (PyData.depthAll ds + 1) < cLine; omega) (fun b o e => e) (fun h' u tk hk => ⟨_, _, rfl, .str _, H, I.kept hk, ⟨u, by simp only [PyData.shown]⟩, k⟩) z
end KL
set_option Elab.async false
set_option linter.all false
set_option maxRecDepth 100000
set_option maxHeartbeats 2000000
namespace KL
open PySem L2 PySem.Spec PyProof.Rows
mutual
/-- how long the text of data is at most -/
def wt : PyData → Nat
  | .none => 4
  | .bool _ => 5
  | .int i => i.natAbs.log2 + 2
  | .str x => 10 * x.length + 2
  | .list ds => wtAll ds + 2
  | .tuple ds => wtAll ds + 3
  | .dict kvs => (PyData.dict kvs).shown.length
def wtAll : List PyData → Nat
  | [] => 0
  | d :: r => wt d + 2 + wtAll r
end
mutual
/-- how wide data is at its widest -/
def wd : PyData → Nat
  | .none => 0
  | .bool _ => 0
  | .int i => i.natAbs.log2
  | .str x => x.length
  | .list ds => max ds.length (wdAll ds)
  | .tuple ds => max ds.length (wdAll ds)
  | .dict kvs => if kvs = [] then 0 else 2000
def wdAll : List PyData → Nat
  | [] => 0
  | d :: r => max (wd d) (wdAll r)
end
def txS (x : Str) : Bool := x.cps.toList.all fun c => decide (c < 128)
mutual
/-- plain signs alone -/
def txD : PyData → Bool
  | .str x => txS x
  | .list ds => txAll ds
  | .tuple ds => txAll ds
  | _ => true
def txAll : List PyData → Bool
  | [] => true
  | d :: r => txD d && txAll r
end
theorem list_len (ts : List Str) : (listText ts).length ≤ piled ts + 2 := by
  cases ts with
  | nil => decide +kernel
  | cons t r =>
    have h := textFrom_length_pos r 1 (("[" : Str) ++ (if (0 : Nat) > 0 then ", " else "" : String) ++ t) Nat.one_pos
    have e : (("[" : Str) ++ (if (0 : Nat) > 0 then ", " else "" : String) ++ t).length = 1 + t.length := by
      rw [strLen_append, strLen_append]
      rfl
    have x : (listText (t :: r)).length = (textFrom 1 (("[" : Str) ++ (if (0 : Nat) > 0 then ", " else "" : String) ++ t) r).length + 1 := by
      show (textFrom 0 "[" (t :: r) ++ "]").length = _
      rw [strLen_append]
      rfl
    rw [x, h, e, piled_cons]
    omega
theorem tup_tlen (ts : List Str) : (tupleText ts).length ≤ piled ts + 3 := by
  unfold tupleText
  rw [strLen_append, strLen_append]
  have a : (("(" : Str)).length = 1 := rfl
  have b : ((if (ts.length == 1) = true then ",)" else ")" : String) : Str).length ≤ 2 := by
    split
    · decide +kernel
    · decide +kernel
  have c : (Str.join ", " ts).length ≤ piled ts := by
    cases ts with
    | nil => decide +kernel
    | cons t r =>
      have := join_length_add (t :: r) (by simp)
      omega
  omega
mutual
theorem shown_wt : ∀ (d : PyData), txD d = true → d.shown.length ≤ wt d
  | .none, _ => by decide +kernel
  | .bool b, _ => by cases b <;> decide +kernel
  | .int i, _ => by
    have e := int_text_length_le (a := i) (k := i.natAbs.log2 + 1) (Nat.succ_pos _) (Nat.lt_succ_self _)
    rw [PyData.shown]
    show (Str.ofString (toString i)).length ≤ i.natAbs.log2 + 2
    rw [PySem.ofString_length]
    exact e
  | .str x, h => by
    rw [PyData.shown]
    refine StrLaws.reprText_len x fun c hc => ?_
    have := of_decide_eq_true (List.all_eq_true.mp (show x.cps.toList.all (fun c => decide (c < 128)) = true from h) c hc)
    exact Nat.lt_trans this (by decide)
  | .list ds, h => by
    rw [PyData.shown]
    exact Nat.le_trans (list_len _) (Nat.add_le_add_right (shown_all ds h) 2)
  | .tuple ds, h => by
    rw [PyData.shown]
    exact Nat.le_trans (tup_tlen _) (Nat.add_le_add_right (shown_all ds h) 3)
  | .dict kvs, _ => Nat.le_refl _
theorem shown_all : ∀ (ds : List PyData), txAll ds = true → piled (PyData.shownAll ds) ≤ wtAll ds
  | [], _ => Nat.le_refl _
  | d :: ds, h => by
    have h' := Bool.and_eq_true_iff.mp (show (txD d && txAll ds) = true from h)
    rw [PyData.shownAll, piled_cons]
    have q1 := shown_wt d h'.1
    have q2 := shown_all ds h'.2
    show _ ≤ wt d + 2 + wtAll ds
    omega
end
mutual
theorem sm_wd : ∀ (d : PyData), wd d ≤ 1000 → smB d = true ∧ d.showable = true
  | .none, _ => ⟨rfl, rfl⟩
  | .bool _, _ => ⟨rfl, rfl⟩
  | .int i, h => by
    have h : i.natAbs.log2 ≤ 1000 := h
    exact ⟨decide_eq_true (by omega), decide_eq_true (by omega)⟩
  | .str x, h => ⟨decide_eq_true h, rfl⟩
  | .list ds, h => by
    have h : max ds.length (wdAll ds) ≤ 1000 := h
    obtain ⟨q1, q2⟩ := sm_wdAll ds (by omega)
    refine ⟨?_, q2⟩
    show (decide (ds.length ≤ 1000) && smAll ds) = true
    rw [q1, decide_eq_true (by omega)]
    rfl
  | .tuple ds, h => by
    have h : max ds.length (wdAll ds) ≤ 1000 := h
    obtain ⟨q1, q2⟩ := sm_wdAll ds (by omega)
    refine ⟨?_, q2⟩
    show (decide (ds.length ≤ 1000) && smAll ds) = true
    rw [q1, decide_eq_true (by omega)]
    rfl
  | .dict kvs, h => by
    have h : (if kvs = [] then 0 else 2000) ≤ 1000 := h
    by_cases e : kvs = []
    · subst e
      exact ⟨rfl, rfl⟩
    · rw [if_neg e] at h
      omega
theorem sm_wdAll : ∀ (ds : List PyData), wdAll ds ≤ 1000 → smAll ds = true ∧ PyData.showableAll ds = true
  | [], _ => ⟨rfl, rfl⟩
  | d :: ds, h => by
    have h : max (wd d) (wdAll ds) ≤ 1000 := h
    obtain ⟨a1, a2⟩ := sm_wd d (by omega)
    obtain ⟨b1, b2⟩ := sm_wdAll ds (by omega)
    refine ⟨?_, ?_⟩
    · show (smB d && smAll ds) = true
      rw [a1, b1]
      rfl
    · show (d.showable && PyData.showableAll ds) = true
      rw [a2, b2]
      rfl
end
/-- data of a size -/
structure Gd (w p W : Nat) (d : PyData) : Prop where
  wd : wd d ≤ w
  dp : d.depth ≤ p
  wt : wt d ≤ W
  tx : txD d = true
theorem Gd.mono {w p W w' p' W' : Nat} {d : PyData} (h : Gd w p W d) (h1 : w ≤ w') (h2 : p ≤ p') (h3 : W ≤ W') : Gd w' p' W' d := ⟨Nat.le_trans h.wd h1, Nat.le_trans h.dp h2, Nat.le_trans h.wt h3, h.tx⟩
end KL
set_option Elab.async false
set_option linter.all false
set_option maxRecDepth 100000
set_option maxHeartbeats 4000000
namespace KL
open PySem L2 PySem.Spec PyProof.Rows
def inClass (st : Stmt) (i : Nat) : Stmt := match st with
  | .ClassDef (body := b) .. => b.getD i (.Pass ⟨0, 0, 0, 0⟩)
  | _ => .Pass ⟨0, 0, 0, 0⟩
abbrev sRInit : Stmt := inClass (top 17) 0
abbrev sRLen : Stmt := inClass (top 17) 1
abbrev sREq : Stmt := inClass (top 17) 2
abbrev sRWritten : Stmt := inClass (top 17) 3
abbrev sRBegun : Stmt := inClass (top 17) 4
/-- a suite that nothing comes to -/
theorem pss_dead {X : Cx} {st : List Stmt} : PSs X st (fun _ _ _ => False) := ⟨fun _ _ _ _ _ _ h => h.elim⟩
/-- what is written at the end in a state -/
def enD (e : Int × List Str) : PyData := .tuple [.int e.1, strsD e.2]
def lastE (en : List (Int × List Str)) (i : Int) : Option (List Str) := (en.reverse.find? fun e => decide (e.1 = i)).map (·.2)
theorem lastE_snoc (en : List (Int × List Str)) (e : Int × List Str) (i : Int) : lastE (en ++ [e]) i = if e.1 = i then some e.2 else lastE en i := by
  unfold lastE
  rw [List.reverse_append]
  show ((e :: en.reverse).find? _).map _ = _
  by_cases h : e.1 = i
  · rw [if_pos h, List.find?_cons_of_pos]
    · rfl
    · simp [h]
  · rw [if_neg h, List.find?_cons_of_neg]
    simpa using h
def EndsR (H : Hp) (te : Addr) (f : Int → Option (List Str)) : Prop := ∃ kvs, H te = some (.dK kvs) ∧ ∀ i, (f i = none ∧ valV kvs (Sum.inl i) = none) ∨ ∃ w v, f i = some w ∧ valV kvs (Sum.inl i) = some v ∧ Dq H v (strsD w)
theorem EndsR.same {H H' : Hp} {te : Addr} {f : Int → Option (List Str)} (h : EndsR H te f) (S : Same H H') : EndsR H' te f := by
  obtain ⟨kvs, h1, h2⟩ := h
  refine ⟨kvs, S _ _ h1, fun i => ?_⟩
  rcases h2 i with h | ⟨w, v, h3, h4, h5⟩
  · exact .inl h
  · exact .inr ⟨w, v, h3, h4, Dq.same S _ _ h5⟩
/-- tuples and dicts stay -/
structure KeepD (H H' : Hp) : Prop where
  t : ∀ a ys, H a = some (.tup ys) → H' a = some (.tup ys)
  k : ∀ a ks, H a = some (.dK ks) → H' a = some (.dK ks)
theorem KeepD.ins {H : Hp} {x C dx : Addr} {fs gs : List (Str × V)} (h : H x = some (.ins C dx fs)) : KeepD H (upd H x (.ins C dx gs)) :=
  ⟨fun a ys e => by rw [upd_ne (ne_of e h (fun z => nomatch z))]; exact e, fun a ks e => by rw [upd_ne (ne_of e h (fun z => nomatch z))]; exact e⟩
theorem strs_keep {H H' : Hp} {v : V} {w : List Str} (h : Dq H v (strsD w)) (S : KeepD H H') : Dq H' v (strsD w) := by
  obtain ⟨a, rfl, e⟩ := strsD_of h
  exact .tup (S.t _ _ e) (strs_dq w)
theorem TabR.keep {H H' : Hp} {tb : Addr} {f : Int → Str → Option Mv} (h : TabR H tb f) (S : KeepD H H') : TabR H' tb f := by
  obtain ⟨kvs, h1, h2⟩ := h
  refine ⟨kvs, S.k _ _ h1, fun i => ?_⟩
  rcases h2 i with h | ⟨a, h3, ks, h4, h5⟩
  · exact .inl h
  · refine .inr ⟨a, h3, ks, S.k _ _ h4, fun m => ?_⟩
    rcases h5 m with h | ⟨x, u, h6, h7, b, wv, h8, h9, h10⟩
    · exact .inl h
    · exact .inr ⟨x, u, h6, h7, b, wv, h8, S.t _ _ h9, strs_keep h10 S⟩
theorem EndsR.keep {H H' : Hp} {te : Addr} {f : Int → Option (List Str)} (h : EndsR H te f) (S : KeepD H H') : EndsR H' te f := by
  obtain ⟨kvs, h1, h2⟩ := h
  refine ⟨kvs, S.k _ _ h1, fun i => ?_⟩
  rcases h2 i with h | ⟨w, v, h3, h4, h5⟩
  · exact .inl h
  · exact .inr ⟨w, v, h3, h4, strs_keep h5 S⟩
/-- a reader's parts -/
structure Rdr where
  n : Int
  first : List Str
  mv : List Mv
  en : List (Int × List Str)
def mvsD (r : Rdr) : PyData := .tuple (r.mv.map mvD)
def ensD (r : Rdr) : PyData := .tuple (r.en.map enD)
/-- the parts are right, and none too large -/
structure Right (r : Rdr) : Prop where
  n : betD 1 10000 (.int r.n) = true
  first : marksD (strsD r.first) = true
  mv : movesD r.n (mvsD r) = true
  en : endsD r.n (ensD r) = true
  sm : smB (.int r.n) = true ∧ smB (strsD r.first) = true ∧ smB (mvsD r) = true ∧ smB (ensD r) = true
  ok : okD (mvsD r) = true ∧ okD (ensD r) = true
structure TxtR (K : PySem.W.Frag) (mg : Str → Option Value) (C : Addr) : Prop where
  c : Cls K C
  states : NoAttr K C "states"
  first : NoAttr K C "first"
  moves : NoAttr K C "moves"
  ends : NoAttr K C "ends"
  mv : NoAttr K C "_moves"
  en : NoAttr K C "_ends"
  most : ∃ t, mg "MOST_STATES" = some (.int 10000 t)
/-- a reader that stands -/
structure RdrAt (C : Addr) (H : Hp) (x : Addr) (r : Rdr) (v1 v2 v3 : V) : Prop where
  ex : ∃ dx fs tb te, H x = some (.ins C dx fs) ∧ fs.lookup ("states" : Str) = some (.int r.n) ∧ fs.lookup ("first" : Str) = some v1 ∧ fs.lookup ("moves" : Str) = some v2 ∧ fs.lookup ("ends" : Str) = some v3 ∧
    fs.lookup ("_moves" : Str) = some (.ref tb) ∧ fs.lookup ("_ends" : Str) = some (.ref te) ∧ fs.lookup ("written" : Str) = none ∧ fs.lookup ("begun" : Str) = none ∧ TabR H tb (lastM r.mv) ∧ EndsR H te (lastE r.en)
  q1 : Dq H v1 (strsD r.first)
  q2 : Dq H v2 (mvsD r)
  q3 : Dq H v3 (ensD r)
theorem RdrAt.same {C : Addr} {H H' : Hp} {x : Addr} {r : Rdr} {v1 v2 v3 : V} (h : RdrAt C H x r v1 v2 v3) (S : Same H H') : RdrAt C H' x r v1 v2 v3 := by
  obtain ⟨⟨dx, fs, tb, te, h1, h2, h3, h4, h5, h6, h7, h8, h9, h10, h11⟩, q1, q2, q3⟩ := h
  exact ⟨⟨dx, fs, tb, te, S _ _ h1, h2, h3, h4, h5, h6, h7, h8, h9, h10.same S, h11.same S⟩, Dq.same S _ _ q1, Dq.same S _ _ q2, Dq.same S _ _ q3⟩
def spRInit (C : Addr) : Sp := fun vs H Q _ => ∃ (H0 : Hp) (x dx : Addr) (v1 v2 v3 : V) (r : Rdr), vs = [.ref x, .int r.n, v1, v2, v3] ∧ Same H0 H ∧ H0 x = none ∧ H x = some (.ins C dx []) ∧ Dq H0 v1 (strsD r.first) ∧ Dq H0 v2 (mvsD r) ∧ Dq H0 v3 (ensD r) ∧ Right r ∧
  ∀ H' Hk, Same H0 Hk → Same Hk H' → (∀ c o, c ≠ x → H c = some o → H' c = some o) → (∀ c, Hk c ≠ none → H0 c ≠ none ∨ c = x ∨ H c = none) → RdrAt C Hk x r v1 v2 v3 → Q .non H'
/-- what stood in H0, x, and what is new -/
def kept (H0 Hc : Hp) (x : Addr) (G : Hp) : Hp := fun c => match H0 c with
  | some o => some o
  | none => if c = x then G c else match Hc c with
    | some _ => none
    | none => G c
theorem kept_same {H0 Hc G : Hp} {x : Addr} : Same H0 (kept H0 Hc x G) := fun c o e => by
  show (match H0 c with | some o => some o | none => _) = some o
  rw [e]
theorem kept_new {H0 Hc G : Hp} {x c : Addr} {o : HO} (h0 : H0 c = none) (hc : Hc c = none) (h : G c = some o) : kept H0 Hc x G c = some o := by
  unfold kept
  rw [h0, hc]
  dsimp only
  rw [h]
  split <;> rfl
theorem kept_x {H0 Hc G : Hp} {x : Addr} {o : HO} (h0 : H0 x = none) (h : G x = some o) : kept H0 Hc x G x = some o := by
  unfold kept
  rw [h0]
  dsimp only
  rw [if_pos rfl, h]
theorem kept_up {H0 Hc G : Hp} {x : Addr} (S : Same H0 G) : Same (kept H0 Hc x G) G := fun c o e => by
  unfold kept at e
  cases h0 : H0 c with
  | some u =>
    rw [h0] at e
    cases e
    exact S _ _ h0
  | none =>
    rw [h0] at e
    dsimp only at e
    by_cases cx : c = x
    · rw [if_pos cx] at e
      exact e
    · rw [if_neg cx] at e
      cases hc : Hc c with
      | some u =>
        rw [hc] at e
        cases e
      | none =>
        rw [hc] at e
        exact e
theorem kept_out {H0 Hc G : Hp} {x c : Addr} (h : kept H0 Hc x G c ≠ none) : H0 c ≠ none ∨ c = x ∨ Hc c = none := by
  cases h0 : H0 c with
  | some u => exact .inl (by simp)
  | none =>
    by_cases cx : c = x
    · exact .inr (.inl cx)
    · cases hc : Hc c with
      | none => exact .inr (.inr rfl)
      | some u =>
        refine absurd ?_ h
        unfold kept
        rw [h0, hc]
        dsimp only
        rw [if_neg cx]
theorem free_upd {G Hc : Hp} {x : Addr} {o : HO} (N : ∀ c, G c = none → Hc c = none) : ∀ c, upd G x o c = none → Hc c = none := fun c e => N c (by
  by_cases cx : c = x
  · rw [cx, upd_same] at e
    cases e
  · rw [upd_ne cx] at e
    exact e)
theorem put_but {G Hc : Hp} {x : Addr} {o : HO} (N : ∀ c u, c ≠ x → Hc c = some u → G c = some u) : ∀ c u, c ≠ x → Hc c = some u → upd G x o c = some u := fun c u cx e => by
  rw [upd_ne cx]
  exact N c u cx e
theorem same_put {H0 H : Hp} {x : Addr} {o : HO} (S : Same H0 H) (n : H0 x = none) : Same H0 (upd H x o) := fun b u e => by
  rw [upd_ne (ne_of_none e n)]
  exact S _ _ e
end KL
set_option Elab.async false
set_option linter.all false
set_option maxRecDepth 100000
set_option maxHeartbeats 4000000
namespace KL
open PySem L2 PySem.Spec PyProof.Rows
/-! ### what is wrong with a reader's parts, whatever they are -/
def numD : PyData → Int
  | .int i => i
  | _ => 0
def dueR (d0 d1 d2 d3 : PyData) : Option Str :=
  if betD 1 10000 d0 = false then some "states" else if marksD d1 = false then some "first" else if movesD (numD d0) d2 = false then some "moves" else if endsD (numD d0) d3 = false then some "ends" else none
theorem strs_all : ∀ {ds : List PyData}, ds.all markD = true → ∃ w : List Str, ds = w.map .str
  | [], _ => ⟨[], rfl⟩
  | d :: ds, h => by
    have h := Bool.and_eq_true_iff.mp (show (markD d && ds.all markD) = true from h)
    obtain ⟨w, rfl⟩ := strs_all h.2
    cases d with
    | str x => exact ⟨x :: w, rfl⟩
    | _ => exact absurd h.1 (by simp [markD, strB])
theorem marks_row {d : PyData} (h : marksD d = true) : ∃ w : List Str, d = strsD w := by
  have h := Bool.and_eq_true_iff.mp h
  obtain ⟨ds, rfl⟩ := isT_of h.1
  obtain ⟨w, rfl⟩ := strs_all (show ds.all markD = true from h.2)
  exact ⟨w, rfl⟩
theorem mark_str {d : PyData} (h : markD d = true) : ∃ x, d = .str x := by
  cases d with
  | str x => exact ⟨x, rfl⟩
  | _ => exact absurd h (by simp [markD, strB])
theorem move_row {n : Int} {d : PyData} (h : moveD n d = true) : ∃ x : Mv, d = mvD x := by
  obtain ⟨h1, h⟩ := Bool.and_eq_true_iff.mp h
  obtain ⟨h2, h⟩ := Bool.and_eq_true_iff.mp h
  obtain ⟨h3, h⟩ := Bool.and_eq_true_iff.mp h
  obtain ⟨h4, h5⟩ := Bool.and_eq_true_iff.mp h
  obtain ⟨ds, rfl, l1, l2⟩ := tup_of h1
  obtain ⟨a, b, c, e, rfl⟩ := four l1 l2
  obtain ⟨i, rfl, _⟩ := bet_of (show betD 0 (n - 1) a = true from h2)
  obtain ⟨x, rfl⟩ := mark_str (show markD b = true from h3)
  obtain ⟨w, rfl⟩ := marks_row (show marksD c = true from h4)
  obtain ⟨j, rfl, _⟩ := bet_of (show betD 0 (n - 1) e = true from h5)
  exact ⟨⟨i, x, w, j⟩, rfl⟩
theorem moves_rows {n : Int} : ∀ {ds : List PyData}, ds.all (moveD n) = true → ∃ mv : List Mv, ds = mv.map mvD
  | [], _ => ⟨[], rfl⟩
  | d :: ds, h => by
    have h := Bool.and_eq_true_iff.mp (show (moveD n d && ds.all (moveD n)) = true from h)
    obtain ⟨x, rfl⟩ := move_row h.1
    obtain ⟨mv, rfl⟩ := moves_rows h.2
    exact ⟨x :: mv, rfl⟩
theorem two_of {ds : List PyData} (h1 : (2 : Int) ≤ (ds.length : Int)) (h2 : (ds.length : Int) ≤ 2) : ∃ a b, ds = [a, b] := by
  match ds, h1, h2 with
  | [a, b], _, _ => exact ⟨a, b, rfl⟩
  | [], h1, _ => simp at h1
  | [_], h1, _ => simp at h1
  | _ :: _ :: _ :: _, _, h2 =>
    simp at h2
    omega
theorem end_row {n : Int} {d : PyData} (h1 : tupD 2 2 d = true) (h2 : endD n d = true) : ∃ e : Int × List Str, d = enD e := by
  obtain ⟨ds, rfl, l1, l2⟩ := tup_of h1
  obtain ⟨a, b, rfl⟩ := two_of l1 l2
  obtain ⟨h3, h4⟩ := Bool.and_eq_true_iff.mp h2
  obtain ⟨i, rfl, _⟩ := bet_of (show betD 0 (n - 1) a = true from h3)
  obtain ⟨w, rfl⟩ := marks_row (show marksD b = true from h4)
  exact ⟨(i, w), rfl⟩
theorem ends_rows {n : Int} : ∀ {ds : List PyData}, ds.all (tupD 2 2) = true → ds.all (endD n) = true → ∃ en : List (Int × List Str), ds = en.map enD
  | [], _, _ => ⟨[], rfl⟩
  | d :: ds, h, k => by
    have h := Bool.and_eq_true_iff.mp (show (tupD 2 2 d && ds.all (tupD 2 2)) = true from h)
    have k := Bool.and_eq_true_iff.mp (show (endD n d && ds.all (endD n)) = true from k)
    obtain ⟨x, rfl⟩ := end_row h.1 k.1
    obtain ⟨en, rfl⟩ := ends_rows h.2 k.2
    exact ⟨x :: en, rfl⟩
theorem due_none {d0 d1 d2 d3 : PyData} (h : dueR d0 d1 d2 d3 = none) : betD 1 10000 d0 = true ∧ marksD d1 = true ∧ movesD (numD d0) d2 = true ∧ endsD (numD d0) d3 = true := by
  unfold dueR at h
  cases h0 : betD 1 10000 d0 <;> cases h1 : marksD d1 <;> cases h2 : movesD (numD d0) d2 <;> cases h3 : endsD (numD d0) d3 <;> simp_all
theorem right_of {d0 d1 d2 d3 : PyData} (h : dueR d0 d1 d2 d3 = none) (s0 : smB d0 = true) (s1 : smB d1 = true) (s2 : smB d2 = true) (s3 : smB d3 = true) (o2 : okD d2 = true) (o3 : okD d3 = true) : ∃ r : Rdr, d0 = .int r.n ∧ d1 = strsD r.first ∧ d2 = mvsD r ∧ d3 = ensD r ∧ Right r := by
  obtain ⟨h0, h1, h2, h3⟩ := due_none h
  obtain ⟨n, rfl, _⟩ := bet_of h0
  obtain ⟨w, rfl⟩ := marks_row h1
  obtain ⟨t2, r2⟩ := Bool.and_eq_true_iff.mp h2
  obtain ⟨ds, rfl⟩ := isT_of t2
  obtain ⟨mv, rfl⟩ := moves_rows (show ds.all (moveD n) = true from (Bool.and_eq_true_iff.mp r2).1)
  obtain ⟨t3, r3⟩ := Bool.and_eq_true_iff.mp h3
  obtain ⟨es, rfl⟩ := isT_of t3
  obtain ⟨r4, r5⟩ := Bool.and_eq_true_iff.mp r3
  obtain ⟨en, rfl⟩ := ends_rows (show es.all (tupD 2 2) = true from r4) (show es.all (endD n) = true from (Bool.and_eq_true_iff.mp r5).1)
  exact ⟨⟨n, w, mv, en⟩, rfl, rfl, rfl, rfl, ⟨h0, h1, h2, h3, ⟨s0, s1, s2, s3⟩, ⟨o2, o3⟩⟩⟩
end KL
set_option Elab.async false
set_option linter.all false
set_option maxRecDepth 100000
set_option maxHeartbeats 4000000
namespace KL
open PySem L2 PySem.KX PySem.Spec PyProof.Rows
/-- a def that may raise -/
theorem fnX {P : Program} {w : World} {K : PySem.W.Frag} {mg : Str → Option Value} {base : Heap} {x qual : Str} {st : Stmt} {f : Addr} {fd : FuncData} {N ps : List Str} {k : Nat} {sp : Sp} (F : Fun K x qual st f fd) (S : FnScope N ps (defScope st)) (len : ∀ vs H Q E, sp vs H Q E → vs.length = ps.length)
    (hbody : ∀ (cdv : Value) (A : Around) (outer : List Env) (s : Shared) (H : Hp) (vs : List V) (Q : VK) (E : XK), Room k (A.deeper (envOfC qual (defScope st) s.heap.objs.size f cdv)) → sp vs H Q E →
      Takes (cxOf (L2.CX P w) P w K mg base N qual (defScope st) f cdv A outer s H E) (fun cls d _ H' => E cls d H') →
      PassesOwn (model P w) (A.deeper (envOfC qual (defScope st) s.heap.objs.size f cdv)) (envOfC qual (defScope st) s.heap.objs.size f cdv) (cxOf (L2.CX P w) P w K mg base N qual (defScope st) f cdv A outer s H E).xe →
      ∃ t, PSs (cxOf (L2.CX P w) P w K mg base N qual (defScope st) f cdv A outer s H E) (defBody st) t ∧ t { nx := fun _ H' => Q .non H', rt := Q } (start N vs) H) : FnOk P w K mg base (L2.CX P w) (k + 1) f fd ps sp := by
  obtain ⟨oc, od, kV, doc, pm, an, cdv, ct, osl, rfl, lk, hcd⟩ := F.ex
  exact fn_of lk hcd S len fun A outer s H vs Q E hr hs => hbody cdv A outer s H vs Q E hr hs (takes_of rfl rfl rfl rfl) (passes_of rfl)
structure TxtE (K : PySem.W.Frag) (mg : Str → Option Value) (CB IB : Addr) : Prop where
  ei : EI K CB IB "part" "BadReader.__init__"
  ty : PySem.W.typeIn K (.ref CB) = some (.type "type")
  m : mg "BadReader" = some (.ref CB)
/-- a reader's fields -/
def fsR (v0 v1 v2 v3 : V) (fs : List (Str × V)) : Prop := fs.lookup ("states" : Str) = some v0 ∧ fs.lookup ("first" : Str) = some v1 ∧ fs.lookup ("moves" : Str) = some v2 ∧ fs.lookup ("ends" : Str) = some v3
def spRInitX (C CB : Addr) : Sp := fun vs H Q E => ∃ (H0 : Hp) (x dx : Addr) (v0 v1 v2 v3 : V) (d0 d1 d2 d3 : PyData), vs = [.ref x, v0, v1, v2, v3] ∧ Same H0 H ∧ H0 x = none ∧ H x = some (.ins C dx []) ∧ Dq H0 v0 d0 ∧ Dq H0 v1 d1 ∧ Dq H0 v2 d2 ∧ Dq H0 v3 d3 ∧
  (smB d0 = true ∧ smB d1 = true ∧ smB d2 = true ∧ smB d3 = true) ∧ okD d2 = true ∧ okD d3 = true ∧
  (dueR d0 d1 d2 d3 = none → ∀ H' fs, Same H0 H' → H' x = some (.ins C dx fs) → fsR v0 v1 v2 v3 fs → Q .non H') ∧
  ∀ wd, dueR d0 d1 d2 d3 = some wd → ∀ H' dd, Same H0 H' → H' dd = some (.xd [("part", .str wd)]) → E (.ref CB) (some dd) H'
section
variable {P : Program} {w : World} {K : PySem.W.Frag} {mg : Str → Option Value} {base : Heap} {C CB IB : Addr}
abbrev nInit : List Str := ["self", "states", "first", "moves", "ends", "state", "written"]
theorem scInit : FnScope nInit ["self", "states", "first", "moves", "ends"] (defScope sRInit) := ⟨rfl, rfl, rfl, by decide +kernel, rfl, by decide +kernel, by decide +kernel⟩
theorem ok_rinitX {f g1 g2 g3 g4 g5 : Addr} {fd gd1 gd2 gd3 gd4 gd5 : FuncData} (F : Fun K "__init__" "Reader.__init__" sRInit f fd) (T : TxtR K mg C) (TE : TxtE K mg CB IB)
    (G1 : FnOk P w K mg base CX0 2 g1 gd1 ["thing", "low", "high"] (spTest2 betD)) (c1 : Cal K mg "is_between" g1 gd1 ["thing", "low", "high"]) (G2 : FnOk P w K mg base CX0 2 g2 gd2 ["thing"] (spTest marksD)) (c2 : Cal K mg "are_marks" g2 gd2 ["thing"])
    (G3 : FnOk P w K mg base CX0 4 g3 gd3 ["states", "thing"] (spTestN movesD)) (c3 : Cal K mg "are_moves" g3 gd3 ["states", "thing"]) (G4 : FnOk P w K mg base CX0 3 g4 gd4 ["states", "thing"] (spTestN endsD)) (c4 : Cal K mg "are_ends" g4 gd4 ["states", "thing"])
    (G5 : FnOk P w K mg base CX0 1 g5 gd5 ["moves"] spTable) (c5 : Cal K mg "move_table" g5 gd5 ["moves"]) : FnOk P w K mg base (L2.CX P w) 5 f fd ["self", "states", "first", "moves", "ends"] (spRInitX C CB) := by
  obtain ⟨tM, hM⟩ := T.most
  refine fnX F scInit (fun vs H Q E h => ?_) (fun cdv A outer s H vs Q E hr h tk po => ?_)
  · obtain ⟨H0, x, dx, v0, v1, v2, v3, d0, d1, d2, d3, rfl, _⟩ := h
    rfl
  · obtain ⟨H0, x, dx, v0, v1, v2, v3, d0, d1, d2, d3, rfl, S0, nx, hx, q0, q1, q2, q3, ⟨m0, m1, m2, m3⟩, o2, o3, k, kE⟩ := h
    have hr1 : Room 1 _ := hr.mono (by decide)
    have hr2 : Room 2 _ := hr.mono (by decide)
    have hr3 : Room 3 _ := hr.mono (by decide)
    refine ⟨_, pss_cons (ps_if (pt_not (pt_val (pe_call G1 hr2 (by rfl) c1.m c1.k c1.b .nil pass0 (pa_cons (pv 1) (pa_cons pe_int (pa_cons (pe_glob (v := .int 10000) (by rfl) hM ⟨_, rfl⟩) pa_nil)))))) (pss_one (ps_raise rfl tk (pmk_ex TE.ei TE.ty TE.m hr1 (by rfl) (pa_cons pe_str pa_nil)))) pss_nil)
      (pss_cons (ps_if (pt_not (pt_val (pe_call G2 hr2 (by rfl) c2.m c2.k c2.b .nil pass0 (pa_cons (pv 2) pa_nil)))) (pss_one (ps_raise rfl tk (pmk_ex TE.ei TE.ty TE.m hr1 (by rfl) (pa_cons pe_str pa_nil)))) pss_nil)
      (pss_cons (ps_if (pt_not (pt_val (pe_call G3 hr (by rfl) c3.m c3.k c3.b .nil pass0 (pa_cons (pv 1) (pa_cons (pv 3) pa_nil))))) (pss_one (ps_raise rfl tk (pmk_ex TE.ei TE.ty TE.m hr1 (by rfl) (pa_cons pe_str pa_nil)))) pss_nil)
      (pss_cons (ps_if (pt_not (pt_val (pe_call G4 hr3 (by rfl) c4.m c4.k c4.b .nil pass0 (pa_cons (pv 1) (pa_cons (pv 4) pa_nil))))) (pss_one (ps_raise rfl tk (pmk_ex TE.ei TE.ty TE.m hr1 (by rfl) (pa_cons pe_str pa_nil)))) pss_nil)
      (pss_cons (ps_fld (pv 0) (pv 1) (by rfl)) (pss_cons (ps_fld (pv 0) (pv 2) (by rfl)) (pss_cons (ps_fld (pv 0) (pv 3) (by rfl)) (pss_cons (ps_fld (pv 0) (pv 4) (by rfl))
      (pss_cons (ps_fld (pv 0) (pe_call G5 hr1 (by rfl) c5.m c5.k c5.b .nil pass0 (pa_cons (pv 3) pa_nil)) (by rfl))
      (pss_one (ps_fld (pv 0) (pe_dc (own := [("state", 5), ("written", 6)]) (g := gTup K 2 (gCons (gName 5) (gCons (gName 6) gNil))) (tt := tYes) rfl scInit.nd (pi_tup (pv 4)) (blkOk_by (N := nInit) (sc := defScope sRInit) (by decide +kernel)) (fun _ _ _ _ _ => pg_tup rfl (pgs_cons (pg_name (i := 5) scInit.nd rfl (.inl rfl)) (pgs_cons (pg_name (i := 6) scInit.nd rfl (.inl rfl)) pgs_nil))) (fun _ _ _ _ _ => pts_nil)
        (fun _ _ _ _ _ => pv 5) (fun _ _ _ _ _ => pv 6)) (by rfl))))))))))), ?_⟩
    have bad : ∀ {H1 : Hp} (wd : Str), Same H0 H1 → dueR d0 d1 d2 d3 = some wd → ∃ v, [V.str wd] = [v] ∧ ∀ dd, H1 dd = none → E (.ref CB) (some dd) (upd H1 dd (.xd [("part", v)])) := fun {H1} wd S1 hz => ⟨_, rfl, fun dd nd => kE _ hz _ dd (S1.trans (same_new nd)) upd_same⟩
    refine ⟨_, rfl, v0, d0, 1, 10000, rfl, Dq.same S0 _ _ q0, m0, fun H1 S1 => ⟨_, rfl, ?_⟩⟩
    have T1 := S0.trans S1
    rcases bool_ft (betD 1 10000 d0) with b0 | b0
    · refine iteYes (by rw [b0]; rfl) (bad "states" T1 ?_)
      unfold dueR
      rw [if_pos b0]
    refine iteNo (by rw [b0]; rfl) ?_
    obtain ⟨n, rfl, l0, u0⟩ := bet_of b0
    cases q0
    refine ⟨_, rfl, v1, _, rfl, Dq.same T1 _ _ q1, m1, fun H2 S2 => ⟨_, rfl, ?_⟩⟩
    have T2 := T1.trans S2
    rcases bool_ft (marksD d1) with b1 | b1
    · refine iteYes (by rw [b1]; rfl) (bad "first" T2 ?_)
      unfold dueR
      rw [if_neg (by rw [b0]; decide), if_pos b1]
    refine iteNo (by rw [b1]; rfl) ?_
    refine ⟨_, rfl, _, rfl, v2, _, n, rfl, Dq.same T2 _ _ q2, m2, o2, fun H3 S3 => ⟨_, rfl, ?_⟩⟩
    have T3 := T2.trans S3
    rcases bool_ft (movesD n d2) with b2 | b2
    · refine iteYes (by rw [b2]; rfl) (bad "moves" T3 ?_)
      unfold dueR
      rw [show numD (PyData.int n) = n from rfl, if_neg (by rw [b0]; decide), if_neg (by rw [b1]; decide), if_pos b2]
    refine iteNo (by rw [b2]; rfl) ?_
    refine ⟨_, rfl, _, rfl, v3, _, n, rfl, Dq.same T3 _ _ q3, m3, o3, fun H4 S4 => ⟨_, rfl, ?_⟩⟩
    have T4 := T3.trans S4
    rcases bool_ft (endsD n d3) with b3 | b3
    · refine iteYes (by rw [b3]; rfl) (bad "ends" T4 ?_)
      unfold dueR
      rw [show numD (PyData.int n) = n from rfl, if_neg (by rw [b0]; decide), if_neg (by rw [b1]; decide), if_neg (show ¬ movesD n d2 = false by rw [b2]; decide), if_pos b3]
    refine iteNo (by rw [b3]; rfl) ?_
    have dn : dueR (.int n) d1 d2 d3 = none := by
      unfold dueR
      rw [show numD (PyData.int n) = n from rfl, if_neg (by rw [b0]; decide), if_neg (by rw [b1]; decide), if_neg (show ¬ movesD n d2 = false by rw [b2]; decide), if_neg (show ¬ endsD n d3 = false by rw [b3]; decide)]
    obtain ⟨r, en, rfl, rfl, rfl, R⟩ := right_of dn m0 m1 m2 m3 o2 o3
    cases en
    have hx4 : H4 x = some (.ins C dx []) := S4 _ _ (S3 _ _ (S2 _ _ (S1 _ _ hx)))
    refine ⟨_, rfl, _, rfl, x, C, dx, _, rfl, hx4, T.c, T.states, (by show 0 < 1000; decide), ?_⟩
    have f5 : (upd H4 x (.ins C dx (putF "states" (.int r.n) []))) x = some (.ins C dx (putF "states" (.int r.n) [])) := upd_same
    have T5 : Same H0 (upd H4 x (.ins C dx (putF "states" (.int r.n) []))) := same_put T4 nx
    revert f5 T5
    generalize upd H4 x (.ins C dx (putF "states" (.int r.n) [])) = H5
    intro f5 T5
    refine ⟨_, rfl, _, rfl, x, C, dx, _, rfl, f5, T.c, T.first, (by show 1 < 1000; decide), ?_⟩
    have f6 : (upd H5 x (.ins C dx (putF "first" v1 (putF "states" (.int r.n) [])))) x = some (.ins C dx (putF "first" v1 (putF "states" (.int r.n) []))) := upd_same
    have T6 : Same H0 (upd H5 x (.ins C dx (putF "first" v1 (putF "states" (.int r.n) [])))) := same_put T5 nx
    revert f6 T6
    generalize upd H5 x (.ins C dx (putF "first" v1 (putF "states" (.int r.n) []))) = H6
    intro f6 T6
    refine ⟨_, rfl, _, rfl, x, C, dx, _, rfl, f6, T.c, T.moves, (by show 2 < 1000; decide), ?_⟩
    have f7 : (upd H6 x (.ins C dx (putF "moves" v2 (putF "first" v1 (putF "states" (.int r.n) []))))) x = some (.ins C dx (putF "moves" v2 (putF "first" v1 (putF "states" (.int r.n) [])))) := upd_same
    have T7 : Same H0 (upd H6 x (.ins C dx (putF "moves" v2 (putF "first" v1 (putF "states" (.int r.n) []))))) := same_put T6 nx
    revert f7 T7
    generalize upd H6 x (.ins C dx (putF "moves" v2 (putF "first" v1 (putF "states" (.int r.n) [])))) = H7
    intro f7 T7
    refine ⟨_, rfl, _, rfl, x, C, dx, _, rfl, f7, T.c, T.ends, (by show 3 < 1000; decide), ?_⟩
    have f8 : (upd H7 x (.ins C dx (putF "ends" v3 (putF "moves" v2 (putF "first" v1 (putF "states" (.int r.n) [])))))) x = some (.ins C dx (putF "ends" v3 (putF "moves" v2 (putF "first" v1 (putF "states" (.int r.n) []))))) := upd_same
    have T8 : Same H0 (upd H7 x (.ins C dx (putF "ends" v3 (putF "moves" v2 (putF "first" v1 (putF "states" (.int r.n) [])))))) := same_put T7 nx
    revert f8 T8
    generalize upd H7 x (.ins C dx (putF "ends" v3 (putF "moves" v2 (putF "first" v1 (putF "states" (.int r.n) []))))) = H8
    intro f8 T8
    have q2' := q2
    have q3' := q3
    cases q2 with
    | @tup a2 xs2 _ e2 d2 =>
    cases q3 with
    | @tup a3 xs3 _ e3 d3 =>
    have l2 : r.mv.length ≤ 1000 := by
      have := sm_len m2
      rwa [List.length_map] at this
    have l3 : r.en.length ≤ 1000 := by
      have := sm_len m3
      rwa [List.length_map] at this
    refine ⟨_, rfl, H0, a2, xs2, r.mv, rfl, T8, T8 _ _ e2, d2, l2, fun H9 tb TB => ⟨_, rfl, x, C, dx, _, rfl, TB.s _ _ f8, T.c, T.mv, (by show 4 < 1000; decide), ?_⟩⟩
    have xtb : x ≠ tb := ne_of_none f8 TB.n0
    have S9 : Same H8 H9 := TB.s
    have T9 := T8.trans S9
    have KD := KeepD.ins (gs := putF "_moves" (.ref tb) (putF "ends" (.ref a3) (putF "moves" (.ref a2) (putF "first" v1 (putF "states" (.int r.n) []))))) (TB.s _ _ f8)
    have f10 : (upd H9 x (.ins C dx (putF "_moves" (.ref tb) (putF "ends" (.ref a3) (putF "moves" (.ref a2) (putF "first" v1 (putF "states" (.int r.n) []))))))) x = some (.ins C dx (putF "_moves" (.ref tb) (putF "ends" (.ref a3) (putF "moves" (.ref a2) (putF "first" v1 (putF "states" (.int r.n) [])))))) := upd_same
    have T10 : Same H0 (upd H9 x (.ins C dx (putF "_moves" (.ref tb) (putF "ends" (.ref a3) (putF "moves" (.ref a2) (putF "first" v1 (putF "states" (.int r.n) []))))))) := same_put T9 nx
    have K10 : ∀ c o, c ≠ x → H9 c = some o → (upd H9 x (.ins C dx (putF "_moves" (.ref tb) (putF "ends" (.ref a3) (putF "moves" (.ref a2) (putF "first" v1 (putF "states" (.int r.n) []))))))) c = some o := fun c o cx e => by
      rw [upd_ne cx]
      exact e
    revert f10 T10 K10
    generalize upd H9 x (.ins C dx (putF "_moves" (.ref tb) (putF "ends" (.ref a3) (putF "moves" (.ref a2) (putF "first" v1 (putF "states" (.int r.n) [])))))) = H10
    intro f10 T10 K10
    have e3 := T10 _ _ e3
    refine ⟨_, rfl, a3, rfl, ⟨_, SqT.of e3⟩, fun te nte => ?_⟩
    refine dc_tup (K := K) (a := a3) (xs := xs3) (fun i H => Same H10 H ∧ ∃ kvs, H te = some (.dK kvs) ∧ kvs.length ≤ i ∧ ∀ j, (lastE (r.en.take i) j = none ∧ valV kvs (Sum.inl j) = none) ∨ ∃ w v, lastE (r.en.take i) j = some w ∧ valV kvs (Sum.inl j) = some v ∧ Dq H0 v (strsD w))
      ⟨same_new nte, [], upd_same, Nat.le_refl _, fun j => .inl ⟨rfl, rfl⟩⟩ (fun i H _ M => SqT.of (M.1 _ _ e3)) ?_ ?_
    · rintro i y H hy ⟨SH, kvs, hk, hl, look⟩
      obtain ⟨d', hd', hq⟩ := DqAll.at d3 hy
      obtain ⟨e, he, rfl⟩ : ∃ e, r.en[i]? = some e ∧ enD e = d' := by
        rw [List.getElem?_map] at hd'
        cases ex : r.en[i]? with
        | none =>
          rw [ex] at hd'
          cases hd'
        | some e =>
          rw [ex] at hd'
          exact ⟨e, rfl, Option.some.inj hd'⟩
      have hi : i < r.en.length := (List.getElem?_eq_some_iff.mp he).1
      have et : r.en.take (i + 1) = r.en.take i ++ [e] := by
        rw [List.take_add_one, he]
        rfl
      cases hq with
      | @tup c zs _ ec hza =>
        cases hza with
        | @cons w0 _ _ _ p0 hza =>
        cases hza with
        | @cons w1 _ _ _ p1 hza =>
        cases hza
        cases p0
        refine ⟨c, _, rfl, SqT.of (SH _ _ (T10 _ _ ec)), rfl, _, _, rfl, w1, _, rfl, rfl, rfl, ?_⟩
        refine ⟨_, rfl, _, rfl, kvs, Sum.inl e.1, rfl, hk, Nat.lt_of_le_of_lt (Nat.le_trans hl (Nat.le_trans (Nat.le_of_lt hi) l3)) (by rw [sizeLine_eq]; omega), ?_⟩
        refine ⟨fun b o eb => ?_, _, upd_same, Nat.le_trans (length_putK _ _ _) (by omega), fun j => ?_⟩
        · rw [upd_ne (ne_of_none eb nte)]
          exact SH _ _ eb
        · rw [et, lastE_snoc, valV_put]
          by_cases hj : e.1 = j
          · subst hj
            rw [if_pos rfl, if_pos rfl]
            exact .inr ⟨_, _, rfl, rfl, p1⟩
          · rw [if_neg hj, if_neg fun z => hj (by injection z with z; exact z.symm)]
            exact look j
    · rintro H ⟨SH, kvs, hk, hl, look⟩
      have len : xs3.length = r.en.length := by
        rw [d3.len, List.length_map]
      rw [len, List.take_length] at look
      refine ⟨_, rfl, x, C, dx, _, rfl, SH _ _ f10, T.c, T.en, (by show 5 < 1000; decide), ?_⟩
      have T11 := same_put (o := .ins C dx (putF "_ends" (.ref te) (putF "_moves" (.ref tb) (putF "ends" (.ref a3) (putF "moves" (.ref a2) (putF "first" v1 (putF "states" (.int r.n) []))))))) (T10.trans SH) nx
      have nte0 : H0 te = none := T10.free nte
      have xte : te ≠ x := fun z => by
        rw [z, f10] at nte
        cases nte
      exact k dn _ _ T11 upd_same ⟨rfl, rfl, rfl, rfl⟩
end
end KL
set_option Elab.async false
set_option linter.all false
set_option maxRecDepth 100000
set_option maxHeartbeats 4000000
namespace KL
open PySem L2 PySem.Spec PyProof.Rows
/-! ### == and != of an instance with an own __eq__, the other thing anything -/
section
variable {X : Cx} {pins : List (Addr × Obj)} {σ : L2.St} {H : Hp} {s : Shared}
theorem ty_looks {y : V} {u t : Value} (I : Inv X pins σ H s) (ry : RelV y u) (ty : TyOf X.K H y t) : PySem.W.Looks (model X.prog X.w) s.heap (typeOf u) t := by
  have at_ : ∀ {a : Addr} {o : Obj} {T : String}, s.heap.get? a = some o → o.cls = .type T → PySem.W.Looks (model X.prog X.w) s.heap (typeOf (.ref a)) (.type T) := fun ho hc A Q E s' k q => wpAny_typeOf ⟨_, k _ _ ho, hc⟩ q
  cases ty with
  | non => cases ry; exact .of_pure rfl
  | bl b => cases ry; exact .of_pure rfl
  | int i => obtain ⟨tk, rfl⟩ := ry; exact .of_pure rfl
  | str x => obtain ⟨tk, rfl⟩ := ry; exact .of_pure rfl
  | flt x => obtain ⟨tk, rfl⟩ := ry; exact .of_pure rfl
  | lst e =>
    cases ry
    obtain ⟨_, _, n, _, h1⟩ := I.hok _ _ e
    exact at_ h1 rfl
  | frz e =>
    cases ry
    obtain ⟨_, _, _, n, _, h1⟩ := I.hok _ _ e
    exact at_ h1 rfl
  | tup e =>
    cases ry
    obtain ⟨_, _, _, o, h1, h2, _⟩ := I.hok _ _ e
    exact at_ h1 h2
  | dK e =>
    cases ry
    obtain ⟨_, _, vs, _, o, es, ep, h1, h2, _⟩ := I.hok _ _ e
    exact at_ h1 h2.1
  | dT e =>
    cases ry
    obtain ⟨_, _, xs, _, o, es, ep, h1, h2, _⟩ := I.hok _ _ e
    exact at_ h1 h2.1
  | ins e _ _ _ _ _ =>
    cases ry
    obtain ⟨mA, O, _⟩ := ins_get I.hok e
    obtain ⟨od, J, _⟩ := O.look
    exact J.type
/-- none of these types is below a class of the text -/
theorem not_below {K : PySem.W.Frag} {C : Addr} {T : String} (h : T = "NoneType" ∨ T = "bool" ∨ T = "int" ∨ T = "str" ∨ T = "list" ∨ T = "tuple" ∨ T = "dict") : PySem.W.subIn K (.type T) (.ref C) = some false := by
  have go : ∀ {l : List Value}, fastBuiltinMro T = some l → l.contains (Value.ref C) = false → PySem.W.subIn K (.type T) (.ref C) = some false := fun {l} e n => by
    show (fastBuiltinMro T).map (·.contains (.ref C)) = some false
    rw [e, Option.map_some, n]
  rcases h with rfl | rfl | rfl | rfl | rfl | rfl | rfl
  · exact go (l := [.type "NoneType", .type "object"]) (by decide +kernel) (by simp)
  · exact go (l := [.type "bool", .type "int", .type "object"]) (by decide +kernel) (by simp)
  · exact go (l := [.type "int", .type "object"]) (by decide +kernel) (by simp)
  · exact go (l := [.type "str", .type "object"]) (by decide +kernel) (by simp)
  · exact go (l := [.type "list", .type "object"]) (by decide +kernel) (by simp)
  · exact go (l := [.type "tuple", .type "object"]) (by decide +kernel) (by simp)
  · exact go (l := [.type "dict", .type "object"]) (by decide +kernel) (by simp)
/-- the other thing is of such a type, or an instance of the same class -/
def Other (K : PySem.W.Frag) (C : Addr) (H : Hp) (y : V) : Prop := ∃ t, TyOf K H y t ∧ (t = .ref C ∨ ∃ T, t = .type T ∧ (T = "NoneType" ∨ T = "bool" ∨ T = "int" ∨ T = "str" ∨ T = "list" ∨ T = "tuple" ∨ T = "dict"))
theorem not_first {K : PySem.W.Frag} {C : Addr} {t : Value} (h : t = .ref C ∨ ∃ T, t = .type T ∧ (T = "NoneType" ∨ T = "bool" ∨ T = "int" ∨ T = "str" ∨ T = "list" ∨ T = "tuple" ∨ T = "dict")) : PySem.W.notFirst K C t = true := by
  unfold PySem.W.notFirst
  rcases h with rfl | ⟨T, rfl, h⟩
  · simp
  · rw [not_below h]
    simp
variable {CX : CXT} {n : Nat} {C f : Addr} {fd : FuncData} {ps : List Str} {sp : Sp} {E : XK}
theorem own_call (F : FnOk X.prog X.w X.K X.mg X.base CX n f fd ps sp) (hb : L2.Binds X.K fd ps []) (hx : Passes CX X E) {A : Around} (sb : Sub X n A) (I : Inv X pins σ H s) {us : List Value} {vs : List V} {Q : VK} (r : Vals vs us) (h : sp vs H Q E) :
    wpAny (model X.prog X.w) A (call (.ref f) us) (EP X pins σ Q) X.xe s := by
  have e0 : Env0 X.prog X.w X.K X.mg X.base A X.stack s H := by
    have e := I.env0
    exact ⟨by rw [sb.fr]; exact e.frames, e.mod, e.bs, e.bsz, e.funs, e.frf, e.hok, e.bare⟩
  have hl := F.len _ _ _ _ h
  have b := hb s us I.kIn (by rw [List.append_nil, ← hl]; exact r.length.symm)
  rw [List.append_nil] at b
  refine wpAny_call (codeAny_mono (F.run A X.stack s H ⟨us, []⟩ us vs _ E sb.room e0 b r h) fun r s' hq => ?_)
  cases r with
  | error e => exact hx pins σ H s e s' I hq
  | ok fl =>
    cases fl with
    | ret w => exact I.after hq
    | next => exact False.elim hq
    | brk => exact False.elim hq
    | cont => exact False.elim hq
/-- what == and != ask -/
def rOwn (neg : Bool) (K : PySem.W.Frag) (C : Addr) (sp : Sp) (E : XK) : R2 := fun x y H Q => ∃ a dx fs, x = .ref a ∧ H a = some (.ins C dx fs) ∧ Other K C H y ∧ sp [.ref a, y] H (fun v H' => ∃ b, v = .bl b ∧ Q (.bl (if neg = true then !b else b)) H') E
theorem op_eqOwn (F : FnOk X.prog X.w X.K X.mg X.base CX n f fd ps sp) (hs : PySem.W.findIn X.K (.ref C) "__eq__" = some (some (.ref f))) (hf : PySem.W.isFn X.K (.ref f) = true) (hb : L2.Binds X.K fd ps []) (hx : Passes CX X E) (hr : Room n X.A) : OpR X (compareOp .Eq) (rOwn false X.K C sp E) := by
  intro pins s σ H x y v u Q I rx ry h
  obtain ⟨a, dx, fs, rfl, ha, ⟨t, ty, ht⟩, h⟩ := h
  cases rx
  obtain ⟨mA, J, _⟩ := ins_get I.hok ha
  obtain ⟨od, J, _⟩ := J.look
  obtain ⟨m, hF⟩ := I.fr
  show wpAny (model X.prog X.w) X.A (richCompare .Eq (.ref a) u) (EP X pins σ Q) X.xe s
  refine PySem.W.cmp_K (op := .Eq) (tb := t) hr.units0 hF I.ok.mod.kin J (ty_looks I ry ty) (not_first ht) hs hf (wpAny_mono (own_call F hb hx (A := X.A) ⟨hr, rfl⟩ I (us := [.ref a, u]) (vs := [V.ref a, y]) (.cons (show RelV (V.ref a) (Value.ref a) from rfl) (.cons ry .nil)) h) (fun r s' z => ?_) fun _ _ e => e)
  obtain ⟨z, H', I', rz, b, rfl, q⟩ := z
  cases rz
  exact ⟨.bl b, H', I', rfl, q⟩
end
end KL
set_option Elab.async false
set_option linter.all false
set_option maxRecDepth 100000
set_option maxHeartbeats 4000000
namespace KL
open PySem L2 PySem.Spec PyProof.Rows
section
variable {prog : Program} {w : World} {A : Around} {E : Value → Shared → Prop} {s : Shared} {K : PySem.W.Frag} {x C L f : Addr} {h₀ : Heap} {m : Str → Option Value} {ox : Obj} {od : Option Obj} {b tb : Value}
theorem ne_entry (X : K.In s.heap) (I : PySem.W.InstAt s.heap x ox C od) (he : PySem.W.findIn K (.ref C) "__eq__" = some (some (.ref f))) (hf : PySem.W.isFn K (.ref f) = true) (hu : A.units < cLine) {Q : Fin → Shared → Prop}
    (h : wpAny (model prog w) A (call (.ref f) [.ref x, b]) (fun v s' => ∃ c, v = .bool c ∧ Q (.done (.ret (.bool (!c)))) s') E s) :
    wpAny (model prog w) A (Builtin.«object.__ne__» ⟨[.ref x, b], []⟩) Q E s := by
  unfold Builtin.«object.__ne__»
  repeat (first
    | with_reducible refine wpAny_cRoomFor hu ?_
    | (refine wpAny_bind (m := callSpecialIfBound? (.ref x) (Str.ofString "__eq__") [b])
        (PySem.W.ifBound_K X I he hf (wpAny_mono h (fun r s' hr => by
          obtain ⟨c, rfl, hq⟩ := hr
          repeat (first | exact hq | exact wpAny_pure hq | exact wpAny_truthy_bool hq | (refine wpAny_bind (m := truthy (.bool _)) (wpAny_truthy_bool ?_)) | wp_step)) fun _ _ e => e)))
    | wp_step)
theorem ne_bound {args : List Value} {Q : Option Value → Shared → Prop} (X : K.In s.heap) (I : PySem.W.InstAt s.heap x ox C od) (hs : PySem.W.findIn K (.ref C) "__ne__" = some (some (.builtin "object.__ne__")))
    (h : wpAny (model prog w) A (call (.builtin "object.__ne__") (.ref x :: args)) (fun v => Q (some v)) E s) : wpAny (model prog w) A (callSpecialIfBound? (.ref x) "__ne__" args) Q E s := by
  simp only [callSpecialIfBound?, bindSpecialIfBound?]
  refine wpAny_holding (wpAny_bind (wpAny_bind (wpAny_bind (I.type.here ((PySem.W.looks_findIn X hs).here ?_)))))
  refine wpAny_bind (wpAny_askSetting (wpAny_ite ?_))
  have fin : wpAny (model prog w) A (call (.builtin "object.__ne__") ([.ref x] ++ args) >>= fun v => pure (some v)) Q E s := wpAny_bind (wpAny_mono h (fun v s' h' => wpAny_pure h') fun _ _ h' => h')
  split
  · exact wpAny_bind (wpAny_of_eq (F.cmp_object.ne.bind _) (wpAny_pure (by exact fin)))
  · exact wpAny_tryCatch (wpAny_bind (wpAny_of_eq (F.cmp_object.ne.bind _) (wpAny_pure (by exact fin))))
theorem cmp_neK {Q : Value → Shared → Prop} (hu : A.units + 1 < cLine) (F : PyProof.Rows.Fr h₀ L s.heap m) (X₀ : K.In h₀) (I : PySem.W.InstAt s.heap x ox C od) (hb : PySem.W.Looks (model prog w) s.heap (typeOf b) tb) (hn : PySem.W.notFirst K C tb = true)
    (hs : PySem.W.findIn K (.ref C) "__ne__" = some (some (.builtin "object.__ne__"))) (hm : PySem.W.mroIn K C (.type "object") = some true)
    (he : PySem.W.findIn K (.ref C) "__eq__" = some (some (.ref f))) (hf : PySem.W.isFn K (.ref f) = true)
    (h : wpAny (model prog w) A.in1 (call (.ref f) [.ref x, b]) (fun v s' => ∃ c, v = .bool c ∧ Q (.bool (!c)) s') E s) : wpAny (model prog w) A (richCompare .NotEq (.ref x) b) Q E s := by
  have X := X₀.keeps F.keep
  have one : wpAny (model prog w) A (tryCompare (.ref x) "__ne__" b) (fun r s' => ∃ v, r = some v ∧ Q v s') E s := by
    unfold tryCompare
    refine wpAny_bind (ne_bound X I hs (wpAny_call (codeAny_call_builtin PySem.F.cmp_object.ne.plain PySem.F.cmpEntry_ne (PySem.W.check_slot PySem.F.cmpKind_ne PySem.F.cmpSplit_ne (I.type.andThen (PySem.W.looks_mroIn X hm)) (PySem.F.cmpArgs_ne _ _)
      (ne_entry (A := A.in1) X I he hf hu (wpAny_mono h (fun v s' hv => ?_) fun _ _ e => e))))))
    obtain ⟨c, rfl, hq⟩ := hv
    exact ⟨c, rfl, wpAny_pure ⟨_, rfl, hq⟩⟩
  unfold richCompare
  simp only [oneThing_ref]
  refine wpAny_holding (wpAny_bind (wpAny_cRoomFor (Nat.lt_of_succ_lt hu) ?_))
  rw [cmpInfo_NotEq]
  dsimp only
  refine wpAny_bind (I.type.here (wpAny_bind (hb.here ?_)))
  split
  · rename_i q
    have e : PySem.W.subIn K tb (.ref C) = some false := by
      rcases Bool.or_eq_true_iff.mp hn with e | e
      · rw [beq_iff_eq.mp e] at q; simp at q
      · exact beq_iff_eq.mp e
    refine wpAny_bind ((PySem.W.looks_subIn X e).here ?_)
    simp only [Bool.false_eq_true, if_false]
    refine wpAny_bind (wpAny_mono one (fun r s' z => ?_) fun _ _ e => e)
    obtain ⟨v, rfl, hq⟩ := z
    exact wpAny_pure hq
  · refine wpAny_bind (wpAny_pure ?_)
    simp only [Bool.false_eq_true, if_false]
    refine wpAny_bind (wpAny_mono one (fun r s' z => ?_) fun _ _ e => e)
    obtain ⟨v, rfl, hq⟩ := z
    exact wpAny_pure hq
end
section
variable {X : Cx} {pins : List (Addr × Obj)} {σ : L2.St} {H : Hp} {s : Shared} {CX : CXT} {n : Nat} {C f : Addr} {fd : FuncData} {ps : List Str} {sp : Sp} {E : XK}
theorem op_neOwn (F : FnOk X.prog X.w X.K X.mg X.base CX n f fd ps sp) (hs : PySem.W.findIn X.K (.ref C) "__eq__" = some (some (.ref f))) (hf : PySem.W.isFn X.K (.ref f) = true) (hb : L2.Binds X.K fd ps []) (hx : Passes CX X E)
    (hne : PySem.W.findIn X.K (.ref C) "__ne__" = some (some (.builtin "object.__ne__"))) (hm : PySem.W.mroIn X.K C (.type "object") = some true) (hr : Room (n + 1) X.A) : OpR X (compareOp .NotEq) (rOwn true X.K C sp E) := by
  intro pins s σ H x y v u Q I rx ry h
  obtain ⟨a, dx, fs, rfl, ha, ⟨t, ty, ht⟩, h⟩ := h
  cases rx
  obtain ⟨mA, J, _⟩ := ins_get I.hok ha
  obtain ⟨od, J, _⟩ := J.look
  obtain ⟨m, hF⟩ := I.fr
  show wpAny (model X.prog X.w) X.A (richCompare .NotEq (.ref a) u) (EP X pins σ Q) X.xe s
  have hu : X.A.units + 1 < cLine := by
    have := hr.un
    omega
  refine cmp_neK (tb := t) hu hF I.ok.mod.kin J (ty_looks I ry ty) (not_first ht) hne hm hs hf (wpAny_mono (own_call F hb hx (A := X.A.in1) ⟨hr.in1, rfl⟩ I (us := [.ref a, u]) (vs := [V.ref a, y]) (.cons (show RelV (V.ref a) (Value.ref a) from rfl) (.cons ry .nil)) h) (fun r s' z => ?_) fun _ _ e => e)
  obtain ⟨z, H', I', rz, b, rfl, q⟩ := z
  cases rz
  exact ⟨b, rfl, .bl (!b), H', I', rfl, q⟩
end
end KL
set_option Elab.async false
set_option linter.all false
set_option maxRecDepth 100000
set_option maxHeartbeats 4000000
namespace KL
open PySem L2 PySem.KX PySem.Spec PyProof.Rows
/-! ### Reader.__eq__, Reader.__len__ -/
/-- what the class is asked -/
structure TxtQ (K : PySem.W.Frag) (C : Addr) : Prop where
  i : C8.InsC K C
  k : ((PySem.W.clsIn K C).isSome && (PySem.W.typeIn K (.ref C) == some (.type "type"))) = true
mutual
theorem dp_laid {K : PySem.W.Frag} {H : Hp} : ∀ (d : PyData) (v : V), d.canLay0 = true → Dq H v d → Dp K H v d
  | .none, _, _, h => by
    cases h
    exact .non
  | .bool _, _, _, h => by
    cases h
    exact .bl _
  | .int _, _, _, h => by
    cases h
    exact .int _
  | .str _, _, _, h => by
    cases h
    exact .str _
  | .list ds, _, z, h => by
    cases h with
    | lst e q => exact .lst (SqL.of e) (dpAll_laid ds _ z q)
  | .tuple ds, _, z, h => by
    cases h with
    | tup e q => exact .tup (SqT.of e) (dpAll_laid ds _ z q)
  | .dict _, _, z, _ => by cases z
theorem dpAll_laid {K : PySem.W.Frag} {H : Hp} : ∀ (ds : List PyData) (vs : List V), PyData.canLayAll0 ds = true → DqAll H vs ds → DpAll K H vs ds
  | [], _, _, h => by
    cases h
    exact .nil
  | d :: ds, _, z, h => by
    have z := Bool.and_eq_true_iff.mp (show (d.canLay0 && PyData.canLayAll0 ds) = true from z)
    cases h with
    | cons q r => exact .cons (dp_laid d _ z.1 q) (dpAll_laid ds _ z.2 r)
end
theorem dp_shaped {K : PySem.W.Frag} {H : Hp} {d : PyData} {v : V} (z : SeqAt.shaped d = true) (h : Dq H v d) : Dp K H v d := dp_laid d v (Bool.and_eq_true_iff.mp z).1 h
theorem ty_data {K : PySem.W.Frag} {H : Hp} {v : V} {d : PyData} (h : Dq H v d) : TyOf K H v (.type (tyName d)) := by
  cases h with
  | non => exact .non
  | bl b => exact .bl b
  | int i => exact .int i
  | str x => exact .str x
  | lst e _ => exact .lst e
  | tup e _ => exact .tup e
  | dct0 e => exact .dK e
  | dct1 e => exact .dK e
theorem ty_names (d : PyData) : tyName d = "NoneType" ∨ tyName d = "bool" ∨ tyName d = "int" ∨ tyName d = "str" ∨ tyName d = "list" ∨ tyName d = "tuple" ∨ tyName d = "dict" := by cases d <;> simp [tyName]
theorem other_data {K : PySem.W.Frag} {C : Addr} {H : Hp} {v : V} {d : PyData} (h : Dq H v d) : Other K C H v := ⟨_, ty_data h, .inr ⟨_, rfl, ty_names d⟩⟩
theorem ty_ins {K : PySem.W.Frag} {C a dx : Addr} {H : Hp} {fs : List (Str × V)} (i : C8.InsC K C) (h : H a = some (.ins C dx fs)) : TyOf K H (.ref a) (.ref C) := .ins h i.cl i.ha i.hn i.htk i.hm
theorem other_ins {K : PySem.W.Frag} {C a dx : Addr} {H : Hp} {fs : List (Str × V)} (i : C8.InsC K C) (h : H a = some (.ins C dx fs)) : Other K C H (.ref a) := ⟨_, ty_ins i h, .inl rfl⟩
theorem kit_other {K : PySem.W.Frag} {C : Addr} (T : TxtQ K C) (d : PyData) : PySem.W.kitOne K (.type (tyName d)) (.ref C) = some false := by
  have h : PySem.W.kitCls K (.type (tyName d)) (.ref C) = some false := by
    show (if _ = true then PySem.W.subIn K (.type (tyName d)) (.ref C) else none) = some false
    rw [if_pos T.k]
    exact not_below (ty_names d)
  unfold PySem.W.kitOne
  rw [if_neg (by simp)]
  exact h
/-- a reader by its fields, and what they are -/
structure FourAt (C : Addr) (H : Hp) (x : Addr) (d0 d1 d2 d3 : PyData) : Prop where
  ex : ∃ dx fs v0 v1 v2 v3, H x = some (.ins C dx fs) ∧ fsR v0 v1 v2 v3 fs ∧ Dq H v0 d0 ∧ Dq H v1 d1 ∧ Dq H v2 d2 ∧ Dq H v3 d3
theorem FourAt.same {C : Addr} {H H' : Hp} {x : Addr} {d0 d1 d2 d3 : PyData} (h : FourAt C H x d0 d1 d2 d3) (S : Same H H') : FourAt C H' x d0 d1 d2 d3 := by
  obtain ⟨dx, fs, v0, v1, v2, v3, h0, h1, q0, q1, q2, q3⟩ := h.ex
  exact ⟨dx, fs, v0, v1, v2, v3, S _ _ h0, h1, Dq.same S _ _ q0, Dq.same S _ _ q1, Dq.same S _ _ q2, Dq.same S _ _ q3⟩
def sh4 (d0 d1 d2 d3 : PyData) : Prop := SeqAt.shaped d0 = true ∧ SeqAt.shaped d1 = true ∧ SeqAt.shaped d2 = true ∧ SeqAt.shaped d3 = true
def spREq (C : Addr) : Sp := fun vs H Q _ => ∃ (x : Addr) (y : V) (d0 d1 d2 d3 : PyData), vs = [.ref x, y] ∧ FourAt C H x d0 d1 d2 d3 ∧ sh4 d0 d1 d2 d3 ∧ ((∃ d, Dq H y d ∧ Q (.bl false) H) ∨
  ∃ z e0 e1 e2 e3, y = .ref z ∧ FourAt C H z e0 e1 e2 e3 ∧ sh4 e0 e1 e2 e3 ∧ Q (.bl (PyData.eqv d0 e0 && (PyData.eqv d1 e1 && (PyData.eqv d2 e2 && PyData.eqv d3 e3)))) H)
section
variable {P : Program} {w : World} {K : PySem.W.Frag} {mg : Str → Option Value} {base : Heap} {C : Addr}
theorem scREq : FnScope ["self", "other"] ["self", "other"] (defScope sREq) := ⟨rfl, rfl, rfl, by decide +kernel, rfl, by decide +kernel, by decide +kernel⟩
theorem ok_req {f : Addr} {fd : FuncData} (F : Fun K "__eq__" "Reader.__eq__" sREq f fd) (T : TxtR K mg C) (TQ : TxtQ K C) (TB : TxtB mg) (mC : mg "Reader" = some (.ref C)) :
    FnOk P w K mg base CX0 3 f fd ["self", "other"] (spREq C) := by
  refine F.ok scREq (fun vs H Q E h => ?_) (fun cdv A outer s H vs Q E hr h => ?_)
  · obtain ⟨x, y, d0, d1, d2, d3, rfl, _⟩ := h
    rfl
  · obtain ⟨x, y, d0, d1, d2, d3, rfl, R, ⟨s0, s1, s2, s3⟩, h⟩ := h
    have hu := hu_of hr
    refine ⟨_, pss_one (ps_ret (pe_and (pe_callB call_isi (by rfl) TB.isi (by decide +kernel) (pa_cons (pv 1) (pa_cons (pe_glob (v := .ref C) (by rfl) mC rfl) pa_nil)))
      (pe_and (pe_cmpR (op_eqD hr.units) (pe_fld (pv 0) (by rfl)) (pe_fld (pv 1) (by rfl)) (nomark _)) (pe_and (pe_cmpR (op_eqD hr.units) (pe_fld (pv 0) (by rfl)) (pe_fld (pv 1) (by rfl)) (nomark _))
      (pe_and (pe_cmpR (op_eqD hr.units) (pe_fld (pv 0) (by rfl)) (pe_fld (pv 1) (by rfl)) (nomark _)) (pe_one (pe_cmpR (op_eqD hr.units) (pe_fld (pv 0) (by rfl)) (pe_fld (pv 1) (by rfl)) (nomark _)))))))), ?_⟩
    obtain ⟨dx, fs, v0, v1, v2, v3, hx, ⟨f0, f1, f2, f3⟩, q0, q1, q2, q3⟩ := R.ex
    rcases h with ⟨d, qd, k⟩ | ⟨z, e0, e1, e2, e3, rfl, R', ⟨t0, t1, t2, t3⟩, k⟩
    · exact ⟨_, rfl, y, .ref C, _, .ref C, false, rfl, .own C, .base (ty_data qd), kit_other TQ d, _, rfl, k⟩
    · obtain ⟨dz, gs, w0, w1, w2, w3, hz, ⟨g0, g1, g2, g3⟩, p0, p1, p2, p3⟩ := R'.ex
      refine ⟨_, rfl, .ref z, .ref C, _, .ref C, true, rfl, .own C, .base (ty_ins TQ.i hz), TQ.i.me, _, rfl, ?_⟩
      refine ⟨_, rfl, x, C, dx, fs, _, rfl, hx, T.c, T.states, f0, _, rfl, z, C, dz, gs, _, rfl, hz, T.c, T.states, g0, d0, e0, dp_shaped s0 q0, dp_shaped t0 p0, s0, t0, _, rfl, ?_⟩
      rcases bool_ft (PyData.eqv d0 e0) with b | b
      · rw [b] at k ⊢
        exact k
      rw [b] at k ⊢
      refine ⟨_, rfl, x, C, dx, fs, _, rfl, hx, T.c, T.first, f1, _, rfl, z, C, dz, gs, _, rfl, hz, T.c, T.first, g1, d1, e1, dp_shaped s1 q1, dp_shaped t1 p1, s1, t1, _, rfl, ?_⟩
      rcases bool_ft (PyData.eqv d1 e1) with b | b
      · rw [b] at k ⊢
        exact k
      rw [b] at k ⊢
      refine ⟨_, rfl, x, C, dx, fs, _, rfl, hx, T.c, T.moves, f2, _, rfl, z, C, dz, gs, _, rfl, hz, T.c, T.moves, g2, d2, e2, dp_shaped s2 q2, dp_shaped t2 p2, s2, t2, _, rfl, ?_⟩
      rcases bool_ft (PyData.eqv d2 e2) with b | b
      · rw [b] at k ⊢
        exact k
      rw [b] at k ⊢
      exact ⟨_, rfl, x, C, dx, fs, _, rfl, hx, T.c, T.ends, f3, _, rfl, z, C, dz, gs, _, rfl, hz, T.c, T.ends, g3, d3, e3, dp_shaped s3 q3, dp_shaped t3 p3, s3, t3, k⟩
/-! ### len -/
theorem pe_lenRg {X : Cx} {e : Expr} {t : L2.St → Hp → (Int → Int → Hp → Prop) → Prop} {p pos : Pos} (hg : Gl X "len") (hm : X.mg "len" = none) (ha : PRg X e t) (na : starEach [e] X.env = (false, eval e X.env) :: starEach [] X.env := by rfl) :
    PE X (.Call (.Name "len" p) [e] [] pos) (fun σ H Q => t σ H fun a b H1 => a = 0 ∧ 0 ≤ b ∧ b < 1000000 ∧ Q (.int b) H1) := by
  refine ⟨fun pins s σ H Q I h => ?_⟩
  refine wpAny_Call_Name_kw (ld_blt (u := .builtin "len") I hg hm (by decide +kernel) ?_ (by decide) (by decide))
  refine PyProof.Rows.callWith_builtin1 (E := X.xe) (args_cons (thn (ha pins s σ H _ I h) fun v s1 z => ?_) na) na rfl
  obtain ⟨r, a, b, t1, t2, t3, H1, rfl, R, I1, rfl, h0, h1, q⟩ := z
  refine args_nil ?_
  refine call_len_range (n := b.toNat) R ?_ (by omega) ?_
  · show (if (1 : Int) > 0 then _ else _) = _
    rw [if_pos (by decide)]
    split <;> omega
  · rw [show ((b.toNat : Nat) : Int) = b from by omega]
    exact ⟨.int b, H1, (I1.tok _), ⟨_, rfl⟩, q⟩
def spRLen (C : Addr) : Sp := fun vs H Q _ => ∃ (x : Addr) (n : Int) (d1 d2 d3 : PyData), vs = [.ref x] ∧ FourAt C H x (.int n) d1 d2 d3 ∧ 0 ≤ n ∧ n < 1000000 ∧ Q (.int n) H
theorem scRLen : FnScope ["self"] ["self"] (defScope sRLen) := ⟨rfl, rfl, rfl, by decide +kernel, rfl, by decide +kernel, by decide +kernel⟩
theorem ok_rlen {f : Addr} {fd : FuncData} (F : Fun K "__len__" "Reader.__len__" sRLen f fd) (T : TxtR K mg C) (ml : mg "len" = none) (mr : mg "range" = none) :
    FnOk P w K mg base CX0 1 f fd ["self"] (spRLen C) := by
  refine F.ok scRLen (fun vs H Q E h => ?_) (fun cdv A outer s H vs Q E hr h => ?_)
  · obtain ⟨x, n, d1, d2, d3, rfl, _⟩ := h
    rfl
  · obtain ⟨x, n, d1, d2, d3, rfl, R, h0, h1, k⟩ := h
    refine ⟨_, pss_one (ps_ret (pe_lenRg (by rfl) ml (prg_1 (by rfl) mr (pe_fld (pv 0) (by rfl))))), ?_⟩
    obtain ⟨dx, fs, v0, v1, v2, v3, hx, ⟨f0, f1, f2, f3⟩, q0, q1, q2, q3⟩ := R.ex
    cases q0
    exact ⟨_, rfl, x, C, dx, fs, _, rfl, hx, T.c, T.states, f0, n, rfl, rfl, h0, h1, k⟩
end
section
variable {X : Cx} {CX : CXT} {n : Nat} {C f : Addr} {fd : FuncData} {ps : List Str} {sp : Sp} {E : XK}
/-- len of an instance with an own __len__ -/
theorem cr_lenOwn (F : FnOk X.prog X.w X.K X.mg X.base CX n f fd ps sp) (hs : PySem.W.findIn X.K (.ref C) "__len__" = some (some (.ref f))) (hf : PySem.W.isFn X.K (.ref f) = true) (hb : L2.Binds X.K fd ps []) (hx : Passes CX X E) (hr : Room (n + 1) X.A) :
    CallR X (.builtin "len") (fun vs H Q => ∃ a dx fs, vs = [V.ref a] ∧ H a = some (.ins C dx fs) ∧ sp [.ref a] H (fun v H' => ∃ m : Int, v = .int m ∧ 0 ≤ m ∧ m < 1000000 ∧ Q (.int m) H') E) := by
  intro pins s σ H xs us Q I r h
  obtain ⟨a, dx, fs, rfl, ha, h⟩ := h
  obtain ⟨u, rfl, ru⟩ := vals1 r
  cases ru
  obtain ⟨mA, J, _⟩ := ins_get I.hok ha
  obtain ⟨od, J, _⟩ := J.look
  obtain ⟨m, hF⟩ := I.fr
  refine PySem.W.len_K hF I.ok.mod.kin J hs hf (wpAny_mono (own_call F hb hx (A := X.A.in1) ⟨hr.in1, rfl⟩ I (us := [.ref a]) (vs := [V.ref a]) (.cons (show RelV (V.ref a) (Value.ref a) from rfl) .nil) h) (fun r s' z => ?_) fun _ _ e => e)
  obtain ⟨z, H', I', rz, k, rfl, h0, h1, q⟩ := z
  obtain ⟨t, rfl⟩ := rz
  exact ⟨⟨h0, by omega⟩, .int k, H', I'.tok _, ⟨_, rfl⟩, q⟩
end
end KL
set_option Elab.async false
set_option linter.all false
set_option maxRecDepth 100000
set_option maxHeartbeats 2000000
namespace KL
open PySem L2 PySem.KX PySem.Spec PyProof.Rows
/-- a list beside the empty one -/
def rNil (neg : Bool) : R2 := fun x y H Q => ∃ a b xs, x = .ref a ∧ y = .ref b ∧ H a = some (.lst xs) ∧ H b = some (.lst []) ∧ Q (.bl (if neg = true then !xs.isEmpty else xs.isEmpty)) H
theorem same_size {xs : List V} {its : List Value} (r : Vals xs its) : (its.toArray.size != 0) = !xs.isEmpty := by
  cases r with
  | nil => rfl
  | cons _ _ => simp
section
variable {X : Cx}
theorem op_eqNil (hu : X.A.units + 64 < cLine) : OpR X (compareOp .Eq) (rNil false) := by
  intro pins s σ H x y v u Q I rx ry h
  obtain ⟨a, b, xs, rfl, rfl, ha, hb, q⟩ := h
  cases (show v = Value.ref a from rx)
  cases (show u = Value.ref b from ry)
  obtain ⟨_, its, n, rv, ho⟩ := I.hok _ _ ha
  obtain ⟨_, it2, n2, rv2, ho2⟩ := I.hok _ _ hb
  cases rv2
  have hz := same_size rv
  cases e : xs.isEmpty with
  | true =>
    rw [e] at hz q
    have z : its.toArray.size = 0 := by simpa using hz
    refine SeqAt.RcAt.lists (e := fun _ => true) ⟨_, ho, rfl, n, rfl⟩ ⟨_, ho2, rfl, n2, rfl⟩ z (by omega) (fun j j1 _ => absurd j1 (by rw [z]; exact Nat.not_lt_zero _)) _ _ _ _ ⟨.bl true, H, I, ?_, q⟩
    rw [z]
    rfl
  | false =>
    rw [e] at hz q
    exact SeqAt.RcAt.lists_lengths ⟨_, ho, rfl, n, rfl⟩ ⟨_, ho2, rfl, n2, rfl⟩ hz (by omega) _ _ _ _ ⟨.bl false, H, I, rfl, q⟩
theorem op_neNil (hu : X.A.units + 64 < cLine) : OpR X (compareOp .NotEq) (rNil true) := by
  intro pins s σ H x y v u Q I rx ry h
  obtain ⟨a, b, xs, rfl, rfl, ha, hb, q⟩ := h
  cases (show v = Value.ref a from rx)
  cases (show u = Value.ref b from ry)
  obtain ⟨_, its, n, rv, ho⟩ := I.hok _ _ ha
  obtain ⟨_, it2, n2, rv2, ho2⟩ := I.hok _ _ hb
  cases rv2
  have hz := same_size rv
  cases e : xs.isEmpty with
  | true =>
    rw [e] at hz q
    have z : its.toArray.size = 0 := by simpa using hz
    refine SeqAt.RcNeAt.lists (e := fun _ => true) ⟨_, ho, rfl, n, rfl⟩ ⟨_, ho2, rfl, n2, rfl⟩ z (by omega) (fun j j1 _ => absurd j1 (by rw [z]; exact Nat.not_lt_zero _)) _ _ _ _ ⟨.bl false, H, I, ?_, q⟩
    rw [z]
    rfl
  | false =>
    rw [e] at hz q
    exact SeqAt.RcNeAt.lists_lengths ⟨_, ho, rfl, n, rfl⟩ ⟨_, ho2, rfl, n2, rfl⟩ hz (by omega) _ _ _ _ ⟨.bl true, H, I, rfl, q⟩
end
/-- a list of those that are wrong: empty just if all so far are right -/
def Odds (H0 : Hp) (D : Addr) (ok : Bool) (n : Nat) (H : Hp) : Prop := Same H0 H ∧ ∃ ys, H D = some (.lst ys) ∧ ys.isEmpty = ok ∧ ys.length ≤ n
theorem Odds.start {H0 : Hp} {D : Addr} (nD : H0 D = none) : Odds H0 D true 0 (upd H0 D (.lst [])) := ⟨same_new nD, [], upd_same, rfl, Nat.le_refl _⟩
theorem Odds.skip {H0 H H' : Hp} {D : Addr} {ok : Bool} {n : Nat} (M : Odds H0 D ok n H) (S : Same H H') : Odds H0 D ok (n + 1) H' := by
  obtain ⟨S0, ys, h1, h2, h3⟩ := M
  exact ⟨S0.trans S, ys, S _ _ h1, h2, Nat.le_succ_of_le h3⟩
theorem Odds.put {H0 H H' : Hp} {D : Addr} {ok : Bool} {n : Nat} (M : Odds H0 D ok n H) (nD : H0 D = none) (S : Same H H') (y : V) (hn : n < 1000) : ∃ acc, H' D = some (.lst acc) ∧ acc.length < sizeLine ∧ Odds H0 D false (n + 1) (upd H' D (.lst (acc ++ [y]))) := by
  obtain ⟨S0, ys, h1, h2, h3⟩ := M
  refine ⟨ys, S _ _ h1, by rw [sizeLine_eq]; omega, fun b o e => ?_, _, upd_same, by simp, by simp; omega⟩
  have bD : b ≠ D := fun z => by
    rw [z, nD] at e
    cases e
  rw [upd_ne bD]
  exact S _ _ (S0 _ _ e)
/-! ### integers -/
end KL
set_option Elab.async false
set_option linter.all false
set_option maxRecDepth 100000
set_option maxHeartbeats 4000000
namespace KL
open PySem L2 PySem.KX PySem.Spec PyProof.Rows
abbrev lIsState : Stmt := top 27
abbrev lAreMarks : Stmt := top 28
abbrev lIsLine : Stmt := top 29
abbrev lIsStop : Stmt := top 30
abbrev lDue : Stmt := top 31
abbrev lOdd : Stmt := top 32
abbrev lBent : Stmt := top 33
abbrev lHeard : Stmt := top 34
abbrev lRight : Stmt := top 35
abbrev lLaw : Stmt := top 36
def spTestL (f : Int → PyData → Bool) : Sp := fun vs H Q _ => ∃ (v : V) (d : PyData) (n : Int), vs = [v, .int n] ∧ Dq H v d ∧ smB d = true ∧ ∀ H', Same H H' → Q (.bl (f n d)) H'
def stateD (n : Int) (d : PyData) : Bool := betD 0 (n - 1) d
def lineD (n : Int) (d : PyData) : Bool := moveD n d
def stopD (n : Int) (d : PyData) : Bool := tupD 2 2 d && endD n d
theorem all_step {f : PyData → Bool} {ds : List PyData} {i : Nat} {d : PyData} (h : ds[i]? = some d) : (ds.take (i + 1)).all f = ((ds.take i).all f && f d) := by
  rw [List.take_add_one, h, List.all_append]
  simp
section
variable {P : Program} {w : World} {K : PySem.W.Frag} {mg : Str → Option Value} {base : Heap}
theorem scIsState : FnScope ["_law_it", "_law_size"] ["_law_it", "_law_size"] (defScope lIsState) := ⟨rfl, rfl, rfl, by decide +kernel, rfl, by decide +kernel, by decide +kernel⟩
theorem ok_lstate {f : Addr} {fd : FuncData} (F : Fun K "_law_is_state" "_law_is_state" lIsState f fd) (T : TxtB mg) : FnOk P w K mg base CX0 1 f fd ["_law_it", "_law_size"] (spTestL stateD) := by
  refine F.ok scIsState (fun vs H Q E h => ?_) (fun cdv A outer s H vs Q E hr h => ?_)
  · obtain ⟨v, d, n, rfl, _⟩ := h
    rfl
  · obtain ⟨v, d, n, rfl, hd, sm, k⟩ := h
    refine ⟨_, pss_one (ps_ret (pe_and (pe_callB call_isD (by rfl) T.isi (by decide +kernel) (pa_cons (pv 0) (pa_cons (pe_bltn (v := .ty "int") (by rfl) T.int (by decide +kernel) rfl) pa_nil)))
      (pe_and (pe_not (pe_callB call_isD (by rfl) T.isi (by decide +kernel) (pa_cons (pv 0) (pa_cons (pe_bltn (v := .ty "bool") (by rfl) T.bool (by decide +kernel) rfl) pa_nil)))) (pe_one (pe_chain op_le op_lt pe_int (pv 0) (pv 1)))))), ?_⟩
    have q := k H (Same.refl H)
    refine ⟨_, rfl, v, d, "int", rfl, by decide, hd, _, rfl, ?_⟩
    cases hd with
    | int i =>
      refine iteYes rfl ⟨_, rfl, _, .int i, "bool", rfl, by decide, .int i, _, rfl, _, rfl, iteYes rfl ⟨_, rfl, _, _, rfl, rfl, _, rfl, ?_⟩⟩
      by_cases h1 : 0 ≤ i
      · refine iteYes (decide_eq_true h1) ⟨_, rfl, _, _, rfl, rfl, ?_⟩
        have e : stateD n (.int i) = decide (i < n) := by
          by_cases h2 : i < n
          · rw [decide_eq_true h2]
            simp [stateD, betD]
            omega
          · rw [decide_eq_false h2]
            simp [stateD, betD]
            omega
        rw [e] at q
        exact q
      · refine iteNo (decide_eq_false h1) ?_
        have e : stateD n (.int i) = false := by simp [stateD, betD, h1]
        rw [e] at q
        exact q
    | bl b => exact iteYes rfl ⟨_, rfl, _, .bool b, "bool", rfl, by decide, .bl b, _, rfl, _, rfl, q⟩
    | _ => exact q
theorem scLMarks : FnScope ["_law_it", "_law_x"] ["_law_it"] (defScope lAreMarks) := ⟨rfl, rfl, rfl, by decide +kernel, rfl, by decide +kernel, by decide +kernel⟩
theorem ok_lmarks {f : Addr} {fd : FuncData} (F : Fun K "_law_are_marks" "_law_are_marks" lAreMarks f fd) (T : TxtB mg) : FnOk P w K mg base CX0 1 f fd ["_law_it"] (spTest marksD) := by
  refine F.ok scLMarks (fun vs H Q E h => ?_) (fun cdv A outer s H vs Q E hr h => ?_)
  · obtain ⟨v, d, rfl, _⟩ := h
    rfl
  · obtain ⟨v, d, rfl, hd, sm, k⟩ := h
    refine ⟨_, pss_one (ps_ret (pe_and (pe_callB call_isD (by rfl) T.isi (by decide +kernel) (pa_cons (pv 0) (pa_cons (pe_bltn (v := .ty "tuple") (by rfl) T.tuple (by decide +kernel) rfl) pa_nil)))
      (pe_one (pe_cmpR (op_eqNil hr.units) (pe_lc (own := [("_law_x", 1)]) (g := gName 1) (tt := fun σ H Q => tOr (tNot (tB (tCB rIsD (tCons (tVar 1) (tCons (tC (.ty "str")) tNil))))) (tTest (tOp (rEqStr true) (tVar 1) (tC (.str "")))) σ H Q) rfl scLMarks.nd (pi_tup (pv 0)) (blkOk_by (N := ["_law_it", "_law_x"]) (sc := defScope lAreMarks) (by decide +kernel)) (fun _ _ _ _ _ => pg_name (i := 1) scLMarks.nd rfl (.inl rfl))
        (fun _ _ _ _ _ => pts_one (PW.pt (pw_or (pt_not (pt_val (pe_callB call_isD (by rfl) T.isi (by decide +kernel) (pa_cons (pv 1) (pa_cons (pe_bltn (v := .ty "str") (by rfl) T.str (by decide +kernel) rfl) pa_nil))))) (pw_or1 (pt_cmpR (op_eqStr hr.units) (pv 1) pe_str (nomark _)))))) (fun _ _ _ _ _ => pv 1)) (pe_lst pa_nil) (nomark _))))), ?_⟩
    have q := k H (Same.refl H)
    refine ⟨_, rfl, v, d, "tuple", rfl, by decide, hd, _, rfl, ?_⟩
    cases hd with
    | @tup b xs ds e ha =>
      refine iteYes rfl ?_
      refine ⟨_, rfl, b, rfl, ⟨_, SqT.of e⟩, fun D nD => ?_⟩
      refine lc_tup (K := K) (a := b) (xs := xs) (fun i H2 => Odds H D ((ds.take i).all markD) i H2) (Odds.start nD) (fun i H2 _ M => SqT.of (M.1 _ _ e)) ?_ ?_
      · rintro i x H2 hx M
        obtain ⟨d', hd', hq⟩ := DqAll.at ha hx
        have hi2 : i < ds.length := (List.getElem?_eq_some_iff.mp hd').1
        have := sm_len sm
        have hq2 := Dq.same M.1 _ _ hq
        refine ⟨rfl, _, rfl, x, d', "str", rfl, by decide, hq2, _, rfl, ?_⟩
        rw [all_step hd']
        have put : markD d' = false → ∃ acc, H2 D = some (.lst acc) ∧ acc.length < sizeLine ∧ Odds H D ((ds.take i).all markD && markD d') (i + 1) (upd H2 D (.lst (acc ++ [x]))) := fun hw => by
          rw [hw, Bool.and_false]
          exact M.put nD (Same.refl _) _ (by omega)
        rcases bool_ft (isA "str" d') with b1 | b1
        · have hw : markD d' = false := by
            show (strB d' && _) = false
            rw [show strB d' = false from by cases d' <;> first | rfl | cases b1]
            rfl
          refine iteYes (by rw [b1]; rfl) ?_
          exact iteT ⟨_, rfl, put hw⟩
        · obtain ⟨y, rfl⟩ : ∃ y, d' = .str y := by
            cases d' with
            | str y => exact ⟨y, rfl⟩
            | _ => cases b1
          refine iteNo (by rw [b1]; rfl) ⟨_, rfl, _, "", hq2, rfl, _, rfl, ?_⟩
          rcases bool_ft (isStrD "" (.str y)) with b2 | b2
          · refine iteNo b2 ?_
            have hw : markD (.str y) = true := by
              show (true && !isStrD "" (.str y)) = true
              rw [b2]
              rfl
            rw [hw, Bool.and_true]
            exact M.skip (Same.refl _)
          · refine iteYes b2 ⟨_, rfl, put ?_⟩
            show (true && !isStrD "" (.str y)) = false
            rw [b2]
            rfl
      · rintro H2 ⟨S2, ys, hy, hb, _⟩
        rw [ha.len, List.take_length] at hb
        refine ⟨(by show 0 ≤ sizeLine; decide), fun p np => ?_⟩
        have S3 := same_new (o := .lst []) np
        refine ⟨D, p, ys, rfl, rfl, S3 _ _ hy, upd_same, ?_⟩
        have q := k _ (S2.trans S3)
        have e : marksD (.tuple ds) = ys.isEmpty := by
          rw [hb]
          rfl
        rw [e] at q
        exact q
    | _ => exact iteNo rfl q
end
end KL
set_option Elab.async false
set_option linter.all false
set_option maxRecDepth 100000
set_option maxHeartbeats 4000000
namespace KL
open PySem L2 PySem.KX PySem.Spec PyProof.Rows
section
variable {P : Program} {w : World} {K : PySem.W.Frag} {mg : Str → Option Value} {base : Heap}
theorem line_no4 {n : Int} {ds : List PyData} (h : ds.length ≠ 4) : lineD n (.tuple ds) = false := by
  show (tupD 4 4 (.tuple ds) && _) = false
  have e : tupD 4 4 (.tuple ds) = false := by
    show (decide ((4 : Int) ≤ (ds.length : Int)) && decide ((ds.length : Int) ≤ 4)) = false
    by_cases h1 : (4 : Int) ≤ (ds.length : Int)
    · rw [decide_eq_false (show ¬ (ds.length : Int) ≤ 4 by omega), Bool.and_false]
    · rw [decide_eq_false h1]
      rfl
  rw [e]
  rfl
theorem line_4 (n : Int) (a b c d : PyData) : lineD n (.tuple [a, b, c, d]) = (stateD n a && (markD b && (marksD c && stateD n d))) := rfl
theorem scIsLine : FnScope ["_law_it", "_law_size"] ["_law_it", "_law_size"] (defScope lIsLine) := ⟨rfl, rfl, rfl, by decide +kernel, rfl, by decide +kernel, by decide +kernel⟩
theorem ok_lline {f g1 g2 : Addr} {fd gd1 gd2 : FuncData} (F : Fun K "_law_is_line" "_law_is_line" lIsLine f fd) (T : TxtB mg)
    (G1 : FnOk P w K mg base CX0 1 g1 gd1 ["_law_it", "_law_size"] (spTestL stateD)) (c1 : Cal K mg "_law_is_state" g1 gd1 ["_law_it", "_law_size"])
    (G2 : FnOk P w K mg base CX0 1 g2 gd2 ["_law_it"] (spTest marksD)) (c2 : Cal K mg "_law_are_marks" g2 gd2 ["_law_it"]) : FnOk P w K mg base CX0 2 f fd ["_law_it", "_law_size"] (spTestL lineD) := by
  refine F.ok scIsLine (fun vs H Q E h => ?_) (fun cdv A outer s H vs Q E hr h => ?_)
  · obtain ⟨v, d, n, rfl, _⟩ := h
    rfl
  · obtain ⟨v, d, n, rfl, hd, sm, k⟩ := h
    refine ⟨_, pss_cons (ps_if (PW.pt (pw_or (pt_not (pt_val (pe_callB call_isD (by rfl) T.isi (by decide +kernel) (pa_cons (pv 0) (pa_cons (pe_bltn (v := .ty "tuple") (by rfl) T.tuple (by decide +kernel) rfl) pa_nil)))))
        (pw_or (pt_cmpR op_ne (pe_callB call_len_seq (by rfl) T.len PySem.boot_len (pa_cons (pv 0) pa_nil)) pe_int (nomark _))
        (pw_or (pt_not (pt_val (pe_call G1 hr (by rfl) c1.m c1.k c1.b .nil pass0 (pa_cons (pe_ix ix_tup (pv 0) pe_int (fun _ _ => rfl)) (pa_cons (pv 1) pa_nil)))))
        (pw_or1 (pt_not (pt_val (pe_call G1 hr (by rfl) c1.m c1.k c1.b .nil pass0 (pa_cons (pe_ix ix_tup (pv 0) pe_int (fun _ _ => rfl)) (pa_cons (pv 1) pa_nil)))))))))) (pss_one (ps_ret pe_bl)) pss_nil)
      (pss_one (ps_ret (pe_and (pe_callB call_isD (by rfl) T.isi (by decide +kernel) (pa_cons (pe_ix ix_tup (pv 0) pe_int (fun _ _ => rfl)) (pa_cons (pe_bltn (v := .ty "str") (by rfl) T.str (by decide +kernel) rfl) pa_nil)))
        (pe_and (pe_cmpR (op_neStr hr.units) (pe_ix ix_tup (pv 0) pe_int (fun _ _ => rfl)) pe_str (nomark _)) (pe_one (pe_call G2 hr (by rfl) c2.m c2.k c2.b .nil pass0 (pa_cons (pe_ix ix_tup (pv 0) pe_int (fun _ _ => rfl)) pa_nil))))))), ?_⟩
    refine ⟨_, rfl, v, d, "tuple", rfl, by decide, hd, _, rfl, ?_⟩
    have q := k H (Same.refl H)
    cases hd with
    | @tup b xs ds e ha =>
      refine iteNo rfl ⟨_, rfl, b, xs, rfl, .inr (SqT.of e), rfl, _, rfl, ?_⟩
      rw [ha.len]
      by_cases h4 : ds.length = 4
      · refine iteNo (by rw [h4]; rfl) ?_
        obtain ⟨d0, d1, d2, d3, rfl⟩ := four (ds := ds) (by omega) (by omega)
        have s4 := sm_all sm
        have m0 : smB d0 = true := sm_at (i := 0) s4 rfl
        have m1 : smB d1 = true := sm_at (i := 1) s4 rfl
        have m2 : smB d2 = true := sm_at (i := 2) s4 rfl
        have m3 : smB d3 = true := sm_at (i := 3) s4 rfl
        cases ha with
        | @cons v0 _ _ _ q0 ha =>
        cases ha with
        | @cons v1 _ _ _ q1 ha =>
        cases ha with
        | @cons v2 _ _ _ q2 ha =>
        cases ha with
        | @cons v3 _ _ _ q3 ha =>
        cases ha
        refine ⟨_, rfl, b, _, _, _, rfl, rfl, SqT.of e, rfl, _, rfl, v0, d0, n, rfl, q0, m0, fun H1 S1 => ⟨_, rfl, ?_⟩⟩
        rcases bool_ft (stateD n d0) with b0 | b0
        · refine iteYes (by rw [b0]; rfl) ?_
          have q := k H1 S1
          rw [line_4, b0] at q
          exact iteT q
        refine iteNo (by rw [b0]; rfl) ?_
        refine ⟨_, rfl, b, _, _, _, rfl, rfl, SqT.of (S1 _ _ e), rfl, _, rfl, v3, d3, n, rfl, Dq.same S1 _ _ q3, m3, fun H2 S2 => ⟨_, rfl, ?_⟩⟩
        have S12 := S1.trans S2
        rcases bool_ft (stateD n d3) with b3 | b3
        · refine iteYes (by rw [b3]; rfl) ?_
          have q := k H2 S12
          rw [line_4, b3, Bool.and_false, Bool.and_false, Bool.and_false] at q
          exact q
        refine iteNo (by rw [b3]; rfl) ?_
        refine ⟨_, rfl, b, _, _, _, rfl, rfl, SqT.of (S12 _ _ e), rfl, _, d1, "str", rfl, by decide, Dq.same S12 _ _ q1, _, rfl, ?_⟩
        have q := k H2 S12
        rw [line_4, b0, b3] at q
        rcases bool_ft (isA "str" d1) with b1 | b1
        · refine iteNo b1 ?_
          rw [show markD d1 = false from by
            show (strB d1 && _) = false
            rw [show strB d1 = false from by cases d1 <;> first | rfl | cases b1]
            rfl] at q
          exact q
        refine iteYes b1 ?_
        have st : strB d1 = true := by cases d1 <;> first | rfl | cases b1
        refine ⟨_, rfl, b, _, _, _, rfl, rfl, SqT.of (S12 _ _ e), rfl, d1, "", Dq.same S12 _ _ q1, rfl, _, rfl, ?_⟩
        rcases bool_ft (markD d1) with b2 | b2
        · refine iteNo (by have b2 : (strB d1 && !isStrD "" d1) = false := b2; rw [st] at b2; exact b2) ?_
          rw [b2] at q
          exact q
        refine iteYes (by have b2 : (strB d1 && !isStrD "" d1) = true := b2; rw [st] at b2; exact b2) ?_
        refine ⟨_, rfl, b, _, _, _, rfl, rfl, SqT.of (S12 _ _ e), rfl, v2, d2, rfl, Dq.same S12 _ _ q2, m2, fun H3 S3 => ?_⟩
        have q := k H3 (S12.trans S3)
        rw [line_4, b0, b3, b2, Bool.true_and, Bool.true_and, Bool.and_true] at q
        exact q
      · refine iteYes (by rw [Bool.not_eq_true', decide_eq_false fun z => h4 (by injection z with z; omega)]) ?_
        rw [line_no4 h4] at q
        exact iteT q
    | _ => exact iteYes rfl (iteT q)
end
end KL
set_option Elab.async false
set_option linter.all false
set_option maxRecDepth 100000
set_option maxHeartbeats 4000000
namespace KL
open PySem L2 PySem.KX PySem.Spec PyProof.Rows
section
variable {P : Program} {w : World} {K : PySem.W.Frag} {mg : Str → Option Value} {base : Heap}
theorem stop_no2 {n : Int} {ds : List PyData} (h : ds.length ≠ 2) : stopD n (.tuple ds) = false := by
  show (tupD 2 2 (.tuple ds) && _) = false
  have e : tupD 2 2 (.tuple ds) = false := by
    show (decide ((2 : Int) ≤ (ds.length : Int)) && decide ((ds.length : Int) ≤ 2)) = false
    by_cases h1 : (2 : Int) ≤ (ds.length : Int)
    · rw [decide_eq_false (show ¬ (ds.length : Int) ≤ 2 by omega), Bool.and_false]
    · rw [decide_eq_false h1]
      rfl
  rw [e]
  rfl
theorem stop_2 (n : Int) (a b : PyData) : stopD n (.tuple [a, b]) = (stateD n a && marksD b) := rfl
theorem scIsStop : FnScope ["_law_it", "_law_size"] ["_law_it", "_law_size"] (defScope lIsStop) := ⟨rfl, rfl, rfl, by decide +kernel, rfl, by decide +kernel, by decide +kernel⟩
theorem ok_lstop {f g1 g2 : Addr} {fd gd1 gd2 : FuncData} (F : Fun K "_law_is_stop" "_law_is_stop" lIsStop f fd) (T : TxtB mg)
    (G1 : FnOk P w K mg base CX0 1 g1 gd1 ["_law_it", "_law_size"] (spTestL stateD)) (c1 : Cal K mg "_law_is_state" g1 gd1 ["_law_it", "_law_size"])
    (G2 : FnOk P w K mg base CX0 1 g2 gd2 ["_law_it"] (spTest marksD)) (c2 : Cal K mg "_law_are_marks" g2 gd2 ["_law_it"]) : FnOk P w K mg base CX0 2 f fd ["_law_it", "_law_size"] (spTestL stopD) := by
  refine F.ok scIsStop (fun vs H Q E h => ?_) (fun cdv A outer s H vs Q E hr h => ?_)
  · obtain ⟨v, d, n, rfl, _⟩ := h
    rfl
  · obtain ⟨v, d, n, rfl, hd, sm, k⟩ := h
    refine ⟨_, pss_one (ps_ret (pe_and (pe_callB call_isD (by rfl) T.isi (by decide +kernel) (pa_cons (pv 0) (pa_cons (pe_bltn (v := .ty "tuple") (by rfl) T.tuple (by decide +kernel) rfl) pa_nil)))
        (pe_and (pe_cmpR op_eq (pe_callB call_len_seq (by rfl) T.len PySem.boot_len (pa_cons (pv 0) pa_nil)) pe_int (nomark _))
        (pe_and (pe_call G1 hr (by rfl) c1.m c1.k c1.b .nil pass0 (pa_cons (pe_ix ix_tup (pv 0) pe_int (fun _ _ => rfl)) (pa_cons (pv 1) pa_nil)))
        (pe_one (pe_call G2 hr (by rfl) c2.m c2.k c2.b .nil pass0 (pa_cons (pe_ix ix_tup (pv 0) pe_int (fun _ _ => rfl)) pa_nil))))))), ?_⟩
    refine ⟨_, rfl, v, d, "tuple", rfl, by decide, hd, _, rfl, ?_⟩
    have q := k H (Same.refl H)
    cases hd with
    | @tup b xs ds e ha =>
      refine iteYes rfl ⟨_, rfl, b, xs, rfl, .inr (SqT.of e), rfl, _, rfl, ?_⟩
      rw [ha.len]
      by_cases h4 : ds.length = 2
      · refine iteYes (by rw [h4]; rfl) ?_
        obtain ⟨d0, d1, rfl⟩ := two (ds := ds) (by omega) (by omega)
        have s4 := sm_all sm
        have m0 : smB d0 = true := sm_at (i := 0) s4 rfl
        have m1 : smB d1 = true := sm_at (i := 1) s4 rfl
        cases ha with
        | @cons v0 _ _ _ q0 ha =>
        cases ha with
        | @cons v1 _ _ _ q1 ha =>
        cases ha
        refine ⟨_, rfl, b, _, _, _, rfl, rfl, SqT.of e, rfl, _, rfl, v0, d0, n, rfl, q0, m0, fun H1 S1 => ⟨_, rfl, ?_⟩⟩
        rcases bool_ft (stateD n d0) with b0 | b0
        · refine iteNo b0 ?_
          have q := k H1 S1
          rw [stop_2, b0] at q
          exact q
        refine iteYes b0 ?_
        refine ⟨_, rfl, b, _, _, _, rfl, rfl, SqT.of (S1 _ _ e), rfl, v1, d1, rfl, Dq.same S1 _ _ q1, m1, fun H2 S2 => ?_⟩
        have q := k H2 (S1.trans S2)
        rw [stop_2, b0, Bool.true_and] at q
        exact q
      · refine iteNo (decide_eq_false fun z => h4 (by injection z with z; omega)) ?_
        rw [stop_no2 h4] at q
        exact q
    | _ => exact iteNo rfl q
end
end KL
set_option Elab.async false
set_option linter.all false
set_option maxRecDepth 100000
set_option maxHeartbeats 4000000
namespace KL
open PySem L2 PySem.Spec PyProof.Rows
/-! ### sorted(s), s a set of ints that a list was put into -/
def rSortN (P : Program) (w : World) : List V → Hp → VK → Prop := fun vs H Q => ∃ (a : Addr) (ss : List Int), vs = [V.ref a] ∧ H a = some (KsO P w a (ss.map Sum.inl)) ∧
  ∀ (ys : List Int) (p : Addr), ys.Perm ss → ys.Nodup → ys.Pairwise (fun x y => x ≤ y) → H p = none → Q (.ref p) (upd H p (.lst (ys.map V.int)))
def IntE (u : Value) (x : Int) : Prop := ∃ t, u = .int x t
theorem ints_each : ∀ {l : List (Int × Value)} {ss : List Int} {P : Program} {w : World}, Paired (KeyE P w) l (ss.map Sum.inl) → Paired IntE (l.map (·.2)) ss
  | _, [], _, _, h => by
    cases h
    exact .nil
  | _, x :: ss, _, _, h => by
    cases h with
    | cons h1 h2 => exact .cons h1.1 (ints_each h2)
theorem each_int {h : Heap} {a : Addr} : ∀ {us : List Value} {ss : List Int}, Paired IntE us ss → PySem.W.EachIs IntE us ss ∧ PySem.W.EachIs (fun v b => ∃ as, Reads h v (PyData.int b) as ∧ a ∉ as) us ss
  | _, _, .nil => ⟨.nil, .nil⟩
  | _, _, .cons h t => by
    obtain ⟨q1, q2⟩ := each_int t
    obtain ⟨tk, rfl⟩ := h
    exact ⟨.cons ⟨tk, rfl⟩ q1, .cons ⟨[], .int _ _, fun z => nomatch z⟩ q2⟩
theorem vals_ints' : ∀ {us : List Value} {ss : List Int}, PySem.W.EachIs IntE us ss → Vals (ss.map V.int) us
  | _, _, .nil => .nil
  | _, _, .cons h t => .cons h (vals_ints' t)
theorem int_le_total (x y : Int) : (decide (x ≤ y) || decide (y ≤ x)) = true := by
  rcases Int.le_total x y with h | h
  · rw [decide_eq_true h]
    rfl
  · rw [decide_eq_true h, Bool.or_true]
theorem dataLe_int' : PySem.W.dataLe false PyData.int = fun (a b : Int) => decide (a ≤ b) := by
  funext a b
  show (!PyProof.Rows.lexLt itemOrd [Sum.inl b] [Sum.inl a]) = _
  have e : PyProof.Rows.lexLt itemOrd [Sum.inl b] [Sum.inl a] = decide (b < a) := by
    simp [PyProof.Rows.lexLt, itemLt]
  rw [e]
  by_cases h : b < a
  · rw [decide_eq_true h, decide_eq_false (by omega)]
    rfl
  · rw [decide_eq_false h, decide_eq_true (by omega)]
    rfl
section
variable {X : Cx}
theorem cr_sortN (hc : X.calm = true) (hu : X.A.units + 64 < cLine) : CallR X (.builtin "sorted") (rSortN X.prog X.w) := by
  intro pins s σ H vs us Q I r h
  obtain ⟨a, ss, rfl, ha, q⟩ := h
  have R : SetKs X.prog X.w s.heap a (ss.map Sum.inl) := (I.hok a _ ha).1
  rw [Vals.ref1 r]
  obtain ⟨⟨o, es, ep, t, ho, hx, hd, pr, hb, hf, hr, hl⟩, nd⟩ := R
  have nds : ss.Nodup := by
    have := nd
    unfold List.Nodup at this ⊢
    rw [List.pairwise_map] at this
    exact this.imp fun h e => h (by rw [e])
  refine Calls.call_function_entry kind_sorted plain_sorted entry_sorted (args_sorted1 _) ?_
  unfold Builtin.«sorted»
  refine wpAny_bind (m := checkCount "sorted" 1 1 _) (wpAny_pure ?_)
  refine wpAny_bind (collect_set (A := X.A.in1) (I.ok.hd hc) ⟨o, ho, hx.1, hd⟩ hf hb hr hl fun s1 out k1 z1 g1 o1 pm => ?_)
  obtain ⟨ms, pms, prm⟩ := paired_perm pm (ints_each pr)
  have lo : out.length = ms.length := Paired.length prm
  have lm : ms.length = es.size := by
    rw [pms.length_eq, ← Array.length_toList, Paired.length pr, List.length_map]
  have lz : out.length ≤ sizeLine := by
    rw [lo, lm]
    exact fits_of_scanBound hb
  refine wpAny_bind (wpAny_newList ?_ lz)
  have hoL : (s1.heap.push (seqObj "list" out.toArray 0)).get? s1.heap.objs.size = some (seqObj "list" out.toArray 0) := Heap.get?_push_size _ rfl
  obtain ⟨e1, e2⟩ := each_int (h := s1.heap.push (seqObj "list" out.toArray 0)) (a := s1.heap.objs.size) prm
  have al : PySem.W.AllAlike (ms.map PyData.int) := PySem.W.AllAlike.of fun _ _ => rfl
  have so : PySem.W.Sortable (ms.map PyData.int) := PySem.W.Sortable.others fun _ => ⟨fun z => (nomatch z), fun _ z => nomatch z⟩
  refine wpAny_bind (wpAny_holding (PySem.W.list_sort_data hoL e1 e2 al so (by rw [← lo]; exact lz) (fun b _ => (by show X.A.units + 1 + 1 + 0 < cLine; omega)) fun srt ls es' => ?_))
  have vv := vals_ints' es'
  rw [dataLe_int'] at vv
  have pmm : (ms.mergeSort fun a b => decide (a ≤ b)).Perm ms := List.mergeSort_perm _ _
  have pw := List.pairwise_mergeSort (le := fun (a b : Int) => decide (a ≤ b)) (fun x y z h1 h2 => decide_eq_true (Int.le_trans (of_decide_eq_true h1) (of_decide_eq_true h2))) (fun x y => int_le_total x y) ms
  obtain ⟨c, hcc⟩ := sortedHeap_at (vs := out) (out := srt.toArray) hoL
  have len : ((ms.mergeSort fun a b => decide (a ≤ b)).map V.int).length ≤ sizeLine := by
    rw [List.length_map, pmm.length_eq, ← lo]
    exact lz
  have keep : ∀ b u, s.heap.get? b = some u → (sortedHeap (s1.heap.push (seqObj "list" out.toArray 0)) s1.heap.objs.size out srt.toArray).get? b = some u := fun b u e => by
    have e1 := k1 b u e
    have lt := Heap.lt_size e1
    rw [sortedHeap_old (Nat.ne_of_lt lt) (by rw [size_push']; exact Nat.lt_succ_of_lt lt)]
    exact Heap.get?_push_of_some _ e1
  have hn : H s1.heap.objs.size = none := I.hok.fresh z1
  have J : Inv X pins σ (upd H s1.heap.objs.size (.lst ((ms.mergeSort fun a b => decide (a ≤ b)).map V.int))) { s with heap := sortedHeap (s1.heap.push (seqObj "list" out.toArray 0)) s1.heap.objs.size out srt.toArray, gens := s1.gens, drawn := s1.drawn, toks := s1.toks } :=
    I.call (ch := []) (Un.laid keep z1 hn) (I.hok.laid keep z1 ⟨len, srt, c, vv, hcc⟩) (by rw [g1]; exact I.bare) (fun _ z => nomatch z)
  have es1 : ({ s1 with heap := sortedHeap (s1.heap.push (seqObj "list" out.toArray 0)) s1.heap.objs.size out srt.toArray } : Shared) = { s with heap := sortedHeap (s1.heap.push (seqObj "list" out.toArray 0)) s1.heap.objs.size out srt.toArray, gens := s1.gens, drawn := s1.drawn, toks := s1.toks } := by
    cases s1
    cases s
    cases o1
    rfl
  refine wpAny_pure ⟨_, rfl, ?_⟩
  rw [es1]
  exact ⟨.ref _, _, J, rfl, q _ _ (pmm.trans pms) ((pmm.trans pms).nodup_iff.mpr nds) (pw.imp fun h => of_decide_eq_true h) hn⟩
end
end KL
set_option Elab.async false
set_option linter.all false
set_option maxRecDepth 100000
set_option maxHeartbeats 4000000
namespace KL
open PySem L2 PySem.Spec PyProof.Rows
mutual
def plainD : PyData → Bool
  | .int _ => true
  | .str _ => true
  | .tuple ds => plainAll ds
  | _ => false
def plainAll : List PyData → Bool
  | [] => true
  | d :: r => plainD d && plainAll r
end
mutual
theorem plain_eq : ∀ (x y : PyData), plainD x = true → plainD y = true → PyData.eqv x y = true → x = y
  | .int i, y, _, hy, h => by
    cases y with
    | int j => rw [eq_of_beq (show (i == j) = true from by simpa [PyData.eqv] using h)]
    | str _ => simp [PyData.eqv] at h
    | tuple _ => simp [PyData.eqv] at h
    | _ => simp [plainD] at hy
  | .str a, y, _, hy, h => by
    cases y with
    | str b => rw [eq_of_beq (show (a == b) = true from by simpa [PyData.eqv] using h)]
    | int _ => simp [PyData.eqv] at h
    | tuple _ => simp [PyData.eqv] at h
    | _ => simp [plainD] at hy
  | .tuple xs, y, hx, hy, h => by
    cases y with
    | tuple ys => rw [plain_all_eq xs ys (by simpa [plainD] using hx) (by simpa [plainD] using hy) (by simpa [PyData.eqv] using h)]
    | int _ => simp [PyData.eqv] at h
    | str _ => simp [PyData.eqv] at h
    | _ => simp [plainD] at hy
  | .none, _, hx, _, _ => by simp [plainD] at hx
  | .bool _, _, hx, _, _ => by simp [plainD] at hx
  | .list _, _, hx, _, _ => by simp [plainD] at hx
  | .dict _, _, hx, _, _ => by simp [plainD] at hx
theorem plain_all_eq : ∀ (xs ys : List PyData), plainAll xs = true → plainAll ys = true → PyData.eqvAll xs ys = true → xs = ys
  | [], [], _, _, _ => rfl
  | [], _ :: _, _, _, h => by simp [PyData.eqvAll] at h
  | _ :: _, [], _, _, h => by simp [PyData.eqvAll] at h
  | x :: xs, y :: ys, hx, hy, h => by
    have hx := Bool.and_eq_true_iff.mp (show (plainD x && plainAll xs) = true from by simpa [plainAll] using hx)
    have hy := Bool.and_eq_true_iff.mp (show (plainD y && plainAll ys) = true from by simpa [plainAll] using hy)
    have h := Bool.and_eq_true_iff.mp (show (PyData.eqv x y && PyData.eqvAll xs ys) = true from by simpa [PyData.eqvAll] using h)
    rw [plain_eq x y hx.1 hy.1 h.1, plain_all_eq xs ys hx.2 hy.2 h.2]
end
mutual
theorem plain_refl : ∀ (x : PyData), plainD x = true → PyData.eqv x x = true
  | .int i, _ => by simp [PyData.eqv]
  | .str a, _ => by simp [PyData.eqv]
  | .tuple xs, h => by
    rw [PyData.eqv]
    exact plain_all_refl xs (by simpa [plainD] using h)
  | .none, h => by simp [plainD] at h
  | .bool _, h => by simp [plainD] at h
  | .list _, h => by simp [plainD] at h
  | .dict _, h => by simp [plainD] at h
theorem plain_all_refl : ∀ (xs : List PyData), plainAll xs = true → PyData.eqvAll xs xs = true
  | [], _ => by simp [PyData.eqvAll]
  | x :: xs, h => by
    have h := Bool.and_eq_true_iff.mp (show (plainD x && plainAll xs) = true from by simpa [plainAll] using h)
    rw [PyData.eqvAll, plain_refl x h.1, plain_all_refl xs h.2]
    rfl
end
/-! ### rising: equal to what is left of it, sorted, when none stands twice -/
structure Ranked (β : Type) where
  enc : β → PyData
  inj : ∀ a b, enc a = enc b → a = b
  plain : ∀ a, plainD (enc a) = true
  lt : ∀ a b, ltD (enc a) (enc b) = !leD (enc b) (enc a)
  anti : ∀ a b, leD (enc a) (enc b) = true → leD (enc b) (enc a) = true → a = b
section
variable {β : Type} (R : Ranked β)
theorem leD_total : PySem.W.TotalLe leD := PySem.W.sortLe_total (listOrd itemOrd) false fun b => PySem.W.keyToks (id b)
def Ranked.up : List β → Bool
  | a :: b :: l => ltD (R.enc a) (R.enc b) && Ranked.up (b :: l)
  | _ => true
theorem asc_cons (a b : PyData) (l : List PyData) : ascD (a :: b :: l) = (ltD a b && ascD (b :: l)) := by
  unfold ascD ascTo
  show ((List.range (l.length + 1)).map _).all id = _
  rw [List.range_succ_eq_map, List.map_cons, List.all_cons, List.map_map]
  rfl
theorem Ranked.up_eq : ∀ l : List β, ascD (l.map R.enc) = R.up l
  | [] => rfl
  | [_] => rfl
  | a :: b :: l => by
    rw [List.map_cons, List.map_cons, asc_cons, ← List.map_cons, Ranked.up_eq (b :: l)]
    rfl
theorem Ranked.lt_le {a b : β} (h : ltD (R.enc a) (R.enc b) = true) : leD (R.enc a) (R.enc b) = true := by
  rw [R.lt] at h
  rcases leD_total.total (R.enc a) (R.enc b) with z | z
  · exact z
  · rw [z] at h
    cases h
theorem Ranked.lt_trans {a b c : β} (h : ltD (R.enc a) (R.enc b) = true) (k : ltD (R.enc b) (R.enc c) = true) : ltD (R.enc a) (R.enc c) = true := by
  rw [R.lt]
  cases z : leD (R.enc c) (R.enc a) with
  | false => rfl
  | true =>
    have := leD_total.trans _ _ _ z (R.lt_le h)
    rw [R.lt, this] at k
    cases k
theorem Ranked.lt_ne {a b : β} (h : ltD (R.enc a) (R.enc b) = true) : a ≠ b := fun e => by
  subst e
  have := R.lt_le h
  rw [R.lt, this] at h
  cases h
theorem Ranked.up_pair : ∀ {l : List β}, R.up l = true → l.Pairwise fun a b => ltD (R.enc a) (R.enc b) = true
  | [], _ => .nil
  | [a], _ => List.pairwise_singleton _ _
  | a :: b :: l, h => by
    have h := Bool.and_eq_true_iff.mp (show (ltD (R.enc a) (R.enc b) && R.up (b :: l)) = true from h)
    have q := Ranked.up_pair h.2
    refine List.pairwise_cons.mpr ⟨fun x hx => ?_, q⟩
    rcases List.mem_cons.mp hx with rfl | hx
    · exact h.1
    · exact R.lt_trans h.1 ((List.pairwise_cons.mp q).1 x hx)
theorem Ranked.pair_up : ∀ {l : List β}, l.Pairwise (fun a b => ltD (R.enc a) (R.enc b) = true) → R.up l = true
  | [], _ => rfl
  | [_], _ => rfl
  | a :: b :: l, h => by
    obtain ⟨h1, h2⟩ := List.pairwise_cons.mp h
    show (ltD (R.enc a) (R.enc b) && R.up (b :: l)) = true
    rw [h1 b (.head _), Ranked.pair_up h2]
    rfl
theorem Ranked.map_inj : ∀ {a b : List β}, a.map R.enc = b.map R.enc → a = b
  | [], [], _ => rfl
  | [], _ :: _, h => by cases h
  | _ :: _, [], h => by cases h
  | x :: a, y :: b, h => by
    have h1 := List.cons.inj (show R.enc x :: a.map R.enc = R.enc y :: b.map R.enc from h)
    rw [R.inj _ _ h1.1, Ranked.map_inj h1.2]
theorem Ranked.plains : ∀ l : List β, plainAll (l.map R.enc) = true
  | [] => rfl
  | x :: l => by
    show (plainD (R.enc x) && plainAll (l.map R.enc)) = true
    rw [R.plain, Ranked.plains l]
    rfl
/-- ks is what sorted gives of its set just if it rises -/
theorem Ranked.rises {ks S : List β} (nd : S.Nodup) (mem : ∀ x, x ∈ S ↔ x ∈ ks) (srt : S.Pairwise fun a b => leD (R.enc a) (R.enc b) = true) : PyData.eqvAll (ks.map R.enc) (S.map R.enc) = ascD (ks.map R.enc) := by
  rw [R.up_eq]
  cases z : R.up ks with
  | true =>
    have p := R.up_pair z
    have nk : ks.Nodup := p.imp fun h => R.lt_ne h
    have pk : ks.Pairwise fun a b => leD (R.enc a) (R.enc b) = true := p.imp fun h => R.lt_le h
    have perm : ks.Perm S := (List.perm_ext_iff_of_nodup nk nd).mpr fun x => (mem x).symm
    have e : ks = S := List.Perm.eq_of_pairwise (le := fun a b => leD (R.enc a) (R.enc b) = true) (fun a b _ _ => R.anti a b) pk srt perm
    rw [← e]
    exact plain_all_refl _ (R.plains ks)
  | false =>
    cases y : PyData.eqvAll (ks.map R.enc) (S.map R.enc) with
    | false => rfl
    | true =>
      have e := R.map_inj (plain_all_eq _ _ (R.plains ks) (R.plains S) y)
      subst e
      have : R.up ks = true := R.pair_up (srt.imp₂ (fun {a b} (h : leD (R.enc a) (R.enc b) = true) (n : a ≠ b) => by
        rw [R.lt]
        cases z : leD (R.enc b) (R.enc a) with
        | false => rfl
        | true => exact absurd (R.anti a b h z) n) nd)
      rw [this] at z
      cases z
end
end KL
set_option Elab.async false
set_option linter.all false
set_option maxRecDepth 100000
set_option maxHeartbeats 4000000
namespace KL
open PySem L2 PySem.Spec PyProof.Rows
theorem toks_inj {x y : PyData} (h : PySem.W.alike x y = true) (e : PySem.W.keyToks x = PySem.W.keyToks y) : PyData.eqv x y = true := by
  cases z : PyData.eqv x y with
  | true => rfl
  | false =>
    have q := (PySem.W.toks_eqv x y h).2 z [.inl 0] [.inl 1]
    rw [e, PySem.W.lex_pre] at q
    rw [show PyProof.Rows.lexLt itemOrd (PySem.W.keyToks y) (PySem.W.keyToks y) = false from PyProof.Rows.lex_irrefl _] at q
    exact absurd q (by decide)
theorem le_anti {d e : PyData} (pd : plainD d = true) (pe : plainD e = true) (al : PySem.W.alike d e = true) (h1 : leD d e = true) (h2 : leD e d = true) : d = e := by
  have z1 : (listOrd itemOrd).blt (PySem.W.keyToks e) (PySem.W.keyToks d) = false := by
    have h : (!(listOrd itemOrd).blt (PySem.W.keyToks e) (PySem.W.keyToks d)) = true := h1
    simpa using h
  have z2 : (listOrd itemOrd).blt (PySem.W.keyToks d) (PySem.W.keyToks e) = false := by
    have h : (!(listOrd itemOrd).blt (PySem.W.keyToks d) (PySem.W.keyToks e)) = true := h2
    simpa using h
  exact plain_eq _ _ pd pe (toks_inj al ((listOrd itemOrd).total _ _ z2 z1))
theorem leD_not (d e : PyData) : leD d e = !PySem.W.dataLt e d := rfl
/-- (state, mark) -/
def rwD (p : Int × Str) : PyData := .tuple [.int p.1, .str p.2]
def rwK (p : Int × Str) : List Key := [Sum.inl p.1, Sum.inr p.2]
theorem rw_key (p : Int × Str) : rowD (rwK p) = rwD p := rfl
theorem rw_plain (p : Int × Str) : plainD (rwD p) = true := rfl
theorem rw_alike (p q : Int × Str) : PySem.W.alike (rwD p) (rwD q) = true := by
  simp [rwD, PySem.W.alike, PySem.W.alikeAll]
theorem rw_inj (p q : Int × Str) (h : rwD p = rwD q) : p = q := by
  injection h with h
  injection h with h1 h2
  injection h1 with h1
  injection h2 with h2 _
  injection h2 with h2
  obtain ⟨a, b⟩ := p
  obtain ⟨c, d⟩ := q
  have h1 : a = c := h1
  have h2 : b = d := h2
  rw [h1, h2]
theorem rw_lt (p q : Int × Str) : ltD (rwD p) (rwD q) = PySem.W.dataLt (rwD p) (rwD q) := by
  show ltAll [.int p.1, .str p.2] [.int q.1, .str q.2] = PySem.W.dataLt (.tuple [.int p.1, .str p.2]) (.tuple [.int q.1, .str q.2])
  rw [PySem.W.dataLt_pair (by simp [PySem.W.alike]) (by simp [PySem.W.alike]), PySem.W.dataLt_int, PySem.W.dataLt_str]
  show (if PyData.eqv (.int p.1) (.int q.1) = true then ltAll [.str p.2] [.str q.2] else ltD (.int p.1) (.int q.1)) = _
  show (if PyData.eqv (.int p.1) (.int q.1) = true then (if PyData.eqv (.str p.2) (.str q.2) = true then ltAll [] [] else ltD (.str p.2) (.str q.2)) else ltD (.int p.1) (.int q.1)) = _
  rfl
def rowR : Ranked (Int × Str) := ⟨rwD, rw_inj, rw_plain, fun a b => by rw [rw_lt, leD_not, Bool.not_not], fun a b h1 h2 => rw_inj _ _ (le_anti (rw_plain a) (rw_plain b) (rw_alike a b) h1 h2)⟩
def intR : Ranked Int := ⟨.int, fun a b h => by injection h, fun _ => rfl, fun a b => by
  rw [leD_not, Bool.not_not, PySem.W.dataLt_int]
  rfl, fun a b h1 h2 => by
  have e := le_anti (d := .int a) (e := .int b) rfl rfl (by simp [PySem.W.alike]) h1 h2
  injection e⟩
theorem int_le (a b : Int) : leD (.int a) (.int b) = decide (a ≤ b) := by
  rw [leD_not, PySem.W.dataLt_int]
  by_cases h : b < a
  · rw [decide_eq_true h, decide_eq_false (by omega)]
    rfl
  · rw [decide_eq_false h, decide_eq_true (by omega)]
    rfl
/-- what sorted gives of the rows of a set -/
theorem rows_sorted {ms : List KRow} {S : List (Int × Str)} (h : ms.map (·.2) = S.map rwK) : ((ms.map fun r => rowD r.2).mergeSort leD) = (S.mergeSort fun a b => leD (rwD a) (rwD b)).map rwD := by
  have e : (ms.map fun r => rowD r.2) = S.map rwD := by
    have := congrArg (List.map rowD) h
    rw [List.map_map, List.map_map] at this
    exact this
  rw [e]
  exact (List.map_mergeSort (r := fun a b => leD (rwD a) (rwD b)) (s := leD) (f := rwD) fun _ _ _ _ => rfl).symm
theorem rwK_inj {p q : Int × Str} (h : rwK p = rwK q) : p = q := by
  injection h with h1 h2
  injection h1 with h1
  injection h2 with h2 _
  injection h2 with h2
  obtain ⟨a, b⟩ := p
  obtain ⟨c, d⟩ := q
  have h1 : a = c := h1
  have h2 : b = d := h2
  rw [h1, h2]
theorem rows_back : ∀ {l : List (List Key)}, (∀ k ∈ l, ∃ p, k = rwK p) → ∃ S : List (Int × Str), l = S.map rwK
  | [], _ => ⟨[], rfl⟩
  | k :: l, h => by
    obtain ⟨p, rfl⟩ := h k (.head _)
    obtain ⟨S, rfl⟩ := rows_back fun k hk => h k (.tail _ hk)
    exact ⟨p :: S, rfl⟩
theorem nodup_back {S : List (Int × Str)} (h : (S.map rwK).Nodup) : S.Nodup := by
  unfold List.Nodup at h ⊢
  rw [List.pairwise_map] at h
  exact h.imp fun n e => n (by rw [e])
theorem mem_back {S : List (Int × Str)} {p : Int × Str} (h : rwK p ∈ S.map rwK) : p ∈ S := by
  obtain ⟨q, hq, e⟩ := List.mem_map.mp h
  rw [← rwK_inj e]
  exact hq
/-- the rows ks against sorted(set(ks)) -/
theorem rows_rise {ks : List (Int × Str)} {L ms : List KRow} (sub : ∀ r ∈ L, r.2 ∈ ks.map rwK) (nd : (L.map (·.2)).Nodup) (all : ∀ k ∈ ks, rwK k ∈ L.map (·.2)) (pm : ms.Perm L) :
    PyData.eqvAll (ks.map rwD) ((ms.map fun r => rowD r.2).mergeSort leD) = ascD (ks.map rwD) := by
  have pm' : (ms.map (·.2)).Perm (L.map (·.2)) := pm.map _
  obtain ⟨S, eS⟩ := rows_back (l := ms.map (·.2)) fun k hk => by
    obtain ⟨r, hr, rfl⟩ := List.mem_map.mp (pm'.mem_iff.mp hk)
    obtain ⟨p, _, e⟩ := List.mem_map.mp (sub r hr)
    exact ⟨p, e.symm⟩
  rw [rows_sorted eS]
  have pS : (S.mergeSort fun a b => leD (rwD a) (rwD b)).Perm S := List.mergeSort_perm _ _
  have ndS : S.Nodup := nodup_back (by rw [← eS]; exact pm'.nodup_iff.mpr nd)
  refine rowR.rises (pS.nodup_iff.mpr ndS) (fun x => ?_) (List.pairwise_mergeSort (le := fun a b => leD (rwD a) (rwD b)) (fun a b c h1 h2 => leD_total.trans _ _ _ h1 h2) (fun a b => by
    rcases leD_total.total (rwD a) (rwD b) with h | h
    · rw [h]
      rfl
    · rw [h, Bool.or_true]) S)
  rw [pS.mem_iff]
  constructor
  · intro hx
    have : rwK x ∈ ms.map (·.2) := by
      rw [eS]
      exact List.mem_map_of_mem hx
    obtain ⟨r, hr, e⟩ := List.mem_map.mp (pm'.mem_iff.mp this)
    have := sub r hr
    rw [e] at this
    exact mem_back this
  · intro hx
    have := pm'.mem_iff.mpr (all x hx)
    rw [eS] at this
    exact mem_back this
theorem ints_rise {ks ys : List Int} (nd : ys.Nodup) (mem : ∀ x, x ∈ ys ↔ x ∈ ks) (srt : ys.Pairwise fun a b => a ≤ b) : PyData.eqvAll (ks.map .int) (ys.map .int) = ascD (ks.map .int) :=
  intR.rises nd mem (srt.imp fun h => by
    show leD (.int _) (.int _) = true
    rw [int_le]
    exact decide_eq_true h)
end KL
set_option Elab.async false
set_option linter.all false
set_option maxRecDepth 100000
set_option maxHeartbeats 4000000
namespace KL
open PySem L2 PySem.KX PySem.Spec PyProof.Rows
/-! ### what the law says is wrong -/
/-- the rows of states and marks, laid one after the other -/
def MadeR (H0 : Hp) (D : Addr) (ks : List (Int × Str)) (H : Hp) : Prop := Same H0 H ∧ ∃ rs : List KRow, H D = some (.lst (rs.map fun r => V.ref r.1)) ∧ (∀ r ∈ rs, H r.1 = some (.tup (r.2.map kV))) ∧ rs.map (·.2) = ks.map rwK
theorem MadeR.start {H0 : Hp} {D : Addr} (nD : H0 D = none) : MadeR H0 D [] (upd H0 D (.lst [])) := ⟨same_new nD, [], upd_same, (fun _ h => nomatch h), rfl⟩
theorem MadeR.turn {H0 H : Hp} {D p : Addr} {ks : List (Int × Str)} (M : MadeR H0 D ks H) (nD : H0 D = none) (np : H p = none) (k : Int × Str) :
    ∃ acc, (upd H p (.tup [V.int k.1, V.str k.2])) D = some (.lst acc) ∧ acc.length = ks.length ∧ MadeR H0 D (ks ++ [k]) (upd (upd H p (.tup [V.int k.1, V.str k.2])) D (.lst (acc ++ [V.ref p]))) := by
  obtain ⟨S, rs, hD, rows, e⟩ := M
  have pD : D ≠ p := ne_of_none hD np
  refine ⟨rs.map fun r => V.ref r.1, by rw [upd_ne pD]; exact hD, ?_, ?_⟩
  · rw [List.length_map, ← List.length_map (f := (·.2)), e, List.length_map]
  · refine ⟨same_put (S.trans (same_new np)) nD, rs ++ [(p, rwK k)], ?_, ?_, ?_⟩
    · rw [upd_same]
      simp
    · intro r hr
      rcases List.mem_append.mp hr with z | z
      · have h1 := rows r z
        have n1 : r.1 ≠ D := fun w => by
          rw [w, hD] at h1
          cases h1
        rw [upd_ne n1, upd_ne (ne_of_none h1 np)]
        exact h1
      · rw [List.mem_singleton.mp z]
        show (upd (upd H p _) D _) p = _
        rw [upd_ne (Ne.symm pD), upd_same]
        rfl
    · rw [List.map_append, List.map_append, e]
      rfl
theorem canLay_all : ∀ ds : List PyData, PyData.canLayAll0 ds = ds.all PyData.canLay0
  | [] => rfl
  | d :: ds => by
    show (d.canLay0 && PyData.canLayAll0 ds) = _
    rw [canLay_all ds]
    rfl
theorem depth_all {n : Nat} : ∀ {ds : List PyData}, (∀ d ∈ ds, d.depth ≤ n) → PyData.depthAll ds ≤ n
  | [], _ => Nat.zero_le _
  | d :: ds, h => Nat.max_le.mpr ⟨h d (.head _), depth_all fun x hx => h x (.tail _ hx)⟩
theorem shaped_list {ds : List PyData} {n : Nat} (l : ∀ d ∈ ds, d.canLay0 = true) (p : ∀ d ∈ ds, d.depth ≤ n) (hn : n ≤ 63) : SeqAt.shaped (.list ds) = true := by
  unfold SeqAt.shaped
  rw [Bool.and_eq_true]
  refine ⟨?_, decide_eq_true ?_⟩
  · show PyData.canLayAll0 ds = true
    rw [canLay_all, List.all_eq_true]
    exact l
  · show PyData.depthAll ds + 1 ≤ 64
    have := depth_all p
    omega
theorem rw_lay {p : Int × Str} (h : okS p.2 = true) : (rwD p).canLay0 = true := by
  show (true && (PyData.strOk p.2 && true)) = true
  rw [show PyData.strOk p.2 = true from h]
  rfl
theorem rw_depth (p : Int × Str) : (rwD p).depth ≤ 1 := Nat.le_refl 1
theorem sorted_mem {ds : List PyData} {d : PyData} (h : d ∈ ds.mergeSort leD) : d ∈ ds := List.mem_mergeSort.mp h
theorem rows_dq {H : Hp} : ∀ rs : List KRow, (∀ r ∈ rs, H r.1 = some (.tup (r.2.map kV))) → DqAll H (rs.map fun r => V.ref r.1) (rs.map fun r => rowD r.2)
  | [], _ => .nil
  | r :: rs, h => .cons (row_dq (h r (.head _))) (rows_dq rs fun x hx => h x (.tail _ hx))
theorem all_stop {n : Int} : ∀ ds : List PyData, ds.all (stopD n) = (ds.all (tupD 2 2) && ds.all (endD n))
  | [] => rfl
  | d :: ds => by
    show ((tupD 2 2 d && endD n d) && ds.all (stopD n)) = ((tupD 2 2 d && ds.all (tupD 2 2)) && (endD n d && ds.all (endD n)))
    rw [all_stop ds]
    cases tupD 2 2 d <;> cases endD n d <;> cases ds.all (tupD 2 2) <;> rfl
theorem keys_ints : ∀ {ks : List Key}, (∀ k ∈ ks, ∃ i : Int, k = Sum.inl i) → ∃ ss : List Int, ks = ss.map Sum.inl
  | [], _ => ⟨[], rfl⟩
  | k :: ks, h => by
    obtain ⟨i, rfl⟩ := h k (.head _)
    obtain ⟨ss, rfl⟩ := keys_ints fun k hk => h k (.tail _ hk)
    exact ⟨i :: ss, rfl⟩
theorem ints_dq {H : Hp} : ∀ ks : List Int, DqAll H (ks.map V.int) (ks.map .int)
  | [] => .nil
  | k :: ks => .cons (.int k) (ints_dq ks)
def few (d : PyData) : Prop := (itemsD d).length < 64
def spDue : Sp := fun vs H Q _ => ∃ (q : Addr) (v0 v1 v2 v3 : V) (d0 d1 d2 d3 : PyData), vs = [.ref q] ∧ H q = some (.tup [v0, v1, v2, v3]) ∧ Dq H v0 d0 ∧ Dq H v1 d1 ∧ Dq H v2 d2 ∧ Dq H v3 d3 ∧
  (smB d0 = true ∧ smB d1 = true ∧ smB d2 = true ∧ smB d3 = true) ∧ okD d2 = true ∧ few d2 ∧ few d3 ∧ (dueR d0 d1 d2 d3 = none → ∀ H', Same H H' → Q .non H') ∧ ∀ wd, dueR d0 d1 d2 d3 = some wd → ∀ H', Same H H' → Q (.str wd) H'
structure TxtU (mg : Str → Option Value) : Prop where
  b : TxtB mg
  sorted : mg "sorted" = none
  set : mg "set" = none
abbrev nDue : List Str := ["_law_some", "_law_size", "_law_head", "_law_steps", "_law_stops", "_law_it", "_law_keys"]
section
variable {P : Program} {w : World} {K : PySem.W.Frag} {mg : Str → Option Value} {base : Heap}
theorem scDue : FnScope nDue ["_law_some"] (defScope lDue) := ⟨rfl, rfl, rfl, by decide +kernel, rfl, by decide +kernel, by decide +kernel⟩
theorem ok_ldue {f g1 g2 g3 g4 : Addr} {fd gd1 gd2 gd3 gd4 : FuncData} (F : Fun K "_law_due" "_law_due" lDue f fd) (T : TxtU mg)
    (G1 : FnOk P w K mg base CX0 1 g1 gd1 ["_law_it", "_law_size"] (spTestL stateD)) (c1 : Cal K mg "_law_is_state" g1 gd1 ["_law_it", "_law_size"])
    (G2 : FnOk P w K mg base CX0 1 g2 gd2 ["_law_it"] (spTest marksD)) (c2 : Cal K mg "_law_are_marks" g2 gd2 ["_law_it"])
    (G3 : FnOk P w K mg base CX0 2 g3 gd3 ["_law_it", "_law_size"] (spTestL lineD)) (c3 : Cal K mg "_law_is_line" g3 gd3 ["_law_it", "_law_size"])
    (G4 : FnOk P w K mg base CX0 2 g4 gd4 ["_law_it", "_law_size"] (spTestL stopD)) (c4 : Cal K mg "_law_is_stop" g4 gd4 ["_law_it", "_law_size"]) :
    FnOk P w K mg base CX0 3 f fd ["_law_some"] spDue := by
  refine F.ok scDue (fun vs H Q E h => ?_) (fun cdv A outer s H vs Q E hr h => ?_)
  · obtain ⟨q, v0, v1, v2, v3, d0, d1, d2, d3, rfl, _⟩ := h
    rfl
  · obtain ⟨q, v0, v1, v2, v3, d0, d1, d2, d3, rfl, hq, q0, q1, q2, q3, ⟨m0, m1, m2, m3⟩, o2, f2, f3, kN, kS⟩ := h
    have nd := scDue.nd
    have hu := hu_of hr
    have hr1 : Room 1 _ := hr.mono (by decide)
    refine ⟨_, pss_cons (ps_asg (g := gTup K 4 (gCons (gName 1) (gCons (gName 2) (gCons (gName 3) (gCons (gName 4) gNil))))) (pv 0) (pg_tup rfl (pgs_cons (pg_name (i := 1) nd rfl (.inr rfl)) (pgs_cons (pg_name (i := 2) nd rfl (.inl rfl)) (pgs_cons (pg_name (i := 3) nd rfl (.inl rfl)) (pgs_cons (pg_name (i := 4) nd rfl (.inl rfl)) pgs_nil))))))
      (pss_cons (ps_if (PW.pt (pw_or (pt_not (pt_val (pe_call G1 hr1 (by rfl) c1.m c1.k c1.b .nil pass0 (pa_cons (pv 1) (pa_cons pe_int pa_nil))))) (pw_or1 (pt_cmpR op_lt (pv 1) pe_int (nomark _))))) (pss_one (ps_ret pe_str)) pss_nil)
      (pss_cons (ps_if (pt_not (pt_val (pe_call G2 hr1 (by rfl) c2.m c2.k c2.b .nil pass0 (pa_cons (pv 2) pa_nil)))) (pss_one (ps_ret pe_str)) pss_nil)
      (C8.pss_cut (ps_if (PW.pt (pw_or (pt_not (pt_val (pe_callB call_isD (by rfl) T.b.isi (by decide +kernel) (pa_cons (pv 3) (pa_cons (pe_bltn (v := .ty "tuple") (by rfl) T.b.tuple (by decide +kernel) rfl) pa_nil)))))
          (pw_or1 (pt_cmpR (op_neNil hr.units) (pe_lc (own := [("_law_it", 5)]) (g := gName 5) (tt := tNot (tB (tCall (spTestL lineD) [] E0 (tCons (tVar 5) (tCons (tVar 1) tNil))))) rfl nd (pi_tup (pv 3)) (blkOk_by (N := nDue) (sc := defScope lDue) (by decide +kernel)) (fun _ _ _ _ _ => pg_name (i := 5) nd rfl (.inl rfl))
            (fun _ _ _ _ _ => pts_one (pt_not (pt_val (pe_call G3 hr (by rfl) c3.m c3.k c3.b .nil pass0 (pa_cons (pv 5) (pa_cons (pv 1) pa_nil)))))) (fun _ _ _ _ _ => pv 5)) (pe_lst pa_nil) (nomark _))))) (pss_one (ps_ret pe_str)) pss_nil)
      (C8.pss_cut (ps_setLc (i := 6) (own := [("_law_it", 5)]) (g := gName 5) (tt := tYes) rfl nd rfl rfl (by rfl) (pi_tup (pv 3)) (blkOk_by (N := nDue) (sc := defScope lDue) (by decide +kernel)) (fun _ _ _ _ _ => pg_name (i := 5) nd rfl (.inl rfl)) (fun _ _ _ _ _ => pts_nil)
          (fun _ _ _ _ _ => pe_slice (r := rSlT K) sl_tup (pv 5) po_none (po_some pe_int)))
      (C8.pss_cut (ps_if (pt_cmpR (op_neD hr.units) (pv 6) (pe_callB (cr_sortR rfl hr.units) (by rfl) T.sorted (by decide +kernel) (pa_cons (pe_callTy (cr_setR rfl hr.units) (by rfl) T.set (by decide +kernel) (pa_cons (pv 6) pa_nil)) pa_nil)) (nomark _)) (pss_one (ps_ret pe_str)) pss_nil)
      (C8.pss_cut (ps_if (PW.pt (pw_or (pt_not (pt_val (pe_callB call_isD (by rfl) T.b.isi (by decide +kernel) (pa_cons (pv 4) (pa_cons (pe_bltn (v := .ty "tuple") (by rfl) T.b.tuple (by decide +kernel) rfl) pa_nil)))))
          (pw_or1 (pt_cmpR (op_neNil hr.units) (pe_lc (own := [("_law_it", 5)]) (g := gName 5) (tt := tNot (tB (tCall (spTestL stopD) [] E0 (tCons (tVar 5) (tCons (tVar 1) tNil))))) rfl nd (pi_tup (pv 4)) (blkOk_by (N := nDue) (sc := defScope lDue) (by decide +kernel)) (fun _ _ _ _ _ => pg_name (i := 5) nd rfl (.inl rfl))
            (fun _ _ _ _ _ => pts_one (pt_not (pt_val (pe_call G4 hr (by rfl) c4.m c4.k c4.b .nil pass0 (pa_cons (pv 5) (pa_cons (pv 1) pa_nil)))))) (fun _ _ _ _ _ => pv 5)) (pe_lst pa_nil) (nomark _))))) (pss_one (ps_ret pe_str)) pss_nil)
      (pss_cons (ps_setLc (i := 6) (own := [("_law_it", 5)]) (g := gName 5) (tt := tYes) rfl nd rfl rfl (by rfl) (pi_tup (pv 4)) (blkOk_by (N := nDue) (sc := defScope lDue) (by decide +kernel)) (fun _ _ _ _ _ => pg_name (i := 5) nd rfl (.inl rfl)) (fun _ _ _ _ _ => pts_nil)
          (fun _ _ _ _ _ => pe_ix (r := rIxT K) ix_tup (pv 5) pe_int (fun _ _ => rfl)))
      (pss_one (ps_ret (pe_ifExp (pt_cmpR (op_neD hr.units) (pv 6) (pe_callB (cr_sortN rfl hr.units) (by rfl) T.sorted (by decide +kernel) (pa_cons (pe_callTy (cr_setK rfl) (by rfl) T.set (by decide +kernel) (pa_cons (pv 6) pa_nil)) pa_nil)) (nomark _)) pe_str pe_non)))))))))), ?_⟩
    refine ⟨_, rfl, q, _, rfl, SqT.of hq, rfl, _, _, rfl, _, _, rfl, _, _, rfl, _, _, rfl, rfl, ?_⟩
    refine ⟨_, rfl, v0, d0, 10001, rfl, q0, m0, fun H1 S1 => ⟨_, rfl, ?_⟩⟩
    rcases bool_ft (stateD 10001 d0) with b0 | b0
    · refine iteYes (by rw [b0]; rfl) (kS "states" ?_ _ S1)
      unfold dueR
      rw [if_pos]
      cases d0 with
      | int i =>
        have b0 : (decide ((0 : Int) ≤ i) && decide (i ≤ 10001 - 1)) = false := b0
        show (decide ((1 : Int) ≤ i) && decide (i ≤ 10000)) = false
        by_cases h1 : (1 : Int) ≤ i
        · rw [decide_eq_true (show (0 : Int) ≤ i by omega), Bool.true_and] at b0
          rw [decide_eq_true h1, Bool.true_and]
          exact b0
        · rw [decide_eq_false h1]
          rfl
      | _ => rfl
    refine iteNo (by rw [b0]; rfl) ?_
    obtain ⟨n, rfl, l0, u0⟩ := bet_of (show betD 0 10000 d0 = true from b0)
    cases q0
    refine ⟨_, rfl, _, _, rfl, rfl, _, rfl, ?_⟩
    by_cases h1 : n < 1
    · refine iteYes (decide_eq_true h1) (kS "states" ?_ _ S1)
      unfold dueR
      rw [if_pos]
      show (decide ((1 : Int) ≤ n) && decide (n ≤ 10000)) = false
      rw [decide_eq_false (by omega)]
      rfl
    refine iteNo (decide_eq_false h1) ?_
    have e0 : betD 1 10000 (.int n) = true := by
      show (decide ((1 : Int) ≤ n) && decide (n ≤ 10000)) = true
      rw [decide_eq_true (by omega), decide_eq_true u0]
      rfl
    refine ⟨_, rfl, v1, d1, rfl, Dq.same S1 _ _ q1, m1, fun H2 S2 => ⟨_, rfl, ?_⟩⟩
    have S02 := S1.trans S2
    rcases bool_ft (marksD d1) with b1 | b1
    · refine iteYes (by rw [b1]; rfl) (kS "first" ?_ _ S02)
      unfold dueR
      rw [if_neg (by rw [e0]; decide), if_pos b1]
    refine iteNo (by rw [b1]; rfl) ?_
    have badM : movesD n d2 = false → dueR (.int n) d1 d2 d3 = some ("moves" : Str) := fun z => by
      unfold dueR
      rw [if_neg (by rw [e0]; decide), if_neg (by rw [b1]; decide), if_pos (show movesD (numD (.int n)) d2 = false from z)]
    refine ⟨fun σ H' => σ = [some (.ref q), some (.int n), some v1, some v2, some v3, none, none] ∧ Same H H' ∧ ∃ b xs ds, v2 = .ref b ∧ d2 = .tuple ds ∧ H b = some (.tup xs) ∧ DqAll H xs ds ∧ ds.all (moveD n) = true, ?_, ?_⟩
    · refine ⟨_, rfl, v2, d2, "tuple", rfl, by decide, Dq.same S02 _ _ q2, _, rfl, ?_⟩
      cases q2 with
      | @tup b xs ds e ha =>
        refine iteNo rfl ⟨_, rfl, b, rfl, ⟨_, SqT.of (S02 _ _ e)⟩, fun D nD => ?_⟩
        refine lc_tup (K := K) (a := b) (xs := xs) (fun i H3 => Odds H2 D ((ds.take i).all (moveD n)) i H3) (Odds.start nD) (fun i H3 _ M => SqT.of (M.1 _ _ (S02 _ _ e))) ?_ ?_
        · rintro i x H3 hx M
          obtain ⟨d', hd', hq'⟩ := DqAll.at ha hx
          have hi2 : i < ds.length := (List.getElem?_eq_some_iff.mp hd').1
          have := sm_len m2
          refine ⟨rfl, _, rfl, _, rfl, x, d', n, rfl, Dq.same (S02.trans M.1) _ _ hq', sm_at (sm_all m2) hd', fun H4 S4 => ⟨_, rfl, ?_⟩⟩
          rw [all_step hd']
          rcases bool_ft (moveD n d') with w1 | w1
          · refine iteYes (by rw [show lineD n d' = false from w1]; rfl) ?_
            rw [w1, Bool.and_false]
            exact ⟨_, rfl, M.put nD S4 _ (by omega)⟩
          · refine iteNo (by rw [show lineD n d' = true from w1]; rfl) ?_
            rw [w1, Bool.and_true]
            exact M.skip S4
        · rintro H3 ⟨S3, ys, hy, hb, _⟩
          rw [ha.len, List.take_length] at hb
          refine ⟨(by show 0 ≤ sizeLine; decide), fun p np => ?_⟩
          have S4 := same_new (o := .lst []) np
          refine ⟨D, p, ys, rfl, rfl, S4 _ _ hy, upd_same, _, rfl, ?_⟩
          rw [hb]
          rcases bool_ft (ds.all (moveD n)) with a1 | a1
          · refine iteYes (by rw [a1]; rfl) (kS "moves" (badM ?_) _ (S02.trans (S3.trans S4)))
            show (true && (ds.all (moveD n) && _)) = false
            rw [a1]
            rfl
          · exact iteNo (by rw [a1]; rfl) ⟨rfl, S02.trans (S3.trans S4), b, xs, ds, rfl, rfl, e, ha, a1⟩
      | _ => exact iteYes rfl (iteT (kS "moves" (badM rfl) _ S02))
    rintro σ3 H3 ⟨rfl, S03, b, xs, ds, rfl, rfl, e2, ha2, a2⟩
    obtain ⟨mv, emv⟩ := moves_rows a2
    subst emv
    have okm : ∀ x ∈ mv, okS x.m = true := fun x hx => by
      obtain ⟨j, hj, ej⟩ := List.getElem_of_mem hx
      have := ok_at (i := j) (d := mvD x) (show okAll (mv.map mvD) = true from o2) (by rw [List.getElem?_map, List.getElem?_eq_getElem hj, ej]; rfl)
      exact ok_at (i := 1) (d := .str x.m) (show okAll _ = true from this) rfl
    have fm : mv.length < 64 := by
      have f2 : (mv.map mvD).length < 64 := f2
      rwa [List.length_map] at f2
    have ecut : (mv.map mvD).map cut2 = (mv.map fun x => (x.s, x.m)).map rwD := by
      rw [List.map_map, List.map_map]
      rfl
    have eM : movesD n (.tuple (mv.map mvD)) = ascD ((mv.map fun x => (x.s, x.m)).map rwD) := by
      show (true && ((mv.map mvD).all (moveD n) && ascD ((mv.map mvD).map cut2))) = _
      rw [a2, ecut]
      rfl
    refine ⟨fun σ H' => ∃ D, σ = [some (.ref q), some (.int n), some v1, some (.ref b), some v3, none, some (.ref D)] ∧ Same H H' ∧ ∃ rs : List KRow, H' D = some (.lst (rs.map fun r => V.ref r.1)) ∧ (∀ r ∈ rs, H' r.1 = some (.tup (r.2.map kV))) ∧ rs.map (·.2) = (mv.map fun x => (x.s, x.m)).map rwK, ?_, ?_⟩
    · refine ⟨_, rfl, b, rfl, ⟨_, SqT.of (S03 _ _ e2)⟩, fun D nD => ?_⟩
      refine lc_tup (K := K) (a := b) (xs := xs) (fun i H4 => MadeR H3 D ((mv.take i).map fun x => (x.s, x.m)) H4) (MadeR.start nD) (fun i H4 _ M => SqT.of (M.1 _ _ (S03 _ _ e2))) ?_ ?_
      · rintro i x H4 hx M
        obtain ⟨d', hd', hq'⟩ := DqAll.at ha2 hx
        obtain ⟨y, hy, rfl⟩ : ∃ y, mv[i]? = some y ∧ mvD y = d' := by
          rw [List.getElem?_map] at hd'
          cases ey : mv[i]? with
          | none =>
            rw [ey] at hd'
            cases hd'
          | some y =>
            rw [ey] at hd'
            exact ⟨y, rfl, Option.some.inj hd'⟩
        have hi : i < mv.length := (List.getElem?_eq_some_iff.mp hy).1
        cases hq' with
        | @tup c zs _ ec hza =>
          have hza0 := hza
          cases hza with
          | @cons z0 _ _ _ p0 hza =>
          cases hza with
          | @cons z1 _ _ _ p1 hza =>
          cases p0
          cases p1
          have hl := hza0.len
          refine ⟨rfl, _, rfl, _, rfl, c, _, rfl, SqT.of (M.1 _ _ (S03 _ _ ec)), not_whole _ (by rw [hl]; show 2 < 4; decide), fun p np => ?_⟩
          rw [cut_two _ (by rw [hl]; show 2 ≤ 4; decide)]
          obtain ⟨acc, h1, h2, M2⟩ := M.turn nD np (y.s, y.m)
          refine ⟨acc, h1, ?_, ?_⟩
          · rw [h2, List.length_map, List.length_take, sizeLine_eq]
            omega
          · rw [List.take_add_one, hy, List.map_append]
            exact M2
      · rintro H4 ⟨S4, rs, hD, rows, e⟩
        rw [ha2.len, List.length_map, List.take_length] at e
        exact ⟨D, rfl, S03.trans S4, rs, hD, rows, e⟩
    rintro σ4 H4 ⟨D, rfl, S04, rs, hD, rows, ers⟩
    have lrs : rs.length = mv.length := by
      have := congrArg List.length ers
      rwa [List.length_map, List.length_map, List.length_map] at this
    refine ⟨fun σ H' => σ = [some (.ref q), some (.int n), some v1, some (.ref b), some v3, none, some (.ref D)] ∧ Same H H' ∧ movesD n (.tuple (mv.map mvD)) = true, ?_, ?_⟩
    · refine ⟨_, rfl, _, rfl, D, rs, rfl, SqL.of hD, rows, by omega, fun p L np sub ndL all => ?_⟩
      have sub' : ∀ r ∈ L, r.2 ∈ (mv.map fun x => (x.s, x.m)).map rwK := fun r hr => by
        rw [← ers]
        exact List.mem_map_of_mem (sub r hr)
      have rowOf : ∀ r ∈ L, ∃ k : Int × Str, r.2 = rwK k ∧ okS k.2 = true := fun r hr => by
        obtain ⟨k, hk, e⟩ := List.mem_map.mp (sub' r hr)
        obtain ⟨x, hx, rfl⟩ := List.mem_map.mp hk
        exact ⟨_, e.symm, okm x hx⟩
      have S5 := same_new (o := RowsO P w p L) np
      refine ⟨p, L, rfl, upd_same, fun r hr => S5 _ _ (rows r (sub r hr)), fun r hr r' hr' => ?_, fun r hr z => ?_, fun ms ys p2 pm hys np2 => ?_⟩
      · obtain ⟨k, e, _⟩ := rowOf r hr
        obtain ⟨k', e', _⟩ := rowOf r' hr'
        rw [e, e']
        exact rw_alike k k'
      · obtain ⟨k, e, _⟩ := rowOf r hr
        rw [e] at z
        cases z
      have S6 := same_new (o := .lst ys) np2
      have rise := rows_rise (ks := mv.map fun x => (x.s, x.m)) sub' ndL (fun k hk => by
        have : rwK k ∈ rs.map (·.2) := by
          rw [ers]
          exact List.mem_map_of_mem hk
        obtain ⟨r, hr, e⟩ := List.mem_map.mp this
        rw [← e]
        exact all r hr) pm
      have dk : Dq H4 (.ref D) (.list ((mv.map fun x => (x.s, x.m)).map rwD)) := by
        refine .lst hD ?_
        have e : (mv.map fun x => (x.s, x.m)).map rwD = rs.map fun r => rowD r.2 := by
          have := congrArg (List.map rowD) ers
          simp only [List.map_map] at this ⊢
          exact this.symm
        rw [e]
        exact rows_dq rs rows
      have sh1 : SeqAt.shaped (.list ((mv.map fun x => (x.s, x.m)).map rwD)) = true := shaped_list (n := 1) (fun d hd => by
        obtain ⟨k, hk, rfl⟩ := List.mem_map.mp hd
        obtain ⟨x, hx, rfl⟩ := List.mem_map.mp hk
        exact rw_lay (okm x hx)) (fun d hd => by
        obtain ⟨k, hk, rfl⟩ := List.mem_map.mp hd
        exact rw_depth k) (by decide)
      have inM : ∀ d ∈ ((ms.map fun r => rowD r.2).mergeSort leD), ∃ k : Int × Str, d = rwD k ∧ okS k.2 = true := fun d hd => by
        obtain ⟨r, hr, rfl⟩ := List.mem_map.mp (sorted_mem hd)
        obtain ⟨k, e, ok⟩ := rowOf r (pm.mem_iff.mp hr)
        rw [e]
        exact ⟨k, rfl, ok⟩
      have sh2 : SeqAt.shaped (.list ((ms.map fun r => rowD r.2).mergeSort leD)) = true := shaped_list (n := 1) (fun d hd => by
        obtain ⟨k, rfl, ok⟩ := inM d hd
        exact rw_lay ok) (fun d hd => by
        obtain ⟨k, rfl, ok⟩ := inM d hd
        exact rw_depth k) (by decide)
      refine ⟨_, _, dp_shaped sh1 (Dq.same (S5.trans S6) _ _ dk), dp_shaped sh2 (.lst upd_same (DqAll.same S6 _ _ hys)), sh1, sh2, _, rfl, ?_⟩
      have ev : PyData.eqv (.list ((mv.map fun x => (x.s, x.m)).map rwD)) (.list ((ms.map fun r => rowD r.2).mergeSort leD)) = movesD n (.tuple (mv.map mvD)) := by
        rw [eM, ← rise, PyData.eqv]
      rw [ev]
      rcases bool_ft (movesD n (.tuple (mv.map mvD))) with aM | aM
      · exact iteYes (by rw [aM]; rfl) (kS "moves" (badM aM) _ (S04.trans (S5.trans S6)))
      · exact iteNo (by rw [aM]; rfl) ⟨rfl, S04.trans (S5.trans S6), aM⟩
    rintro σ5 H5 ⟨rfl, S05, aM⟩
    have badE : endsD n d3 = false → dueR (.int n) d1 (.tuple (mv.map mvD)) d3 = some ("ends" : Str) := fun z => by
      unfold dueR
      rw [if_neg (by rw [e0]; decide), if_neg (by rw [b1]; decide), if_neg (by rw [show movesD (numD (.int n)) _ = true from aM]; decide), if_pos (show endsD (numD (.int n)) d3 = false from z)]
    have okE : endsD n d3 = true → dueR (.int n) d1 (.tuple (mv.map mvD)) d3 = none := fun z => by
      unfold dueR
      rw [if_neg (by rw [e0]; decide), if_neg (by rw [b1]; decide), if_neg (by rw [show movesD (numD (.int n)) _ = true from aM]; decide), if_neg (by rw [show endsD (numD (.int n)) d3 = true from z]; decide)]
    refine ⟨fun σ H' => σ = [some (.ref q), some (.int n), some v1, some (.ref b), some v3, none, some (.ref D)] ∧ Same H H' ∧ ∃ b xs ds, v3 = .ref b ∧ d3 = .tuple ds ∧ H b = some (.tup xs) ∧ DqAll H xs ds ∧ ds.all (tupD 2 2) = true ∧ ds.all (endD n) = true, ?_, ?_⟩
    · refine ⟨_, rfl, v3, d3, "tuple", rfl, by decide, Dq.same S05 _ _ q3, _, rfl, ?_⟩
      cases q3 with
      | @tup b3 xs3 ds e ha =>
        refine iteNo rfl ⟨_, rfl, b3, rfl, ⟨_, SqT.of (S05 _ _ e)⟩, fun D3 nD => ?_⟩
        refine lc_tup (K := K) (a := b3) (xs := xs3) (fun i H6 => Odds H5 D3 ((ds.take i).all (stopD n)) i H6) (Odds.start nD) (fun i H6 _ M => SqT.of (M.1 _ _ (S05 _ _ e))) ?_ ?_
        · rintro i x H6 hx M
          obtain ⟨d', hd', hq'⟩ := DqAll.at ha hx
          have hi2 : i < ds.length := (List.getElem?_eq_some_iff.mp hd').1
          have := sm_len m3
          refine ⟨rfl, _, rfl, _, rfl, x, d', n, rfl, Dq.same (S05.trans M.1) _ _ hq', sm_at (sm_all m3) hd', fun H7 S7 => ⟨_, rfl, ?_⟩⟩
          rw [all_step hd']
          rcases bool_ft (stopD n d') with w1 | w1
          · refine iteYes (by rw [w1]; rfl) ?_
            rw [w1, Bool.and_false]
            exact ⟨_, rfl, M.put nD S7 _ (by omega)⟩
          · refine iteNo (by rw [w1]; rfl) ?_
            rw [w1, Bool.and_true]
            exact M.skip S7
        · rintro H6 ⟨S6, ys, hy, hb, _⟩
          rw [ha.len, List.take_length] at hb
          refine ⟨(by show 0 ≤ sizeLine; decide), fun p np => ?_⟩
          have S7 := same_new (o := .lst []) np
          refine ⟨D3, p, ys, rfl, rfl, S7 _ _ hy, upd_same, _, rfl, ?_⟩
          rw [hb]
          rcases bool_ft (ds.all (stopD n)) with a1 | a1
          · refine iteYes (by rw [a1]; rfl) (kS "ends" (badE ?_) _ (S05.trans (S6.trans S7)))
            show (true && (ds.all (tupD 2 2) && (ds.all (endD n) && _))) = false
            rw [all_stop] at a1
            rw [Bool.true_and, ← Bool.and_assoc, a1]
            rfl
          · have a2 := a1
            rw [all_stop] at a2
            obtain ⟨a3, a4⟩ := Bool.and_eq_true_iff.mp a2
            exact iteNo (by rw [a1]; rfl) ⟨rfl, S05.trans (S6.trans S7), b3, xs3, ds, rfl, rfl, e, ha, a3, a4⟩
      | _ => exact iteYes rfl (iteT (kS "ends" (badE rfl) _ S05))
    rintro σ6 H6 ⟨rfl, S06, b3, xs3, ds, rfl, rfl, e3, ha3, a3, a4⟩
    obtain ⟨en, een⟩ := ends_rows a3 a4
    subst een
    have fe : en.length < 64 := by
      have f3 : (en.map enD).length < 64 := f3
      rwa [List.length_map] at f3
    have eE : endsD n (.tuple (en.map enD)) = ascD ((en.map (·.1)).map .int) := by
      show (true && ((en.map enD).all (tupD 2 2) && ((en.map enD).all (endD n) && ascD ((en.map enD).map (itemD 0))))) = _
      rw [a3, a4, List.map_map, List.map_map]
      rfl
    refine ⟨_, rfl, b3, rfl, ⟨_, SqT.of (S06 _ _ e3)⟩, fun D3 nD => ?_⟩
    refine lc_tup (K := K) (a := b3) (xs := xs3) (fun i H7 => MadeTo H6 D3 (((en.take i).map (·.1)).map V.int) H7) ⟨same_new nD, upd_same⟩ (fun i H7 _ M => SqT.of (M.1 _ _ (S06 _ _ e3))) ?_ ?_
    · rintro i x H7 hx M
      obtain ⟨d', hd', hq'⟩ := DqAll.at ha3 hx
      obtain ⟨y, hy, rfl⟩ : ∃ y, en[i]? = some y ∧ enD y = d' := by
        rw [List.getElem?_map] at hd'
        cases ey : en[i]? with
        | none =>
          rw [ey] at hd'
          cases hd'
        | some y =>
          rw [ey] at hd'
          exact ⟨y, rfl, Option.some.inj hd'⟩
      have hi : i < en.length := (List.getElem?_eq_some_iff.mp hy).1
      cases hq' with
      | @tup c zs _ ec hza =>
        cases hza with
        | @cons z0 _ _ _ p0 hza =>
        cases hza with
        | @cons z1 _ _ _ p1 hza =>
        cases hza
        cases p0
        obtain ⟨h1, M2⟩ := M.more (.int y.1) nD (Same.refl H7)
        refine ⟨rfl, _, rfl, c, _, _, _, rfl, rfl, SqT.of (M.1 _ _ (S06 _ _ ec)), rfl, _, h1, ?_, ?_⟩
        · rw [List.length_map, List.length_map, List.length_take, sizeLine_eq]
          omega
        · rw [List.take_add_one, hy, List.map_append, List.map_append]
          exact M2
    · rintro H7 ⟨S7, hD3⟩
      rw [ha3.len, List.length_map, List.take_length] at hD3
      have S07 := S06.trans S7
      refine ⟨_, rfl, _, rfl, D3, (en.map (·.1)).map Sum.inl, rfl, SqL.of (by rw [hD3]; simp only [List.map_map]; rfl), by rw [List.length_map, List.length_map]; omega, fun p ks np ndk mem _ => ?_⟩
      obtain ⟨ss, rfl⟩ := keys_ints (ks := ks) fun k hk => by
        obtain ⟨i, _, e⟩ := List.mem_map.mp ((mem k).mp hk)
        exact ⟨i, e.symm⟩
      have S8 := same_new (o := KsO P w p (ss.map Sum.inl)) np
      refine ⟨p, ss, rfl, upd_same, fun ys p2 pm ndy pw np2 => ?_⟩
      have S9 := same_new (o := .lst (ys.map V.int)) np2
      have ev : PyData.eqv (.list ((en.map (·.1)).map .int)) (.list (ys.map .int)) = endsD n (.tuple (en.map enD)) := by
        rw [eE, ← ints_rise (ks := en.map (·.1)) ndy (fun x => ?_) pw, PyData.eqv]
        rw [pm.mem_iff]
        have m := mem (Sum.inl x)
        constructor
        · intro hx
          obtain ⟨y, hy, e⟩ := List.mem_map.mp (m.mp (List.mem_map_of_mem hx))
          injection e with e
          rwa [← e]
        · intro hx
          obtain ⟨y, hy, e⟩ := List.mem_map.mp (m.mpr (List.mem_map_of_mem hx))
          injection e with e
          rwa [← e]
      have shI : ∀ l : List Int, SeqAt.shaped (.list (l.map .int)) = true := fun l => shaped_list (n := 0) (fun d hd => by
        obtain ⟨k, _, rfl⟩ := List.mem_map.mp hd
        rfl) (fun d hd => by
        obtain ⟨k, _, rfl⟩ := List.mem_map.mp hd
        exact Nat.le_refl 0) (by decide)
      refine ⟨_, _, dp_shaped (shI (en.map (·.1))) (.lst ((S8.trans S9) _ _ hD3) (ints_dq _)), dp_shaped (shI ys) (.lst upd_same (ints_dq _)), shI _, shI _, _, rfl, ?_⟩
      rw [ev]
      rcases bool_ft (endsD n (.tuple (en.map enD))) with aE | aE
      · exact iteYes (by rw [aE]; rfl) (kS "ends" (badE aE) _ (S07.trans (S8.trans S9)))
      · exact iteNo (by rw [aE]; rfl) (kN (okE aE) _ (S07.trans (S8.trans S9)))
end
end KL
set_option Elab.async false
set_option linter.all false
set_option maxRecDepth 100000
set_option maxHeartbeats 2000000
namespace KL
open PySem L2
/-! ### the deck -/
def dk (l : Addr) (m t : Int) : List (Key × V) := [(Sum.inr "cells", V.ref l), (Sum.inr "blend", V.int m), (Sum.inr "draws", V.int t)]
theorem dk_cells (l : Addr) (m t : Int) : valV (dk l m t) (Sum.inr "cells") = some (V.ref l) := by rfl
theorem dk_mixed (l : Addr) (m t : Int) : valV (dk l m t) (Sum.inr "blend") = some (V.int m) := by rfl
theorem dk_turn (l : Addr) (m t : Int) : valV (dk l m t) (Sum.inr "draws") = some (V.int t) := by rfl
theorem dk_put (l : Addr) (m t u : Int) : putK (dk l m t) (Sum.inr "draws") (V.int u) = dk l m u := by rfl
/-- H0 is what stays in H: neither the deck nor its list -/
structure DeckAt (H0 H : Hp) (p l : Addr) (t : Int) : Prop where
  s : Same H0 H
  p0 : H0 p = none
  l0 : H0 l = none
  d : ∃ (ns : List Int) (m : Int), H p = some (.dK (dk l m t)) ∧ H l = some (.lst (ns.map V.int)) ∧ ns.length ≤ 63 ∧ 0 ≤ m ∧ m < 2147483629
theorem DeckAt.notP {H0 H : Hp} {p l a : Addr} {t : Int} (D : DeckAt H0 H p l t) (n : H a = none) : a ≠ p ∧ a ≠ l := by
  obtain ⟨ns, m, hp, hl, _⟩ := D.d
  refine ⟨?_, ?_⟩
  · rintro rfl
    rw [hp] at n
    cases n
  · rintro rfl
    rw [hl] at n
    cases n
theorem DeckAt.ne {H0 H : Hp} {p l : Addr} {t : Int} (D : DeckAt H0 H p l t) : l ≠ p := by
  obtain ⟨ns, m, hp, hl, _⟩ := D.d
  exact ne_of hl hp (by intro q; cases q)
/-- something new, that stays -/
theorem DeckAt.new {H0 H : Hp} {p l a : Addr} {t : Int} {o : HO} (D : DeckAt H0 H p l t) (n : H a = none) : DeckAt (upd H0 a o) (upd H a o) p l t := by
  obtain ⟨ap, al⟩ := D.notP n
  obtain ⟨ns, m, hp, hl, r⟩ := D.d
  refine ⟨fun b u e => ?_, ?_, ?_, ns, m, ?_, ?_, r⟩
  · by_cases z : b = a
    · subst z
      rw [upd_same] at e ⊢
      exact e
    · rw [upd_ne z] at e ⊢
      exact D.s _ _ e
  · rw [upd_ne ap.symm]
    exact D.p0
  · rw [upd_ne al.symm]
    exact D.l0
  · rw [upd_ne ap.symm]
    exact hp
  · rw [upd_ne al.symm]
    exact hl
/-- something that does not stay: new, or changed -/
theorem DeckAt.put {H0 H : Hp} {p l a : Addr} {t : Int} {o : HO} (D : DeckAt H0 H p l t) (ap : a ≠ p) (al : a ≠ l) (n : H0 a = none) : DeckAt H0 (upd H a o) p l t := by
  obtain ⟨ns, m, hp, hl, r⟩ := D.d
  refine ⟨fun b u e => ?_, D.p0, D.l0, ns, m, ?_, ?_, r⟩
  · rw [upd_ne (ne_of_none e n)]
    exact D.s _ _ e
  · rw [upd_ne ap.symm]
    exact hp
  · rw [upd_ne al.symm]
    exact hl
theorem DeckAt.put0 {H0 H : Hp} {p l a : Addr} {t : Int} {o : HO} (D : DeckAt H0 H p l t) (n : H a = none) : DeckAt H0 (upd H a o) p l t :=
  D.put (D.notP n).1 (D.notP n).2 (D.s.free n)
/-- something that stood and stays from now on -/
theorem DeckAt.keep {H0 H : Hp} {p l a : Addr} {t : Int} {o : HO} (D : DeckAt H0 H p l t) (ap : a ≠ p) (al : a ≠ l) (h : H a = some o) : DeckAt (upd H0 a o) H p l t := by
  refine ⟨fun b u e => ?_, ?_, ?_, D.d⟩
  · by_cases z : b = a
    · subst z
      rw [upd_same] at e
      rw [h]
      exact e
    · rw [upd_ne z] at e
      exact D.s _ _ e
  · rw [upd_ne ap.symm]
    exact D.p0
  · rw [upd_ne al.symm]
    exact D.l0
theorem DeckAt.less {H0 H1 H : Hp} {p l : Addr} {t : Int} (D : DeckAt H1 H p l t) (S : Same H0 H1) : DeckAt H0 H p l t :=
  ⟨S.trans D.s, S.free D.p0, S.free D.l0, D.d⟩
/-- from a state (kept H0, heap H, turn t) to another one, by at most n draws -/
structure Go (p l : Addr) (H0 H : Hp) (t : Int) (H1 H' : Hp) (t' : Int) (n : Int) : Prop where
  s : Same H0 H1
  d : DeckAt H1 H' p l t'
  f : ∀ b o, b ≠ p → b ≠ l → H b = some o → H' b = some o
  o : ∀ b, H0 b = none → H b ≠ none → H1 b = none
  t0 : t ≤ t'
  t1 : t' ≤ t + n
theorem Go.refl {p l : Addr} {H0 H : Hp} {t : Int} (D : DeckAt H0 H p l t) : Go p l H0 H t H0 H t 0 := ⟨Same.refl _, D, fun _ _ _ _ e => e, fun _ e _ => e, by omega, by omega⟩
theorem Go.trans {p l : Addr} {H0 H H1 H' H2 H'' : Hp} {t t' t'' n n' : Int} (a : Go p l H0 H t H1 H' t' n) (b : Go p l H1 H' t' H2 H'' t'' n') : Go p l H0 H t H2 H'' t'' (n + n') := by
  refine ⟨a.s.trans b.s, b.d, fun c o cp cl e => b.f _ _ cp cl (a.f _ _ cp cl e), fun c e h => ?_, Int.le_trans a.t0 b.t0, ?_⟩
  · have h1 := a.o c e h
    by_cases cp : c = p
    · subst cp
      exact b.d.p0
    by_cases cl : c = l
    · subst cl
      exact b.d.l0
    cases z : H c with
    | none => exact absurd z h
    | some o => exact b.o c h1 (by rw [a.f c o cp cl z]; simp)
  · have := a.t1
    have := b.t1
    omega
theorem Go.more {p l : Addr} {H0 H H1 H' : Hp} {t t' n n' : Int} (a : Go p l H0 H t H1 H' t' n) (h : n ≤ n') : Go p l H0 H t H1 H' t' n' :=
  ⟨a.s, a.d, a.f, a.o, a.t0, Int.le_trans a.t1 (by omega)⟩
/-- something new that stays -/
theorem Go.new {p l a : Addr} {H0 H H1 H' : Hp} {t t' n : Int} {o : HO} (g : Go p l H0 H t H1 H' t' n) (na : H' a = none) : Go p l H0 H t (upd H1 a o) (upd H' a o) t' n := by
  have n1 : H1 a = none := g.d.s.free na
  refine ⟨fun b u e => ?_, g.d.new na, fun b u bp bl e => ?_, fun b e h => ?_, g.t0, g.t1⟩
  · have e1 := g.s _ _ e
    rw [upd_ne (ne_of_none e1 n1)]
    exact e1
  · have e1 := g.f _ _ bp bl e
    rw [upd_ne (ne_of_none e1 na)]
    exact e1
  · have e1 := g.o b e h
    by_cases z : b = a
    · subst z
      exfalso
      obtain ⟨bp, bl⟩ := g.d.notP na
      cases y : H b with
      | none => exact h y
      | some u =>
        have := g.f _ _ bp bl y
        rw [na] at this
        cases this
    · rw [upd_ne z]
      exact e1
/-- something new that does not stay as it is -/
theorem Go.put0 {p l a : Addr} {H0 H H1 H' : Hp} {t t' n : Int} {o : HO} (g : Go p l H0 H t H1 H' t' n) (na : H' a = none) : Go p l H0 H t H1 (upd H' a o) t' n :=
  ⟨g.s, g.d.put0 na, fun b u bp bl e => by
    have e1 := g.f _ _ bp bl e
    rw [upd_ne (ne_of_none e1 na)]
    exact e1, g.o, g.t0, g.t1⟩
/-- something of one's own that is changed -/
theorem Go.put {p l a : Addr} {H0 H H1 H' : Hp} {t t' n : Int} {o : HO} (g : Go p l H0 H t H1 H' t' n) (na : H a = none) (ap : a ≠ p) (al : a ≠ l) (n1 : H1 a = none) : Go p l H0 H t H1 (upd H' a o) t' n :=
  ⟨g.s, g.d.put ap al n1, fun b u bp bl e => by
    rw [upd_ne (ne_of_none e na)]
    exact g.f _ _ bp bl e, g.o, g.t0, g.t1⟩
/-- something of one's own that stays from now on -/
theorem Go.keep {p l a : Addr} {H0 H H1 H' : Hp} {t t' n : Int} {o : HO} (g : Go p l H0 H t H1 H' t' n) (na : H a = none) (ap : a ≠ p) (al : a ≠ l) (h : H' a = some o) (h1 : H1 a = none) : Go p l H0 H t (upd H1 a o) H' t' n :=
  ⟨fun b u e => by
    have e1 := g.s _ _ e
    rw [upd_ne (ne_of_none e1 h1)]
    exact e1, g.d.keep ap al h, g.f, fun b e hb => by
    rw [upd_ne (show b ≠ a from fun z => hb (by rw [z]; exact na))]
    exact g.o b e hb, g.t0, g.t1⟩
theorem Go.own {p l a : Addr} {H0 H H1 H' : Hp} {t t' n : Int} {o : HO} (g : Go p l H0 H t H1 H' t' n) (D : DeckAt H0 H p l t) (h : H a = some o) (n0 : H0 a = none) (ap : a ≠ p) (al : a ≠ l) : H' a = some o ∧ H1 a = none :=
  ⟨g.f _ _ ap al h, g.o _ n0 (by rw [h]; simp)⟩
def spDeck (K : PySem.W.Frag) : Sp := fun vs H Q _ => ∃ (a : Addr) (ns : List Int), vs = [.ref a] ∧ SqL K H a (ns.map V.int) ∧ ns.length ≤ 63 ∧ ∀ H' p l, DeckAt H H' p l 0 → Q (.ref p) H'
def spDrawS : Sp := fun vs H Q _ => ∃ (H0 : Hp) (p l : Addr) (t b : Int), vs = [.ref p, .int b] ∧ DeckAt H0 H p l t ∧ 0 ≤ t ∧ t < 1048576 ∧ 0 < b ∧ b < 1048576 ∧ ∀ H' r, DeckAt H0 H' p l (t + 1) → 0 ≤ r → r < b → Q (.int r) H'
def spDraw : Sp := fun vs H Q _ => ∃ (H0 : Hp) (p l : Addr) (t b : Int), vs = [.ref p, .int b] ∧ DeckAt H0 H p l t ∧ 0 ≤ t ∧ t < 1048576 ∧ 0 < b ∧ b < 1048576 ∧ ∀ H' r, Go p l H0 H t H0 H' (t + 1) 1 → 0 ≤ r → r < b → Q (.int r) H'
theorem draw_go {vs : List V} {H : Hp} {Q : VK} {E : XK} (h : spDraw vs H Q E) : spDrawS vs H Q E := by
  obtain ⟨H0, p, l, t, b, rfl, D, t0, t1, b0, b1, k⟩ := h
  refine ⟨fun c => if c = p ∨ c = l then none else H c, p, l, t, b, rfl, ⟨fun c o e => ?_, if_pos (.inl rfl), if_pos (.inr rfl), D.d⟩, t0, t1, b0, b1, fun H' r D' r0 rb => k H' r ?_ r0 rb⟩
  · have e : (if c = p ∨ c = l then none else H c) = some o := e
    by_cases z : c = p ∨ c = l
    · rw [if_pos z] at e
      cases e
    · rw [if_neg z] at e
      exact e
  · have f : ∀ c o, c ≠ p → c ≠ l → H c = some o → H' c = some o := fun c o cp cl e => D'.s _ _ (by
      show (if c = p ∨ c = l then none else H c) = some o
      rw [if_neg (by rintro (z | z); exact cp z; exact cl z), e])
    refine ⟨Same.refl _, ⟨fun c o e => ?_, D.p0, D.l0, D'.d⟩, f, fun _ e _ => e, by omega, by omega⟩
    refine f c o ?_ ?_ (D.s _ _ e)
    · rintro rfl
      rw [D.p0] at e
      cases e
    · rintro rfl
      rw [D.l0] at e
      cases e
end KL
set_option Elab.async false
set_option linter.all false
set_option maxRecDepth 100000
set_option maxHeartbeats 4000000
namespace KL
open PySem L2
abbrev lDeck : Stmt := top 22
abbrev lDraw : Stmt := top 23
structure TxtD (mg : Str → Option Value) : Prop where
  list : mg "list" = none
  int : mg "int" = none
  len : mg "len" = none
section
variable {P : Program} {w : World} {K : PySem.W.Frag} {mg : Str → Option Value} {base : Heap}
theorem scDeck : FnScope ["_law_script", "_law_cells", "_law_blend", "_law_cell"] ["_law_script"] (defScope lDeck) := ⟨rfl, rfl, rfl, by decide +kernel, rfl, by decide +kernel, by decide +kernel⟩
theorem cut_ints (ns : List Int) (lo hi : Option Int) : ∃ ms : List Int, cutV (ns.map V.int) lo hi = ms.map V.int ∧ ms.length ≤ ns.length :=
  ⟨(ns.drop (HT.sIx (ns.map V.int).length 0 lo)).take (HT.sIx (ns.map V.int).length (ns.map V.int).length hi - HT.sIx (ns.map V.int).length 0 lo), by unfold cutV; rw [List.map_take, List.map_drop], by rw [List.length_take, List.length_drop]; omega⟩
theorem ok_deck {f : Addr} {fd : FuncData} (F : Fun K "_law_deck" "_law_deck" lDeck f fd) (T : TxtD mg) : FnOk P w K mg base CX0 1 f fd ["_law_script"] (spDeck K) := by
  refine F.ok scDeck (fun vs H Q E h => ?_) (fun cdv A outer s H vs Q E hr h => ?_)
  · obtain ⟨a, ns, rfl, _⟩ := h
    rfl
  · obtain ⟨a, ns, rfl, hS, hlen, k⟩ := h
    refine ⟨_, pss_cons (ps_par (i := 1) (j := 2) (by rfl) scDeck.nd rfl rfl (by decide) rfl rfl (pa_cons (pe_callTy call_list_of (by rfl) T.list (by decide +kernel) (pa_cons (pe_slice sl_list (pv 0) po_none (po_some pe_int)) pa_nil)) (pa_cons pe_int pa_nil)) (by rfl))
      (pss_cons (ps_for PassesOwn.never rfl (pi_list (pv 1)) (pg_name (i := 3) scDeck.nd rfl (.inl rfl))
        (pss_one (ps_set (i := 2) scDeck.nd rfl (.inl rfl) (pe_op op_mod (pe_callTy call_int1 (by rfl) T.int (by decide +kernel) (pa_cons (pe_op op_add (pe_op op_add (pe_op op_mul (pv 2) pe_int) (pe_op op_mod (pe_callTy call_int1 (by rfl) T.int (by decide +kernel) (pa_cons (pv 3) pa_nil)) pe_int)) pe_int) pa_nil)) pe_int))))
      (pss_one (ps_ret (pe_disp (pps_cons pe_str (pe_revL (pv 1)) (pps_cons pe_str (pv 2) (pps_cons pe_str pe_int pps_nil))) (by rfl) (by rfl) (fun z => by cases z) (by decide))))), ?_⟩
    refine ⟨_, rfl, _, rfl, a, _, rfl, hS, fun p0 hp0 => ?_⟩
    obtain ⟨ms, ems, hms⟩ := cut_ints ns none (some 63)
    refine ⟨p0, ms.map V.int, rfl, .inl (SqL.of (by rw [upd_same]; exact congrArg some (congrArg HO.lst ems))), fun l hl => ?_⟩
    have npl : l ≠ p0 := fun q => by
      rw [q, upd_same] at hl
      cases hl
    have hl0 : H l = none := by
      rw [upd_ne npl] at hl
      exact hl
    refine ⟨_, _, rfl, ?_⟩
    have hSm : SqL K (upd (upd H p0 (HO.lst (cutV (List.map V.int ns) none (some 63)))) l (HO.lst (List.map V.int ms))) l (ms.map V.int) := SqL.of upd_same
    refine ⟨_, rfl, l, rfl, ⟨_, hSm⟩, for_list (K := K) (a := l) (xs := ms.map V.int) (fun i σ H' => H' = upd (upd H p0 (HO.lst (cutV (List.map V.int ns) none (some 63)))) l (HO.lst (List.map V.int ms)) ∧ ∃ (m : Int) (v : Option V), σ = [some (.ref a), some (.ref l), some (.int m), v] ∧ 0 ≤ m ∧ m < 2147483629)
      ⟨rfl, 10863027, none, rfl, by decide, by decide⟩ (fun i σ H' _ ⟨e, _⟩ => e ▸ hSm) ?_ ?_⟩
    · rintro i y σ H' hi ⟨rfl, m, v, rfl, m0, m1⟩
      obtain ⟨u, rfl⟩ : ∃ u, y = V.int u := by
        rw [List.getElem?_map] at hi
        cases e : ms[i]? with
        | none =>
          rw [e] at hi
          cases hi
        | some u =>
          rw [e] at hi
          exact ⟨u, (Option.some.inj hi).symm⟩
      refine ⟨_, rfl, _, _, rfl, rfl, .inl ⟨by omega, by omega⟩, ?_⟩
      refine ⟨_, rfl, .inl ⟨_, rfl, ?_⟩⟩
      refine ⟨_, _, rfl, rfl, (by show (0 : Int) < 2147483587; decide), ?_⟩
      refine ⟨_, _, rfl, rfl, _, _, rfl, rfl, .inl ⟨_, rfl, ?_⟩⟩
      refine ⟨_, _, rfl, rfl, (by show (0 : Int) < 2147483629; decide), ?_⟩
      exact ⟨rfl, _, _, rfl, Int.emod_nonneg _ (by decide), Int.emod_lt_of_pos _ (by decide)⟩
    · rintro σ H' ⟨rfl, m, v, rfl, m0, m1⟩
      have same1 : Same H (upd (upd H p0 (HO.lst (cutV (List.map V.int ns) none (some 63)))) l (HO.lst (List.map V.int ms))) := fun b o e => by
        rw [upd_ne (ne_of_none e hl0), upd_ne (ne_of_none e hp0)]
        exact e
      revert hSm same1
      generalize upd (upd H p0 (HO.lst (cutV (List.map V.int ns) none (some 63)))) l (HO.lst (List.map V.int ms)) = H1
      intro hSm same1 p hp
      refine ⟨_, rfl, l, _, rfl, Same.seq (fun b o e => by rw [upd_ne (ne_of_none e hp)]; exact e) hSm, fun q hq => ?_⟩
      have nqp : q ≠ p := fun z => by
        rw [z, upd_same] at hq
        cases hq
      have hq1 : H1 q = none := by
        rw [upd_ne nqp] at hq
        exact hq
      refine ⟨_, rfl, (by rw [upd_ne nqp.symm, upd_same]), [(Sum.inr "cells", V.ref q), (Sum.inr "blend", V.int m), (Sum.inr "draws", V.int 0)], rfl, (by show 3 ≤ 15; decide), k _ _ _ ⟨fun b o e => ?_, same1.free hp, same1.free hq1, ms.reverse, m, upd_same, ?_, ?_, m0, m1⟩⟩
      · have e1 := same1 b o e
        rw [upd_ne (ne_of_none e1 hp), upd_ne (ne_of_none e1 hq1), upd_ne (ne_of_none e1 hp)]
        exact e1
      · rw [upd_ne nqp, upd_same, List.map_reverse]
      · rw [List.length_reverse]
        exact Nat.le_trans hms hlen
end
theorem dg_cells {H : Hp} {p l : Addr} {m t : Int} (h : H p = some (.dK (dk l m t))) : DGet H p (.str "cells") (some (.ref l)) := DGet.k (k := Sum.inr "cells") h
theorem dg_mixed {H : Hp} {p l : Addr} {m t : Int} (h : H p = some (.dK (dk l m t))) : DGet H p (.str "blend") (some (.int m)) := DGet.k (k := Sum.inr "blend") h
theorem dg_turn {H : Hp} {p l : Addr} {m t : Int} (h : H p = some (.dK (dk l m t))) : DGet H p (.str "draws") (some (.int t)) := DGet.k (k := Sum.inr "draws") h
theorem dp_turn {H : Hp} {p l : Addr} {m t u : Int} (h : H p = some (.dK (dk l m t))) : DPut H p (.str "draws") (.int u) (upd H p (.dK (dk l m u))) := DPut.k (k := Sum.inr "draws") h (by show 3 < sizeLine; decide)
theorem dp_ints {K : PySem.W.Frag} {H : Hp} : ∀ ns : List Int, DpAll K H (ns.map V.int) (ns.map PyData.int)
  | [] => .nil
  | n :: r => .cons (.int n) (dp_ints r)
theorem lay_ints : ∀ ns : List Int, PyData.canLayAll0 (ns.map PyData.int) = true
  | [] => rfl
  | n :: r => by
    show (true && PyData.canLayAll0 (r.map PyData.int)) = true
    rw [lay_ints r]
    rfl
theorem depth_ints : ∀ ns : List Int, PyData.depthAll (ns.map PyData.int) = 0
  | [] => rfl
  | n :: r => by
    show max 0 (PyData.depthAll (r.map PyData.int)) = 0
    rw [depth_ints r]
    rfl
theorem shaped_ints (ns : List Int) : SeqAt.shaped (PyData.list (ns.map PyData.int)) = true := by
  show (PyData.canLayAll0 (ns.map PyData.int) && decide (PyData.depthAll (ns.map PyData.int) + 1 ≤ 64)) = true
  rw [lay_ints, depth_ints]
  rfl
section
variable {P : Program} {w : World} {K : PySem.W.Frag} {mg : Str → Option Value} {base : Heap}
abbrev nDraw : List Str := ["_law_deck_here", "_law_below", "_law_turn", "_law_figure", "_law_cell"]
theorem scDraw : FnScope nDraw ["_law_deck_here", "_law_below"] (defScope lDraw) := ⟨rfl, rfl, rfl, by decide +kernel, rfl, by decide +kernel, by decide +kernel⟩
theorem ok_drawS {f : Addr} {fd : FuncData} (F : Fun K "_law_draw" "_law_draw" lDraw f fd) (T : TxtD mg) : FnOk P w K mg base CX0 1 f fd ["_law_deck_here", "_law_below"] spDrawS := by
  refine F.ok scDraw (fun vs H Q E h => ?_) (fun cdv A outer s H vs Q E hr h => ?_)
  · obtain ⟨H0, p, l, t, b, rfl, _⟩ := h
    rfl
  · obtain ⟨H0, p, l, t, b, rfl, ⟨s0, p0, l0, ns, m, hp, hl, hlen, m0, m1⟩, t0, t1, b0, b1, k⟩ := h
    have hu := hu_of hr
    have nlp : l ≠ p := ne_of hl hp (by intro q; cases q)
    refine ⟨_, pss_cons (ps_dput hu (pv 0) pe_str (pe_op op_add (pe_dget hu (pv 0) pe_str (fun _ _ => rfl)) pe_int) rfl)
      (pss_cons (ps_par (i := 2) (j := 3) (by rfl) scDraw.nd rfl rfl (by decide) rfl rfl (pa_cons (pe_dget hu (pv 0) pe_str (fun _ _ => rfl)) (pa_cons (pe_dget hu (pv 0) pe_str (fun _ _ => rfl)) pa_nil)) (by rfl))
      (pss_cons (ps_if (pt_cmpR (op_neD hr.units) (pe_dget hu (pv 0) pe_str (fun _ _ => rfl)) (pe_lst pa_nil) (nomark _))
        (pss_cons (ps_set (i := 4) scDraw.nd rfl (.inl rfl) (pe_bm0 PySem.F.plainAttrs_list PySem.F.slot_list_pop PySem.F.type_list_pop mt_pop (pe_dget hu (pv 0) pe_str (fun _ _ => rfl))))
        (pss_cons (ps_if (pt_cmpR op_ge (pv 4) (pe_op op_pow pe_int pe_int) (nomark _))
          (pss_cons (ps_expr (pe_bm PySem.F.plainAttrs_list PySem.F.slot_list_append PySem.F.type_list_append mt_append (pe_dget hu (pv 0) pe_str (fun _ _ => rfl)) (pa_cons (pe_op op_fdiv (pv 4) (pv 1)) pa_nil)))
          (pss_one (ps_ret (pe_op op_mod (pe_callTy call_int1 (by rfl) T.int (by decide +kernel) (pa_cons (pv 4) pa_nil)) (pv 1))))) pss_nil)
        (pss_one (ps_set (i := 3) scDraw.nd rfl (.inl rfl) (pe_op op_add (pv 3) (pe_op op_mod (pe_callTy call_int1 (by rfl) T.int (by decide +kernel) (pa_cons (pv 4) pa_nil)) pe_int)))))) pss_nil)
      (pss_cons (ps_set (i := 3) scDraw.nd rfl (.inl rfl) (pe_op op_mod (pe_op op_mul (pe_callTy call_int1 (by rfl) T.int (by decide +kernel) (pa_cons (pe_op op_add (pe_op op_add (pe_op op_mod (pv 3) pe_int) (pe_op op_mul (pe_op op_mul pe_int (pv 2)) (pv 2))) pe_int) pa_nil)) pe_int) pe_int))
      (pss_cons (ps_set (i := 3) scDraw.nd rfl (.inl rfl) (pe_op op_mod (pe_callTy call_int1 (by rfl) T.int (by decide +kernel) (pa_cons (pe_op op_add (pe_op op_add (pe_op op_mul (pv 3) (pv 3)) (pe_op op_mul pe_int (pv 2))) pe_int) pa_nil)) pe_int))
      (pss_one (ps_ret (pe_op op_mod (pe_op op_fdiv (pe_op op_mod (pe_callTy call_int1 (by rfl) T.int (by decide +kernel) (pa_cons (pe_op op_mul (pv 3) pe_int) pa_nil)) pe_int) pe_int) (pv 1)))))))), ?_⟩
    refine ⟨_, rfl, p, _, rfl, dg_turn hp, _, _, rfl, rfl, _, rfl, p, _, rfl, dp_turn hp, ?_⟩
    have hp1 : (upd H p (.dK (dk l m (t + 1)))) p = some (.dK (dk l m (t + 1))) := upd_same
    have hl1 : (upd H p (.dK (dk l m (t + 1)))) l = some (.lst (ns.map V.int)) := by rw [upd_ne nlp]; exact hl
    have s1 : Same H0 (upd H p (.dK (dk l m (t + 1)))) := fun b o e => by
      rw [upd_ne (ne_of_none e p0)]
      exact s0 b o e
    clear hp hl s0
    revert hp1 hl1 s1
    generalize upd H p (.dK (dk l m (t + 1))) = H1
    intro hp hl s0
    refine ⟨_, rfl, p, _, rfl, dg_turn hp, _, rfl, p, _, rfl, dg_mixed hp, ?_⟩
    refine ⟨_, _, rfl, ?_⟩
    refine ⟨_, rfl, p, _, rfl, dg_cells hp, Nat.zero_le _, fun q hq => ?_⟩
    have hp1 : (upd H1 q (.lst [])) p = some (.dK (dk l m (t + 1))) := by rw [upd_ne (ne_of_none hp hq)]; exact hp
    have hl1 : (upd H1 q (.lst [])) l = some (.lst (ns.map V.int)) := by rw [upd_ne (ne_of_none hl hq)]; exact hl
    have hq1 : (upd H1 q (.lst [])) q = some (.lst []) := upd_same
    have s1 : Same H0 (upd H1 q (.lst [])) := fun b o e => by
      have e1 := s0 b o e
      rw [upd_ne (ne_of_none e1 hq)]
      exact e1
    clear hp hl s0 hq
    revert hp1 hl1 s1 hq1
    generalize upd H1 q (.lst []) = H2
    intro hp hl hq s0
    refine ⟨.list (ns.map .int), .list [], .lst (SqL.of hl) (dp_ints ns), .lst (SqL.of hq) .nil, shaped_ints ns, by decide, _, rfl, ?_⟩
    revert hl
    rcases ns with _ | ⟨n0, nr⟩
    · intro hl
      refine iteF ?_
      have hM : ∃ M, M = m := ⟨m, rfl⟩
      obtain ⟨M, eM⟩ := hM
      rw [← eM]
      refine ⟨_, rfl, _, _, rfl, rfl, (by show (0 : Int) < 2147483579; decide), _, rfl, _, _, rfl, rfl, .inl ⟨by decide, by decide⟩, _, rfl, _, _, rfl, rfl, .inr ⟨by omega, by omega⟩, _, _, rfl, rfl, _, _, rfl, rfl, .inl ⟨_, rfl, _, _, rfl, rfl, .inr ⟨by decide, by decide⟩, _, _, rfl, rfl, (by show (0 : Int) < 2147483647; decide), ?_⟩⟩
      generalize (M % 2147483579 + 60383 * (t + 1) * (t + 1) + 27) * 40692 = M1
      have c0 := Int.emod_nonneg M1 (b := 2147483647) (by decide)
      have c1 := Int.emod_lt_of_pos M1 (b := 2147483647) (by decide)
      revert c0 c1
      generalize M1 % 2147483647 = M2
      intro c0 c1
      refine ⟨_, rfl, _, rfl, _, _, rfl, rfl, .inl ⟨by omega, by omega⟩, _, rfl, _, _, rfl, rfl, .inl ⟨by decide, by decide⟩, _, _, rfl, rfl, _, _, rfl, rfl, .inl ⟨_, rfl, _, _, rfl, rfl, (by show (0 : Int) < 2147483587; decide), ?_⟩⟩
      refine ⟨_, rfl, _, _, rfl, rfl, .inr ⟨by decide, by decide⟩, .inl ⟨_, rfl, _, _, rfl, rfl, (by show (0 : Int) < 2147483563; decide), _, _, rfl, rfl, ⟨by decide, by decide⟩, _, rfl, _, _, rfl, rfl, b0, ?_⟩⟩
      exact k _ _ ⟨s0, p0, l0, [], m, hp, hl, hlen, m0, m1⟩ (Int.emod_nonneg _ (by omega)) (Int.emod_lt_of_pos _ b0)
    · intro hl
      refine iteT ?_
      have hne : n0 :: nr ≠ [] := fun z => by cases z
      have elast : (List.map V.int (n0 :: nr))[(List.map V.int (n0 :: nr)).length - 1]? = some (V.int ((n0 :: nr).getLast hne)) := by
        rw [List.getElem?_map, List.length_map, ← List.getLast?_eq_getElem?, List.getLast?_eq_some_getLast hne]
        rfl
      refine ⟨_, rfl, p, _, rfl, dg_cells hp, .inl ⟨rfl, _, SqL.of hl⟩, l, _, _, rfl, rfl, hl, elast, ?_⟩
      have edrop : (List.map V.int (n0 :: nr)).dropLast = ((n0 :: nr).dropLast).map V.int := by
        rw [List.map_dropLast]
      have hd63 : (n0 :: nr).dropLast.length + 1 ≤ 63 := by
        rw [List.length_dropLast]
        have : 1 ≤ (n0 :: nr).length := by simp
        omega
      rw [edrop]
      generalize (n0 :: nr).getLast hne = c
      have hp1 : (upd H2 l (.lst (((n0 :: nr).dropLast).map V.int))) p = some (.dK (dk l m (t + 1))) := by rw [upd_ne nlp.symm]; exact hp
      have hl1 : (upd H2 l (.lst (((n0 :: nr).dropLast).map V.int))) l = some (.lst (((n0 :: nr).dropLast).map V.int)) := upd_same
      have s1 : Same H0 (upd H2 l (.lst (((n0 :: nr).dropLast).map V.int))) := fun b o e => by
        rw [upd_ne (ne_of_none e l0)]
        exact s0 b o e
      clear hp hl s0 hq
      revert hp1 hl1 s1 hd63
      generalize upd H2 l (.lst (((n0 :: nr).dropLast).map V.int)) = H3
      generalize (n0 :: nr).dropLast = ns
      intro hlen hp hl s0
      refine ⟨_, rfl, _, _, rfl, rfl, ⟨by decide, by decide, by decide⟩, _, _, rfl, rfl, _, rfl, ?_⟩
      refine ite2 (fun _ => ?_) (fun _ => ?_)
      · refine ⟨_, rfl, p, _, rfl, dg_cells hp, .inl ⟨rfl, _, SqL.of hl⟩, _, rfl, _, rfl, _, _, rfl, rfl, ⟨b0, by omega⟩, l, _, _, rfl, rfl, hl, ?_, ?_⟩
        · rw [List.length_map]
          exact Nat.lt_of_le_of_lt (Nat.le_of_succ_le hlen) (by decide)
        · refine ⟨_, rfl, .inl ⟨_, rfl, _, rfl, _, _, rfl, rfl, b0, ?_⟩⟩
          refine k _ _ ⟨fun b o e => ?_, p0, l0, ns ++ [c / b], m, ?_, ?_, ?_, m0, m1⟩ (Int.emod_nonneg _ (by omega)) (Int.emod_lt_of_pos _ b0)
          · rw [upd_ne (ne_of_none e l0)]
            exact s0 b o e
          · rw [upd_ne nlp.symm]
            exact hp
          · rw [upd_same, List.map_append]
            rfl
          · rw [List.length_append]
            exact hlen
      · refine ⟨_, rfl, _, rfl, .inl ⟨_, rfl, _, _, rfl, rfl, (by show (0 : Int) < 2147483563; decide), _, _, rfl, rfl, ?_⟩⟩
        have hlen : ns.length ≤ 63 := by omega
        generalize m + c % 2147483563 = M
        refine ⟨_, rfl, _, _, rfl, rfl, (by show (0 : Int) < 2147483579; decide), _, rfl, _, _, rfl, rfl, .inl ⟨by decide, by decide⟩, _, rfl, _, _, rfl, rfl, .inr ⟨by omega, by omega⟩, _, _, rfl, rfl, _, _, rfl, rfl, .inl ⟨_, rfl, _, _, rfl, rfl, .inr ⟨by decide, by decide⟩, _, _, rfl, rfl, (by show (0 : Int) < 2147483647; decide), ?_⟩⟩
        generalize (M % 2147483579 + 60383 * (t + 1) * (t + 1) + 27) * 40692 = M1
        have c0 := Int.emod_nonneg M1 (b := 2147483647) (by decide)
        have c1 := Int.emod_lt_of_pos M1 (b := 2147483647) (by decide)
        revert c0 c1
        generalize M1 % 2147483647 = M2
        intro c0 c1
        refine ⟨_, rfl, _, rfl, _, _, rfl, rfl, .inl ⟨by omega, by omega⟩, _, rfl, _, _, rfl, rfl, .inl ⟨by decide, by decide⟩, _, _, rfl, rfl, _, _, rfl, rfl, .inl ⟨_, rfl, _, _, rfl, rfl, (by show (0 : Int) < 2147483587; decide), ?_⟩⟩
        refine ⟨_, rfl, _, _, rfl, rfl, .inr ⟨by decide, by decide⟩, .inl ⟨_, rfl, _, _, rfl, rfl, (by show (0 : Int) < 2147483563; decide), _, _, rfl, rfl, ⟨by decide, by decide⟩, _, rfl, _, _, rfl, rfl, b0, ?_⟩⟩
        exact k _ _ ⟨s0, p0, l0, ns, m, hp, hl, hlen, m0, m1⟩ (Int.emod_nonneg _ (by omega)) (Int.emod_lt_of_pos _ b0)
theorem ok_draw {f : Addr} {fd : FuncData} (F : Fun K "_law_draw" "_law_draw" lDraw f fd) (T : TxtD mg) : FnOk P w K mg base CX0 1 f fd ["_law_deck_here", "_law_below"] spDraw :=
  (ok_drawS F T).imp fun _ _ _ _ => draw_go
end
end KL
set_option Elab.async false
set_option linter.all false
set_option maxRecDepth 100000
set_option maxHeartbeats 4000000
namespace KL
open PySem L2 PySem.Spec PyProof.Rows
/-- once: the tuple itself -/
theorem tuple_once (l : Addr) (its : Array Value) (n : Nat) (dd : Option Addr) (sl : Array (Option Value)) (x : Int) (u : Tok) (c0 : (decide (x < -(2 ^ 63)) || decide (x ≥ 2 ^ 63)) = false) (c1 : (its.isEmpty || x == 1) = true) :
    Meets (Builtin.«tuple.__mul__» ⟨[.ref l, .int x u], []⟩) (fun _ R s => s.heap.get? l = some ⟨.type "tuple", dd, .seq its n, sl⟩ ∧ R (.ok (.ret (.ref l))) s) :=
  .of_wp fun prog w A R s hh => by
    obtain ⟨hp, g, d, tk, os⟩ := s
    obtain ⟨hl, hh⟩ := hh
    have f1 := AutoSeq1.idx_int
    wp_walk using wpAny_loadPart' hl
    repeat (first
      | (refine wpAny_ite_false (decide_eq_false (by rw [c0]; exact Bool.false_ne_true)) ?_; wp_walk using wpAny_loadPart' hl)
      | (refine wpAny_ite_true (decide_eq_true c1) ?_; wp_walk using wpAny_loadPart' hl))
    exact ⟨_, rfl, hh⟩
def rRepU (K : PySem.W.Frag) : R2 := fun x y H Q => ∃ l k xs, x = .ref l ∧ y = .int k ∧ SqT K H l xs ∧ xs ≠ [] ∧ 1 ≤ k ∧ k ≤ 1000 ∧ xs.length ≤ 1000 ∧ (k = 1 → Q (.ref l) H) ∧ (k ≠ 1 → ∀ p, H p = none → Q (.ref p) (upd H p (.tup (List.replicate k.toNat xs).flatten)))
theorem op_repU {X : Cx} : OpR X (binaryOp .Mult) (rRepU X.K) := by
  intro pins s σ H x y v u Q I rx ry h
  obtain ⟨l, k, xs, rfl, rfl, hT, hne, h1, h2, hz, q1, q2⟩ := h
  by_cases e : k = 1
  · subst e
    cases rx
    obtain ⟨t, rfl⟩ := ry
    obtain ⟨its, r, ⟨⟨cls, dd, data, sl⟩, ho, hc, n, hd⟩, hs⟩ := I.tuple hT
    simp only at hc hd
    subst hc hd
    refine wpAny_binaryOp_repeat_ref (T := "tuple") (U := "int") (by decide) ⟨_, ho, rfl⟩ (fun s' => typeIs_int s' 1 t) noFill_tuple_mul F.fills_int_mul F.slot_int_rmul repeat_tuple F.slot_int_index.lookup ?_
    refine call_meets F.slot_int_rmul (typeIs_int s 1 t) F.entry_int_rmul (F.args_int_rmul_2 _ _) (int_rmul_tuple 1 t l its.toArray n dd sl) ⟨ho, rfl, ⟨_, ho, rfl⟩, ?_⟩
    refine call_meets F.slot_tuple_mul ⟨_, ho, rfl⟩ F.entry_tuple_mul (F.args_tuple_mul_2 _ _) (tuple_once l its.toArray n dd sl 1 t (by decide) (by simp)) ⟨ho, ?_⟩
    exact ⟨.ref l, H, I, rfl, q1 rfl⟩
  · exact op_repT pins s σ H _ _ v u Q I rx ry ⟨l, k, xs, rfl, rfl, hT, hne, by omega, h2, hz, q2 e⟩
end KL
set_option Elab.async false
set_option linter.all false
set_option maxRecDepth 100000
set_option maxHeartbeats 4000000
namespace KL
open PySem L2
abbrev lPick : Stmt := top 24
abbrev lLines : Stmt := top 25
abbrev lParts : Stmt := top 26
/-- an object of one's own, that changes -/
structure Own (p l a : Addr) (Hb H0 H : Hp) (o : HO) : Prop where
  b : Hb a = none
  ap : a ≠ p
  al : a ≠ l
  n : H0 a = none
  h : H a = some o
section
variable {p l a b : Addr} {Hs Hb H0 H H1 H' : Hp} {t t' t'' n c : Int} {o o' ob : HO}
theorem Own.start (g : Go p l Hs Hb t H0 H t' n) (na : H a = none) : Own p l a Hb H0 (upd H a o) o := by
  obtain ⟨ap, al⟩ := g.d.notP na
  refine ⟨?_, ap, al, g.d.s.free na, upd_same⟩
  cases z : Hb a with
  | none => rfl
  | some u =>
    have := g.f _ _ ap al z
    rw [na] at this
    cases this
theorem Own.go (w : Own p l a Hb H0 H o) (g : Go p l H0 H t H1 H' t' c) : Own p l a Hb H1 H' o :=
  ⟨w.b, w.ap, w.al, g.o _ w.n (by rw [w.h]; simp), g.f _ _ w.ap w.al w.h⟩
theorem Own.upd (w : Own p l a Hb H0 H o) (ne : a ≠ b) : Own p l a Hb H0 (upd H b o') o :=
  ⟨w.b, w.ap, w.al, w.n, by rw [upd_ne ne]; exact w.h⟩
theorem Own.ne (w : Own p l a Hb H0 H o) (nb : H b = none) : a ≠ b := fun z => by
  subst z
  rw [w.h] at nb
  cases nb
theorem Own.put (w : Own p l a Hb H0 H o) (nb : H b = none) : Own p l a Hb H0 (L2.upd H b o') o := w.upd (w.ne nb)
theorem Own.new (w : Own p l a Hb H0 H o) (nb : H b = none) : Own p l a Hb (L2.upd H0 b ob) (L2.upd H b ob) o :=
  ⟨w.b, w.ap, w.al, by rw [upd_ne (w.ne nb)]; exact w.n, by rw [upd_ne (w.ne nb)]; exact w.h⟩
theorem Own.set (w : Own p l a Hb H0 H o) : Own p l a Hb H0 (L2.upd H a o') o' := ⟨w.b, w.ap, w.al, w.n, upd_same⟩
theorem Own.freeze (w : Own p l a Hb H0 H o) (ne : a ≠ b) : Own p l a Hb (L2.upd H0 b ob) H o := ⟨w.b, w.ap, w.al, by rw [upd_ne ne]; exact w.n, w.h⟩
theorem Go.setO (g : Go p l Hs Hb t H0 H t' n) (w : Own p l a Hb H0 H o) : Go p l Hs Hb t H0 (L2.upd H a o') t' n := g.put w.b w.ap w.al w.n
theorem Go.keepO (g : Go p l Hs Hb t H0 H t' n) (w : Own p l a Hb H0 H o) : Go p l Hs Hb t (L2.upd H0 a o) H t' n := g.keep w.b w.ap w.al w.h w.n
end
/-- a list that is being made, behind i turns of at most c draws -/
def Making (p l D : Addr) (Hs Hb : Hp) (t c : Int) (P : Nat → List PyData → Prop) (i : Nat) (H : Hp) : Prop :=
  ∃ H0 t' ys ds, Go p l Hs Hb t H0 H t' ((i : Int) * c) ∧ Own p l D Hb H0 H (.lst ys) ∧ DqAll H0 ys ds ∧ P i ds
theorem dq_len {H : Hp} {ys : List V} {ds : List PyData} (q : DqAll H ys ds) : ys.length = ds.length := q.len
section
variable {p l D : Addr} {Hs Hb H0 H H1 H' : Hp} {t t' t'' n c : Int} {P : Nat → List PyData → Prop} {i : Nat} {ys : List V} {ds : List PyData}
theorem Making.start (dk : DeckAt Hs Hb p l t) (nD : Hb D = none) (h : P 0 []) : Making p l D Hs Hb t c P 0 (upd Hb D (.lst [])) :=
  ⟨Hs, t, [], [], ((Go.refl dk).put0 nD).more (by omega), Own.start (Go.refl dk) nD, .nil, h⟩
theorem Making.turn (g : Go p l Hs Hb t H0 H t' ((i : Int) * c)) (w : Own p l D Hb H0 H (.lst ys)) (q : DqAll H0 ys ds) (g2 : Go p l H0 H t' H1 H' t'' c) {v : V} {d : PyData} (hd : Dq H1 v d) (hn : ds.length < 1000) (hp : P (i + 1) (ds ++ [d])) :
    ∃ acc, H' D = some (.lst acc) ∧ acc.length < sizeLine ∧ Making p l D Hs Hb t c P (i + 1) (upd H' D (.lst (acc ++ [v]))) := by
  have w2 := w.go g2
  refine ⟨ys, w2.h, by rw [dq_len q, sizeLine_eq]; omega, H1, t'', ys ++ [v], ds ++ [d], ?_, w2.set, (DqAll.same g2.s _ _ q).snoc hd, hp⟩
  refine ((g.trans g2).more ?_).setO w2
  rw [Int.natCast_add, Int.add_mul]
  omega
theorem Making.skip (g : Go p l Hs Hb t H0 H t' ((i : Int) * c)) (w : Own p l D Hb H0 H (.lst ys)) (q : DqAll H0 ys ds) (g2 : Go p l H0 H t' H1 H' t'' c) (hp : P (i + 1) ds) : Making p l D Hs Hb t c P (i + 1) H' := by
  refine ⟨H1, t'', ys, ds, (g.trans g2).more ?_, w.go g2, DqAll.same g2.s _ _ q, hp⟩
  rw [Int.natCast_add, Int.add_mul]
  omega
theorem dq_new {H : Hp} {q : Addr} {ys : List V} {ds : List PyData} (nq : H q = none) (h : DqAll H ys ds) : Dq (upd H q (.tup ys)) (.ref q) (.tuple ds) := .tup upd_same (DqAll.same (same_new nq) _ _ h)
end
/-- what a def hands back that draws at most n times -/
def Gives (p l : Addr) (H0 H : Hp) (t n : Int) (G : PyData → Prop) (Q : VK) : Prop := ∀ H1 H' t' v d, Go p l H0 H t H1 H' t' n → Dq H1 v d → G d → Q v H'
theorem Gives.of {p l : Addr} {Hs Hb H0 H : Hp} {t t' n m k : Int} {G : PyData → Prop} {Q : VK} (h : Gives p l Hs Hb t k G Q) (g : Go p l Hs Hb t H0 H t' n) (e : n + m ≤ k) : Gives p l H0 H t' m G Q :=
  fun _ _ _ _ _ g2 hd hG => h _ _ _ _ _ ((g.trans g2).more e) hd hG
def spPick : Sp := fun vs H Q _ => ∃ (H0 : Hp) (p l : Addr) (t : Int) (a : Addr) (xs : List V), vs = [.ref p, .ref a] ∧ DeckAt H0 H p l t ∧ 0 ≤ t ∧ t < 1048576 ∧ H a = some (.lst xs) ∧ a ≠ p ∧ a ≠ l ∧ 0 < xs.length ∧ xs.length < 1000 ∧ ∀ H' (i : Nat) v, Go p l H0 H t H0 H' (t + 1) 1 → xs[i]? = some v → Q v H'
section
variable {P : Program} {w : World} {K : PySem.W.Frag} {mg : Str → Option Value} {base : Heap}
theorem scPick : FnScope ["_law_deck_here", "_law_some"] ["_law_deck_here", "_law_some"] (defScope lPick) := ⟨rfl, rfl, rfl, by decide +kernel, rfl, by decide +kernel, by decide +kernel⟩
theorem ok_pick {f g : Addr} {fd gd : FuncData} (F : Fun K "_law_pick" "_law_pick" lPick f fd) (T : TxtD mg) (G : FnOk P w K mg base CX0 1 g gd ["_law_deck_here", "_law_below"] spDraw) (c : Cal K mg "_law_draw" g gd ["_law_deck_here", "_law_below"]) :
    FnOk P w K mg base CX0 2 f fd ["_law_deck_here", "_law_some"] spPick := by
  refine F.ok scPick (fun vs H Q E h => ?_) (fun cdv A outer s H vs Q E hr h => ?_)
  · obtain ⟨H0, p, l, t, a, xs, rfl, _⟩ := h
    rfl
  · obtain ⟨H0, p, l, t, a, xs, rfl, D, t0, t1, ha, ap, al, hx0, hx1, k⟩ := h
    refine ⟨_, pss_one (ps_ret (pe_ix ix_list (pv 1) (pe_call G hr rfl c.m c.k c.b .nil pass0 (pa_cons (pv 0) (pa_cons (pe_callB call_len_seq (by rfl) T.len PySem.boot_len (pa_cons (pv 1) pa_nil)) pa_nil))) (fun _ _ => rfl))), ?_⟩
    refine ⟨_, rfl, _, rfl, _, rfl, a, xs, rfl, .inl (SqL.of ha), H0, p, l, t, _, rfl, D, t0, t1, by omega, by omega, fun H' r g r0 rb => ?_⟩
    obtain ⟨j, rfl⟩ := Int.eq_ofNat_of_zero_le r0
    have hj : j < xs.length := by omega
    exact ⟨a, xs, _, xs[j], rfl, rfl, SqL.of (g.f _ _ ap al ha), atI_nat (List.getElem?_eq_getElem hj), k H' j _ g (List.getElem?_eq_getElem hj)⟩
end
end KL
set_option Elab.async false
set_option linter.all false
set_option maxRecDepth 100000
set_option maxHeartbeats 4000000
namespace KL
open PySem L2 PySem.Spec PyProof.Rows
/-- a pick of a written list -/
theorem pick_lit {H0 H : Hp} {p l q : Addr} {t : Int} {xs : List V} {Q : VK} {E : XK} (D : DeckAt H0 H p l t) (t0 : 0 ≤ t) (t1 : t < 1048576) (hx0 : 0 < xs.length) (hx1 : xs.length < 1000) (nq : H q = none) (k : ∀ H' v, Go p l H0 H t H0 H' (t + 1) 1 → v ∈ xs → Q v H') :
    spPick [.ref p, .ref q] (upd H q (.lst xs)) Q E :=
  ⟨H0, p, l, t, q, xs, rfl, D.put0 nq, t0, t1, upd_same, (D.notP nq).1, (D.notP nq).2, hx0, hx1, fun H' i v g hv => k H' v ((((Go.refl D).put0 nq).trans g).more (by omega)) (List.mem_of_getElem? hv)⟩
/-- a pick of a list that stands -/
theorem pick_at {H0 H : Hp} {p l q : Addr} {t : Int} {ks : List Str} {Q : VK} {E : XK} (D : DeckAt H0 H p l t) (t0 : 0 ≤ t) (t1 : t < 1048576) (hx0 : 0 < ks.length) (hx1 : ks.length < 1000) (hq : H0 q = some (.lst (ks.map V.str))) (k : ∀ H' y, Go p l H0 H t H0 H' (t + 1) 1 → y ∈ ks → Q (.str y) H') :
    spPick [.ref p, .ref q] H Q E :=
  ⟨H0, p, l, t, q, ks.map V.str, rfl, D, t0, t1, D.s _ _ hq, ne_of_none hq D.p0, ne_of_none hq D.l0, by rw [List.length_map]; exact hx0, by rw [List.length_map]; exact hx1, fun H' i v g hv => by
    obtain ⟨y, hy, rfl⟩ := List.mem_map.mp (List.mem_of_getElem? hv)
    exact k H' y g hy⟩
/-- words of drawn marks -/
def Wd (n : Nat) (al w : List Str) : Prop := w.length = n ∧ ∀ y ∈ w, y ∈ al
theorem Wd.zero {al : List Str} : Wd 0 al [] := ⟨rfl, fun _ h => nomatch h⟩
theorem Wd.snoc {n : Nat} {al w : List Str} {y : Str} (h : Wd n al w) (hy : y ∈ al) : Wd (n + 1) al (w ++ [y]) := by
  refine ⟨by simp [h.1], fun z hz => ?_⟩
  rcases List.mem_append.mp hz with q | q
  · exact h.2 z q
  · rw [List.mem_singleton.mp q]
    exact hy
def WdD (al : List Str) (n : Nat) (ds : List PyData) : Prop := ∃ w, ds = w.map .str ∧ Wd n al w
theorem WdD.zero {al : List Str} : WdD al 0 [] := ⟨[], rfl, Wd.zero⟩
theorem WdD.snoc {n : Nat} {al : List Str} {ds : List PyData} {y : Str} (h : WdD al n ds) (hy : y ∈ al) : WdD al (n + 1) (ds ++ [.str y]) := by
  obtain ⟨w, rfl, h⟩ := h
  exact ⟨w ++ [y], by simp, h.snoc hy⟩
/-- the order of moves -/
def Mv.Lt (a b : Mv) : Prop := a.s < b.s ∨ (a.s = b.s ∧ a.m.cps.toList < b.m.cps.toList)
/-- of other states, or of other marks -/
def Mv.Ne (a b : Mv) : Prop := a.s ≠ b.s ∨ a.m ≠ b.m
/-- a drawn move: its state, its mark, its word, its next state -/
structure MvOk (size : Int) (ks : List Str) (x : Mv) : Prop where
  s0 : 0 ≤ x.s
  s1 : x.s < size
  m : x.m ∈ ks
  w : x.w.length ≤ 2
  ws : ∀ y ∈ x.w, y ∈ ks
  t0 : 0 ≤ x.t
  t1 : x.t < size
structure Lines (size : Int) (ks : List Str) (i j : Nat) (mv : List Mv) : Prop where
  ne : mv.Pairwise Mv.Ne
  all : ∀ x ∈ mv, MvOk size ks x ∧ (x.s < i ∨ (x.s = i ∧ x.m ∈ ks.take j))
  len : mv.length ≤ 3 * i + j
theorem nodup_at {ks : List Str} (h : ks.Nodup) {j : Nat} {y z : Str} (hy : ks[j]? = some y) (hz : z ∈ ks.take j) : z ≠ y := by
  obtain ⟨i, hi⟩ := List.mem_iff_getElem?.mp hz
  rw [List.getElem?_take] at hi
  split at hi
  · rename_i lt
    obtain ⟨h1, e1⟩ := List.getElem?_eq_some_iff.mp hi
    obtain ⟨h2, e2⟩ := List.getElem?_eq_some_iff.mp hy
    rw [← e1, ← e2]
    exact List.pairwise_iff_getElem.mp h i j h1 h2 lt
  · cases hi
theorem Lines.zero {size : Int} {ks : List Str} : Lines size ks 0 0 [] := ⟨.nil, fun _ h => (nomatch h), Nat.le_refl _⟩
theorem Lines.skip {size : Int} {ks : List Str} {i j : Nat} {mv : List Mv} (h : Lines size ks i j mv) : Lines size ks i (j + 1) mv :=
  ⟨h.ne, fun x hx => ⟨(h.all x hx).1, (h.all x hx).2.imp id fun z => ⟨z.1, (List.take_subset_take_left ks (Nat.le_succ j)) z.2⟩⟩, by have := h.len; omega⟩
theorem Lines.snoc {size : Int} {ks : List Str} {i j : Nat} {mv : List Mv} {x : Mv} {y : Str} (h : Lines size ks i j mv) (r : ks.Nodup) (hy : ks[j]? = some y) (e1 : x.s = i) (e2 : x.m = y) (ok : MvOk size ks x) : Lines size ks i (j + 1) (mv ++ [x]) := by
  have hs := h.skip
  refine ⟨List.pairwise_append.mpr ⟨h.ne, List.pairwise_singleton _ _, fun a ha b hb => ?_⟩, fun z hz => ?_, by have := h.len; simp; omega⟩
  · rw [List.mem_singleton.mp hb]
    rcases (h.all a ha).2 with q | ⟨q1, q2⟩
    · left
      rw [e1]
      omega
    · right
      rw [e2]
      exact nodup_at r hy q2
  · rcases List.mem_append.mp hz with q | q
    · exact hs.all z q
    · rw [List.mem_singleton.mp q]
      refine ⟨ok, .inr ⟨e1, ?_⟩⟩
      rw [e2, List.take_add_one, hy]
      simp
theorem Lines.up {size : Int} {ks : List Str} {i : Nat} {mv : List Mv} (h : Lines size ks i ks.length mv) (hk : ks.length ≤ 3) : Lines size ks (i + 1) 0 mv :=
  ⟨h.ne, fun x hx => ⟨(h.all x hx).1, .inl (by rcases (h.all x hx).2 with q | ⟨q, _⟩ <;> omega)⟩, by have := h.len; omega⟩
/-! ### sorted lines are sorted -/
theorem alike_strs : ∀ xs ys : List Str, PySem.W.alikeAll (xs.map .str) (ys.map .str) = true
  | [], _ => by simp [PySem.W.alikeAll]
  | _ :: _, [] => by simp [PySem.W.alikeAll]
  | x :: xs, y :: ys => by
    show PySem.W.alikeAll (.str x :: xs.map .str) (.str y :: ys.map .str) = true
    rw [PySem.W.alikeAll, alike_strs xs ys]
    simp [PySem.W.alike]
theorem alike_mv (x y : Mv) : PySem.W.alike (mvD x) (mvD y) = true := by
  have h := alike_strs x.w y.w
  simp [mvD, strsD, PySem.W.alike, PySem.W.alikeAll, h]
theorem lt_mv {x y : Mv} (h : x.Lt y) : PySem.W.dataLt (mvD x) (mvD y) = true := by
  unfold mvD
  rw [PySem.W.dataLt_tuple, PySem.W.dataLt_cons (by simp [PySem.W.alike])]
  rcases h with h | ⟨h1, h2⟩
  · have e : PyData.eqv (.int x.s) (.int y.s) = false := by
      simp [PyData.eqv]
      omega
    rw [e]
    simp only [Bool.false_eq_true, if_false]
    rw [PySem.W.dataLt_int]
    exact decide_eq_true h
  · rw [if_pos (by simp [PyData.eqv, h1]), PySem.W.dataLt_cons (by simp [PySem.W.alike])]
    have ne : x.m ≠ y.m := fun e => by
      rw [e] at h2
      exact absurd h2 (List.lt_irrefl _)
    rw [if_neg (by simp [PyData.eqv]; exact ne), PySem.W.dataLt_str]
    exact decide_eq_true h2
theorem ne_lt {x y : Mv} (h : x.Ne y) : x.Lt y ∨ y.Lt x := by
  rcases Int.lt_trichotomy x.s y.s with q | q | q
  · exact .inl (.inl q)
  · rcases h with h | h
    · exact absurd q h
    · have tot := List.le_total x.m.cps.toList y.m.cps.toList
      by_cases z : x.m.cps.toList < y.m.cps.toList
      · exact .inl (.inr ⟨q, z⟩)
      by_cases z' : y.m.cps.toList < x.m.cps.toList
      · exact .inr (.inr ⟨q.symm, z'⟩)
      · exact absurd (Str.ext' (Array.ext' (List.le_antisymm (List.not_lt.mp z') (List.not_lt.mp z)))) h
  · exact .inr (.inl q)
theorem Mv.Ne.symm {x y : Mv} (h : x.Ne y) : y.Ne x := h.imp (fun z e => z e.symm) fun z e => z e.symm
/-- sorted: the moves of some list, ascending -/
theorem sorted_mv {mv : List Mv} (h : mv.Pairwise Mv.Ne) : ∃ mv' : List Mv, (mv.map mvD).mergeSort leD = mv'.map mvD ∧ mv'.Perm mv ∧ mv'.Pairwise Mv.Lt := by
  refine ⟨mv.mergeSort fun a b => leD (mvD a) (mvD b), (List.map_mergeSort (r := fun a b => leD (mvD a) (mvD b)) (s := leD) (f := mvD) fun _ _ _ _ => rfl).symm, List.mergeSort_perm _ _, ?_⟩
  have pw := List.pairwise_mergeSort (le := fun (a b : Mv) => leD (mvD a) (mvD b)) (fun a b c h1 h2 => leD_total.trans _ _ _ h1 h2) (fun a b => by
    rcases leD_total.total (mvD a) (mvD b) with h | h
    · rw [h]
      rfl
    · rw [h, Bool.or_true]) mv
  have ne : (mv.mergeSort fun a b => leD (mvD a) (mvD b)).Pairwise Mv.Ne := (List.mergeSort_perm mv _).symm.pairwise h Mv.Ne.symm
  refine pw.imp₂ (fun {a b} h1 h2 => ?_) ne
  rcases ne_lt h2 with q | q
  · exact q
  · rw [leD_not, lt_mv q] at h1
    cases h1
end KL
set_option Elab.async false
set_option linter.all false
set_option maxRecDepth 100000
set_option maxHeartbeats 4000000
namespace KL
open PySem L2 PySem.Spec PyProof.Rows
structure TxtG (mg : Str → Option Value) : Prop where
  d : TxtD mg
  range : mg "range" = none
  tuple : mg "tuple" = none
  sorted : mg "sorted" = none
  set : mg "set" = none
  dict : mg "dict" = none
  repr : mg "repr" = none
  enum : mg "enumerate" = none
def GoodK (ks : List Str) : Prop := ks.Nodup ∧ 1 ≤ ks.length ∧ ks.length ≤ 3 ∧ ∀ y ∈ ks, PyData.strOk y = true
def spLines : Sp := fun vs H Q _ => ∃ (H0 : Hp) (p l kn : Addr) (t size : Int) (ks : List Str), vs = [.ref p, .int size, .ref kn] ∧ DeckAt H0 H p l t ∧ 0 ≤ t ∧ t < 1000000 ∧ 1 ≤ size ∧ size ≤ 4 ∧ H0 kn = some (.lst (ks.map V.str)) ∧ GoodK ks ∧
  ∀ H1 H' t' v (mv : List Mv), Go p l H0 H t H1 H' t' 60 → Dq H1 v (.tuple (mv.map mvD)) → mv.Pairwise Mv.Lt → (∀ x ∈ mv, MvOk size ks x) → mv.length ≤ 12 → Q v H'
/-- the list of found moves, in the midst -/
def Found (p l D : Addr) (Hs Hb : Hp) (t n : Int) (size : Int) (ks : List Str) (i j : Nat) (H : Hp) : Prop :=
  ∃ H0 t' ys mv, Go p l Hs Hb t H0 H t' n ∧ Own p l D Hb H0 H (.lst ys) ∧ DqAll H0 ys (mv.map mvD) ∧ Lines size ks i j mv
theorem lay_strs {al : List Str} (ok : ∀ y ∈ al, PyData.strOk y = true) : ∀ w : List Str, (∀ y ∈ w, y ∈ al) → PyData.canLayAll0 (w.map .str) = true ∧ PyData.depthAll (w.map PyData.str) = 0
  | [], _ => ⟨rfl, rfl⟩
  | x :: w, h => by
    obtain ⟨q1, q2⟩ := lay_strs ok w fun y hy => h y (List.mem_cons_of_mem _ hy)
    refine ⟨?_, ?_⟩
    · show (PyData.strOk x && PyData.canLayAll0 (w.map .str)) = true
      rw [ok x (h x List.mem_cons_self), q1]
      rfl
    · show max 0 (PyData.depthAll (w.map .str)) = 0
      rw [q2]
      rfl
theorem lay_mv {size : Int} {ks : List Str} (ok : ∀ y ∈ ks, PyData.strOk y = true) : ∀ mv : List Mv, (∀ x ∈ mv, MvOk size ks x) → PyData.canLayAll0 (mv.map mvD) = true ∧ PyData.depthAll (mv.map mvD) ≤ 2
  | [], _ => ⟨rfl, Nat.zero_le _⟩
  | x :: mv, h => by
    obtain ⟨q1, q2⟩ := lay_mv ok mv fun y hy => h y (List.mem_cons_of_mem _ hy)
    have hx := h x List.mem_cons_self
    obtain ⟨r1, r2⟩ := lay_strs ok x.w hx.ws
    refine ⟨?_, ?_⟩
    · show ((true && (PyData.strOk x.m && (PyData.canLayAll0 (x.w.map .str) && (true && true)))) && PyData.canLayAll0 (mv.map mvD)) = true
      rw [ok x.m hx.m, r1, q1]
      rfl
    · show max (max 0 (max 0 (max (PyData.depthAll (x.w.map .str) + 1) (max 0 0))) + 1) (PyData.depthAll (mv.map mvD)) ≤ 2
      rw [r2]
      omega
section
variable {P : Program} {w : World} {K : PySem.W.Frag} {mg : Str → Option Value} {base : Heap}
abbrev nLines : List Str := ["_law_deck_here", "_law_size", "_law_kinds", "_law_found", "_law_here", "_law_kind", "_law_bits", "_law_k"]
theorem scLines : FnScope nLines ["_law_deck_here", "_law_size", "_law_kinds"] (defScope lLines) := ⟨rfl, rfl, rfl, by decide +kernel, rfl, by decide +kernel, by decide +kernel⟩
theorem ok_lines {f g1 g2 : Addr} {fd gd1 gd2 : FuncData} (F : Fun K "_law_lines" "_law_lines" lLines f fd) (T : TxtG mg) (G1 : FnOk P w K mg base CX0 1 g1 gd1 ["_law_deck_here", "_law_below"] spDraw) (c1 : Cal K mg "_law_draw" g1 gd1 ["_law_deck_here", "_law_below"])
    (G2 : FnOk P w K mg base CX0 2 g2 gd2 ["_law_deck_here", "_law_some"] spPick) (c2 : Cal K mg "_law_pick" g2 gd2 ["_law_deck_here", "_law_some"]) : FnOk P w K mg base CX0 3 f fd ["_law_deck_here", "_law_size", "_law_kinds"] spLines := by
  refine F.ok scLines (fun vs H Q E h => ?_) (fun cdv A outer s H vs Q E hr h => ?_)
  · obtain ⟨H0, p, l, kn, t, size, ks, rfl, _⟩ := h
    rfl
  · obtain ⟨Hs, p, l, kn, t, size, ks, rfl, D, t0, t1, s0, s1, hk, ⟨gr, gl1, gl, go⟩, k⟩ := h
    have hr1 : Room 1 _ := hr.mono (by decide)
    refine ⟨_, pss_cons (ps_set (i := 3) scLines.nd rfl (.inl rfl) (pe_lst pa_nil))
      (pss_cons (ps_for PassesOwn.never rfl (pi_range1 (by rfl) T.range (pa_cons (pv 1) pa_nil)) (pg_name (i := 4) scLines.nd rfl (.inl rfl))
        (pss_one (ps_for PassesOwn.never rfl (pi_list (pv 2)) (pg_name (i := 5) scLines.nd rfl (.inl rfl))
          (pss_one (ps_if (pt_cmpR op_gt (pe_call G1 hr1 (by rfl) c1.m c1.k c1.b .nil pass0 (pa_cons (pv 0) (pa_cons pe_int pa_nil))) pe_int (nomark _))
            (pss_cons (ps_set (i := 6) scLines.nd rfl (.inl rfl) (pe_tupleOf (by rfl) T.tuple (pe_lc (own := [("_law_k", 7)]) (g := gName 7) (tt := tYes) rfl scLines.nd (pi_range1 (by rfl) T.range (pa_cons (pe_call G1 hr1 (by rfl) c1.m c1.k c1.b .nil pass0 (pa_cons (pv 0) (pa_cons pe_int pa_nil))) pa_nil))
              (blkOk_by (N := nLines) (sc := defScope lLines) (by decide +kernel)) (fun _ _ _ _ _ => pg_name (i := 7) scLines.nd rfl (.inl rfl)) (fun _ _ _ _ _ => pts_nil)
              (fun _ _ _ _ _ => pe_call G2 hr (by rfl) c2.m c2.k c2.b .nil pass0 (pa_cons (pv 0) (pa_cons (pv 2) pa_nil))))))
            (pss_one (ps_expr (pe_bm PySem.F.plainAttrs_list PySem.F.slot_list_append PySem.F.type_list_append mt_append (pv 3) (pa_cons (pe_tup (pa_cons (pv 4) (pa_cons (pv 5) (pa_cons (pv 6) (pa_cons (pe_call G1 hr1 (by rfl) c1.m c1.k c1.b .nil pass0 (pa_cons (pv 0) (pa_cons (pv 1) pa_nil))) pa_nil))))) pa_nil))))) pss_nil)))))
      (pss_one (ps_ret (pe_tupleOf (by rfl) T.tuple (pe_callB (cr_sortedQ hr.units) (by rfl) T.sorted (by decide +kernel) (pa_cons (pv 3) pa_nil)))))), ?_⟩
    have kp : kn ≠ p ∧ kn ≠ l := ⟨ne_of_none hk D.p0, ne_of_none hk D.l0⟩
    refine ⟨Nat.zero_le _, fun L nL => ?_⟩
    have start : Found p l L Hs H t 0 size ks 0 0 (upd H L (.lst [])) := ⟨Hs, t, [], [], ((Go.refl D).put0 nL), Own.start (Go.refl D) nL, .nil, Lines.zero⟩
    refine ⟨_, rfl, size, rfl, by omega, by omega, for_range (fun i σ H1 => Found p l L Hs H t (i * 15) size ks i 0 H1 ∧ ∃ o1 o2 o3 o4, σ = [some (.ref p), some (.int size), some (.ref kn), some (.ref L), o1, o2, o3, o4]) ⟨by simpa using start, _, _, _, _, rfl⟩ ?_ ?_⟩
    · rintro i σ H1 hi ⟨M, o1, o2, o3, o4, rfl⟩
      have hi4 : i < 4 := by omega
      have ik : (0 : Int) + (i : Int) < size := by omega
      have kat : ∀ {n : Int} {j : Nat} {H2 : Hp}, Found p l L Hs H t n size ks i j H2 → H2 kn = some (.lst (ks.map V.str)) := fun {n j H2} M => by
        obtain ⟨H0, t', ys, mv, g, _⟩ := M
        exact g.f _ _ kp.1 kp.2 (D.s _ _ hk)
      refine ⟨_, rfl, kn, rfl, ⟨_, SqL.of (kat M)⟩, for_list (K := K) (a := kn) (xs := ks.map V.str) (fun j σ H2 => Found p l L Hs H t (i * 15 + j * 5) size ks i j H2 ∧ ∃ o2 o3 o4, σ = [some (.ref p), some (.int size), some (.ref kn), some (.ref L), some (.int (0 + (i : Int))), o2, o3, o4]) ⟨by simpa using M, _, _, _, rfl⟩ (fun j σ H2 _ M => SqL.of (kat M.1)) ?_ ?_⟩
      · rintro j y σ H2 hy ⟨⟨H0, t', ys, mv, g, w, q, hL⟩, o2, o3, o4, rfl⟩
        obtain ⟨m, hm, rfl⟩ : ∃ m, ks[j]? = some m ∧ V.str m = y := by
          rw [List.getElem?_map] at hy
          cases ex : ks[j]? with
          | none =>
            rw [ex] at hy
            cases hy
          | some x =>
            rw [ex] at hy
            exact ⟨x, rfl, Option.some.inj hy⟩
        have hj : j < 3 := Nat.lt_of_lt_of_le (List.getElem?_eq_some_iff.mp hm).1 gl
        have gt := g.t1
        have gt0 := g.t0
        refine ⟨_, rfl, H0, p, l, t', 3, rfl, g.d, by omega, by omega, by omega, by omega, fun H4 r g4 r0 r1 => ⟨_, _, rfl, rfl, _, rfl, ?_⟩⟩
        by_cases e : 0 < r
        · refine iteYes (decide_eq_true e) ?_
          have g5 := g.trans g4
          have w5 := w.go g4
          have gt5 := g5.t1
          refine ⟨_, rfl, H0, p, l, t' + 1, 3, rfl, g5.d, by omega, by omega, by omega, by omega, fun H6 n g6 n0 n2 => ⟨n, rfl, by omega, by omega, fun B nB => ?_⟩⟩
          have g7 := g5.trans g6
          have w7 := w5.go g6
          refine lc_range (fun i H3 => Making p l B H0 H6 (t' + 1 + 1) 1 (WdD ks) i H3) (Making.start g7.d nB WdD.zero) ?_ ?_
          · rintro i' H3 hi' ⟨H02, t2, ys', ds', g3, w3, q3, hP⟩
            have g3t := g3.t1
            have g3t0 := g3.t0
            have hk3 : H02 kn = some (.lst (ks.map V.str)) := g3.s _ _ (g.s _ _ hk)
            refine ⟨rfl, _, rfl, _, rfl, pick_at (E := E0) g3.d (by omega) (by omega) (by omega) (by omega) hk3 fun H5 y g4 hy => ?_⟩
            refine Making.turn g3 w3 q3 g4 (.str y) ?_ (hP.snoc hy)
            obtain ⟨w, rfl, hw, _⟩ := hP
            rw [List.length_map]
            omega
          · rintro H3 ⟨H02, t2, ys', ds', g3, w3, q3, wd, rfl, hw, hws⟩
            refine .inl ⟨B, ys', rfl, SqL.of w3.h, fun b nb => ?_⟩
            have g4 := g3.new (o := .tup ys') nb
            have d4 := dq_new (g3.d.s.free nb) q3
            have g8 := g7.trans g4
            have w8 := w7.go g4
            have gt8 := g8.t1
            have gt80 := g8.t0
            have q8 := DqAll.same (g4.s) _ _ q
            revert g8 w8 d4 q8
            generalize upd H3 b (.tup ys') = H8
            generalize upd H02 b (.tup ys') = H08
            intro d4 g8 w8 q8
            refine ⟨_, rfl, .inl ⟨rfl, _, SqL.of w8.h⟩, _, rfl, _, rfl, _, rfl, _, rfl, _, rfl, H08, p, l, t2, size, rfl, g8.d, by omega, by omega, by omega, by omega, fun H9 r9 g9 r90 r91 => ⟨(by show 4 ≤ sizeLine; decide), fun tp ntp => ?_⟩⟩
            have w9 := w8.go g9
            have ntp0 := g9.d.s.free ntp
            have wA := w9.new (ob := .tup [.int (0 + (i : Int)), .str m, .ref b, .int r9]) ntp
            have gA := (g8.trans g9).new (o := .tup [.int (0 + (i : Int)), .str m, .ref b, .int r9]) ntp
            have S0 := same_new (o := .tup [.int (0 + (i : Int)), .str m, .ref b, .int r9]) ntp0
            have qA := DqAll.same S0 _ _ q8
            have hx : Dq (upd H08 tp (.tup [.int (0 + (i : Int)), .str m, .ref b, .int r9])) (.ref tp) (mvD ⟨0 + (i : Int), m, wd, r9⟩) :=
              .tup upd_same (.cons (.int _) (.cons (.str _) (.cons (Dq.same S0 _ _ d4) (.cons (.int _) .nil))))
            have mem : m ∈ ks := List.mem_of_getElem? hm
            refine ⟨L, _, _, rfl, rfl, wA.h, ?_, ⟨_, _, _, mv ++ [⟨0 + (i : Int), m, wd, r9⟩], (gA.more (by omega)).setO wA, wA.set, ?_, hL.snoc gr hm (by show (0 : Int) + (i : Int) = i; omega) rfl ⟨by show 0 ≤ (0 : Int) + (i : Int); omega, by show (0 : Int) + (i : Int) < size; omega, mem, by rw [hw]; omega, hws, r90, r91⟩⟩, _, _, _, rfl⟩
            · have := hL.len
              rw [q.len, List.length_map, sizeLine_eq]
              omega
            · rw [List.map_append]
              exact qA.snoc hx
        · refine iteNo (decide_eq_false e) ?_
          exact ⟨⟨H0, t' + 1, ys, mv, (g.trans g4).more (by omega), w.go g4, q, hL.skip⟩, _, _, _, rfl⟩
      · rintro σ H2 ⟨⟨H0, t', ys, mv, g, w, q, hL⟩, o2, o3, o4, rfl⟩
        rw [List.length_map] at g hL
        exact ⟨⟨H0, t', ys, mv, g.more (by omega), w, q, hL.up gl⟩, _, _, _, _, rfl⟩
    · rintro σ H1 ⟨⟨H0, t', ys, mv, g, w, q, hL⟩, o1, o2, o3, o4, rfl⟩
      have all : ∀ x ∈ mv, MvOk size ks x := fun x hx => (hL.all x hx).1
      have oks : ∀ y ∈ ks, PyData.strOk y = true := go
      obtain ⟨l1, l2⟩ := lay_mv oks mv all
      refine ⟨_, rfl, H0, L, ys, mv.map mvD, rfl, SqL.of w.h, g.d.s, q, l1, PySem.W.AllAlike.of alike_mv, PySem.W.Sortable.tuples fun x => ⟨_, _, rfl⟩, Nat.le_trans l2 (by decide), fun zs e qz ne => ?_⟩
      obtain ⟨mv', em, pm, lt⟩ := sorted_mv hL.ne
      rw [em] at qz
      have g2 := g.put0 (o := .lst zs) ne
      refine .inl ⟨e, zs, rfl, SqL.of upd_same, fun b nb => ?_⟩
      refine k _ _ _ _ mv' ((g2.new (o := .tup zs) nb).more (by omega)) (dq_new (g2.d.s.free nb) qz) lt (fun x hx => all x (pm.mem_iff.mp hx)) (by have := hL.len; rw [pm.length_eq]; omega)
end
end KL
set_option Elab.async false
set_option linter.all false
set_option maxRecDepth 100000
set_option maxHeartbeats 4000000
namespace KL
open PySem L2 PySem.Spec PyProof.Rows
/-- a drawn end -/
structure EnOk (size : Int) (ks : List Str) (e : Int × List Str) : Prop where
  s0 : 0 ≤ e.1
  s1 : e.1 < size
  w : e.2.length ≤ 1
  ws : ∀ y ∈ e.2, y ∈ ks
structure Stops (size : Int) (ks : List Str) (i : Nat) (en : List (Int × List Str)) : Prop where
  lt : en.Pairwise fun a b => a.1 < b.1
  all : ∀ e ∈ en, EnOk size ks e ∧ e.1 < i
  len : en.length ≤ i
theorem Stops.zero {size : Int} {ks : List Str} : Stops size ks 0 [] := ⟨.nil, fun _ h => (nomatch h), Nat.le_refl _⟩
theorem Stops.skip {size : Int} {ks : List Str} {i : Nat} {en : List (Int × List Str)} (h : Stops size ks i en) : Stops size ks (i + 1) en :=
  ⟨h.lt, fun e he => ⟨(h.all e he).1, by have := (h.all e he).2; omega⟩, by have := h.len; omega⟩
theorem Stops.snoc {size : Int} {ks : List Str} {i : Nat} {en : List (Int × List Str)} {e : Int × List Str} (h : Stops size ks i en) (e1 : e.1 = i) (ok : EnOk size ks e) : Stops size ks (i + 1) (en ++ [e]) := by
  refine ⟨List.pairwise_append.mpr ⟨h.lt, List.pairwise_singleton _ _, fun a ha b hb => ?_⟩, fun z hz => ?_, by have := h.len; simp; omega⟩
  · rw [List.mem_singleton.mp hb, e1]
    exact (h.all a ha).2
  · rcases List.mem_append.mp hz with q | q
    · exact h.skip.all z q
    · rw [List.mem_singleton.mp q]
      exact ⟨ok, by omega⟩
/-- the marks of a drawn reader -/
def kinds3 : List (List Str) := [["a", "b"], ["a:1", "-"], ["two words", "~", "\n"], ["0", "00"]]
/-- a drawn reader -/
structure Drawn (r : Rdr) (ks : List Str) : Prop where
  k : ks ∈ kinds3
  n1 : 1 ≤ r.n
  n4 : r.n ≤ 4
  f : r.first.length ≤ 2
  fs : ∀ y ∈ r.first, y ∈ ks
  lt : r.mv.Pairwise Mv.Lt
  mv : ∀ x ∈ r.mv, MvOk r.n ks x
  ml : r.mv.length ≤ 12
  et : r.en.Pairwise fun a b => a.1 < b.1
  en : ∀ e ∈ r.en, EnOk r.n ks e
  el : r.en.length ≤ 4
def partsD (r : Rdr) : PyData := .tuple [.int r.n, strsD r.first, mvsD r, ensD r]
theorem good_kinds {ks : List Str} (h : ks ∈ kinds3) : GoodK ks := by
  simp only [kinds3, List.mem_cons, List.not_mem_nil, or_false] at h
  rcases h with rfl | rfl | rfl | rfl <;> exact ⟨by decide +kernel, by decide, by decide, by decide +kernel⟩
def spParts : Sp := fun vs H Q _ => ∃ (H0 : Hp) (p l : Addr) (t : Int), vs = [.ref p] ∧ DeckAt H0 H p l t ∧ 0 ≤ t ∧ t < 900000 ∧
  ∀ H1 H' t' v r ks, Go p l H0 H t H1 H' t' 100 → Dq H1 v (partsD r) → Drawn r ks → Q v H'
section
variable {P : Program} {w : World} {K : PySem.W.Frag} {mg : Str → Option Value} {base : Heap}
abbrev nParts : List Str := ["_law_deck_here", "_law_size", "_law_kinds", "_law_head", "_law_stops", "_law_here", "_law_k"]
theorem scParts : FnScope nParts ["_law_deck_here"] (defScope lParts) := ⟨rfl, rfl, rfl, by decide +kernel, rfl, by decide +kernel, by decide +kernel⟩
theorem ok_parts {f g1 g2 g3 : Addr} {fd gd1 gd2 gd3 : FuncData} (F : Fun K "_law_parts" "_law_parts" lParts f fd) (T : TxtG mg) (G1 : FnOk P w K mg base CX0 1 g1 gd1 ["_law_deck_here", "_law_below"] spDraw) (c1 : Cal K mg "_law_draw" g1 gd1 ["_law_deck_here", "_law_below"])
    (G2 : FnOk P w K mg base CX0 2 g2 gd2 ["_law_deck_here", "_law_some"] spPick) (c2 : Cal K mg "_law_pick" g2 gd2 ["_law_deck_here", "_law_some"])
    (G3 : FnOk P w K mg base CX0 3 g3 gd3 ["_law_deck_here", "_law_size", "_law_kinds"] spLines) (c3 : Cal K mg "_law_lines" g3 gd3 ["_law_deck_here", "_law_size", "_law_kinds"]) : FnOk P w K mg base CX0 4 f fd ["_law_deck_here"] spParts := by
  refine F.ok scParts (fun vs H Q E h => ?_) (fun cdv A outer s H vs Q E hr h => ?_)
  · obtain ⟨H0, p, l, t, rfl, _⟩ := h
    rfl
  · obtain ⟨Hs, p, l, t, rfl, D, t0, t1, k⟩ := h
    have nd := scParts.nd
    have hr1 : Room 1 _ := hr.mono (by decide)
    have hr2 : Room 2 _ := hr.mono (by decide)
    refine ⟨_, pss_cons (ps_set (i := 1) nd rfl (.inl rfl) (pe_op op_add pe_int (pe_call G1 hr1 (by rfl) c1.m c1.k c1.b .nil pass0 (pa_cons (pv 0) (pa_cons pe_int pa_nil)))))
      (pss_cons (ps_set (i := 2) nd rfl (.inr rfl) (pe_call G2 hr2 (by rfl) c2.m c2.k c2.b .nil pass0 (pa_cons (pv 0) (pa_cons (pe_lst (pa_cons (pe_lst (pa_cons pe_str (pa_cons pe_str pa_nil))) (pa_cons (pe_lst (pa_cons pe_str (pa_cons pe_str pa_nil))) (pa_cons (pe_lst (pa_cons pe_str (pa_cons pe_str (pa_cons pe_str pa_nil)))) (pa_cons (pe_lst (pa_cons pe_str (pa_cons pe_str pa_nil))) pa_nil))))) pa_nil))))
      (pss_cons (ps_set (i := 3) nd rfl (.inl rfl) (pe_tupleOf (by rfl) T.tuple (pe_lc (own := [("_law_k", 6)]) (g := gName 6) (tt := tYes) rfl nd (pi_range1 (by rfl) T.range (pa_cons (pe_call G1 hr1 (by rfl) c1.m c1.k c1.b .nil pass0 (pa_cons (pv 0) (pa_cons pe_int pa_nil))) pa_nil))
          (blkOk_by (N := nParts) (sc := defScope lParts) (by decide +kernel)) (fun _ _ _ _ _ => pg_name (i := 6) nd rfl (.inl rfl)) (fun _ _ _ _ _ => pts_nil)
          (fun _ _ _ _ _ => pe_call G2 hr2 (by rfl) c2.m c2.k c2.b .nil pass0 (pa_cons (pv 0) (pa_cons (pv 2) pa_nil))))))
      (pss_cons (ps_set (i := 4) nd rfl (.inl rfl) (pe_lst pa_nil))
      (pss_cons (ps_for PassesOwn.never rfl (pi_range1 (by rfl) T.range (pa_cons (pv 1) pa_nil)) (pg_name (i := 5) nd rfl (.inl rfl))
        (pss_one (ps_if (pt_cmpR op_eq (pe_call G1 hr1 (by rfl) c1.m c1.k c1.b .nil pass0 (pa_cons (pv 0) (pa_cons pe_int pa_nil))) pe_int (nomark _))
          (pss_one (ps_expr (pe_bm PySem.F.plainAttrs_list PySem.F.slot_list_append PySem.F.type_list_append mt_append (pv 4) (pa_cons (pe_tup (pa_cons (pv 5) (pa_cons (pe_tupleOf (by rfl) T.tuple (pe_lc (own := [("_law_k", 6)]) (g := gName 6) (tt := tYes) rfl nd (pi_range1 (by rfl) T.range (pa_cons (pe_call G1 hr1 (by rfl) c1.m c1.k c1.b .nil pass0 (pa_cons (pv 0) (pa_cons pe_int pa_nil))) pa_nil))
            (blkOk_by (N := nParts) (sc := defScope lParts) (by decide +kernel)) (fun _ _ _ _ _ => pg_name (i := 6) nd rfl (.inl rfl)) (fun _ _ _ _ _ => pts_nil)
            (fun _ _ _ _ _ => pe_call G2 hr2 (by rfl) c2.m c2.k c2.b .nil pass0 (pa_cons (pv 0) (pa_cons (pv 2) pa_nil))))) pa_nil))) pa_nil)))) pss_nil)))
      (pss_one (ps_ret (pe_tup (pa_cons (pv 1) (pa_cons (pv 3) (pa_cons (pe_call G3 hr (by rfl) c3.m c3.k c3.b .nil pass0 (pa_cons (pv 0) (pa_cons (pv 1) (pa_cons (pv 2) pa_nil)))) (pa_cons (pe_tupleOf (by rfl) T.tuple (pv 4)) pa_nil))))))))))), ?_⟩
    refine ⟨_, rfl, Hs, p, l, t, 4, rfl, D, t0, by omega, by omega, by omega, fun H1 a ga a0 a1 => ?_⟩
    refine ⟨_, _, rfl, rfl, ?_⟩
    refine ⟨_, rfl, (by show 2 ≤ sizeLine; decide), fun q1 n1 => ⟨(by show 2 ≤ sizeLine; decide), fun q2 n2 => ⟨(by show 3 ≤ sizeLine; decide), fun q3 n3 => ⟨(by show 2 ≤ sizeLine; decide), fun q4 n4 => ⟨(by show 4 ≤ sizeLine; decide), fun q nq => ?_⟩⟩⟩⟩⟩
    have b1 := ga.new (o := .lst [V.str "a", V.str "b"]) n1
    have b2 := b1.new (o := .lst [V.str "a:1", V.str "-"]) n2
    have b3 := b2.new (o := .lst [V.str "two words", V.str "~", V.str "\n"]) n3
    have b4 := b3.new (o := .lst [V.str "0", V.str "00"]) n4
    have S2 := same_new (o := .lst [V.str "a:1", V.str "-"]) (b1.d.s.free n2)
    have S3 := same_new (o := .lst [V.str "two words", V.str "~", V.str "\n"]) (b2.d.s.free n3)
    have S4 := same_new (o := .lst [V.str "0", V.str "00"]) (b3.d.s.free n4)
    have e1 := S4 _ _ (S3 _ _ (S2 _ _ (upd_same (H := Hs) (a := q1) (o := .lst [V.str "a", V.str "b"]))))
    have e2 := S4 _ _ (S3 _ _ (upd_same (H := upd Hs q1 (.lst [V.str "a", V.str "b"])) (a := q2) (o := .lst [V.str "a:1", V.str "-"])))
    have e3 := S4 _ _ (upd_same (H := upd (upd Hs q1 (.lst [V.str "a", V.str "b"])) q2 (.lst [V.str "a:1", V.str "-"])) (a := q3) (o := .lst [V.str "two words", V.str "~", V.str "\n"]))
    have e4 := upd_same (H := upd (upd (upd Hs q1 (.lst [V.str "a", V.str "b"])) q2 (.lst [V.str "a:1", V.str "-"])) q3 (.lst [V.str "two words", V.str "~", V.str "\n"])) (a := q4) (o := .lst [V.str "0", V.str "00"])
    revert b4 e1 e2 e3 e4 nq
    generalize upd (upd (upd (upd H1 q1 (.lst [V.str "a", V.str "b"])) q2 (.lst [V.str "a:1", V.str "-"])) q3 (.lst [V.str "two words", V.str "~", V.str "\n"])) q4 (.lst [V.str "0", V.str "00"]) = H2
    generalize upd (upd (upd (upd Hs q1 (.lst [V.str "a", V.str "b"])) q2 (.lst [V.str "a:1", V.str "-"])) q3 (.lst [V.str "two words", V.str "~", V.str "\n"])) q4 (.lst [V.str "0", V.str "00"]) = H02
    intro nq g e1 e2 e3 e4
    clear b1 b2 b3 S2 S3 S4 n1 n2 n3 n4
    refine pick_lit (E := E0) g.d (by omega) (by omega) (Nat.succ_pos 3) (by show 4 < 1000; decide) nq fun H3 v g3 hv => ?_
    obtain ⟨kn, ks, rfl, hks, hk⟩ : ∃ kn ks, v = .ref kn ∧ ks ∈ kinds3 ∧ H02 kn = some (.lst (ks.map V.str)) := by
      simp only [List.mem_cons, List.not_mem_nil, or_false] at hv
      rcases hv with rfl | rfl | rfl | rfl
      · exact ⟨q1, ["a", "b"], rfl, by simp [kinds3], e1⟩
      · exact ⟨q2, ["a:1", "-"], rfl, by simp [kinds3], e2⟩
      · exact ⟨q3, ["two words", "~", "\n"], rfl, by simp [kinds3], e3⟩
      · exact ⟨q4, ["0", "00"], rfl, by simp [kinds3], e4⟩
    clear e1 e2 e3 e4
    obtain ⟨_, kl1, kl3, _⟩ := good_kinds hks
    have g := g.trans g3
    have gt := g.t1
    have gt0 := g.t0
    refine ⟨_, rfl, H02, p, l, t + 1 + 1, 3, rfl, g.d, by omega, by omega, by omega, by omega, fun H6 n g6 n0 n2 => ⟨n, rfl, by omega, by omega, fun B nB => ?_⟩⟩
    have g := g.trans g6
    have gt := g.t1
    have gt0 := g.t0
    refine lc_range (fun i H3 => Making p l B H02 H6 (t + 1 + 1 + 1) 1 (WdD ks) i H3) (Making.start g.d nB WdD.zero) ?_ ?_
    · rintro i' H3 hi' ⟨H02', t2, ys', ds', g3, w3, q3, hP⟩
      have g3t := g3.t1
      have g3t0 := g3.t0
      refine ⟨rfl, _, rfl, _, rfl, pick_at (E := E0) g3.d (by omega) (by omega) (by omega) (by omega) (g3.s _ _ hk) fun H5 y g4 hy => ?_⟩
      refine Making.turn g3 w3 q3 g4 (.str y) ?_ (hP.snoc hy)
      obtain ⟨w, rfl, hw, _⟩ := hP
      rw [List.length_map]
      omega
    rintro H3 ⟨H03, t2, ys', ds', g3, w3, q3, wd, rfl, hw, hws⟩
    refine .inl ⟨B, ys', rfl, SqL.of w3.h, fun b nb => ?_⟩
    have g4 := g3.new (o := .tup ys') nb
    have d4 : Dq (upd H03 b (.tup ys')) (.ref b) (strsD wd) := dq_new (g3.d.s.free nb) q3
    have hk := g4.s _ _ hk
    have g := g.trans g4
    have gt := g.t1
    have gt0 := g.t0
    clear g4 q3 w3 nb g3
    revert g d4 hk
    generalize upd H3 b (.tup ys') = H4
    generalize upd H03 b (.tup ys') = H04
    intro d4 hk g
    refine ⟨Nat.zero_le _, fun L nL => ?_⟩
    have gL := g.put0 (o := .lst []) nL
    have wL := Own.start (o := .lst []) g nL
    refine ⟨_, rfl, 1 + a, rfl, by omega, by omega, for_range (fun i σ H' => (∃ H0 t' ys en, Go p l Hs H t H0 H' t' (5 + (i : Int) * 4) ∧ Own p l L H H0 H' (.lst ys) ∧ DqAll H0 ys (en.map enD) ∧ Stops (1 + a) ks i en ∧ Dq H0 (.ref b) (strsD wd) ∧ H0 kn = some (.lst (ks.map V.str))) ∧
      ∃ o1 o2, σ = [some (.ref p), some (.int (1 + a)), some (.ref kn), some (.ref b), some (.ref L), o1, o2]) ⟨⟨H04, t2, [], [], gL.more (by omega), wL, .nil, Stops.zero, d4, hk⟩, _, _, rfl⟩ ?_ ?_⟩
    · clear gL wL g d4 hk gt gt0
      rintro i σ H1 hi ⟨⟨H0, t', ys, en, g, w, q, hS, db, hk⟩, o1, o2, rfl⟩
      have gt := g.t1
      have gt0 := g.t0
      have hi4 : i < 4 := by omega
      refine ⟨_, rfl, H0, p, l, t', 2, rfl, g.d, by omega, by omega, by omega, by omega, fun H4 r g4 r0 r1 => ⟨rfl, _, rfl, ?_⟩⟩
      by_cases e : r = 0
      · refine iteYes (decide_eq_true (by rw [e])) ?_
        have g5 := g.trans g4
        have w5 := w.go g4
        have gt5 := g5.t1
        refine ⟨_, rfl, .inl ⟨rfl, _, SqL.of w5.h⟩, _, rfl, _, rfl, H0, p, l, t' + 1, 2, rfl, g5.d, by omega, by omega, by omega, by omega, fun H6 n g6 n0 n2 => ⟨n, rfl, by omega, by omega, fun B nB => ?_⟩⟩
        have g7 := g5.trans g6
        have w7 := w5.go g6
        refine lc_range (fun i H3 => Making p l B H0 H6 (t' + 1 + 1) 1 (WdD ks) i H3) (Making.start g7.d nB WdD.zero) ?_ ?_
        · rintro i' H3 hi' ⟨H02, t2, ys', ds', g3, w3, q3, hP⟩
          have g3t := g3.t1
          have g3t0 := g3.t0
          refine ⟨rfl, _, rfl, _, rfl, pick_at (E := E0) g3.d (by omega) (by omega) (by omega) (by omega) (g3.s _ _ hk) fun H5 y g4 hy => ?_⟩
          refine Making.turn g3 w3 q3 g4 (.str y) ?_ (hP.snoc hy)
          obtain ⟨w, rfl, hw, _⟩ := hP
          rw [List.length_map]
          omega
        · rintro H3 ⟨H02, t2, ys', ds', g3, w3, q3, wd2, rfl, hw2, hws2⟩
          refine .inl ⟨B, ys', rfl, SqL.of w3.h, fun b2 nb2 => ⟨(by show 2 ≤ sizeLine; decide), fun tp ntp => ?_⟩⟩
          have g4 := g3.new (o := .tup ys') nb2
          have d4 := dq_new (g3.d.s.free nb2) q3
          have g8 := g7.trans g4
          have w8 := w7.go g4
          have q8 := DqAll.same g4.s _ _ q
          have db8 := Dq.same g4.s _ _ db
          have hk8 := g4.s _ _ hk
          have gt8 := g8.t1
          clear g4 q3 w3 g3 nb2
          revert g8 w8 d4 q8 db8 hk8 ntp
          generalize upd H3 b2 (.tup ys') = H8
          generalize upd H02 b2 (.tup ys') = H08
          intro ntp d4 g8 w8 q8 db8 hk8
          have n0' := g8.d.s.free ntp
          have wA := w8.new (ob := .tup [.int (0 + (i : Int)), .ref b2]) ntp
          have gA := g8.new (o := .tup [.int (0 + (i : Int)), .ref b2]) ntp
          have S0 := same_new (o := .tup [.int (0 + (i : Int)), .ref b2]) n0'
          have hx : Dq (upd H08 tp (.tup [.int (0 + (i : Int)), .ref b2])) (.ref tp) (enD (0 + (i : Int), wd2)) := .tup upd_same (.cons (.int _) (.cons (Dq.same S0 _ _ d4) .nil))
          refine ⟨L, _, _, rfl, rfl, wA.h, ?_, ⟨_, _, _, en ++ [(0 + (i : Int), wd2)], (gA.more (by omega)).setO wA, wA.set, ?_, hS.snoc (by show (0 : Int) + (i : Int) = i; omega) ⟨by show 0 ≤ (0 : Int) + (i : Int); omega, by show (0 : Int) + (i : Int) < 1 + a; omega, by show wd2.length ≤ 1; omega, hws2⟩, Dq.same S0 _ _ db8, S0 _ _ hk8⟩, _, _, rfl⟩
          · have := hS.len
            rw [q.len, List.length_map, sizeLine_eq]
            omega
          · rw [List.map_append]
            exact (DqAll.same S0 _ _ q8).snoc hx
      · refine iteNo (decide_eq_false fun z => e (by injection z)) ?_
        exact ⟨⟨H0, t' + 1, ys, en, (g.trans g4).more (by omega), w.go g4, q, hS.skip, db, hk⟩, _, _, rfl⟩
    · clear gL wL g d4 hk gt gt0
      rintro σ H1 ⟨⟨H0, t', ys, en, g, w, q, hS, db, hk⟩, o1, o2, rfl⟩
      have gt := g.t1
      have gt0 := g.t0
      refine ⟨_, rfl, _, rfl, _, rfl, _, rfl, _, rfl, H0, p, l, kn, t', 1 + a, ks, rfl, g.d, by omega, by omega, by omega, by omega, hk, good_kinds hks, fun H2 H2' t2 vm mv g2 dm lt all ml => ⟨_, rfl, ?_⟩⟩
      have w2 := w.go g2
      refine .inl ⟨L, ys, rfl, SqL.of w2.h, fun e ne => ⟨(by show 4 ≤ sizeLine; decide), fun r nr => ?_⟩⟩
      have g3 := g2.new (o := .tup ys) ne
      have d3 := dq_new (g2.d.s.free ne) (DqAll.same g2.s _ _ q)
      have S3 := same_new (o := .tup ys) (g2.d.s.free ne)
      have g4 := g3.new (o := .tup [.int (1 + a), .ref b, vm, .ref e]) nr
      refine k _ _ _ _ ⟨1 + a, wd, mv, en⟩ ks ((g.trans g4).more (by omega)) (dq_new (g3.d.s.free nr) (.cons (.int _) (.cons (Dq.same g3.s _ _ db) (.cons (Dq.same S3 _ _ dm) (.cons d3 .nil))))) ?_
      exact ⟨hks, by show 1 ≤ 1 + a; omega, by show 1 + a ≤ 4; omega, by show wd.length ≤ 2; omega, hws, lt, all, ml, hS.lt, fun e he => (hS.all e he).1, by show en.length ≤ 4; have := hS.len; omega⟩
end
end KL
set_option Elab.async false
set_option linter.all false
set_option maxRecDepth 100000
set_option maxHeartbeats 4000000
namespace KL
open PySem L2 PySem.Spec PyProof.Rows
/-! ### drawn readers are right ones -/
theorem mark_in {al : List Str} (ok : ∀ y ∈ al, markD (.str y) = true) : ∀ w : List Str, (∀ y ∈ w, y ∈ al) → marksD (strsD w) = true
  | [], _ => rfl
  | x :: w, h => by
    have q := mark_in ok w fun y hy => h y (List.mem_cons_of_mem _ hy)
    have q : (w.map PyData.str).all markD = true := (Bool.and_eq_true_iff.mp q).2
    show (true && ((PyData.str x :: w.map .str).all markD)) = true
    rw [List.all_cons, ok x (h x List.mem_cons_self), q]
    rfl
theorem ok_in {al : List Str} (ok : ∀ y ∈ al, okS y = true ∧ y.length ≤ 1000) : ∀ w : List Str, (∀ y ∈ w, y ∈ al) → okAll (w.map .str) = true ∧ smAll (w.map .str) = true
  | [], _ => ⟨rfl, rfl⟩
  | x :: w, h => by
    obtain ⟨q1, q2⟩ := ok_in ok w fun y hy => h y (List.mem_cons_of_mem _ hy)
    obtain ⟨r1, r2⟩ := ok x (h x List.mem_cons_self)
    refine ⟨?_, ?_⟩
    · show (okS x && okAll (w.map .str)) = true
      rw [r1, q1]
      rfl
    · show (decide (x.length ≤ 1000) && smAll (w.map .str)) = true
      rw [decide_eq_true r2, q2]
      rfl
theorem kinds_ok {ks : List Str} (h : ks ∈ kinds3) : (∀ y ∈ ks, okS y = true ∧ y.length ≤ 1000) ∧ ∀ y ∈ ks, markD (.str y) = true := by
  simp only [kinds3, List.mem_cons, List.not_mem_nil, or_false] at h
  rcases h with rfl | rfl | rfl | rfl <;> exact ⟨by decide +kernel, by decide +kernel⟩
theorem sm_words {ks w : List Str} (hk : ks ∈ kinds3) (h : ∀ y ∈ w, y ∈ ks) (n : w.length ≤ 1000) : smB (strsD w) = true := by
  show (decide ((w.map PyData.str).length ≤ 1000) && smAll (w.map .str)) = true
  rw [List.length_map, decide_eq_true n, (ok_in (kinds_ok hk).1 w h).2]
  rfl
theorem sm_small {i : Int} (h0 : 0 ≤ i) (h1 : i ≤ 1000) : smB (.int i) = true := by
  refine decide_eq_true ?_
  have : i.natAbs.log2 ≤ i.natAbs := Nat.log2_le_self _
  omega
theorem bet_true {lo hi i : Int} (h0 : lo ≤ i) (h1 : i ≤ hi) : betD lo hi (.int i) = true := by
  show (decide (lo ≤ i) && decide (i ≤ hi)) = true
  rw [decide_eq_true h0, decide_eq_true h1]
  rfl
theorem move_true {n : Int} {ks : List Str} {x : Mv} (hk : ks ∈ kinds3) (h : MvOk n ks x) : moveD n (mvD x) = true := by
  show (true && (betD 0 (n - 1) (.int x.s) && (markD (.str x.m) && (marksD (strsD x.w) && betD 0 (n - 1) (.int x.t))))) = true
  rw [bet_true h.s0 (by have := h.s1; omega), bet_true h.t0 (by have := h.t1; omega), (kinds_ok hk).2 _ h.m, mark_in (kinds_ok hk).2 x.w h.ws]
  rfl
theorem mvs_all {n : Int} {ks : List Str} (hk : ks ∈ kinds3) (n4 : n ≤ 4) : ∀ mv : List Mv, (∀ x ∈ mv, MvOk n ks x) → (mv.map mvD).all (moveD n) = true ∧ okAll (mv.map mvD) = true ∧ smAll (mv.map mvD) = true
  | [], _ => ⟨rfl, rfl, rfl⟩
  | x :: mv, h => by
    obtain ⟨q1, q2, q3⟩ := mvs_all hk n4 mv fun y hy => h y (List.mem_cons_of_mem _ hy)
    have hx := h x List.mem_cons_self
    obtain ⟨o1, o2⟩ := (kinds_ok hk).1 _ hx.m
    obtain ⟨p1, p2⟩ := ok_in (kinds_ok hk).1 x.w hx.ws
    have sw : smB (strsD x.w) = true := sm_words hk hx.ws (by have := hx.w; omega)
    refine ⟨?_, ?_, ?_⟩
    · rw [List.map_cons, List.all_cons, move_true hk hx, q1]
      rfl
    · show ((true && (okS x.m && (okAll (x.w.map .str) && (true && true)))) && okAll (mv.map mvD)) = true
      rw [o1, p1, q2]
      rfl
    · show ((decide ((4 : Nat) ≤ 1000) && (smB (.int x.s) && (decide (x.m.length ≤ 1000) && (smB (strsD x.w) && (smB (.int x.t) && true))))) && smAll (mv.map mvD)) = true
      rw [sm_small hx.s0 (by have := hx.s1; omega), sm_small hx.t0 (by have := hx.t1; omega), decide_eq_true o2, sw, q3]
      rfl
theorem lt_cut {x y : Mv} (h : x.Lt y) : ltD (cut2 (mvD x)) (cut2 (mvD y)) = true := by
  show (if PyData.eqv (.int x.s) (.int y.s) = true then (if PyData.eqv (.str x.m) (.str y.m) = true then false else decide (x.m.cps.toList < y.m.cps.toList)) else decide (x.s < y.s)) = true
  rcases h with h | ⟨h1, h2⟩
  · rw [if_neg (by simp [PyData.eqv]; omega)]
    exact decide_eq_true h
  · have ne : x.m ≠ y.m := fun e => by
      rw [e] at h2
      exact absurd h2 (List.lt_irrefl _)
    rw [if_pos (by simp [PyData.eqv, h1]), if_neg (by simp [PyData.eqv]; exact ne)]
    exact decide_eq_true h2
theorem asc_true {ds : List PyData} (h : ∀ i, i + 1 < ds.length → ltD (ds.getD i .none) (ds.getD (i + 1) .none) = true) : ascD ds = true := by
  unfold ascD ascTo
  rw [List.all_eq_true]
  intro b hb
  obtain ⟨i, hi, rfl⟩ := List.mem_map.mp hb
  have := List.mem_range.mp hi
  exact h i (by omega)
theorem getD_at {α : Type} {f : α → PyData} {xs : List α} {i : Nat} (h : i < xs.length) : (xs.map f).getD i .none = f xs[i] := by
  rw [List.getD_eq_getElem?_getD, List.getElem?_map, List.getElem?_eq_getElem h]
  rfl
theorem asc_mv {mv : List Mv} (h : mv.Pairwise Mv.Lt) : ascD ((mv.map mvD).map cut2) = true := by
  rw [List.map_map]
  refine asc_true fun i hi => ?_
  rw [List.length_map] at hi
  rw [getD_at (by omega), getD_at hi]
  exact lt_cut (List.pairwise_iff_getElem.mp h i (i + 1) (by omega) hi (Nat.lt_succ_self i))
theorem ens_all {n : Int} {ks : List Str} (hk : ks ∈ kinds3) (n4 : n ≤ 4) : ∀ en : List (Int × List Str), (∀ e ∈ en, EnOk n ks e) → (en.map enD).all (endD n) = true ∧ (en.map enD).all (tupD 2 2) = true ∧ okAll (en.map enD) = true ∧ smAll (en.map enD) = true
  | [], _ => ⟨rfl, rfl, rfl, rfl⟩
  | e :: en, h => by
    obtain ⟨q1, q2, q3, q4⟩ := ens_all hk n4 en fun y hy => h y (List.mem_cons_of_mem _ hy)
    have he := h e List.mem_cons_self
    obtain ⟨p1, p2⟩ := ok_in (kinds_ok hk).1 e.2 he.ws
    have sw : smB (strsD e.2) = true := sm_words hk he.ws (by have := he.w; omega)
    refine ⟨?_, ?_, ?_, ?_⟩
    · rw [List.map_cons, List.all_cons, q1, Bool.and_true]
      show (betD 0 (n - 1) (.int e.1) && marksD (strsD e.2)) = true
      rw [bet_true he.s0 (by have := he.s1; omega), mark_in (kinds_ok hk).2 e.2 he.ws]
      rfl
    · rw [List.map_cons, List.all_cons, q2]
      rfl
    · show ((true && (okAll (e.2.map .str) && true)) && okAll (en.map enD)) = true
      rw [p1, q3]
      rfl
    · show ((decide ((2 : Nat) ≤ 1000) && (smB (.int e.1) && (smB (strsD e.2) && true))) && smAll (en.map enD)) = true
      rw [sm_small he.s0 (by have := he.s1; omega), sw, q4]
      rfl
theorem asc_en {en : List (Int × List Str)} (h : en.Pairwise fun a b => a.1 < b.1) : ascD ((en.map enD).map (itemD 0)) = true := by
  rw [List.map_map]
  refine asc_true fun i hi => ?_
  rw [List.length_map] at hi
  rw [getD_at (by omega), getD_at hi]
  exact decide_eq_true (List.pairwise_iff_getElem.mp h i (i + 1) (by omega) hi (Nat.lt_succ_self i))
theorem Drawn.right {r : Rdr} {ks : List Str} (h : Drawn r ks) : Right r := by
  obtain ⟨a1, a2, a3⟩ := mvs_all h.k h.n4 r.mv h.mv
  obtain ⟨b1, b2, b3, b4⟩ := ens_all h.k h.n4 r.en h.en
  have n1 := h.n1
  have n4 := h.n4
  refine ⟨bet_true h.n1 (by omega), mark_in (kinds_ok h.k).2 r.first h.fs, ?_, ?_, ⟨sm_small (by omega) (by omega), sm_words h.k h.fs (by have := h.f; omega), ?_, ?_⟩, a2, b3⟩
  · show (true && ((r.mv.map mvD).all (moveD r.n) && ascD ((r.mv.map mvD).map cut2))) = true
    rw [a1, asc_mv h.lt]
    rfl
  · show (true && ((r.en.map enD).all (tupD 2 2) && ((r.en.map enD).all (endD r.n) && ascD ((r.en.map enD).map (itemD 0))))) = true
    rw [b1, b2, asc_en h.et]
    rfl
  · show (decide ((r.mv.map mvD).length ≤ 1000) && smAll (r.mv.map mvD)) = true
    rw [List.length_map, decide_eq_true (by have := h.ml; omega), a3]
    rfl
  · show (decide ((r.en.map enD).length ≤ 1000) && smAll (r.en.map enD)) = true
    rw [List.length_map, decide_eq_true (by have := h.el; omega), b4]
    rfl
theorem right_due {r : Rdr} (h : Right r) : dueR (.int r.n) (strsD r.first) (mvsD r) (ensD r) = none := by
  unfold dueR
  rw [if_neg (by rw [h.n]; decide), if_neg (by rw [h.first]; decide), if_neg (by rw [show movesD (numD (.int r.n)) (mvsD r) = true from h.mv]; decide), if_neg (by rw [show endsD (numD (.int r.n)) (ensD r) = true from h.en]; decide)]
end KL
set_option Elab.async false
set_option linter.all false
set_option maxRecDepth 100000
set_option maxHeartbeats 4000000
namespace KL
open PySem L2 PySem.KX PySem.Spec PyProof.Rows HT
theorem depth_mem : ∀ {ds : List PyData} {d : PyData}, d ∈ ds → d.depth ≤ PyData.depthAll ds
  | x :: ds, d, h => by
    show d.depth ≤ max x.depth (PyData.depthAll ds)
    rcases List.mem_cons.mp h with rfl | h
    · exact Nat.le_max_left _ _
    · exact Nat.le_trans (depth_mem h) (Nat.le_max_right _ _)
/-- some data, each of a size -/
def Many (n w p W : Nat) (ds : List PyData) : Prop := ds.length ≤ n ∧ ∀ d ∈ ds, Gd w p W d
theorem Many.nil {w p W : Nat} : Many 0 w p W [] := ⟨Nat.le_refl _, fun _ h => nomatch h⟩
theorem Many.snoc {n w p W : Nat} {ds : List PyData} {d : PyData} (h : Many n w p W ds) (g : Gd w p W d) : Many (n + 1) w p W (ds ++ [d]) := by
  refine ⟨by have := h.1; simp; omega, fun x hx => ?_⟩
  rcases List.mem_append.mp hx with z | z
  · exact h.2 x z
  · rw [List.mem_singleton.mp z]
    exact g
theorem Many.more {n m w p W : Nat} {ds : List PyData} (h : Many n w p W ds) (e : n ≤ m) : Many m w p W ds := ⟨Nat.le_trans h.1 e, h.2⟩
theorem Many.cons {n w p W : Nat} {ds : List PyData} {d : PyData} (g : Gd w p W d) (h : Many n w p W ds) : Many (n + 1) w p W (d :: ds) := by
  refine ⟨by have := h.1; simp; omega, fun x hx => ?_⟩
  rcases List.mem_cons.mp hx with rfl | z
  · exact g
  · exact h.2 x z
theorem wdAll_le {n w p W : Nat} : ∀ {ds : List PyData}, Many n w p W ds → wdAll ds ≤ w
  | [], _ => Nat.zero_le _
  | d :: r, h => Nat.max_le.mpr ⟨(h.2 d (.head _)).wd, wdAll_le (n := n) ⟨Nat.le_trans (Nat.le_succ _) h.1, fun x hx => h.2 x (.tail _ hx)⟩⟩
theorem dpAll_le {n w p W : Nat} : ∀ {ds : List PyData}, Many n w p W ds → PyData.depthAll ds ≤ p
  | [], _ => Nat.zero_le _
  | d :: r, h => Nat.max_le.mpr ⟨(h.2 d (.head _)).dp, dpAll_le (n := n) ⟨Nat.le_trans (Nat.le_succ _) h.1, fun x hx => h.2 x (.tail _ hx)⟩⟩
theorem txAll_of {n w p W : Nat} : ∀ {ds : List PyData}, Many n w p W ds → txAll ds = true
  | [], _ => rfl
  | d :: r, h => by
    show (txD d && txAll r) = true
    rw [(h.2 d (.head _)).tx, txAll_of (n := n) ⟨Nat.le_trans (Nat.le_succ _) h.1, fun x hx => h.2 x (.tail _ hx)⟩]
    rfl
theorem wtAll_le {w p W : Nat} : ∀ {ds : List PyData} (n : Nat), Many n w p W ds → wtAll ds ≤ n * (W + 2)
  | [], _, _ => Nat.zero_le _
  | d :: r, 0, h => absurd h.1 (by simp)
  | d :: r, n + 1, h => by
    have h1 := (h.2 d (.head _)).wt
    have h2 := wtAll_le n (ds := r) ⟨by have := h.1; simp at this; exact this, fun x hx => h.2 x (.tail _ hx)⟩
    show wt d + 2 + wtAll r ≤ (n + 1) * (W + 2)
    rw [Nat.succ_mul]
    omega
theorem Many.tup {n w p W : Nat} {ds : List PyData} (h : Many n w p W ds) : Gd (max w n) (p + 1) (n * (W + 2) + 3) (.tuple ds) := by
  refine ⟨?_, Nat.succ_le_succ (dpAll_le h), Nat.add_le_add_right (wtAll_le n h) 3, txAll_of h⟩
  exact Nat.max_le.mpr ⟨Nat.le_trans h.1 (Nat.le_max_right _ _), Nat.le_trans (wdAll_le h) (Nat.le_max_left _ _)⟩

theorem rev_bounds (n : Nat) : Builtin.Slice.sliceAdjust none none (-1) (n : Int) = ((n : Int) - 1, -1) := by
  have h : (-1 : Int) < 0 := by decide
  unfold Builtin.Slice.sliceAdjust
  simp only [h, if_true]
theorem rev_count (n : Nat) : Builtin.Slice.slicePlaces ((n : Int) - 1) (-1) (-1) = n := by
  have h : ¬ ((-1 : Int) > 0) := by decide
  unfold Builtin.Slice.slicePlaces
  simp only [h, if_false, Int.neg_neg, Int.ediv_one]
  split <;> omega
theorem rev_pick (xs : Array Value) : ((List.range xs.size).filterMap fun (k : Nat) => xs[((xs.size : Int) - 1 + (k : Int) * (-1)).toNat]?).toArray = xs.toList.reverse.toArray := by
  congr 1
  have e : ∀ (m : Nat), m ≤ xs.size → (List.range m).filterMap (fun (k : Nat) => xs[((xs.size : Int) - 1 + (k : Int) * (-1)).toNat]?) = xs.toList.reverse.take m := by
    intro m
    induction m with
    | zero => intro _; rfl
    | succ m ih =>
      intro hm
      rw [List.range_succ, List.filterMap_append, ih (by omega), List.take_add_one]
      congr 1
      have i1 : ((xs.size : Int) - 1 + ((m : Nat) : Int) * (-1)).toNat = xs.size - 1 - m := by omega
      have i2 : xs.toList.reverse[m]? = xs[xs.size - 1 - m]? := by
        rw [List.getElem?_reverse (by simp; omega)]
        simp
      rw [i2]
      show List.filterMap _ [m] = _
      rw [List.filterMap_cons, i1]
      cases z : xs[xs.size - 1 - m]? <;> rfl
  have := e xs.size (Nat.le_refl _)
  rw [this, List.take_of_length_le (by simp)]
section
variable {prog : Program} {w : World} {A : Around} {E : Value → Shared → Prop} {s : Shared}
theorem tup_rev {t sl : Addr} {items : Array Value} {u : Tok} {Q : Value → Shared → Prop} (ht : IsTup s.heap t items) (hs : s.heap.IsSliceOf sl .none .none (.int (-1) u))
    (h : Q (.ref s.heap.objs.size) { s with heap := s.heap.push { cls := .type "tuple", data := .seq items.toList.reverse.toArray } }) (hz : items.size ≤ sizeLine) : wpAny (model prog w) A (getItem (.ref t) (.ref sl)) Q E s := by
  have ok : sizeOk (.seq items.toList.reverse.toArray) := by
    show items.toList.reverse.toArray.size ≤ sizeLine
    rw [List.size_toArray, List.length_reverse, Array.length_toList]
    exact hz
  obtain ⟨os, h1, h2, h3⟩ := id hs
  have tS : s.TypeIs (.ref sl) "slice" := ⟨os, h1, h2⟩
  unfold getItem
  try with_reducible refine wpAny_holding ?_
  first | refine wpAny_bind (wpAny_pure ?_) | skip
  refine wpAny_bind (wpAny_sequenceKey ht.typeIs (by decide) ?_)
  refine wpAny_bind (wpAny_callSpecial?_slot (name := Str.ofString "__getitem__") ht.typeIs slot_tuple_getitem (wpAny_call_entry slot_tuple_getitem ht.typeIs entry_tuple_getitem ?_ (args_tuple_getitem _ _)))
  refine wpAny_bind (m := Builtin.Tuple.tupleItemsOf (.ref t)) (tupleItemsOf_ ht (wpAny_bind (wpAny_typeOf tS ?_)))
  rw [if_pos (by decide)]
  refine wpAny_bind (m := Builtin.Slice.sliceApplied (.ref sl) (pure (items.size : Int))) ?_
  unfold Builtin.Slice.sliceApplied Builtin.Slice.sliceFields
  refine wpAny_bind (wpAny_bind (wpAny_field h1 h3 (x := Value.none) rfl (wpAny_bind (wpAny_field h1 h3 (x := Value.none) rfl (wpAny_bind (wpAny_field h1 h3 (x := .int (-1) u) rfl (wpAny_pure ?_)))))))
  refine wpAny_bind (slicePart_int ?_)
  show wpAny _ _ (if ((-1 : Int) == 0) = true then _ else _) _ _ s
  rw [if_neg (by decide)]
  refine wpAny_bind (slicePart_none (wpAny_bind (slicePart_none (wpAny_bind (wpAny_pure ?_)))))
  show wpAny _ _ (match Builtin.Slice.sliceAdjust none none (-1) (items.size : Int) with | (a, b) => pure (a, (-1 : Int), Builtin.Slice.slicePlaces a b (-1))) _ _ s
  rw [rev_bounds]
  show wpAny _ _ (pure ((items.size : Int) - 1, (-1 : Int), Builtin.Slice.slicePlaces ((items.size : Int) - 1) (-1) (-1))) _ _ s
  rw [rev_count]
  refine wpAny_pure ?_
  show wpAny _ _ (if (((items.size : Int) - 1 == 0) && ((-1 : Int) == 1) && (items.size == items.size)) = true then _ else _) _ _ s
  rw [if_neg (by simp), rev_pick]
  first
    | exact wpAny_bind (m := Builtin.Tuple.tupleExact _) (wpAny_newObj_type (wpAny_pure ⟨_, rfl, wpAny_pure h⟩) ok)
    | exact wpAny_bind (m := Builtin.Tuple.tupleExact _) (wpAny_newObj_type (wpAny_bind (wpAny_pure (wpAny_pure ⟨_, rfl, wpAny_pure h⟩))) ok)
    | exact wpAny_bind (wpAny_bind (m := Builtin.Tuple.tupleExact _) (wpAny_newObj_type (wpAny_pure (wpAny_pure ⟨_, rfl, wpAny_pure h⟩)) ok))
    | exact wpAny_bind (wpAny_bind (m := Builtin.Tuple.tupleExact _) (wpAny_newObj_type (wpAny_pure ⟨_, rfl, wpAny_pure h⟩) ok))
end
def tRevT (K : PySem.W.Frag) (te : TE) : TE := fun σ H Q => te σ H fun x H1 => ∃ a xs, x = .ref a ∧ SqT K H1 a xs ∧ ∀ p, H1 p = none → Q (.ref p) (upd H1 p (.tup xs.reverse))
section
variable {X : Cx}
theorem pe_revT {e : Expr} {te : TE} {k : Nat} {p1 p2 p3 pos : Pos} (he : PE X e te) : PE X (.Subscript e (.Slice none none (some (.UnaryOp .USub (.Constant (.int 1) k p1) p2)) p3) pos) (tRevT X.K te) := by
  refine ⟨fun pins s σ H Q I h => ?_⟩
  refine Subscript_ (thn (he.run pins s σ H _ I h) fun v s1 ⟨x, H1, I1, r1, a, xs, ex, hx, q⟩ => ?_)
  subst ex
  cases r1
  have st : PO X (some (.UnaryOp .USub (.Constant (.int 1) k p1) p2)) (tPart (tUn (rU fun i => .int (-i)) (tC (.int 1)))) := po_some (pe_un un_neg pe_int)
  refine wpAny_Slice (thn (po_none.run pins s1 σ H1 (fun o H2 => o = none ∧ H2 = H1) I1 ⟨rfl, rfl⟩) fun vl s2 ⟨l, H2, I2, pl, el, e2⟩ => ?_)
  subst el e2
  refine thn (po_none.run pins s2 σ H2 (fun o H3 => o = none ∧ H3 = H2) I2 ⟨rfl, rfl⟩) fun vu s3 ⟨u, H3, I3, pu, eu, e3⟩ => ?_
  subst eu e3
  refine thn (st.run pins s3 σ H3 (fun o H4 => o = some (-1) ∧ H4 = H3) I3 ⟨1, rfl, -1, rfl, rfl, rfl⟩) fun vs s4 ⟨o, H4, I4, ps, eo, e4⟩ => ?_
  subst eo e4
  have I5 : Inv X pins σ H4 { s4 with heap := s4.heap.push ⟨.type "slice", none, .fields #[vl, vu, vs], #[]⟩ } := I4.kept (t' := s4.toks) fun b ob q => Heap.get?_push_of_some _ q
  cases pl
  cases pu
  cases ps with
  | int i tk =>
    obtain ⟨its, r, ht, hz⟩ := I5.tuple hx
    have hl := r.length
    refine tail_any (ops := [.ref a, .ref s4.heap.objs.size]) ht.typeIs (slot_tuple_getitem.lookup) ?_ (by with_unfolding_all rfl)
    refine tup_rev ht (Heap.IsSliceOf.new _ .none .none (.int (-1) tk)) ?_ (by rw [List.size_toArray]; omega)
    refine ⟨.ref _, _, I5.laid (t' := s4.toks) (o := .tup xs.reverse) (fun b ob q => Heap.get?_push_of_some _ q) (Nat.le_refl _) ?_, rfl, q _ (I5.hok.fresh (Nat.le_refl _))⟩
    exact ⟨by rw [List.length_reverse]; exact hz, _, r.reverse, IsTup.new _ _⟩
/-- an int or a bool, and a number -/
def numB : V → Option Int
  | .int i => some i
  | .bl b => some (if b = true then 1 else 0)
  | _ => none
def rNumB (g : Int → Int → Int) : R2 := fun x y H Q => ∃ i j, numB x = some i ∧ y = .int j ∧ Q (.int (g i j)) H
theorem op_addB : OpR X (binaryOp .Add) (rNumB fun i j => i + j) := by
  intro pins s σ H x y v u Q I rx ry h
  obtain ⟨i, j, hx, rfl, q⟩ := h
  cases x with
  | int i' =>
    cases hx
    exact op_add pins s σ H _ _ v u Q I rx ry ⟨_, _, rfl, rfl, q⟩
  | bl b =>
    cases hx
    obtain ⟨t, rfl⟩ := ry
    cases rx
    exact PySem.IntBool.add_bool_int ⟨.int _, H, I.tok _, ⟨_, rfl⟩, q⟩
  | _ => cases hx
theorem op_subB : OpR X (binaryOp .Sub) (rNumB fun i j => i - j) := by
  intro pins s σ H x y v u Q I rx ry h
  obtain ⟨i, j, hx, rfl, q⟩ := h
  cases x with
  | int i' =>
    cases hx
    exact op_sub pins s σ H _ _ v u Q I rx ry ⟨_, _, rfl, rfl, q⟩
  | bl b =>
    cases hx
    obtain ⟨t, rfl⟩ := ry
    cases rx
    exact PySem.IntBool.sub_bool_int ⟨.int _, H, I.tok _, ⟨_, rfl⟩, q⟩
  | _ => cases hx
def rEqB : R2 := fun x y H Q => ∃ i j, numB x = some i ∧ y = .int j ∧ ∀ b, Q (.bl b) H
theorem op_eqB : OpR X (compareOp .Eq) rEqB := by
  intro pins s σ H x y v u Q I rx ry h
  obtain ⟨i, j, hx, rfl, q⟩ := h
  cases x with
  | int i' => exact op_eq pins s σ H _ _ v u Q I rx ry ⟨rfl, q _⟩
  | bl b =>
    obtain ⟨t, rfl⟩ := ry
    cases rx
    exact SeqAt.RcAt.bool_int b j t _ _ _ _ ⟨.bl _, H, I, rfl, q _⟩
  | _ => cases hx
/-- str of an int or a bool -/
def rStrB : List V → Hp → VK → Prop := fun xs H Q => (∃ i, xs = [.int i] ∧ i.natAbs.log2 < 1920 ∧ Q (.str (toString i)) H) ∨ ∃ b, xs = [.bl b] ∧ Q (.str (if b = true then "True" else "False" : String)) H
theorem call_strB : CallR X (.type "str") rStrB := by
  intro pins s σ H xs us Q I r h
  rcases h with ⟨i, rfl, z, q⟩ | ⟨b, rfl, q⟩
  · exact call_str_int pins s σ H _ us Q I r ⟨i, rfl, z, q⟩
  · obtain ⟨u, rfl, e⟩ := vals1 r
    cases (show u = Value.bool b from e)
    refine PySem.P.str_of_bool ⟨.str _, H, I.tok _, ⟨_, rfl⟩, ?_⟩
    cases b <;> exact q
end

theorem cps_of (s : String) : (Str.ofString s).cps.toList = s.toList.map Char.toNat := by
  rw [Str.ofString_eq_toList]
theorem tx_toString (i : Int) : txS (Str.ofString (toString i)) = true := by
  unfold txS
  have dig : ∀ (m : Nat) (c : Nat), c ∈ (toString m : String).toList.map Char.toNat → c < 128 := by
    intro m c hc
    obtain ⟨ch, h1, rfl⟩ := List.mem_map.mp hc
    have h2 : ch ∈ Nat.toDigits 10 m := by simpa [toString, Nat.repr] using h1
    have h3 := Nat.isDigit_of_mem_toDigits (by decide) (by decide) h2
    simp only [Char.isDigit, Bool.and_eq_true, decide_eq_true_eq] at h3
    have := UInt32.le_iff_toNat_le.mp h3.2
    show ch.val.toNat < 128
    have e : ('9' : Char).val.toNat = 57 := by decide
    omega
  rw [List.all_eq_true]
  intro c hc
  rw [cps_of] at hc
  refine decide_eq_true ?_
  cases i with
  | ofNat m => exact dig m c hc
  | negSucc m =>
    have e : (toString (Int.negSucc m) : String) = "-" ++ toString (m + 1) := rfl
    rw [e, String.toList_append, List.map_append, List.mem_append] at hc
    rcases hc with hc | hc
    · have : c = 45 := by simpa using hc
      omega
    · exact dig (m + 1) c hc
theorem len_toString (i : Int) : (Str.ofString (toString i)).length ≤ i.natAbs.log2 + 2 := by
  have e := int_text_length_le (a := i) (k := i.natAbs.log2 + 1) (Nat.succ_pos _) (Nat.lt_succ_self _)
  rw [PySem.ofString_length]
  exact e
theorem log2_succ {a b : Nat} (h : b ≤ a + 1) : b.log2 ≤ a.log2 + 1 := by
  by_cases z : b = 0
  · subst z
    simp
  · have h1 : b < 2 ^ (a.log2 + 2) := by
      have := Nat.lt_log2_self (n := a)
      rw [Nat.pow_succ]
      omega
    have := (Nat.log2_lt z).mpr h1
    omega
/-- what odd values are like, beside a value of a size -/
abbrev Og (w p W : Nat) (d : PyData) : Prop := Gd (2 * w + 200) (p + 2) (2 * W + 10 * w + 400) d
theorem gd_str2 {x : Str} {n : Nat} (h : txS x = true) (e : x.length ≤ n) : Gd n 0 (10 * n + 2) (.str x) :=
  ⟨e, Nat.zero_le _, by show 10 * x.length + 2 ≤ _; omega, h⟩
theorem og_int {w p W : Nat} {i : Int} (h : i.natAbs.log2 ≤ w + 1) : Og w p W (.int i) :=
  ⟨by show i.natAbs.log2 ≤ _; omega, Nat.zero_le _, by show i.natAbs.log2 + 2 ≤ _; omega, rfl⟩
theorem og_bool {w p W : Nat} (b : Bool) : Og w p W (.bool b) := ⟨Nat.zero_le _, Nat.zero_le _, by show 5 ≤ _; omega, rfl⟩
theorem og_str {w p W : Nat} {x : Str} (h : txS x = true) (e : x.length ≤ w + 5) : Og w p W (.str x) := (gd_str2 h e).mono (by omega) (by omega) (by omega)
theorem og_none {w p W : Nat} : Og w p W .none := ⟨Nat.zero_le _, Nat.zero_le _, by show 4 ≤ _; omega, rfl⟩
theorem tx_app {x y : Str} (h : txS x = true) (k : txS y = true) : txS (x ++ y) = true := by
  unfold txS at *
  have e : (x ++ y).cps.toList = x.cps.toList ++ y.cps.toList := by
    show (x.cps ++ y.cps).toList = _
    simp
  rw [e, List.all_append, h, k]
  rfl
theorem DqAll.app {H : Hp} : ∀ {xs ys : List V} {ds es : List PyData}, DqAll H xs ds → DqAll H ys es → DqAll H (xs ++ ys) (ds ++ es)
  | _, _, _, _, .nil, k => k
  | _, _, _, _, .cons h r, k => .cons h (r.app k)
theorem Many.app {n m w p W : Nat} {ds es : List PyData} (h : Many n w p W ds) (k : Many m w p W es) : Many (n + m) w p W (ds ++ es) := by
  refine ⟨by have := h.1; have := k.1; simp; omega, fun x hx => ?_⟩
  rcases List.mem_append.mp hx with z | z
  · exact h.2 x z
  · exact k.2 x z
theorem Many.rev {n w p W : Nat} {ds : List PyData} (h : Many n w p W ds) : Many n w p W ds.reverse := ⟨by simpa using h.1, fun x hx => h.2 x (by simpa using hx)⟩
theorem DqAll.drop {H : Hp} : ∀ {ds : List PyData} {xs : List V} (n : Nat), DqAll H xs ds → DqAll H (xs.drop n) (ds.drop n)
  | _, _, 0, h => h
  | _, _, n + 1, .nil => .nil
  | _, _, n + 1, .cons _ r => r.drop n
theorem DqAll.rev {H : Hp} : ∀ {ds : List PyData} {xs : List V}, DqAll H xs ds → DqAll H xs.reverse ds.reverse
  | _, _, .nil => .nil
  | _, _, .cons h r => by
    rw [List.reverse_cons, List.reverse_cons]
    exact r.rev.snoc h
theorem wtAll_app : ∀ (ds es : List PyData), wtAll (ds ++ es) = wtAll ds + wtAll es
  | [], _ => by simp [wtAll]
  | d :: r, es => by
    show wt d + 2 + wtAll (r ++ es) = wt d + 2 + wtAll r + wtAll es
    rw [wtAll_app r es]
    omega
theorem wdAll_mem {ds : List PyData} {d : PyData} (h : d ∈ ds) : wd d ≤ wdAll ds := by
  induction ds with
  | nil => cases h
  | cons e r ih =>
    rcases List.mem_cons.mp h with rfl | h
    · exact Nat.le_max_left _ _
    · exact Nat.le_trans (ih h) (Nat.le_max_right _ _)
theorem txAll_mem {ds : List PyData} {d : PyData} (t : txAll ds = true) (h : d ∈ ds) : txD d = true := by
  induction ds with
  | nil => cases h
  | cons e r ih =>
    have t' := Bool.and_eq_true_iff.mp (show (txD e && txAll r) = true from t)
    rcases List.mem_cons.mp h with rfl | h
    · exact t'.1
    · exact ih t'.2 h
theorem wdAll_bound {ds : List PyData} {n : Nat} (h : ∀ d ∈ ds, wd d ≤ n) : wdAll ds ≤ n := by
  induction ds with
  | nil => exact Nat.zero_le _
  | cons e r ih => exact Nat.max_le.mpr ⟨h e (.head _), ih fun d hd => h d (.tail _ hd)⟩
theorem dpAll_bound {ds : List PyData} {n : Nat} (h : ∀ d ∈ ds, d.depth ≤ n) : PyData.depthAll ds ≤ n := by
  induction ds with
  | nil => exact Nat.zero_le _
  | cons e r ih => exact Nat.max_le.mpr ⟨h e (.head _), ih fun d hd => h d (.tail _ hd)⟩
theorem txAll_bound {ds : List PyData} (h : ∀ d ∈ ds, txD d = true) : txAll ds = true := by
  induction ds with
  | nil => rfl
  | cons e r ih =>
    show (txD e && txAll r) = true
    rw [h e (.head _), ih fun d hd => h d (.tail _ hd)]
    rfl
theorem wtAll_cut (n : Nat) (ds : List PyData) : wtAll (ds.take n) + wtAll (ds.drop n) = wtAll ds := by
  rw [← wtAll_app, List.take_append_drop]
theorem wtAll_rev : ∀ (ds : List PyData), wtAll ds.reverse = wtAll ds
  | [] => rfl
  | d :: r => by
    rw [List.reverse_cons, wtAll_app, wtAll_rev r]
    show wtAll r + (wt d + 2 + 0) = wt d + 2 + wtAll r
    omega
/-- a tuple or a list of items that stand in another one -/
theorem gd_items {w p W n m : Nat} {ds es : List PyData} (g : Gd w p W (.tuple ds)) (hl : es.length ≤ n) (hm : ∀ d ∈ es, d ∈ ds) (hw : wtAll es ≤ m) :
    Gd (max w n) p (m + 3) (.tuple es) ∧ Gd (max w n) p (m + 3) (.list es) := by
  have g1 : max ds.length (wdAll ds) ≤ w := g.wd
  have g2 : PyData.depthAll ds + 1 ≤ p := g.dp
  have a1 : wdAll es ≤ w := wdAll_bound fun d hd => Nat.le_trans (wdAll_mem (hm d hd)) (by omega)
  have a2 : PyData.depthAll es + 1 ≤ p := by
    have := dpAll_bound (n := PyData.depthAll ds) fun d (hd : d ∈ es) => depth_mem (hm d hd)
    omega
  have a3 : txAll es = true := txAll_bound fun d hd => txAll_mem g.tx (hm d hd)
  refine ⟨⟨?_, a2, ?_, a3⟩, ⟨?_, a2, ?_, a3⟩⟩
  · show max es.length (wdAll es) ≤ _
    omega
  · show wtAll es + 3 ≤ _
    omega
  · show max es.length (wdAll es) ≤ _
    omega
  · show wtAll es + 2 ≤ _
    omega

/-! ### texts cut -/
theorem tx_cut {x : Str} (h : txS x = true) (lo hi : Option Int) : txS (cutS x lo hi) = true ∧ (cutS x lo hi).length ≤ x.length := by
  refine ⟨?_, cutS_length _ _ _⟩
  unfold txS at *
  rw [List.all_eq_true] at *
  intro c hc
  exact h c (List.mem_of_mem_drop (List.mem_of_mem_take (show c ∈ (x.cps.toList.drop (HT.sIx x.length 0 lo)).take (HT.sIx x.length x.length hi - HT.sIx x.length 0 lo) from by simpa [cutS] using hc)))
/-- the values that stand first in the list of odd ones -/
def odd18 : List PyData := [.none, .bool true, .bool false, .int 0, .int (-1), .int 1, .int (10 ^ 39), .str "", .str "a", .str "states", .tuple [], .list [], .dict [], .tuple [.str "a"], .tuple [.str ""], .tuple [.int 0], .tuple [.tuple []], .tuple [.str "a", .int 0]]
theorem odd18_ok {w p W : Nat} : Many 18 (2 * w + 200) (p + 2) (2 * W + 10 * w + 400) odd18 := by
  refine ⟨by decide, fun d hd => ?_⟩
  have z : (odd18.all fun d => decide (wd d ≤ 200) && decide (d.depth ≤ 2) && decide (wt d ≤ 400) && txD d) = true := by decide +kernel
  have y := List.all_eq_true.mp z d hd
  simp only [Bool.and_eq_true, decide_eq_true_eq] at y
  exact ⟨by omega, by omega, by omega, y.2⟩
theorem odd18_few : ∀ d ∈ odd18, (itemsD d).length ≤ 3 := by decide +kernel
end KL
set_option Elab.async false
set_option linter.all false
set_option maxRecDepth 100000
set_option maxHeartbeats 4000000
namespace KL
open PySem L2
/-! ### values that are made beside a deck: what is made is new, and stays -/
theorem slA_go {K : PySem.W.Frag} {p l a : Addr} {H0 H : Hp} {t : Int} {ys : List V} {ds : List PyData} {lo hi : Option Int} {R : VK} (D : DeckAt H0 H p l t) (ha : H0 a = some (.tup ys)) (hq : DqAll H0 ys ds)
    (h : ∀ H0' H' v' xs' a', Go p l H0 H t H0' H' t 0 → v' = .ref a' → H0' a' = some (.tup xs') → DqAll H0' xs' ((ds.drop (HT.sIx ds.length 0 lo)).take (HT.sIx ds.length ds.length hi - HT.sIx ds.length 0 lo)) → R v' H') : rSlA K (.ref a) lo hi H R := by
  have e := dq_len hq
  have q : DqAll H0 ((ys.drop (HT.sIx ds.length 0 lo)).take (HT.sIx ds.length ds.length hi - HT.sIx ds.length 0 lo)) ((ds.drop (HT.sIx ds.length 0 lo)).take (HT.sIx ds.length ds.length hi - HT.sIx ds.length 0 lo)) := (hq.drop _).take _
  refine ⟨a, ys, rfl, SqT.of (D.s _ _ ha), fun z => ?_, fun _ r nr => ?_⟩
  · rw [e] at z
    rw [z.1, z.2, Nat.sub_zero, List.drop_zero, List.drop_zero, ← e, List.take_of_length_le (Nat.le_refl _), e, List.take_of_length_le (Nat.le_refl _)] at q
    refine h H0 H _ ys a (Go.refl D) rfl ha ?_
    rw [z.1, z.2, Nat.sub_zero, List.drop_zero, List.take_of_length_le (Nat.le_refl _)]
    exact q
  · refine h _ _ _ _ r ((Go.refl D).new nr) rfl upd_same ?_
    rw [← e] at q ⊢
    rw [e]
    rw [e] at q
    have q2 := DqAll.same (same_new (o := .tup (cutV ys lo hi)) (D.s.free nr)) _ _ q
    unfold cutV at q2 ⊢
    rw [e] at q2 ⊢
    exact q2
theorem catA_go {K : PySem.W.Frag} {p l a b : Addr} {H0 H : Hp} {t : Int} {xs ys : List V} {ds es : List PyData} {R : VK} (D : DeckAt H0 H p l t) (ha : H0 a = some (.tup xs)) (hb : H0 b = some (.tup ys)) (qa : DqAll H0 xs ds) (qb : DqAll H0 ys es) (hz : xs.length + ys.length ≤ sizeLine)
    (h : ∀ H0' H' v', Go p l H0 H t H0' H' t 0 → Dq H0' v' (.tuple (ds ++ es)) → R v' H') : rCatA K (.ref a) (.ref b) H R := by
  refine ⟨a, b, xs, ys, rfl, rfl, SqT.of (D.s _ _ ha), SqT.of (D.s _ _ hb), hz, fun z => ?_, fun _ z => ?_, fun _ _ r nr => ?_⟩
  · subst z
    cases qa
    exact h _ _ _ (Go.refl D) (.tup hb qb)
  · subst z
    cases qb
    rw [List.append_nil] at h
    exact h _ _ _ (Go.refl D) (.tup ha qa)
  · exact h _ _ _ ((Go.refl D).new nr) (dq_new (D.s.free nr) (qa.app qb))
section
variable {K : PySem.W.Frag} {p l : Addr} {B : Hp} {σ : L2.St}
def LitG (p l : Addr) (B : Hp) (σ : L2.St) (te : TE) (d : PyData) : Prop := ∀ (H0 H : Hp) (t : Int) (Q : VK), DeckAt H0 H p l t → Same B H0 → (∀ H0' H' v, Go p l H0 H t H0' H' t 0 → Dq H0' v d → Q v H') → te σ H Q
def LitsG (p l : Addr) (B : Hp) (σ : L2.St) (ta : TA) (ds : List PyData) : Prop := ∀ (H0 H : Hp) (t : Int) (Q : List V → Hp → Prop), DeckAt H0 H p l t → Same B H0 → (∀ H0' H' vs, Go p l H0 H t H0' H' t 0 → DqAll H0' vs ds → Q vs H') → ta σ H Q
def PartG (σ : L2.St) (tp : TO) (o : Option Int) : Prop := ∀ (H : Hp) (Q : Option Int → Hp → Prop), Q o H → tp σ H Q
theorem litg_int {i : Int} : LitG p l B σ (tC (.int i)) (.int i) := fun _ _ _ _ D _ k => k _ _ _ (Go.refl D) (.int i)
theorem litg_str {x : Str} : LitG p l B σ (tC (.str x)) (.str x) := fun _ _ _ _ D _ k => k _ _ _ (Go.refl D) (.str x)
theorem litg_bl {b : Bool} : LitG p l B σ (tC (.bl b)) (.bool b) := fun _ _ _ _ D _ k => k _ _ _ (Go.refl D) (.bl b)
theorem litg_non : LitG p l B σ (tC .non) .none := fun _ _ _ _ D _ k => k _ _ _ (Go.refl D) .non
theorem litg_neg {i : Int} : LitG p l B σ (tUn (rU fun i => .int (-i)) (tC (.int i))) (.int (-i)) := fun _ _ _ _ D _ k => ⟨i, rfl, k _ _ _ (Go.refl D) (.int _)⟩
theorem litg_op2 {r : R2} {x y z : V} {d : PyData} (hr : ∀ H (Q : VK), Q z H → r x y H Q) (hz : ∀ H, Dq H z d) : LitG p l B σ (tOp r (tC x) (tC y)) d := fun _ H _ Q D _ k => hr H Q (k _ H z (Go.refl D) (hz _))
theorem litg_opV {r : R2} {i : Nat} {x y z : V} {d : PyData} (e : σ[i]? = some (some x)) (hr : ∀ H (Q : VK), Q z H → r x y H Q) (hz : ∀ H, Dq H z d) : LitG p l B σ (tOp r (tVar i) (tC y)) d := fun _ H _ Q D _ k => ⟨x, e, hr H Q (k _ H z (Go.refl D) (hz _))⟩
theorem litg_opVV {r : R2} {i j : Nat} {x y z : V} {d : PyData} (e : σ[i]? = some (some x)) (e' : σ[j]? = some (some y)) (hr : ∀ H (Q : VK), Q z H → r x y H Q) (hz : ∀ H, Dq H z d) : LitG p l B σ (tOp r (tVar i) (tVar j)) d := fun _ H _ Q D _ k => ⟨x, e, y, e', hr H Q (k _ H z (Go.refl D) (hz _))⟩
theorem litg_callV {r : List V → Hp → VK → Prop} {i : Nat} {x z : V} {d : PyData} (e : σ[i]? = some (some x)) (hr : ∀ H (Q : VK), Q z H → r [x] H Q) (hz : ∀ H, Dq H z d) : LitG p l B σ (tCB r (tCons (tVar i) tNil)) d := fun _ H _ Q D _ k => ⟨x, e, hr H Q (k _ H z (Go.refl D) (hz _))⟩
theorem litg_slS {i : Nat} {x : Str} {tl th : TO} {lo hi : Option Int} (e : σ[i]? = some (some (.str x))) (hz : x.length ≤ sizeLine) (hl : PartG σ tl lo) (hh : PartG σ th hi) : LitG p l B σ (tSl rSlS (tVar i) tl th) (.str (cutS x lo hi)) :=
  fun _ H _ Q D _ k => ⟨_, e, hl _ _ (hh _ _ ⟨x, rfl, hz, k _ _ _ (Go.refl D) (.str _)⟩)⟩
theorem litg_var {i : Nat} {v : V} {d : PyData} (e : σ[i]? = some (some v)) (h : Dq B v d) : LitG p l B σ (tVar i) d := fun _ _ _ _ D S k => ⟨v, e, k _ _ _ (Go.refl D) (Dq.same S _ _ h)⟩
theorem litsg_nil : LitsG p l B σ tNil [] := fun _ _ _ _ D _ k => k _ _ _ (Go.refl D) .nil
theorem litsg_cons {te : TE} {ta : TA} {d : PyData} {ds : List PyData} (h : LitG p l B σ te d) (hs : LitsG p l B σ ta ds) : LitsG p l B σ (tCons te ta) (d :: ds) := fun H0 H t Q D S k =>
  h H0 H t _ D S fun H1 H1' v g dv => hs H1 H1' t _ g.d (S.trans g.s) fun H2 H2' vs g2 dvs => k H2 H2' (v :: vs) ((g.trans g2).more (by omega)) (.cons (Dq.same g2.s _ _ dv) dvs)
theorem litg_tup {ta : TA} {ds : List PyData} (hs : LitsG p l B σ ta ds) (hn : ds.length ≤ 1000) : LitG p l B σ (tTup ta) (.tuple ds) := fun H0 H t Q D S k =>
  hs H0 H t _ D S fun H1 H1' vs g dvs => ⟨by rw [dvs.len, sizeLine_eq]; omega, fun q nq => k _ _ _ (g.new nq) (dq_new (g.d.s.free nq) dvs)⟩
theorem litg_lst {ta : TA} {ds : List PyData} (hs : LitsG p l B σ ta ds) (hn : ds.length ≤ 1000) : LitG p l B σ (tLst ta) (.list ds) := fun H0 H t Q D S k =>
  hs H0 H t _ D S fun H1 H1' vs g dvs => ⟨by rw [dvs.len, sizeLine_eq]; omega, fun q nq => k _ _ _ (g.new nq) (.lst upd_same (DqAll.same (same_new (g.d.s.free nq)) _ _ dvs))⟩
theorem litg_dict : LitG p l B σ tDNewK (.dict []) := fun H0 H t Q D S k q nq => k _ _ _ ((Go.refl D).new nq) (.dct0 upd_same)
theorem part_no : PartG σ tNoPart none := fun _ _ q => q
theorem part_int {i : Int} : PartG σ (tPart (tC (.int i))) (some i) := fun _ _ q => ⟨i, rfl, q⟩
theorem part_neg {i : Int} : PartG σ (tPart (tUn (rU fun i => .int (-i)) (tC (.int i)))) (some (-i)) := fun _ _ q => ⟨i, rfl, _, rfl, q⟩
theorem part_var {i : Nat} {n : Int} (e : σ[i]? = some (some (.int n))) : PartG σ (tPart (tVar i)) (some n) := fun _ _ q => ⟨_, e, n, rfl, q⟩
theorem part_add {i : Nat} {n m : Int} (e : σ[i]? = some (some (.int n))) : PartG σ (tPart (tOp (rI0 fun i j => .int (i + j)) (tVar i) (tC (.int m)))) (some (n + m)) := fun _ _ q => ⟨_, e, _, _, rfl, rfl, _, rfl, q⟩
abbrev pc (es : List PyData) (lo hi : Option Int) : List PyData := (es.drop (HT.sIx es.length 0 lo)).take (HT.sIx es.length es.length hi - HT.sIx es.length 0 lo)
theorem litg_slT {te : TE} {tl th : TO} {lo hi : Option Int} {es : List PyData} (h : LitG p l B σ te (.tuple es)) (hl : PartG σ tl lo) (hh : PartG σ th hi) : LitG p l B σ (tSl (rSlA K) te tl th) (.tuple (pc es lo hi)) := fun H0 H t Q D S k => by
  refine h H0 H t _ D S fun H1 H1' v g dv => hl _ _ (hh _ _ ?_)
  cases dv with
  | tup ha qa =>
    refine slA_go g.d ha qa fun H2 H2' v2 xs2 a2 g2 e2 h2 q2 => ?_
    subst e2
    exact k _ _ _ ((g.trans g2).more (by omega)) (.tup h2 q2)
theorem litg_catT {ta tb : TE} {ds es : List PyData} (h1 : LitG p l B σ ta (.tuple ds)) (h2 : LitG p l B σ tb (.tuple es)) (hz : ds.length + es.length ≤ 4000) : LitG p l B σ (tOp (rCatA K) ta tb) (.tuple (ds ++ es)) := fun H0 H t Q D S k =>
  h1 H0 H t _ D S fun H1 H1' v g dv => h2 H1 H1' t _ g.d (S.trans g.s) fun H2 H2' u g2 du => by
    have dv := Dq.same g2.s _ _ dv
    cases dv with
    | tup ha qa =>
      cases du with
      | tup hb qb =>
        exact catA_go g2.d ha hb qa qb (by rw [dq_len qa, dq_len qb, sizeLine_eq]; omega) fun H3 H3' v3 g3 d3 => k _ _ _ (((g.trans g2).trans g3).more (by omega)) d3
theorem litg_revT {te : TE} {es : List PyData} (h : LitG p l B σ te (.tuple es)) : LitG p l B σ (tRevT K te) (.tuple es.reverse) := fun H0 H t Q D S k =>
  h H0 H t _ D S fun H1 H1' v g dv => by
    cases dv with
    | tup ha qa => exact ⟨_, _, rfl, SqT.of (g.d.s _ _ ha), fun q nq => k _ _ _ (g.new nq) (dq_new (g.d.s.free nq) qa.rev)⟩
theorem litg_listT {te : TE} {es : List PyData} (h : LitG p l B σ te (.tuple es)) : LitG p l B σ (tCB (fun xs H Q => ∃ p ys, xs = [.ref p] ∧ (SqL K H p ys ∨ SqT K H p ys) ∧ ∀ l, H l = none → Q (.ref l) (upd H l (.lst ys))) (tCons te tNil)) (.list es) := fun H0 H t Q D S k =>
  h H0 H t _ D S fun H1 H1' v g dv => by
    cases dv with
    | tup ha qa => exact ⟨_, _, rfl, .inr (SqT.of (g.d.s _ _ ha)), fun q nq => k _ _ _ (g.new nq) (.lst upd_same (DqAll.same (same_new (g.d.s.free nq)) _ _ qa))⟩
end
end KL
set_option Elab.async false
set_option linter.all false
set_option maxRecDepth 100000
set_option maxHeartbeats 8000000
namespace KL
open PySem L2
def OgF (w pp W nn : Nat) (d : PyData) : Prop := Og w pp W d ∧ (itemsD d).length ≤ nn
def spOdd : Sp := fun vs H Q _ => ∃ (H0 : Hp) (p l : Addr) (t : Int) (v : V) (d : PyData) (w pp W nn : Nat), vs = [.ref p, v] ∧ DeckAt H0 H p l t ∧ 0 ≤ t ∧ t < 1000000 ∧ Dq H0 v d ∧ Gd w pp W d ∧ w ≤ 800 ∧ 3 ≤ nn ∧ (itemsD d).length < nn ∧ Gives p l H0 H t 1 (OgF w pp W nn) Q
abbrev nOdd : List Str := ["_law_deck_here", "_law_it", "_law_some"]
/-- the list of odd values so far -/
def MidO (p l : Addr) (Hs Hb : Hp) (t : Int) (v : V) (w pp W nn m : Nat) (σ : L2.St) (H : Hp) : Prop :=
  ∃ H0 q xs ds, σ = [some (.ref p), some v, some (.ref q)] ∧ Go p l Hs Hb t H0 H t 0 ∧ Own p l q Hb H0 H (.lst xs) ∧ DqAll H0 xs ds ∧ Many m (2 * w + 200) (pp + 2) (2 * W + 10 * w + 400) ds ∧ (∀ x ∈ ds, (itemsD x).length ≤ nn) ∧ 0 < ds.length
theorem twice (zs : List V) : (List.replicate (Int.toNat 2) zs).flatten = zs ++ zs := by show zs ++ (zs ++ []) = _; rw [List.append_nil]
theorem mid_start {p l : Addr} {Hs Hb : Hp} {t : Int} {v : V} {w pp W nn : Nat} {σ : L2.St} {ts : TA} {D : Ends} {es : List PyData} {k : Nat} (dk : DeckAt Hs Hb p l t) (eσ : σ.set 2 none = [some (.ref p), some v, none]) (ls : LitsG p l Hs σ ts es) (hk : Many k (2 * w + 200) (pp + 2) (2 * W + 10 * w + 400) es) (hf : ∀ x ∈ es, (itemsD x).length ≤ nn) (h0 : 0 < es.length) (hk2 : k ≤ 100)
    (out : ∀ σ' H', MidO p l Hs Hb t v w pp W nn k σ' H' → D.nx σ' H') : tAsg (tLst ts) (gName 2) D σ Hb :=
  ls Hs Hb t _ dk (Same.refl _) fun H1 H1' vs g dvs => ⟨by rw [dvs.len, sizeLine_eq]; have := hk.1; omega, fun q nq => by
    refine out _ _ ⟨H1, q, vs, es, ?_, g.put0 nq, Own.start g nq, dvs, hk, hf, h0⟩
    have h3 : ∀ τ : L2.St, τ.set 2 none = [some (.ref p), some v, none] → τ.set 2 (some (.ref q)) = [some (.ref p), some v, some (.ref q)] := fun τ e => by
      rcases τ with _ | ⟨a, _ | ⟨b, _ | ⟨c, _ | ⟨d, τ⟩⟩⟩⟩
      · cases e
      · cases e
      · cases e
      · cases e
        rfl
      · cases e
    exact h3 σ eσ⟩
theorem mid_add {p l : Addr} {Hs Hb H : Hp} {t : Int} {v : V} {w pp W nn m k : Nat} {σ : L2.St} {ts : TA} {D : Ends} {es : List PyData} (M : MidO p l Hs Hb t v w pp W nn m σ H) (hl : ∀ q : Addr, LitsG p l Hs [some (.ref p), some v, some (.ref q)] ts es) (hk : Many k (2 * w + 200) (pp + 2) (2 * W + 10 * w + 400) es) (hf : ∀ x ∈ es, (itemsD x).length ≤ nn) (hm : m + k + k ≤ 200)
    (out : ∀ σ' H', MidO p l Hs Hb t v w pp W nn (m + (k + k)) σ' H' → D.nx σ' H') : tAsg (tOp rCat (tVar 2) (tOp rRep (tLst ts) (tC (.int 2)))) (gName 2) D σ H := by
  obtain ⟨H0, q, xs, ds, rfl, g, wq, hd, hmm, hff, h0⟩ := M
  refine ⟨_, rfl, hl q H0 H t _ g.d g.s fun H1 H1' vs g2 dvs => ?_⟩
  have lv := dq_len dvs
  have lx := dq_len hd
  have n1 := hk.1
  have n2 := hmm.1
  have w1 := wq.go g2
  have d1 := DqAll.same g2.s _ _ hd
  have g3 := (g.trans g2).more (n' := 0) (by omega)
  refine ⟨by rw [lv, sizeLine_eq]; omega, fun b nb => ⟨b, 2, vs, rfl, rfl, upd_same, by decide, by decide, by show vs.length * 2 ≤ sizeLine; rw [lv, sizeLine_eq]; omega, fun r nr => ?_⟩⟩
  rw [twice]
  have w2 := w1.put (o' := .lst vs) nb
  have w3 := w2.put (o' := .lst (vs ++ vs)) nr
  refine ⟨q, r, xs, vs ++ vs, rfl, rfl, w3.h, upd_same, by rw [List.length_append, lv, lx, sizeLine_eq]; omega, fun s ns => ?_⟩
  have g4 := (g3.put0 (o := .lst vs) nb).put0 (o := .lst (vs ++ vs)) nr
  refine out _ _ ⟨H1, s, _, ds ++ (es ++ es), rfl, g4.put0 ns, Own.start g4 ns, d1.app (dvs.app dvs), hmm.app (hk.app hk), fun x hx => ?_, ?_⟩
  · rcases List.mem_append.mp hx with z | z
    · exact hff x z
    · rcases List.mem_append.mp z with z | z <;> exact hf x z
  · rw [List.length_append]
    omega
theorem few_cut {es : List PyData} (lo hi : Option Int) : (pc es lo hi).length ≤ es.length := by
  rw [List.length_take, List.length_drop]
  omega
section
variable {P : Program} {w : World} {K : PySem.W.Frag} {mg : Str → Option Value} {base : Heap}
theorem scOdd : FnScope nOdd ["_law_deck_here", "_law_it"] (defScope lOdd) := ⟨rfl, rfl, rfl, by decide +kernel, rfl, by decide +kernel, by decide +kernel⟩
structure TxtO (mg : Str → Option Value) : Prop where
  b : TxtB mg
  list : mg "list" = none
theorem ok_odd {f g : Addr} {fd gd : FuncData} (F : Fun K "_law_odd" "_law_odd" lOdd f fd) (T : TxtO mg) (G : FnOk P w K mg base CX0 2 g gd ["_law_deck_here", "_law_some"] spPick) (c : Cal K mg "_law_pick" g gd ["_law_deck_here", "_law_some"]) :
    FnOk P w K mg base CX0 3 f fd ["_law_deck_here", "_law_it"] spOdd := by
  refine F.ok scOdd (fun vs H Q E h => ?_) (fun cdv A outer s H vs Q E hr h => ?_)
  · obtain ⟨H0, p, l, t, v, d, w, pp, W, nn, rfl, _⟩ := h
    rfl
  · obtain ⟨Hs, p, l, t, v, d, w, pp, W, nn, rfl, D, t0, t1, hv, hg, hw, nn3, hfw, k⟩ := h
    have nd := scOdd.nd
    refine ⟨_, C8.pss_cut (ps_set (i := 2) nd rfl (.inl rfl) (pe_lst (pa_cons pe_non (pa_cons pe_bl (pa_cons pe_bl (pa_cons pe_int (pa_cons (pe_un un_neg pe_int) (pa_cons pe_int (pa_cons (pe_op op_pow pe_int pe_int) (pa_cons pe_str (pa_cons pe_str (pa_cons pe_str (pa_cons (pe_tup pa_nil) (pa_cons (pe_lst pa_nil) (pa_cons pe_dnewK (pa_cons (pe_tup (pa_cons pe_str pa_nil)) (pa_cons (pe_tup (pa_cons pe_str pa_nil)) (pa_cons (pe_tup (pa_cons pe_int pa_nil)) (pa_cons (pe_tup (pa_cons (pe_tup pa_nil) pa_nil)) (pa_cons (pe_tup (pa_cons pe_str (pa_cons pe_int pa_nil))) pa_nil))))))))))))))))))))
      (C8.pss_cut (ps_if (pt_val (pe_callB call_isD (by rfl) T.b.isi (by decide +kernel) (pa_cons (pv 1) (pa_cons (pe_bltn (v := .ty "tuple") (by rfl) T.b.tuple (by decide +kernel) rfl) pa_nil)))) (pss_one (ps_set (i := 2) nd rfl (.inl rfl) (pe_op op_cat (pv 2) (pe_op op_rep (pe_lst (pa_cons (pe_callTy call_list_of (by rfl) T.list (by decide +kernel) (pa_cons (pv 1) pa_nil)) (pa_cons (pe_revT (pv 1)) (pa_cons (pe_slice sl_tupA (pv 1) (po_some pe_int) po_none) (pa_cons (pe_slice sl_tupA (pv 1) po_none (po_some (pe_un un_neg pe_int))) (pa_cons (pe_op op_catA (pv 1) (pe_slice sl_tupA (pv 1) (po_some (pe_un un_neg pe_int)) po_none)) (pa_cons (pe_op op_catA (pv 1) (pe_slice sl_tupA (pv 1) po_none (po_some pe_int))) (pa_cons (pe_op op_catA (pv 1) (pe_tup (pa_cons pe_str pa_nil))) pa_nil)))))))) pe_int)))) pss_nil)
      (C8.pss_cut (ps_if (PW.pt (pw_and (pt_val (pe_callB call_isD (by rfl) T.b.isi (by decide +kernel) (pa_cons (pv 1) (pa_cons (pe_bltn (v := .ty "int") (by rfl) T.b.int (by decide +kernel) rfl) pa_nil)))) (pw_and1 (pt_not (pt_val (pe_callB call_isD (by rfl) T.b.isi (by decide +kernel) (pa_cons (pv 1) (pa_cons (pe_bltn (v := .ty "bool") (by rfl) T.b.bool (by decide +kernel) rfl) pa_nil)))))))) (pss_one (ps_set (i := 2) nd rfl (.inl rfl) (pe_op op_cat (pv 2) (pe_op op_rep (pe_lst (pa_cons (pe_op op_add (pv 1) pe_int) (pa_cons (pe_op op_sub (pv 1) pe_int) (pa_cons (pe_cmpR op_eq (pv 1) pe_int (nomark _)) (pa_cons (pe_callTy call_strB (by rfl) T.b.str (by decide +kernel) (pa_cons (pv 1) pa_nil)) (pa_cons pe_int (pa_cons pe_int pa_nil))))))) pe_int)))) pss_nil)
      (C8.pss_cut (ps_if (pt_val (pe_callB call_isD (by rfl) T.b.isi (by decide +kernel) (pa_cons (pv 1) (pa_cons (pe_bltn (v := .ty "str") (by rfl) T.b.str (by decide +kernel) rfl) pa_nil)))) (pss_one (ps_set (i := 2) nd rfl (.inl rfl) (pe_op op_cat (pv 2) (pe_op op_rep (pe_lst (pa_cons (pe_op op_add_str (pv 1) pe_str) (pa_cons (pe_slice sl_str (pv 1) (po_some pe_int) po_none) (pa_cons (pe_op op_add_str (pv 1) (pv 1)) (pa_cons (pe_tup (pa_cons (pv 1) pa_nil)) (pa_cons (pe_lst (pa_cons (pv 1) pa_nil)) pa_nil)))))) pe_int)))) pss_nil)
      (pss_one (ps_ret (pe_call G hr rfl c.m c.k c.b .nil pass0 (pa_cons (pv 0) (pa_cons (pv 2) pa_nil)))))))), ?_⟩
    refine ⟨MidO p l Hs H t v w pp W nn 18, ?_, ?_⟩
    · refine mid_start (k := 18) (es := odd18) D rfl ?_ odd18_ok (fun x hx => Nat.le_trans (odd18_few x hx) nn3) (by decide) (by decide) fun _ _ h => h
      have lt1 : ∀ {te : TE} {d : PyData}, LitG p l Hs [some (.ref p), some v, none] te d → LitG p l Hs [some (.ref p), some v, none] (tTup (tCons te tNil)) (.tuple [d]) := fun h => litg_tup (litsg_cons h litsg_nil) (by simp)
      exact litsg_cons litg_non (litsg_cons litg_bl (litsg_cons litg_bl (litsg_cons litg_int (litsg_cons litg_neg (litsg_cons litg_int (litsg_cons (litg_op2 (fun _ _ q => ⟨_, _, rfl, rfl, ⟨by decide, by decide, by decide⟩, q⟩) fun _ => .int _)
        (litsg_cons litg_str (litsg_cons litg_str (litsg_cons litg_str (litsg_cons (litg_tup litsg_nil (by decide)) (litsg_cons (litg_lst litsg_nil (by decide)) (litsg_cons litg_dict (litsg_cons (lt1 litg_str) (litsg_cons (lt1 litg_str) (litsg_cons (lt1 litg_int) (litsg_cons (lt1 (litg_tup litsg_nil (by decide)))
        (litsg_cons (litg_tup (litsg_cons litg_str (litsg_cons litg_int litsg_nil)) (by decide)) litsg_nil)))))))))))))))))
    intro σ1 H1 M1
    refine ⟨MidO p l Hs H t v w pp W nn 32, ?_, ?_⟩
    · have hv1 : Dq H1 v d := by
        obtain ⟨H0, q, xs, ds, e, g, _⟩ := M1
        exact Dq.same (g.s.trans g.d.s) _ _ hv
      have e1 : σ1[1]? = some (some v) := by
        obtain ⟨H0, q, xs, ds, rfl, g, _⟩ := M1
        rfl
      refine ⟨_, e1, v, d, "tuple", rfl, by decide, hv1, _, rfl, ?_⟩
      by_cases e : isA "tuple" d = true
      · refine iteYes e ?_
        cases hv with
        | tup ha qa =>
          rename_i a ys es
          have gw : max es.length (wdAll es) ≤ w := hg.wd
          have gt : wtAll es + 3 ≤ W := hg.wt
          have fw : es.length < nn := hfw
          have low : ∀ (a b : Nat), wtAll ((es.drop a).take b) ≤ wtAll es := fun a b => by
            have h1 := wtAll_cut b (es.drop a)
            have h2 := wtAll_cut a es
            omega
          have sub : ∀ (a b : Nat), ∀ x ∈ (es.drop a).take b, x ∈ es := fun a b x hx => List.mem_of_mem_drop (List.mem_of_mem_take hx)
          have big : ∀ {x : PyData} {m : Nat}, Gd (max w (w + 200)) pp (m + 3) x → m ≤ 2 * W → Og w pp W x := fun h hm => h.mono (by omega) (by omega) (by omega)
          have s1 : Og w pp W (.list es) := big (gd_items hg (es := es) (n := w + 200) (m := W) (by omega) (fun _ h => h) (by omega)).2 (by omega)
          have s2 : ∀ lo hi, Og w pp W (.tuple (pc es lo hi)) := fun lo hi => big (gd_items hg (es := pc es lo hi) (n := w + 200) (m := W) (Nat.le_trans (few_cut lo hi) (by omega)) (sub _ _) (Nat.le_trans (low _ _) (by omega))).1 (by omega)
          have s5 : ∀ lo hi, (pc es lo hi).length ≤ 1 → Og w pp W (.tuple (es ++ pc es lo hi)) := fun lo hi hb => by
            refine big (gd_items hg (n := w + 200) (m := 2 * W) ?_ ?_ ?_).1 (by omega)
            · rw [List.length_append]
              omega
            · intro x hx
              rcases List.mem_append.mp hx with z | z
              · exact z
              · exact sub _ _ x z
            · rw [wtAll_app]
              have := low (HT.sIx es.length 0 lo) (HT.sIx es.length es.length hi - HT.sIx es.length 0 lo)
              show wtAll es + wtAll ((es.drop _).take _) ≤ _
              omega
          have s6 : Og w pp W (.tuple es.reverse) := big (gd_items hg (es := es.reverse) (n := w + 200) (m := W) (by rw [List.length_reverse]; omega) (fun _ h => List.mem_reverse.mp h) (by rw [wtAll_rev]; omega)).1 (by omega)
          have s7 : Og w pp W (.tuple (es ++ [.str "a"])) := by
            refine ⟨?_, ?_, ?_, ?_⟩
            · refine Nat.max_le.mpr ⟨by rw [List.length_append]; show es.length + 1 ≤ _; omega, wdAll_bound fun x hx => ?_⟩
              rcases List.mem_append.mp hx with z | z
              · have := wdAll_mem z
                omega
              · rw [List.mem_singleton.mp z]
                exact Nat.le_trans (show wd (.str "a") ≤ 1 by decide +kernel) (by omega)
            · have g2 : PyData.depthAll es + 1 ≤ pp := hg.dp
              refine Nat.succ_le_succ (dpAll_bound fun x hx => ?_)
              rcases List.mem_append.mp hx with z | z
              · have := depth_mem z
                omega
              · rw [List.mem_singleton.mp z]
                exact Nat.zero_le _
            · show wtAll _ + 3 ≤ _
              rw [wtAll_app]
              have : wtAll [PyData.str "a"] = 14 := by decide +kernel
              omega
            · refine txAll_bound fun x hx => ?_
              rcases List.mem_append.mp hx with z | z
              · exact txAll_mem hg.tx z
              · rw [List.mem_singleton.mp z]
                decide +kernel
          have l1 : (pc es none (some 1)).length ≤ 1 := by
            rw [List.length_take]
            have : HT.sIx es.length es.length (some 1) ≤ 1 := Nat.min_le_left _ _
            omega
          have l2 : (pc es (some (-1)) none).length ≤ 1 := by
            show ((es.drop (HT.sIx es.length 0 (some (-1)))).take (es.length - HT.sIx es.length 0 (some (-1)))).length ≤ 1
            have : es.length - 1 ≤ HT.sIx es.length 0 (some (-1)) := by
              unfold HT.sIx
              simp only []
              split <;> omega
            rw [List.length_take, List.length_drop]
            omega
          refine mid_add (k := 7) (es := [.list es, .tuple es.reverse, .tuple (pc es (some 1) none), .tuple (pc es none (some (-1))), .tuple (es ++ pc es (some (-1)) none), .tuple (es ++ pc es none (some 1)), .tuple (es ++ [.str "a"])]) M1 (fun q => ?_) ?_ ?_ (by decide) fun _ _ h => h
          · have lv : LitG p l Hs [some (.ref p), some (.ref a), some (.ref q)] (tVar 1) (.tuple es) := litg_var rfl (.tup ha qa)
            exact litsg_cons (litg_listT lv) (litsg_cons (litg_revT lv) (litsg_cons (litg_slT lv part_int part_no) (litsg_cons (litg_slT lv part_no part_neg) (litsg_cons (litg_catT lv (litg_slT lv part_neg part_no) (by omega)) (litsg_cons (litg_catT lv (litg_slT lv part_no part_int) (by omega))
              (litsg_cons (litg_catT lv (litg_tup (litsg_cons litg_str litsg_nil) (by decide)) (by show es.length + 1 ≤ _; omega)) litsg_nil))))))
          · exact Many.cons s1 (Many.cons s6 (Many.cons (s2 _ _) (Many.cons (s2 _ _) (Many.cons (s5 _ _ l2) (Many.cons (s5 _ _ l1) (Many.cons s7 Many.nil))))))
          · intro x hx
            have c1 := few_cut (es := es) (some 1) none
            have c2 := few_cut (es := es) none (some (-1))
            simp only [List.mem_cons, List.not_mem_nil, or_false] at hx
            rcases hx with rfl | rfl | rfl | rfl | rfl | rfl | rfl
            · exact Nat.zero_le _
            · show es.reverse.length ≤ nn
              rw [List.length_reverse]
              omega
            · show (pc es (some 1) none).length ≤ nn
              omega
            · show (pc es none (some (-1))).length ≤ nn
              omega
            · show (es ++ pc es (some (-1)) none).length ≤ nn
              rw [List.length_append]
              omega
            · show (es ++ pc es none (some 1)).length ≤ nn
              rw [List.length_append]
              omega
            · show (es ++ [PyData.str "a"]).length ≤ nn
              rw [List.length_append]
              show es.length + 1 ≤ nn
              omega
        | _ => exact absurd e (by first | decide | (intro z; cases z))
      · refine iteNo (by simpa using e) ?_
        obtain ⟨H0, q, xs, ds, rfl, g, wq, hd, hm, hf, h0⟩ := M1
        exact ⟨H0, q, xs, ds, rfl, g, wq, hd, hm.more (by decide), hf, h0⟩
    clear M1 σ1 H1
    intro σ1 H1 M1
    refine ⟨MidO p l Hs H t v w pp W nn 44, ?_, ?_⟩
    · have hv1 : Dq H1 v d := by
        obtain ⟨H0, q, xs, ds, e, g, _⟩ := M1
        exact Dq.same (g.s.trans g.d.s) _ _ hv
      have e1 : σ1[1]? = some (some v) := by
        obtain ⟨H0, q, xs, ds, rfl, g, _⟩ := M1
        rfl
      have skip : MidO p l Hs H t v w pp W nn 44 σ1 H1 := by
        obtain ⟨H0, q, xs, ds, rfl, g, wq, hd, hm, hf, h0⟩ := M1
        exact ⟨H0, q, xs, ds, rfl, g, wq, hd, hm.more (by decide), hf, h0⟩
      refine ⟨_, e1, v, d, "int", rfl, by decide, hv1, _, rfl, ?_⟩
      by_cases e : isA "int" d = true
      · refine iteYes e ?_
        refine ⟨_, e1, v, d, "bool", rfl, by decide, hv1, _, rfl, ?_⟩
        cases hv with
        | int i =>
          have hw1 : i.natAbs.log2 ≤ w := hg.wd
          refine iteYes rfl ?_
          refine mid_add (k := 6) (es := [.int (i + 1), .int (i - 1), .bool (decide (V.int i = V.int 1)), .str (toString i), .int 10000, .int 10001]) M1 (fun q => ?_) ?_ ?_ (by decide) fun _ _ h => h
          · exact litsg_cons (litg_opV rfl (fun _ _ q => ⟨_, _, rfl, rfl, q⟩) fun _ => .int _) (litsg_cons (litg_opV rfl (fun _ _ q => ⟨_, _, rfl, rfl, q⟩) fun _ => .int _) (litsg_cons (litg_opV rfl (fun _ _ q => ⟨rfl, q⟩) fun _ => .bl _)
              (litsg_cons (litg_callV rfl (fun _ _ q => .inl ⟨i, rfl, by omega, q⟩) fun _ => .str _) (litsg_cons litg_int (litsg_cons litg_int litsg_nil)))))
          · have big : ∀ j : Int, j.natAbs.log2 ≤ w + 20 → Og w pp W (.int j) := fun j h => ⟨by show j.natAbs.log2 ≤ _; omega, Nat.zero_le _, by show j.natAbs.log2 + 2 ≤ _; omega, rfl⟩
            refine Many.cons (big _ ?_) (Many.cons (big _ ?_) (Many.cons (og_bool _) (Many.cons (og_str (tx_toString i) ?_) (Many.cons (big _ ?_) (Many.cons (big _ ?_) Many.nil)))))
            · have := log2_succ (a := i.natAbs) (b := (i + 1).natAbs) (by omega)
              omega
            · have := log2_succ (a := i.natAbs) (b := (i - 1).natAbs) (by omega)
              omega
            · have := len_toString i
              omega
            · exact Nat.le_trans (show Nat.log2 _ ≤ 13 by decide) (by omega)
            · exact Nat.le_trans (show Nat.log2 _ ≤ 13 by decide) (by omega)
          · intro x hx
            simp only [List.mem_cons, List.not_mem_nil, or_false] at hx
            rcases hx with rfl | rfl | rfl | rfl | rfl | rfl <;> exact Nat.zero_le _
        | bl bb => exact iteNo rfl skip
        | _ => exact absurd e (by first | decide | (intro z; cases z))
      · exact iteNo (by simpa using e) (iteNo rfl skip)
    clear M1 σ1 H1
    intro σ1 H1 M1
    refine ⟨MidO p l Hs H t v w pp W nn 54, ?_, ?_⟩
    · have hv1 : Dq H1 v d := by
        obtain ⟨H0, q, xs, ds, e, g, _⟩ := M1
        exact Dq.same (g.s.trans g.d.s) _ _ hv
      have e1 : σ1[1]? = some (some v) := by
        obtain ⟨H0, q, xs, ds, rfl, g, _⟩ := M1
        rfl
      refine ⟨_, e1, v, d, "str", rfl, by decide, hv1, _, rfl, ?_⟩
      by_cases e : isA "str" d = true
      · refine iteYes e ?_
        cases hv with
        | str x =>
          have gw : x.length ≤ w := hg.wd
          have gx : txS x = true := hg.tx
          have gW : 10 * x.length + 2 ≤ W := hg.wt
          have la : (x ++ ("a" : Str)).length = x.length + 1 := by
            rw [strLen_append]
            rfl
          have lx : (x ++ x).length = x.length + x.length := strLen_append _ _
          obtain ⟨u1, u2⟩ := tx_cut gx (some 1) none
          have s1 : Og w pp W (.str (x ++ ("a" : Str))) := og_str (tx_app gx (by decide +kernel)) (by omega)
          have s2 : Og w pp W (.str (cutS x (some 1) none)) := og_str u1 (by omega)
          have s3 : Og w pp W (.str (x ++ x)) := ⟨by show (x ++ x).length ≤ _; omega, Nat.zero_le _, by show 10 * (x ++ x).length + 2 ≤ _; omega, tx_app gx gx⟩
          have s4 : Og w pp W (.tuple [.str x]) := ⟨by show max 1 (max x.length 0) ≤ _; omega, by show max 0 0 + 1 ≤ _; omega, by show (10 * x.length + 2) + 2 + 0 + 3 ≤ _; omega, by show (txS x && true) = true; rw [gx]; rfl⟩
          have s5 : Og w pp W (.list [.str x]) := ⟨by show max 1 (max x.length 0) ≤ _; omega, by show max 0 0 + 1 ≤ _; omega, by show (10 * x.length + 2) + 2 + 0 + 2 ≤ _; omega, by show (txS x && true) = true; rw [gx]; rfl⟩
          refine mid_add (k := 5) (es := [.str (x ++ ("a" : Str)), .str (cutS x (some 1) none), .str (x ++ x), .tuple [.str x], .list [.str x]]) M1 (fun q => ?_) (Many.cons s1 (Many.cons s2 (Many.cons s3 (Many.cons s4 (Many.cons s5 Many.nil))))) ?_ (by decide) fun _ _ h => h
          · have l1 : ("a" : Str).length = 1 := by decide +kernel
            have lv : LitG p l Hs [some (.ref p), some (.str x), some (.ref q)] (tVar 1) (.str x) := litg_var rfl (.str x)
            exact litsg_cons (litg_opV rfl (fun _ _ q => ⟨x, "a", rfl, rfl, by rw [sizeLine_eq]; omega, q⟩) fun _ => .str _) (litsg_cons (litg_slS rfl (by rw [sizeLine_eq]; omega) part_int part_no)
              (litsg_cons (litg_opVV rfl rfl (fun _ _ q => ⟨x, x, rfl, rfl, by rw [sizeLine_eq]; omega, q⟩) fun _ => .str _) (litsg_cons (litg_tup (litsg_cons lv litsg_nil) (by simp)) (litsg_cons (litg_lst (litsg_cons lv litsg_nil) (by simp)) litsg_nil))))
          · intro y hy
            simp only [List.mem_cons, List.not_mem_nil, or_false] at hy
            rcases hy with rfl | rfl | rfl | rfl | rfl
            · exact Nat.zero_le _
            · exact Nat.zero_le _
            · exact Nat.zero_le _
            · show 1 ≤ nn
              omega
            · exact Nat.zero_le _
        | _ => exact absurd e (by first | decide | (intro z; cases z))
      · refine iteNo (by simpa using e) ?_
        obtain ⟨H0, q, xs, ds, rfl, g, wq, hd, hm, hf, h0⟩ := M1
        exact ⟨H0, q, xs, ds, rfl, g, wq, hd, hm.more (by decide), hf, h0⟩
    clear M1 σ1 H1
    rintro σ1 H1 ⟨H0, q, xs, ds, rfl, g, wq, hd, hm, hf, h0⟩
    have lx := dq_len hd
    have lm := hm.1
    have gt := g.t1
    have gt0 := g.t0
    refine ⟨_, rfl, _, rfl, H0, p, l, t, q, xs, rfl, g.d, t0, by omega, wq.h, wq.ap, wq.al, by omega, by omega, fun H7 i u gv hu7 => ?_⟩
    obtain ⟨d7, h7, q7⟩ := DqAll.at hd hu7
    have m7 := List.mem_of_getElem? h7
    exact k _ _ _ _ _ ((g.trans gv).more (by omega)) q7 ⟨hm.2 d7 m7, hf d7 m7⟩
end
end KL
set_option Elab.async false
set_option linter.all false
set_option maxRecDepth 100000
set_option maxHeartbeats 8000000
namespace KL
open PySem L2 PySem.KX PySem.Spec PyProof.Rows
def rNilT (K : PySem.W.Frag) : R2 := fun x y H Q => ∃ a b xs, x = .ref a ∧ y = .ref b ∧ SqT K H a xs ∧ SqT K H b [] ∧ Q (.bl (!xs.isEmpty)) H
theorem op_neNilT {X : Cx} (hu : X.A.units + 64 < cLine) : OpR X (compareOp .NotEq) (rNilT X.K) := by
  intro pins s σ H x y v u Q I rx ry h
  obtain ⟨a, b, xs, rfl, rfl, ha, hb, q⟩ := h
  cases (show v = Value.ref a from rx)
  cases (show u = Value.ref b from ry)
  obtain ⟨its, r, ⟨o, ho, hc, n, hd⟩, _⟩ := I.tuple ha
  obtain ⟨it2, r2, ⟨o2, ho2, hc2, n2, hd2⟩, _⟩ := I.tuple hb
  cases r2
  refine SeqAt.RcNeAt.tuples (e := fun _ => true) ⟨o, ho, hc, n, hd⟩ ⟨o2, ho2, hc2, n2, hd2⟩ (by omega) (fun j h1 h2 => absurd h2 (Nat.not_lt_zero _)) _ _ _ _ ⟨.bl (!xs.isEmpty), H, I, ?_, q⟩
  cases r with
  | nil => rfl
  | cons _ _ => rfl
theorem pc_take (es : List PyData) (k : Nat) : pc es none (some (k : Int)) = es.take k := by
  show (es.drop 0).take (HT.sIx es.length es.length (some (k : Int)) - 0) = _
  rw [HT.sIx_nat, Nat.sub_zero, List.drop_zero]
  by_cases h : k ≤ es.length
  · rw [Nat.min_eq_left h]
  · rw [Nat.min_eq_right (by omega), List.take_of_length_le (Nat.le_refl _), List.take_of_length_le (by omega)]
theorem pc_drop (es : List PyData) (k : Nat) : pc es (some (k : Int)) none = es.drop k := by
  show (es.drop (HT.sIx es.length 0 (some (k : Int)))).take (es.length - HT.sIx es.length 0 (some (k : Int))) = _
  rw [HT.sIx_nat]
  by_cases h : k ≤ es.length
  · rw [Nat.min_eq_left h, List.take_of_length_le (by rw [List.length_drop]; omega)]
  · rw [Nat.min_eq_right (by omega), Nat.sub_self, List.drop_eq_nil_of_le (by omega : es.length ≤ k)]
    rfl
theorem pc_mid (es : List PyData) (k m : Nat) (h : k ≤ es.length) : pc es (some (k : Int)) (some ((k : Int) + (m : Int))) = (es.drop k).take m := by
  have e : ((k : Int) + (m : Int)) = (((k + m : Nat)) : Int) := by omega
  rw [e]
  show (es.drop (HT.sIx es.length 0 (some (k : Int)))).take (HT.sIx es.length es.length (some ((k + m : Nat) : Int)) - HT.sIx es.length 0 (some (k : Int))) = _
  rw [HT.sIx_nat, HT.sIx_nat, Nat.min_eq_left h]
  by_cases h2 : k + m ≤ es.length
  · rw [Nat.min_eq_left h2]
    congr 1
    omega
  · rw [Nat.min_eq_right (by omega), List.take_of_length_le (by rw [List.length_drop]; omega), List.take_of_length_le (by rw [List.length_drop]; omega)]
theorem wtAll_get {es : List PyData} {i : Nat} {d : PyData} (h : es[i]? = some d) : wtAll es = wtAll (es.take i) + (wt d + 2) + wtAll (es.drop (i + 1)) := by
  obtain ⟨hi, rfl⟩ := List.getElem?_eq_some_iff.mp h
  have h1 := wtAll_cut i es
  have h2 : es.drop i = es[i] :: es.drop (i + 1) := List.drop_eq_getElem_cons hi
  rw [h2] at h1
  have h3 : wtAll (es[i] :: es.drop (i + 1)) = wt es[i] + 2 + wtAll (es.drop (i + 1)) := rfl
  omega
def spBent (n : Nat) : Sp := fun vs H Q _ => ∃ (H0 : Hp) (p l : Addr) (t : Int) (v : V) (d : PyData) (w pp W nn : Nat), vs = [.ref p, v] ∧ DeckAt H0 H p l t ∧ 0 ≤ t ∧ t + 4 * (n : Int) < 1000000 ∧ Dq H0 v d ∧ Gd w pp W d ∧ w ≤ 800 ∧ 3 ≤ nn ∧ (itemsD d).length < nn ∧ pp < n ∧ Gives p l H0 H t (4 * (n : Int)) (OgF w pp W nn) Q
abbrev nBent : List Str := ["_law_deck_here", "_law_it", "_law_at"]
section
variable {P : Program} {w : World} {K : PySem.W.Frag} {mg : Str → Option Value} {base : Heap}
theorem scBent : FnScope nBent ["_law_deck_here", "_law_it"] (defScope lBent) := ⟨rfl, rfl, rfl, by decide +kernel, rfl, by decide +kernel, by decide +kernel⟩
theorem ok_bent1 {f g1 g2 : Addr} {fd gd1 gd2 : FuncData} (F : Fun K "_law_bent" "_law_bent" lBent f fd) (T : TxtB mg) (c0 : Cal K mg "_law_bent" f fd ["_law_deck_here", "_law_it"])
    (G1 : FnOk P w K mg base CX0 1 g1 gd1 ["_law_deck_here", "_law_below"] spDraw) (c1 : Cal K mg "_law_draw" g1 gd1 ["_law_deck_here", "_law_below"])
    (G2 : FnOk P w K mg base CX0 3 g2 gd2 ["_law_deck_here", "_law_it"] spOdd) (c2 : Cal K mg "_law_odd" g2 gd2 ["_law_deck_here", "_law_it"])
    {kk n : Nat} (hk : 3 ≤ kk) (G0 : FnOk P w K mg base CX0 kk f fd ["_law_deck_here", "_law_it"] (spBent n)) :
    FnOk P w K mg base CX0 (kk + 1) f fd ["_law_deck_here", "_law_it"] (spBent (n + 1)) := by
  refine F.ok scBent (fun vs H Q E h => ?_) (fun cdv A outer s H vs Q E hr h => ?_)
  · obtain ⟨H0, p, l, t, v, d, w, pp, W, nn, rfl, _⟩ := h
    rfl
  · obtain ⟨Hs, p, l, t, v, d, w, pp, W, nn, rfl, D, t0, t1, hv, hg, hw, nn3, hfw, hpp, k⟩ := h
    have nd := scBent.nd
    have r1 : Room 1 _ := hr.mono (by omega)
    have r3 : Room 3 _ := hr.mono hk
    have t1' : t + 4 * ((n : Nat) : Int) + 4 < 1000000 := by
      have : ((n + 1 : Nat) : Int) = (n : Int) + 1 := by omega
      omega
    refine ⟨_, pss_cons (ps_if (PW.pt (pw_and (pt_val (pe_callB call_isD (by rfl) T.isi (by decide +kernel) (pa_cons (pv 1) (pa_cons (pe_bltn (v := .ty "tuple") (by rfl) T.tuple (by decide +kernel) rfl) pa_nil)))) (pw_and (pt_cmpR (op_neNilT hr.units) (pv 1) (pe_tup pa_nil) (nomark _)) (pw_and1 (pt_cmpR op_gt (pe_call G1 r1 rfl c1.m c1.k c1.b .nil pass0 (pa_cons (pv 0) (pa_cons pe_int pa_nil))) pe_int (nomark _))))))
        (pss_cons (ps_set (i := 2) nd rfl (.inl rfl) (pe_call G1 r1 rfl c1.m c1.k c1.b .nil pass0 (pa_cons (pv 0) (pa_cons (pe_callB call_len_seq (by rfl) T.len PySem.boot_len (pa_cons (pv 1) pa_nil)) pa_nil))))
        (pss_one (ps_ret (pe_op op_catA (pe_op op_catA (pe_slice sl_tupA (pv 1) po_none (po_some (pv 2))) (pe_tup (pa_cons (pe_call G0 hr rfl c0.m c0.k c0.b .nil pass0 (pa_cons (pv 0) (pa_cons (pe_ix ix_tup (pv 1) (pv 2) (fun _ _ => rfl)) pa_nil))) pa_nil))) (pe_slice sl_tupA (pv 1) (po_some (pe_op op_add (pv 2) pe_int)) po_none))))) pss_nil)
      (pss_one (ps_ret (pe_call G2 r3 rfl c2.m c2.k c2.b .nil pass0 (pa_cons (pv 0) (pa_cons (pv 1) pa_nil))))), ?_⟩
    have hvH := Dq.same D.s _ _ hv
    have oddG : ∀ {H0' H' : Hp} {t' : Int}, Go p l Hs H t H0' H' t' 3 → spOdd [.ref p, v] H' Q (fun _ _ _ => False) := fun {H0' H' t'} g => by
      have gt := g.t1
      have gt0 := g.t0
      exact ⟨H0', p, l, t', v, d, w, pp, W, nn, rfl, g.d, by omega, by omega, Dq.same g.s _ _ hv, hg, hw, nn3, hfw, k.of g (by omega)⟩
    refine ⟨_, rfl, v, d, "tuple", rfl, by decide, hvH, _, rfl, ?_⟩
    by_cases e : isA "tuple" d = true
    · refine iteYes e ?_
      cases hv with
      | tup ha qa =>
        rename_i a ys es
        have gw : max es.length (wdAll es) ≤ w := hg.wd
        have gtt : wtAll es + 3 ≤ W := hg.wt
        have gdp : PyData.depthAll es + 1 ≤ pp := hg.dp
        have fw : es.length < nn := hfw
        have le := dq_len qa
        refine ⟨_, rfl, (by show 0 ≤ sizeLine; decide), fun e0 n0 => ⟨a, e0, ys, rfl, rfl, SqT.of ?_, SqT.of upd_same, _, rfl, ?_⟩⟩
        · have := D.s _ _ ha
          rw [upd_ne (ne_of_none this n0)]
          exact this
        have g0 := (Go.refl D).put0 (o := .tup []) n0
        revert g0
        generalize upd H e0 (.tup []) = H1
        intro g0
        by_cases e1 : ys.isEmpty = true
        · refine iteNo (by rw [e1]; rfl) ?_
          exact iteNo rfl ⟨_, rfl, _, rfl, oddG (g0.more (by omega))⟩
        refine iteYes (by simpa using e1) ?_
        have hpos : 0 < ys.length := by
          cases ys with
          | nil => exact absurd rfl e1
          | cons _ _ => simp
        refine ⟨_, rfl, Hs, p, l, t, 4, rfl, g0.d, t0, by omega, by omega, by omega, fun H2 r g2 r0 r1' => ⟨_, _, rfl, rfl, _, rfl, ?_⟩⟩
        have g3 := (g0.trans g2).more (n' := 1) (by omega)
        by_cases e2 : 0 < r
        · refine iteYes (decide_eq_true e2) ?_
          refine ⟨_, rfl, _, rfl, a, ys, rfl, .inr (SqT.of (g3.d.s _ _ ha)), Hs, p, l, _, _, rfl, g3.d, by omega, by omega, by omega, by rw [le]; omega, fun H3 at' g4 a0 a1 => ?_⟩
          obtain ⟨j, rfl⟩ := Int.eq_ofNat_of_zero_le a0
          have g := (g3.trans g4).more (n' := 3) (by omega)
          have hj : j < es.length := by omega
          have gt := g.t1
          have gt0 := g.t0
          have ha5 := g.s _ _ ha
          have qa5 := DqAll.same g.s _ _ qa
          have c1 := wtAll_cut j es
          have c2 := wtAll_cut (j + 1) es
          refine ⟨_, rfl, _, rfl, _, rfl, ?_⟩
          dsimp only [tNoPart, tPart]
          refine slA_go g.d ha5 qa5 fun B2 A2 v2 z2 a2 k2 e2 f2 d2 => ?_
          subst e2
          have d2 := (congrArg (DqAll B2 z2) (pc_take es j)).mp d2
          have ha2 := k2.s _ _ ha5
          have qa2 := DqAll.same k2.s _ _ qa5
          have hj' : j < ys.length := by omega
          obtain ⟨di, hdi, qdi⟩ := DqAll.at qa2 (List.getElem?_eq_getElem hj')
          have wi := wtAll_get hdi
          have mi := List.mem_of_getElem? hdi
          have gi : Gd w (pp - 1) (wt di) di := ⟨Nat.le_trans (wdAll_mem mi) (by omega), by have := depth_mem mi; omega, Nat.le_refl _, txAll_mem hg.tx mi⟩
          refine ⟨_, rfl, _, rfl, _, rfl, a, ys, _, ys[j], rfl, rfl, SqT.of (k2.d.s _ _ ha2), atI_nat (List.getElem?_eq_getElem hj'), B2, p, l, _, ys[j], di, w, pp - 1, wt di, (itemsD di).length + 3, rfl, k2.d, by omega, by omega, qdi, gi, hw, by omega, by omega, by omega, fun B3 A3 t3 v3 d3 k3 q3 g3' => ?_⟩
          obtain ⟨g3', _⟩ := g3'
          have gt3 := k3.t1
          have gt30 := k3.t0
          refine ⟨(by show 1 ≤ sizeLine; decide), fun e4 n4 => ?_⟩
          have k4 := (Go.refl k3.d).new (o := .tup [v3]) n4
          have f4 : upd B3 e4 (.tup [v3]) e4 = some (.tup [v3]) := upd_same
          have d4 : DqAll (upd B3 e4 (.tup [v3])) [v3] [d3] := .cons (Dq.same k4.s _ _ q3) .nil
          have d2 := DqAll.same (k3.s.trans k4.s) _ _ d2
          have f2 := (k3.s.trans k4.s) _ _ f2
          have ha4 := (k3.s.trans k4.s) _ _ ha2
          have qa4 := DqAll.same (k3.s.trans k4.s) _ _ qa2
          revert k4 f4 d4 d2 f2 ha4 qa4
          generalize upd A3 e4 (.tup [v3]) = A4
          generalize upd B3 e4 (.tup [v3]) = B4
          intro k4 f4 d4 d2 f2 ha4 qa4
          refine catA_go k4.d f2 f4 d2 d4 ?_ fun B5 A5 v5 k5 d5 => ?_
          · rw [dq_len d2, List.length_take, sizeLine_eq]
            show min j es.length + 1 ≤ _
            omega
          have ha5' := k5.s _ _ ha4
          have qa5' := DqAll.same k5.s _ _ qa4
          refine ⟨_, rfl, _, rfl, _, _, rfl, rfl, _, rfl, ?_⟩
          dsimp only [tNoPart, tPart]
          refine slA_go k5.d ha5' qa5' fun B6 A6 v6 z6 a6 k6 e6 f6 d6 => ?_
          subst e6
          have d6 := (congrArg (DqAll B6 z6) (pc_drop es (j + 1))).mp d6
          have d5' := Dq.same k6.s _ _ d5
          cases d5' with
          | tup f5 d5 =>
            refine catA_go k6.d f5 f6 d5 d6 ?_ fun B7 A7 v7 k7 d7 => ?_
            · rw [dq_len d5, dq_len d6, List.length_append, List.length_take, List.length_drop, sizeLine_eq]
              show min j es.length + 1 + _ ≤ _
              omega
            · refine k _ _ _ _ _ (((g.trans (k2.trans (k3.trans (k4.trans (k5.trans (k6.trans k7))))))).more (by omega)) d7 ⟨?_, ?_⟩
              rotate_left
              · show (es.take j ++ [d3] ++ es.drop (j + 1)).length ≤ nn
                rw [List.length_append, List.length_append, List.length_take, List.length_drop]
                show min j es.length + 1 + _ ≤ nn
                omega
              have m3 := g3'.wd
              have p3 := g3'.dp
              have w3 := g3'.wt
              refine ⟨?_, ?_, ?_, ?_⟩
              · refine Nat.max_le.mpr ⟨?_, wdAll_bound fun x hx => ?_⟩
                · rw [List.length_append, List.length_append, List.length_take, List.length_drop]
                  show min j es.length + 1 + _ ≤ _
                  omega
                · rcases List.mem_append.mp hx with z | z
                  · rcases List.mem_append.mp z with z | z
                    · exact Nat.le_trans (wdAll_mem (List.mem_of_mem_take z)) (by omega)
                    · rw [List.mem_singleton.mp z]
                      exact m3
                  · exact Nat.le_trans (wdAll_mem (List.mem_of_mem_drop z)) (by omega)
              · refine Nat.succ_le_succ (dpAll_bound fun x hx => ?_)
                rcases List.mem_append.mp hx with z | z
                · rcases List.mem_append.mp z with z | z
                  · exact Nat.le_trans (depth_mem (List.mem_of_mem_take z)) (by omega)
                  · rw [List.mem_singleton.mp z]
                    omega
                · exact Nat.le_trans (depth_mem (List.mem_of_mem_drop z)) (by omega)
              · show wtAll _ + 3 ≤ _
                rw [wtAll_app, wtAll_app]
                have : wtAll [d3] = wt d3 + 2 := rfl
                omega
              · refine txAll_bound fun x hx => ?_
                rcases List.mem_append.mp hx with z | z
                · rcases List.mem_append.mp z with z | z
                  · exact txAll_mem hg.tx (List.mem_of_mem_take z)
                  · rw [List.mem_singleton.mp z]
                    exact g3'.tx
                · exact txAll_mem hg.tx (List.mem_of_mem_drop z)
        · refine iteNo (decide_eq_false e2) ?_
          exact ⟨_, rfl, _, rfl, oddG (g3.more (by omega))⟩
      | _ => exact absurd e (by first | decide | (intro z; cases z))
    · refine iteNo (by simpa using e) ?_
      exact iteNo rfl ⟨_, rfl, _, rfl, oddG ((Go.refl D).more (by omega))⟩
/-- at any depth -/
theorem ok_bent {f g1 g2 : Addr} {fd gd1 gd2 : FuncData} (F : Fun K "_law_bent" "_law_bent" lBent f fd) (T : TxtB mg) (c0 : Cal K mg "_law_bent" f fd ["_law_deck_here", "_law_it"])
    (G1 : FnOk P w K mg base CX0 1 g1 gd1 ["_law_deck_here", "_law_below"] spDraw) (c1 : Cal K mg "_law_draw" g1 gd1 ["_law_deck_here", "_law_below"])
    (G2 : FnOk P w K mg base CX0 3 g2 gd2 ["_law_deck_here", "_law_it"] spOdd) (c2 : Cal K mg "_law_odd" g2 gd2 ["_law_deck_here", "_law_it"]) :
    ∀ n : Nat, FnOk P w K mg base CX0 (n + 3) f fd ["_law_deck_here", "_law_it"] (spBent n)
  | 0 => ⟨fun vs H Q E h => by obtain ⟨_, _, _, _, _, _, _, _, _, _, _, _, _, _, _, _, _, _, _, hpp, _⟩ := h; exact absurd hpp (Nat.not_lt_zero _), fun A outer s H args us vs Q E _ _ _ _ h => by obtain ⟨_, _, _, _, _, _, _, _, _, _, _, _, _, _, _, _, _, _, _, hpp, _⟩ := h; exact absurd hpp (Nat.not_lt_zero _)⟩
  | n + 1 => ok_bent1 F T c0 G1 c1 G2 c2 (by omega) (ok_bent F T c0 G1 c1 G2 c2 n)
end
end KL
set_option Elab.async false
set_option linter.all false
set_option maxRecDepth 100000
set_option maxHeartbeats 8000000
namespace KL
open PySem L2 PySem.KX PySem.Spec PyProof.Rows
/-! ### the reader, or the part that is told -/
abbrev pInit4 : List Str := ["self", "states", "first", "moves", "ends"]
abbrev kInit4 : List Str := ["ends", "moves", "first", "states"]
structure TxtH (K : PySem.W.Frag) (mg : Str → Option Value) (CB IB C fI : Addr) (fdI : FuncData) : Prop where
  e : TxtE K mg CB IB
  ex : PySem.W.exmOne K (.ref CB) (.ref CB) = some true
  mkd : Mk K C fI
  mC : mg "Reader" = some (.ref C)
  b : L2.Binds K fdI pInit4 []
  kb : ∀ (s2 : Shared) (a : Addr) (ws : List Value), K.In s2.heap → ws.length = kInit4.length → BindsTo s2 fdI ⟨[.ref a], kInit4.zip ws⟩ (pInit4.zip (.ref a :: ws.reverse))
/-- what the four are like that are handed to the class -/
structure Four (d0 d1 d2 d3 : PyData) : Prop where
  g0 : Gd 900 8 60000 d0
  g1 : Gd 900 8 60000 d1
  g2 : Gd 900 8 60000 d2
  g3 : Gd 900 8 60000 d3
  f2 : few d2
  f3 : few d3
theorem ok_char : ∀ c : Nat, c < 128 → PyData.strOk ⟨#[c]⟩ = true := by decide +kernel
theorem okS_tx {x : Str} (h : txS x = true) : okS x = true := by
  have a : ∀ c ∈ x.cps.toList, c < 128 := fun c hc => of_decide_eq_true (List.all_eq_true.mp h c hc)
  unfold okS PyData.strOk
  simp only [Array.all_eq_true, ← Array.all_toList, List.all_eq_true] at *
  intro c hc
  have h1 := ok_char c (a c hc)
  unfold PyData.strOk at h1
  simpa using h1
mutual
theorem okD_tx : ∀ d : PyData, txD d = true → okD d = true
  | .str x, h => okS_tx h
  | .list ds, h => okAll_tx ds h
  | .tuple ds, h => okAll_tx ds h
  | .none, _ => rfl
  | .bool _, _ => rfl
  | .int _, _ => rfl
  | .dict _, _ => rfl
theorem okAll_tx : ∀ ds : List PyData, txAll ds = true → okAll ds = true
  | [], _ => rfl
  | d :: r, h => by
    have h := Bool.and_eq_true_iff.mp (show (txD d && txAll r) = true from h)
    show (okD d && okAll r) = true
    rw [okD_tx d h.1, okAll_tx r h.2]
    rfl
end
theorem Four.sm {d0 d1 d2 d3 : PyData} (h : Four d0 d1 d2 d3) : smB d0 = true ∧ smB d1 = true ∧ smB d2 = true ∧ smB d3 = true :=
  ⟨(sm_wd _ (Nat.le_trans h.g0.wd (by decide))).1, (sm_wd _ (Nat.le_trans h.g1.wd (by decide))).1, (sm_wd _ (Nat.le_trans h.g2.wd (by decide))).1, (sm_wd _ (Nat.le_trans h.g3.wd (by decide))).1⟩
def spHeard (C : Addr) : Sp := fun vs H Q _ => ∃ (q : Addr) (nm : Bool) (v0 v1 v2 v3 : V) (d0 d1 d2 d3 : PyData), vs = [.ref q, .bl nm] ∧ H q = some (.tup [v0, v1, v2, v3]) ∧ Dq H v0 d0 ∧ Dq H v1 d1 ∧ Dq H v2 d2 ∧ Dq H v3 d3 ∧ Four d0 d1 d2 d3 ∧
  (dueR d0 d1 d2 d3 = none → ∀ H' x dx fs, Same H H' → H' x = some (.ins C dx fs) → fsR v0 v1 v2 v3 fs → Q (.ref x) H') ∧ ∀ wd, dueR d0 d1 d2 d3 = some wd → ∀ H', Same H H' → Q (.str wd) H'
def sHeardS : List Stmt := match (defBody lHeard).getD 1 (.Pass ⟨0, 0, 0, 0⟩) with
  | .Try _ [.ExceptHandler _ _ b _] _ _ _ => b
  | _ => []
section
variable {P : Program} {w : World} {K : PySem.W.Frag} {mg : Str → Option Value} {base : Heap} {C CB IB fI : Addr} {fdI : FuncData}
abbrev nHeard : List Str := ["_law_some", "_law_is_named", "_law_found", "e"]
theorem scHeard : FnScope nHeard ["_law_some", "_law_is_named"] (defScope lHeard) := ⟨rfl, rfl, rfl, by decide +kernel, rfl, by decide +kernel, by decide +kernel⟩
def tSuH (CB : Addr) (a : Addr) (cls : Value) (d : Option Addr) : TS := tAsg (tXf a cls d CB "part" (tVar 3)) (gName 2)
theorem ok_heard {f : Addr} {fd : FuncData} (F : Fun K "_law_heard" "_law_heard" lHeard f fd) (TC : TxtH K mg CB IB C fI fdI) (G : FnOk P w K mg base (L2.CX P w) 5 fI fdI pInit4 (spRInitX C CB)) : FnOk P w K mg base CX0 7 f fd ["_law_some", "_law_is_named"] (spHeard C) := by
  refine F.ok scHeard (fun vs H Q E h => ?_) (fun cdv A outer s H vs Q E hr h => ?_)
  · obtain ⟨q, nm, v0, v1, v2, v3, d0, d1, d2, d3, rfl, _⟩ := h
    rfl
  · obtain ⟨q, nm, v0, v1, v2, v3, d0, d1, d2, d3, rfl, hq, q0, q1, q2, q3, hF, k, kE⟩ := h
    let X0 : Cx := (cxOf CX0 P w K mg base nHeard "_law_heard" (defScope lHeard) f cdv A outer s H E).nox
    have su : ∀ (a : Addr) (oe : Obj) (cls : Value) (d : Option Addr) (pn : List (Addr × Obj)), Zc cls d oe → (∃ vs, oe.data = .fields vs) → PSs (X0.suite a ((a, oe) :: pn)) sHeardS (tSuH CB a cls d) := fun a oe cls d pn hz hf =>
      pss_one (ps_set (i := 2) scHeard.nd rfl (.inl rfl) (pe_xf (X := X0) (n := "part") (C := CB) ⟨TC.e.ei.c.is.hg, TC.e.ei.c.is.hk, TC.e.ei.c.is.hs, TC.e.ei.c.hd⟩ TC.e.ei.nf hz hf (pv 3)))
    refine ⟨_, pss_cons (ps_set (i := 2) scHeard.nd rfl (.inl rfl) pe_non)
      (pss_cons (ps_try_as (X := X0) (i := 3) (ts := tSuH CB) (Wout := fun _ _ _ _ => False) rfl rfl scHeard.nd rfl rfl ⟨rfl, by decide, .inl TC.e.m⟩ takes0 (fun W pn xe tk _ => pss_one (ps_if (pt_val (pv 1))
        (pss_one (ps_set (i := 2) scHeard.nd rfl (.inl rfl) (pe_mkKS (ks := kInit4) TC.mkd G (hr.mono (by decide)) (by rfl) TC.mC TC.kb (passAt tk) (pk_cons (pe_ix (r := rIxT K) ix_tup (pv 0) pe_int (fun _ _ => rfl)) (pk_cons (pe_ix (r := rIxT K) ix_tup (pv 0) pe_int (fun _ _ => rfl)) (pk_cons (pe_ix (r := rIxT K) ix_tup (pv 0) pe_int (fun _ _ => rfl)) (pk_cons (pe_ix (r := rIxT K) ix_tup (pv 0) pe_int (fun _ _ => rfl)) pk_nil)))))))
        (pss_one (ps_set (i := 2) scHeard.nd rfl (.inl rfl) (pe_mkS TC.mkd G (hr.mono (by decide)) (by rfl) TC.mC TC.b (passAt tk) (pa_cons (pe_ix (r := rIxT K) ix_tup (pv 0) pe_int (fun _ _ => rfl)) (pa_cons (pe_ix (r := rIxT K) ix_tup (pv 0) pe_int (fun _ _ => rfl)) (pa_cons (pe_ix (r := rIxT K) ix_tup (pv 0) pe_int (fun _ _ => rfl)) (pa_cons (pe_ix (r := rIxT K) ix_tup (pv 0) pe_int (fun _ _ => rfl)) pa_nil))))))))) su)
      (pss_one (ps_ret (pv 2)))), ?_⟩
    have S2 : ∀ x dx, H x = none → H dx = none → Same H (upd (upd H dx (.own x)) x (.ins C dx [])) := fun x dx n1 n2 b o e => by
      rw [upd_ne (ne_of_none e n1), upd_ne (ne_of_none e n2)]
      exact e
    have sm := hF.sm
    have o2 := okD_tx _ hF.g2.tx
    have o3 := okD_tx _ hF.g3.tx
    refine ⟨_, rfl, nm, rfl, ?_⟩
    by_cases hn : nm = true
    · refine iteYes hn ⟨_, rfl, q, _, _, _, rfl, rfl, SqT.of hq, rfl, _, rfl, q, _, _, _, rfl, rfl, SqT.of hq, rfl, _, rfl, q, _, _, _, rfl, rfl, SqT.of hq, rfl, _, rfl, q, _, _, _, rfl, rfl, SqT.of hq, rfl, rfl, fun x dx nx ndx ne => ?_⟩
      refine ⟨H, x, dx, v0, v1, v2, v3, d0, d1, d2, d3, rfl, S2 x dx nx ndx, nx, upd_same, q0, q1, q2, q3, sm, o2, o3, fun hn H' fs SH fx hfs => ⟨rfl, _, rfl, k hn H' x dx fs SH fx hfs⟩, fun wd hE H' dd SH hd => ⟨true, TC.ex, fun _ a ha => ?_, fun z => nomatch z⟩⟩
      exact ⟨_, rfl, rfl, rfl, dd, _, _, rfl, hd, rfl, _, rfl, kE wd hE _ SH⟩
    · refine iteNo (by simpa using hn) ⟨_, rfl, q, _, _, _, rfl, rfl, SqT.of hq, rfl, _, rfl, q, _, _, _, rfl, rfl, SqT.of hq, rfl, _, rfl, q, _, _, _, rfl, rfl, SqT.of hq, rfl, _, rfl, q, _, _, _, rfl, rfl, SqT.of hq, rfl, fun x dx nx ndx ne => ?_⟩
      refine ⟨H, x, dx, v0, v1, v2, v3, d0, d1, d2, d3, rfl, S2 x dx nx ndx, nx, upd_same, q0, q1, q2, q3, sm, o2, o3, fun hn H' fs SH fx hfs => ⟨rfl, _, rfl, k hn H' x dx fs SH fx hfs⟩, fun wd hE H' dd SH hd => ⟨true, TC.ex, fun _ a ha => ?_, fun z => nomatch z⟩⟩
      exact ⟨_, rfl, rfl, rfl, dd, _, _, rfl, hd, rfl, _, rfl, kE wd hE _ SH⟩
/-- repr of a text -/
theorem call_repS {X : Cx} : CallR X (.builtin "repr") (fun xs H Q => ∃ x, xs = [.str x] ∧ (reprText x).length ≤ sizeLine ∧ Q (.str (reprText x)) H) := by
  intro pins s σ H xs us Q I r h
  obtain ⟨x, rfl, hz, q⟩ := h
  obtain ⟨u, rfl, t, rfl⟩ := vals1 r
  exact PySem.P.repr_of_str ⟨.str _, H, I.tok _, ⟨_, rfl⟩, q⟩ hz
theorem due_word {d0 d1 d2 d3 : PyData} {wd : Str} (h : dueR d0 d1 d2 d3 = some wd) : (reprText wd).length ≤ sizeLine := by
  have : wd = "states" ∨ wd = "first" ∨ wd = "moves" ∨ wd = "ends" := by
    unfold dueR at h
    split at h
    · exact .inl (Option.some.inj h).symm
    split at h
    · exact .inr (.inl (Option.some.inj h).symm)
    split at h
    · exact .inr (.inr (.inl (Option.some.inj h).symm))
    split at h
    · exact .inr (.inr (.inr (Option.some.inj h).symm))
    · cases h
  rcases this with rfl | rfl | rfl | rfl <;> decide +kernel
end
end KL
set_option Elab.async false
set_option linter.all false
set_option maxRecDepth 100000
set_option maxHeartbeats 8000000
namespace KL
open PySem L2 PySem.KX PySem.Spec PyProof.Rows
/-! ### readings of which one knows the value that they hand back, by data -/
def LitAt (σ : L2.St) (H0 : Hp) (t : TE) (d : PyData) : Prop := ∀ H Q, Same H0 H → (∀ H' v, Same H H' → Dq H' v d → Q v H') → t σ H Q
def LitsAt (σ : L2.St) (H0 : Hp) (t : TA) (ds : List PyData) : Prop := ∀ H Q, Same H0 H → (∀ H' vs, Same H H' → DqAll H' vs ds → Q vs H') → t σ H Q
section
variable {σ : L2.St} {H0 : Hp}
theorem lit_int {i : Int} : LitAt σ H0 (tC (.int i)) (.int i) := fun H Q _ k => k H _ (Same.refl _) (.int i)
theorem lit_str {x : Str} : LitAt σ H0 (tC (.str x)) (.str x) := fun H Q _ k => k H _ (Same.refl _) (.str x)
theorem lit_bl {b : Bool} : LitAt σ H0 (tC (.bl b)) (.bool b) := fun H Q _ k => k H _ (Same.refl _) (.bl b)
theorem lit_non : LitAt σ H0 (tC .non) .none := fun H Q _ k => k H _ (Same.refl _) .non
theorem lit_dict : LitAt σ H0 tDNewK (.dict []) := fun H Q _ k p np => k _ _ (same_new np) (.dct0 upd_same)
theorem lits_nil : LitsAt σ H0 tNil [] := fun H Q _ k => k H _ (Same.refl _) .nil
theorem lits_cons {t : TE} {ts : TA} {d : PyData} {ds : List PyData} (h : LitAt σ H0 t d) (hs : LitsAt σ H0 ts ds) : LitsAt σ H0 (tCons t ts) (d :: ds) := fun H Q S k =>
  h H _ S fun H1 v S1 d1 => hs H1 _ (S.trans S1) fun H2 vs S2 d2 => k H2 _ (S1.trans S2) (.cons (Dq.same S2 _ _ d1) d2)
theorem lit_tup {ts : TA} {ds : List PyData} (hs : LitsAt σ H0 ts ds) (hn : ds.length ≤ 1000) : LitAt σ H0 (tTup ts) (.tuple ds) := fun H Q S k =>
  hs H _ S fun H1 vs S1 d1 => ⟨by rw [d1.len, sizeLine_eq]; omega, fun p np => k _ _ (S1.trans (same_new np)) (dq_new np d1)⟩
theorem lit_lst {ts : TA} {ds : List PyData} (hs : LitsAt σ H0 ts ds) (hn : ds.length ≤ 1000) : LitAt σ H0 (tLst ts) (.list ds) := fun H Q S k =>
  hs H _ S fun H1 vs S1 d1 => ⟨by rw [d1.len, sizeLine_eq]; omega, fun p np => k _ _ (S1.trans (same_new np)) (.lst upd_same (DqAll.same (same_new np) _ _ d1))⟩
theorem lit_var {i : Nat} {v : V} {d : PyData} (e : σ[i]? = some (some v)) (h : Dq H0 v d) : LitAt σ H0 (tVar i) d := fun H Q S k => ⟨v, e, k H v (Same.refl _) (Dq.same S _ _ h)⟩
end
theorem asg_lst {σ : L2.St} {H0 : Hp} {ts : TA} {ds : List PyData} {i : Nat} {D : Ends} (hs : LitsAt σ H0 ts ds) (hn : ds.length ≤ 1000) (k : ∀ J p vs, Same H0 J → J p = none → DqAll J vs ds → D.nx (σ.set i (some (.ref p))) (upd J p (.lst vs))) : tAsg (tLst ts) (gName i) D σ H0 :=
  hs H0 _ (Same.refl _) fun J vs S d => ⟨by rw [d.len, sizeLine_eq]; omega, fun p np => k J p vs S np d⟩
mutual
theorem lay_plain : ∀ d : PyData, plainD d = true → txD d = true → d.canLay0 = true
  | .int _, _, _ => rfl
  | .str x, _, h => okS_tx h
  | .tuple ds, p, h => lay_plains ds p h
theorem lay_plains : ∀ ds : List PyData, plainAll ds = true → txAll ds = true → PyData.canLayAll0 ds = true
  | [], _, _ => rfl
  | d :: r, p, h => by
    have p := Bool.and_eq_true_iff.mp (show (plainD d && plainAll r) = true from p)
    have h := Bool.and_eq_true_iff.mp (show (txD d && txAll r) = true from h)
    show (d.canLay0 && PyData.canLayAll0 r) = true
    rw [lay_plain d p.1 h.1, lay_plains r p.2 h.2]
    rfl
end
theorem shaped_plain {d : PyData} {w p W : Nat} (hp : plainD d = true) (g : Gd w p W d) (h : p ≤ 60) : SeqAt.shaped d = true := by
  unfold SeqAt.shaped
  rw [Bool.and_eq_true]
  exact ⟨lay_plain d hp g.tx, decide_eq_true (by have := g.dp; omega)⟩
theorem plain_strs : ∀ w : List Str, plainAll (w.map .str) = true
  | [] => rfl
  | _ :: w => plain_strs w
theorem plain_mvs : ∀ mv : List Mv, plainAll (mv.map mvD) = true
  | [] => rfl
  | x :: mv => by
    show ((true && (true && (plainAll (x.w.map .str) && (true && true)))) && plainAll (mv.map mvD)) = true
    rw [plain_strs, plain_mvs mv]
    rfl
theorem plain_ens : ∀ en : List (Int × List Str), plainAll (en.map enD) = true
  | [] => rfl
  | e :: en => by
    show ((true && (plainAll (e.2.map .str) && true)) && plainAll (en.map enD)) = true
    rw [plain_strs, plain_ens en]
    rfl
/-- four parts that are right: none is a bool, a list -/
theorem four_plain {d0 d1 d2 d3 : PyData} (F : Four d0 d1 d2 d3) (h : dueR d0 d1 d2 d3 = none) : ∃ r : Rdr, d0 = .int r.n ∧ 1 ≤ r.n ∧ r.n ≤ 10000 ∧ plainD d0 = true ∧ plainD d1 = true ∧ plainD d2 = true ∧ plainD d3 = true ∧ sh4 d0 d1 d2 d3 := by
  obtain ⟨m0, m1, m2, m3⟩ := F.sm
  obtain ⟨r, rfl, rfl, rfl, rfl, R⟩ := right_of h m0 m1 m2 m3 (okD_tx _ F.g2.tx) (okD_tx _ F.g3.tx)
  have b0 := (due_none h).1
  have b0 := Bool.and_eq_true_iff.mp (show (decide ((1 : Int) ≤ r.n) && decide (r.n ≤ 10000)) = true from b0)
  have p1 : plainD (strsD r.first) = true := plain_strs _
  have p2 : plainD (mvsD r) = true := plain_mvs _
  have p3 : plainD (ensD r) = true := plain_ens _
  exact ⟨r, rfl, of_decide_eq_true b0.1, of_decide_eq_true b0.2, rfl, p1, p2, p3, rfl, shaped_plain p1 F.g1 (by decide), shaped_plain p2 F.g2 (by decide), shaped_plain p3 F.g3 (by decide)⟩
theorem four_seen {d0 d1 d2 d3 : PyData} (F : Four d0 d1 d2 d3) : Seen (.tuple [d0, d1, d2, d3]) := by
  have t : txD (.tuple [d0, d1, d2, d3]) = true := by
    show (txD d0 && (txD d1 && (txD d2 && (txD d3 && true)))) = true
    rw [F.g0.tx, F.g1.tx, F.g2.tx, F.g3.tx]
    rfl
  have b0 := F.g0.wd
  have b1 := F.g1.wd
  have b2 := F.g2.wd
  have b3 := F.g3.wd
  have c0 := F.g0.wt
  have c1 := F.g1.wt
  have c2 := F.g2.wt
  have c3 := F.g3.wt
  have e0 := F.g0.dp
  have e1 := F.g1.dp
  have e2 := F.g2.dp
  have e3 := F.g3.dp
  refine ⟨(sm_wd (.tuple [d0, d1, d2, d3]) ?_).2, Nat.le_trans (shown_wt _ t) ?_, ?_⟩
  · show max 4 (max (wd d0) (max (wd d1) (max (wd d2) (max (wd d3) 0)))) ≤ 1000
    omega
  · show (wt d0 + 2 + (wt d1 + 2 + (wt d2 + 2 + (wt d3 + 2 + 0)))) + 3 ≤ 4000000
    omega
  · show max d0.depth (max d1.depth (max d2.depth (max d3.depth 0))) + 1 ≤ 20
    omega
theorem ne_self' {x : V} : (!decide (x = x)) = false := by rw [decide_eq_true rfl]; rfl
def spRight : Sp := fun vs H Q _ => ∃ (q : Addr) (nm : Bool) (v0 v1 v2 v3 : V) (d0 d1 d2 d3 : PyData), vs = [.ref q, .bl nm] ∧ H q = some (.tup [v0, v1, v2, v3]) ∧ Dq H v0 d0 ∧ Dq H v1 d1 ∧ Dq H v2 d2 ∧ Dq H v3 d3 ∧ Four d0 d1 d2 d3 ∧ ∀ H', Same H H' → Q (.bl true) H'
/-- the class, as it is asked of its methods -/
structure RdrFns (P : Program) (w : World) (K : PySem.W.Frag) (mg : Str → Option Value) (base : Heap) (C CB fI fE fL : Addr) (dI dE dL : FuncData) : Prop where
  I : FnOk P w K mg base (L2.CX P w) 5 fI dI pInit4 (spRInitX C CB)
  mkd : Mk K C fI
  bI : L2.Binds K dI pInit4 []
  E : FnOk P w K mg base CX0 3 fE dE ["self", "other"] (spREq C)
  sE : PySem.W.findIn K (.ref C) "__eq__" = some (some (.ref fE))
  iE : PySem.W.isFn K (.ref fE) = true
  bE : L2.Binds K dE ["self", "other"] []
  ne : PySem.W.findIn K (.ref C) "__ne__" = some (some (.builtin "object.__ne__"))
  ob : PySem.W.mroIn K C (.type "object") = some true
  L : FnOk P w K mg base CX0 1 fL dL ["self"] (spRLen C)
  sL : PySem.W.findIn K (.ref C) "__len__" = some (some (.ref fL))
  iL : PySem.W.isFn K (.ref fL) = true
  bL : L2.Binds K dL ["self"] []
abbrev nRight : List Str := ["_law_some", "_law_is_named", "_law_was", "_law_due_here", "_law_heard_here", "_law_told", "_law_odd_here", "_law_it"]
section
variable {P : Program} {w : World} {K : PySem.W.Frag} {mg : Str → Option Value} {base : Heap} {C CB fI fE fL : Addr} {dI dE dL : FuncData}
theorem scRight : FnScope nRight ["_law_some", "_law_is_named"] (defScope lRight) := ⟨rfl, rfl, rfl, by decide +kernel, rfl, by decide +kernel, by decide +kernel⟩
theorem ok_right {f g1 g2 : Addr} {fd gd1 gd2 : FuncData} (F : Fun K "_law_right" "_law_right" lRight f fd) (T : TxtG mg) (TB : TxtB mg) (TR : TxtR K mg C) (TQ : TxtQ K C) (mC : mg "Reader" = some (.ref C)) (R : RdrFns P w K mg base C CB fI fE fL dI dE dL)
    (G1 : FnOk P w K mg base CX0 3 g1 gd1 ["_law_some"] spDue) (c1 : Cal K mg "_law_due" g1 gd1 ["_law_some"])
    (G2 : FnOk P w K mg base CX0 7 g2 gd2 ["_law_some", "_law_is_named"] (spHeard C)) (c2 : Cal K mg "_law_heard" g2 gd2 ["_law_some", "_law_is_named"]) :
    FnG P w K mg base CX0 8 f fd ["_law_some", "_law_is_named"] spRight := by
  refine fnG0 F scRight (fun vs H Q E h => ?_) (fun cdv A outer s H vs Q E hG hr h => ?_)
  · obtain ⟨q, nm, v0, v1, v2, v3, d0, d1, d2, d3, rfl, _⟩ := h
    rfl
  · obtain ⟨q, nm, v0, v1, v2, v3, d0, d1, d2, d3, rfl, hq, q0, q1, q2, q3, hF, k⟩ := h
    have nd := scRight.nd
    let X0 : Cx := (cxOf CX0 P w K mg base nRight "_law_right" (defScope lRight) f cdv A outer s H E).nox
    refine ⟨_, pss_cons (ps_asg (g := gTup K 3 (gCons (gName 2) (gCons (gName 3) (gCons (gName 4) gNil)))) (pe_tup (pa_cons (pe_callB (call_repT (X := X0) hG hr.units) (by rfl) T.repr (by decide +kernel) (pa_cons (pv 0) pa_nil)) (pa_cons (pe_call G1 (hr.mono (by decide)) (by rfl) c1.m c1.k c1.b .nil pass0 (pa_cons (pv 0) pa_nil)) (pa_cons (pe_call G2 hr (by rfl) c2.m c2.k c2.b .nil pass0 (pa_cons (pv 0) (pa_cons (pv 1) pa_nil))) pa_nil)))) (pg_tup rfl (pgs_cons (pg_name (i := 2) nd rfl (.inl rfl)) (pgs_cons (pg_name (i := 3) nd rfl (.inl rfl)) (pgs_cons (pg_name (i := 4) nd rfl (.inr rfl)) pgs_nil)))))
      (pss_cons (ps_if (PW.pt (pw_or (pt_cmpR op_ne (pe_callB (call_repT (X := X0) hG hr.units) (by rfl) T.repr (by decide +kernel) (pa_cons (pv 0) pa_nil)) (pv 2) (nomark _)) (pw_or1 (pt_cmpR op_notN (pv 3) pe_non (nomark _)))))
        (pss_one (ps_ret (pe_cmpR op_eq (pe_callB (call_repS (X := X0)) (by rfl) T.repr (by decide +kernel) (pa_cons (pv 4) pa_nil)) (pe_callB (call_repS (X := X0)) (by rfl) T.repr (by decide +kernel) (pa_cons (pv 3) pa_nil)) (nomark _)))) pss_nil)
      (pss_cons (ps_if (pt_not (pt_val (pe_callB call_isi (by rfl) TB.isi (by decide +kernel) (pa_cons (pv 4) (pa_cons (pe_glob (v := .ref C) (by rfl) mC rfl) pa_nil))))) (pss_one (ps_ret pe_bl)) pss_nil)
      (pss_cons (ps_set (i := 5) nd rfl (.inl rfl) (pe_tup (pa_cons (pe_fld (pv 4) (by rfl)) (pa_cons (pe_fld (pv 4) (by rfl)) (pa_cons (pe_fld (pv 4) (by rfl)) (pa_cons (pe_fld (pv 4) (by rfl)) pa_nil))))))
      (pss_cons (ps_if (PW.pt (pw_or (pt_cmpR op_ne (pe_callB (call_repT (X := X0) hG hr.units) (by rfl) T.repr (by decide +kernel) (pa_cons (pv 5) pa_nil)) (pv 2) (nomark _)) (pw_or (pt_cmpR op_ne (pe_callB (cr_lenOwn (X := X0) R.L R.sL R.iL R.bL (E := E0) pass0 (hr.mono (by decide))) (by rfl) TB.len (by decide +kernel) (pa_cons (pv 4) pa_nil)) (pe_ix (r := rIxT K) ix_tup (pv 0) pe_int (fun _ _ => rfl)) (nomark _))
          (pw_or1 (pt_not (pt_cmpR (op_eqOwn (X := X0) R.E R.sE R.iE R.bE (E := E0) pass0 (hr.mono (by decide))) (pv 4) (pe_make R.mkd R.I (hr.mono (by decide)) (by rfl) mC R.bI .nil passL (pa_cons (pe_ix (r := rIxT K) ix_tup (pv 0) pe_int (fun _ _ => rfl)) (pa_cons (pe_ix (r := rIxT K) ix_tup (pv 0) pe_int (fun _ _ => rfl)) (pa_cons (pe_ix (r := rIxT K) ix_tup (pv 0) pe_int (fun _ _ => rfl)) (pa_cons (pe_ix (r := rIxT K) ix_tup (pv 0) pe_int (fun _ _ => rfl)) pa_nil))))) (nomark _)))))))
        (pss_one (ps_ret pe_bl)) pss_nil)
      (pss_cons (ps_set (i := 6) nd rfl (.inl rfl) (pe_lst (pa_cons pe_non (pa_cons pe_int (pa_cons pe_str (pa_cons (pe_tup pa_nil) (pa_cons (pv 0) (pa_cons (pe_lst (pa_cons (pv 0) pa_nil)) (pa_cons pe_dnewK (pa_cons pe_bl pa_nil))))))))))
      (pss_one (ps_ret (pe_and (pe_cmpR (op_eqNil hr.units) (pe_lc (own := [("_law_it", 7)]) (g := gName 7) (tt := tTest (tOp (rOwn false K C (spREq C) E0) (tVar 4) (tVar 7))) rfl nd (pi_list (pv 6)) (blkOk_by (N := nRight) (sc := defScope lRight) (by decide +kernel)) (fun _ _ _ _ _ => pg_name (i := 7) nd rfl (.inl rfl))
            (fun _ _ _ _ _ => pts_one (pt_cmpR (op_eqOwn R.E R.sE R.iE R.bE (E := E0) pass0 (hr.mono (by decide))) (pv 4) (pv 7) (nomark _))) (fun _ _ _ _ _ => pv 7)) (pe_lst pa_nil) (nomark _))
          (pe_one (pe_cmpR (op_eqNil hr.units) (pe_lc (own := [("_law_it", 7)]) (g := gName 7) (tt := tNot (tTest (tOp (rOwn true K C (spREq C) E0) (tVar 4) (tVar 7)))) rfl nd (pi_list (pv 6)) (blkOk_by (N := nRight) (sc := defScope lRight) (by decide +kernel)) (fun _ _ _ _ _ => pg_name (i := 7) nd rfl (.inl rfl))
            (fun _ _ _ _ _ => pts_one (pt_not (pt_cmpR (op_neOwn R.E R.sE R.iE R.bE (E := E0) pass0 R.ne R.ob (hr.mono (by decide))) (pv 4) (pv 7) (nomark _)))) (fun _ _ _ _ _ => pv 7)) (pe_lst pa_nil) (nomark _))))))))))), ?_⟩
    have seen := four_seen hF
    have sm := hF.sm
    have dall : ∀ {H' : Hp}, Same H H' → DqAll H' [v0, v1, v2, v3] [d0, d1, d2, d3] := fun {H'} S => DqAll.same S _ _ (.cons q0 (.cons q1 (.cons q2 (.cons q3 .nil))))
    have o2 := okD_tx _ hF.g2.tx
    have o3 := okD_tx _ hF.g3.tx
    cases hd : dueR d0 d1 d2 d3 with
    | some wd =>
      refine ⟨_, rfl, q, _, _, rfl, hq, dall (Same.refl _), seen, _, rfl, q, v0, v1, v2, v3, d0, d1, d2, d3, rfl, hq, q0, q1, q2, q3, sm, o2, hF.f2, hF.f3, fun z => (by rw [hd] at z; cases z), fun wd' e1 H1 S1 => ?_⟩
      rw [hd] at e1
      cases e1
      refine ⟨_, rfl, _, rfl, q, nm, v0, v1, v2, v3, d0, d1, d2, d3, rfl, S1 _ _ hq, Dq.same S1 _ _ q0, Dq.same S1 _ _ q1, Dq.same S1 _ _ q2, Dq.same S1 _ _ q3, hF, fun z => (by rw [hd] at z; cases z), fun wd' e1 H2 S2 => ?_⟩
      rw [hd] at e1
      cases e1
      have dw := due_word hd
      refine ⟨(by show 3 ≤ sizeLine; decide), fun pt npt => ⟨pt, _, rfl, SqT.of upd_same, rfl, _, _, rfl, _, _, rfl, _, _, rfl, rfl, ?_⟩⟩
      generalize hx : (PyData.tuple [d0, d1, d2, d3]).shown = was
      have S := S1.trans (S2.trans (same_new (o := .tup [.str was, .str wd, .str wd]) npt))
      revert S
      generalize upd H2 pt (.tup [.str was, .str wd, .str wd]) = H2
      intro S
      refine ⟨_, rfl, q, _, _, rfl, S _ _ hq, dall S, seen, _, rfl, rfl, _, rfl, iteNo (by rw [hx]; exact ne_self') ⟨_, rfl, rfl, _, rfl, iteYes rfl ?_⟩⟩
      refine ⟨_, rfl, wd, rfl, dw, _, rfl, wd, rfl, dw, rfl, ?_⟩
      rw [decide_eq_true rfl]
      exact k _ S
    | none =>
      obtain ⟨r, rfl, n1, n2, p0, p1, p2, p3, sh⟩ := four_plain hF hd
      refine ⟨_, rfl, q, _, _, rfl, hq, dall (Same.refl _), seen, _, rfl, q, v0, v1, v2, v3, _, d1, d2, d3, rfl, hq, q0, q1, q2, q3, sm, o2, hF.f2, hF.f3, fun _ H1 S1 => ?_, fun wd e1 => (by rw [hd] at e1; cases e1)⟩
      refine ⟨_, rfl, _, rfl, q, nm, v0, v1, v2, v3, _, d1, d2, d3, rfl, S1 _ _ hq, Dq.same S1 _ _ q0, Dq.same S1 _ _ q1, Dq.same S1 _ _ q2, Dq.same S1 _ _ q3, hF, fun _ H2 x dx fs S2 hx2 hfs => ?_, fun wd e1 => (by rw [hd] at e1; cases e1)⟩
      obtain ⟨f0, f1, f2, f3⟩ := id hfs
      cases q0
      refine ⟨(by show 3 ≤ sizeLine; decide), fun pt npt => ⟨pt, _, rfl, SqT.of upd_same, rfl, _, _, rfl, _, _, rfl, _, _, rfl, rfl, ?_⟩⟩
      generalize hx : (PyData.tuple [.int r.n, d1, d2, d3]).shown = was
      have S := S1.trans (S2.trans (same_new (o := .tup [.str was, .non, .ref x]) npt))
      have hx2 := (same_new (o := .tup [.str was, .non, .ref x]) npt) _ _ hx2
      revert S hx2
      generalize upd H2 pt (.tup [.str was, .non, .ref x]) = H2
      intro S hx2
      refine ⟨_, rfl, q, _, _, rfl, S _ _ hq, dall S, seen, _, rfl, rfl, _, rfl, iteNo (by rw [hx]; exact ne_self') ⟨_, rfl, rfl, _, rfl, iteNo rfl ?_⟩⟩
      refine ⟨_, rfl, .ref x, .ref C, _, .ref C, true, rfl, .own C, .base (ty_ins TQ.i hx2), TQ.i.me, _, rfl, iteNo rfl ?_⟩
      refine ⟨_, rfl, x, C, dx, fs, _, rfl, hx2, TR.c, TR.states, f0, _, rfl, x, C, dx, fs, _, rfl, hx2, TR.c, TR.first, f1, _, rfl, x, C, dx, fs, _, rfl, hx2, TR.c, TR.moves, f2, _, rfl, x, C, dx, fs, _, rfl, hx2, TR.c, TR.ends, f3, (by show 4 ≤ sizeLine; decide), fun qt nqt => ?_⟩
      have S3 := S.trans (same_new (o := .tup [.int r.n, v1, v2, v3]) nqt)
      have ht : upd H2 qt (.tup [.int r.n, v1, v2, v3]) qt = some (.tup [.int r.n, v1, v2, v3]) := upd_same
      have hx3 := (same_new (o := .tup [.int r.n, v1, v2, v3]) nqt) _ _ hx2
      revert S3 ht hx3
      generalize upd H2 qt (.tup [.int r.n, v1, v2, v3]) = H3
      intro S3 ht hx3
      have q1' := fun {H' : Hp} (S : Same H H') => Dq.same S _ _ q1
      have q2' := fun {H' : Hp} (S : Same H H') => Dq.same S _ _ q2
      have q3' := fun {H' : Hp} (S : Same H H') => Dq.same S _ _ q3
      have four : ∀ {H' : Hp}, Same H3 H' → FourAt C H' x (.int r.n) d1 d2 d3 := fun {H'} S' => ⟨dx, fs, _, v1, v2, v3, S' _ _ hx3, hfs, .int _, q1' (S3.trans S'), q2' (S3.trans S'), q3' (S3.trans S')⟩
      refine ⟨_, rfl, qt, _, _, rfl, ht, dall S3, seen, _, rfl, rfl, _, rfl, iteNo (by rw [hx]; exact ne_self') ?_⟩
      refine ⟨_, rfl, x, dx, fs, rfl, hx3, x, r.n, d1, d2, d3, rfl, four (Same.refl _), by omega, by omega, r.n, rfl, by omega, by omega, ?_⟩
      refine ⟨_, rfl, q, _, _, .int r.n, rfl, rfl, SqT.of (S3 _ _ hq), rfl, rfl, _, rfl, iteNo ne_self' ?_⟩
      have St := SqT.of (K := K) (S3 _ _ hq)
      refine ⟨_, rfl, _, rfl, q, _, _, _, rfl, rfl, St, rfl, _, rfl, q, _, _, _, rfl, rfl, St, rfl, _, rfl, q, _, _, _, rfl, rfl, St, rfl, _, rfl, q, _, _, _, rfl, rfl, St, rfl, fun z dz nz ndz nez => ?_⟩
      have S4 : Same H3 (upd (upd H3 dz (.own z)) z (.ins C dz [])) := fun b o e => by
        rw [upd_ne (ne_of_none e nz), upd_ne (ne_of_none e ndz)]
        exact e
      refine ⟨H3, z, dz, .int r.n, v1, v2, v3, _, d1, d2, d3, rfl, S4, nz, upd_same, .int _, q1' S3, q2' S3, q3' S3, sm, o2, o3, fun _ H5 gs S5 hz5 hgs => ⟨rfl, ?_⟩, fun wd e1 => (by rw [hd] at e1; cases e1)⟩
      have four2 : FourAt C H5 z (.int r.n) d1 d2 d3 := ⟨dz, gs, _, v1, v2, v3, hz5, hgs, .int _, q1' (S3.trans S5), q2' (S3.trans S5), q3' (S3.trans S5)⟩
      refine ⟨x, dx, fs, rfl, S5 _ _ hx3, other_ins TQ.i hz5, x, .ref z, _, d1, d2, d3, rfl, four S5, sh, .inr ⟨z, _, d1, d2, d3, rfl, four2, sh, _, rfl, ?_⟩⟩
      refine ⟨_, rfl, iteNo ?_ ?_⟩
      · rw [plain_refl _ p0, plain_refl _ p1, plain_refl _ p2, plain_refl _ p3]
        rfl
      have S6 := S3.trans S5
      have lits : LitsAt [some (.ref q), some (.bl nm), some (.str was), some .non, some (.ref x), some (.ref qt), none, none] H5 (tCons (tC .non) (tCons (tC (.int 0)) (tCons (tC (.str "")) (tCons (tTup tNil) (tCons (tVar 0) (tCons (tLst (tCons (tVar 0) tNil)) (tCons tDNewK (tCons (tC (.bl true)) tNil)))))))) [.none, .int 0, .str "", .tuple [], .tuple [.int r.n, d1, d2, d3], .list [.tuple [.int r.n, d1, d2, d3]], .dict [], .bool true] := by
        have lv : LitAt [some (.ref q), some (.bl nm), some (.str was), some .non, some (.ref x), some (.ref qt), none, none] H5 (tVar 0) (.tuple [.int r.n, d1, d2, d3]) := lit_var rfl (.tup (S6 _ _ hq) (dall S6))
        exact lits_cons lit_non (lits_cons lit_int (lits_cons lit_str (lits_cons (lit_tup lits_nil (by decide)) (lits_cons lv (lits_cons (lit_lst (lits_cons lv lits_nil) (by simp)) (lits_cons lit_dict (lits_cons lit_bl lits_nil)))))))
      show tAsg (tLst (tCons (tC .non) (tCons (tC (.int 0)) (tCons (tC (.str "")) (tCons (tTup tNil) (tCons (tVar 0) (tCons (tLst (tCons (tVar 0) tNil)) (tCons tDNewK (tCons (tC (.bl true)) tNil))))))))) (gName 6) _ [some (.ref q), some (.bl nm), some (.str was), some .non, some (.ref x), some (.ref qt), none, none] H5
      refine asg_lst lits (by simp) fun H7 D8 xs S7 n8 dxs => ?_
      have lxs := dxs.len
      have S8 := same_new (o := .lst xs) n8
      have h8 : upd H7 D8 (.lst xs) D8 = some (.lst xs) := upd_same
      have d8 := DqAll.same S8 _ _ dxs
      have x8 := S8 _ _ (S7 _ _ (S5 _ _ hx3))
      have S08 := S6.trans (S7.trans S8)
      have f8 : FourAt C (upd H7 D8 (.lst xs)) x (.int r.n) d1 d2 d3 := four (S5.trans (S7.trans S8))
      revert h8 d8 x8 S08 f8
      generalize upd H7 D8 (.lst xs) = H8
      intro h8 d8 x8 S08 f8
      refine ⟨_, rfl, D8, rfl, ⟨_, SqL.of h8⟩, fun Da na => ?_⟩
      refine lc_list (K := K) (a := D8) (xs := xs) (fun i H' => Odds H8 Da true i H') (Odds.start na) (fun i H' _ M => SqL.of (M.1 _ _ h8)) ?_ ?_
      · rintro i y H9 hy M
        obtain ⟨d', hd', hq'⟩ := DqAll.at d8 hy
        have hq9 := Dq.same M.1 _ _ hq'
        exact ⟨rfl, _, rfl, _, rfl, x, dx, fs, rfl, M.1 _ _ x8, other_data hq9, x, y, _, d1, d2, d3, rfl, f8.same M.1, sh, .inl ⟨d', hq9, _, rfl, _, rfl, iteNo rfl (M.skip (Same.refl _))⟩⟩
      · rintro H9 ⟨S9, ys, hys, hb, _⟩
        refine ⟨(by show 0 ≤ sizeLine; decide), fun pa npa => ?_⟩
        have Sa := same_new (o := .lst []) npa
        refine ⟨Da, pa, ys, rfl, rfl, Sa _ _ hys, upd_same, _, rfl, iteYes (by rw [hb]; rfl) ?_⟩
        have S10 := S9.trans Sa
        revert S10
        generalize upd H9 pa (.lst []) = HA
        intro S10
        refine ⟨_, rfl, D8, rfl, ⟨_, SqL.of (S10 _ _ h8)⟩, fun Db nb => ?_⟩
        refine lc_list (K := K) (a := D8) (xs := xs) (fun i H' => Odds HA Db true i H') (Odds.start nb) (fun i H' _ M => SqL.of (M.1 _ _ (S10 _ _ h8))) ?_ ?_
        · rintro i y HB hy M
          obtain ⟨d', hd', hq'⟩ := DqAll.at d8 hy
          have SB := S10.trans M.1
          have hq9 := Dq.same SB _ _ hq'
          exact ⟨rfl, _, rfl, _, rfl, x, dx, fs, rfl, SB _ _ x8, other_data hq9, x, y, _, d1, d2, d3, rfl, f8.same SB, sh, .inl ⟨d', hq9, _, rfl, _, rfl, iteNo rfl (M.skip (Same.refl _))⟩⟩
        · rintro HB ⟨SB, zs, hzs, hbz, _⟩
          refine ⟨(by show 0 ≤ sizeLine; decide), fun pb npb => ?_⟩
          have Sb := same_new (o := .lst []) npb
          refine ⟨Db, pb, zs, rfl, rfl, Sb _ _ hzs, upd_same, ?_⟩
          have e : (if false = true then !zs.isEmpty else zs.isEmpty) = true := by rw [hbz]; rfl
          rw [e]
          exact k _ (S08.trans (S10.trans (SB.trans Sb)))
end
end KL
set_option Elab.async false
set_option linter.all false
set_option maxRecDepth 100000
set_option maxHeartbeats 8000000
namespace KL
open PySem L2 PySem.KX PySem.Spec PyProof.Rows
/-- the four of a law: each of a size -/
structure Prt (w pp W n : Nat) (ds : List PyData) : Prop where
  len : ds.length = 4
  all : ∀ d ∈ ds, Gd w pp W d ∧ (itemsD d).length ≤ n
theorem Prt.mono {w pp W n w' pp' W' n' : Nat} {ds : List PyData} (h : Prt w pp W n ds) (h1 : w ≤ w') (h2 : pp ≤ pp') (h3 : W ≤ W') (h4 : n ≤ n') : Prt w' pp' W' n' ds :=
  ⟨h.len, fun d hd => ⟨(h.all d hd).1.mono h1 h2 h3, Nat.le_trans (h.all d hd).2 h4⟩⟩
theorem four_of {ds : List PyData} (h : ds.length = 4) : ∃ a b c d, ds = [a, b, c, d] := by
  match ds, h with
  | [a, b, c, d], _ => exact ⟨a, b, c, d, rfl⟩
theorem Prt.four {a b c d : PyData} (h : Prt 900 8 60000 60 [a, b, c, d]) : Four a b c d :=
  ⟨(h.all a (by simp)).1, (h.all b (by simp)).1, (h.all c (by simp)).1, (h.all d (by simp)).1, Nat.lt_of_le_of_lt (h.all c (by simp)).2 (by decide), Nat.lt_of_le_of_lt (h.all d (by simp)).2 (by decide)⟩
theorem right_go {H0 H : Hp} {p l : Addr} {t : Int} {v : V} {ds : List PyData} {nm : Bool} {Q : VK} {E : XK} (D : DeckAt H0 H p l t) (hv : Dq H0 v (.tuple ds)) (h : Prt 900 8 60000 60 ds) (k : ∀ H', Same H H' → Q (.bl true) H') : spRight [v, .bl nm] H Q E := by
  obtain ⟨d0, d1, d2, d3, rfl⟩ := four_of h.len
  cases hv with
  | tup ha qa =>
    cases qa with
    | cons q0 qa =>
    cases qa with
    | cons q1 qa =>
    cases qa with
    | cons q2 qa =>
    cases qa with
    | cons q3 qa =>
    cases qa
    exact ⟨_, nm, _, _, _, _, d0, d1, d2, d3, rfl, D.s _ _ ha, Dq.same D.s _ _ q0, Dq.same D.s _ _ q1, Dq.same D.s _ _ q2, Dq.same D.s _ _ q3, h.four, k⟩
theorem DeckAt.mono {H0 H H' : Hp} {p l : Addr} {t : Int} (D : DeckAt H0 H p l t) (S : Same H H') : DeckAt H0 H' p l t := by
  obtain ⟨ns, m, hp, hl, r⟩ := D.d
  exact ⟨D.s.trans S, D.p0, D.l0, ns, m, S _ _ hp, S _ _ hl, r⟩
/-! ### questions whose answer is no -/
def NoAt (σ : L2.St) (H0 : Hp) (t : TT) : Prop := ∀ H (Q : Bool → Hp → Prop), Same H0 H → (∀ H', Same H H' → Q false H') → t σ H Q
section
variable {σ : L2.St} {H0 : Hp}
theorem no_or {t u : TT} (h1 : NoAt σ H0 t) (h2 : NoAt σ H0 u) : NoAt σ H0 (tOr t u) := fun H Q S k => h1 H _ S fun H1 S1 => iteNo rfl (h2 H1 Q (S.trans S1) fun H2 S2 => k H2 (S1.trans S2))
theorem ifs_no {c : TT} {a : TS} {D : Ends} (h : NoAt σ H0 c) (k : ∀ H', Same H0 H' → D.nx σ H') : tIfS c a tNext D σ H0 := h H0 _ (Same.refl _) fun H' S => iteNo rfl (k H' S)
theorem no_right {Hk : Hp} {p l : Addr} {t : Int} {i : Nat} {v : V} {ds : List PyData} {te : TE} {E : XK} (e : σ[i]? = some (some v)) (D : DeckAt Hk H0 p l t) (hv : Dq Hk v (.tuple ds)) (h : Prt 900 8 60000 60 ds) (ht : ∀ H (Q : VK), (∀ nm, Q (.bl nm) H) → te σ H Q) : NoAt σ H0 (tNot (tB (tCall spRight [] E (tCons (tVar i) (tCons te tNil))))) := fun H Q S k =>
  ⟨v, e, ht H _ fun nm => show spRight [v, .bl nm] H (fun x H1 => ∃ c, x = V.bl c ∧ Q (!c) H1) E from right_go (D.mono S) hv h fun H' S' => ⟨true, rfl, k H' S'⟩⟩
end
/-! ### sizes of drawn readers -/
theorem kinds_tx {ks : List Str} (h : ks ∈ kinds3) {y : Str} (hy : y ∈ ks) : txS y = true ∧ y.length ≤ 9 := by
  have z : (kinds3.all fun ks => ks.all fun y => txS y && decide (y.length ≤ 9)) = true := by decide +kernel
  have := List.all_eq_true.mp (List.all_eq_true.mp z ks h) y hy
  rw [Bool.and_eq_true] at this
  exact ⟨this.1, of_decide_eq_true this.2⟩
theorem gd_mark {ks : List Str} (h : ks ∈ kinds3) {y : Str} (hy : y ∈ ks) : Gd 20 0 100 (.str y) := by
  obtain ⟨a, b⟩ := kinds_tx h hy
  exact ⟨by show y.length ≤ 20; omega, Nat.zero_le _, by show 10 * y.length + 2 ≤ 100; omega, a⟩
theorem gd_word {ks w : List Str} (h : ks ∈ kinds3) (hw : ∀ y ∈ w, y ∈ ks) (hl : w.length ≤ 2) : Gd 20 1 210 (strsD w) := by
  have m : Many 2 20 0 100 (w.map .str) := ⟨by rw [List.length_map]; exact hl, fun d hd => by
    obtain ⟨y, hy, rfl⟩ := List.mem_map.mp hd
    exact gd_mark h (hw y hy)⟩
  exact m.tup.mono (by decide) (by decide) (by decide)
theorem gd_num {i : Int} (h0 : 0 ≤ i) (h1 : i ≤ 4) : Gd 20 0 100 (.int i) := by
  have : i.natAbs.log2 ≤ i.natAbs := Nat.log2_le_self _
  exact ⟨by show i.natAbs.log2 ≤ 20; omega, Nat.zero_le _, by show i.natAbs.log2 + 2 ≤ 100; omega, rfl⟩
theorem gd_mv {n : Int} {ks : List Str} {x : Mv} (hk : ks ∈ kinds3) (n4 : n ≤ 4) (h : MvOk n ks x) : Gd 20 2 900 (mvD x) := by
  have m : Many 4 20 1 210 [.int x.s, .str x.m, strsD x.w, .int x.t] := ⟨Nat.le_refl _, fun d hd => by
    simp only [List.mem_cons, List.not_mem_nil, or_false] at hd
    have h0 := h.s0
    have h1 := h.s1
    have h2 := h.t0
    have h3 := h.t1
    rcases hd with rfl | rfl | rfl | rfl
    · exact (gd_num h.s0 (by omega)).mono (by decide) (by decide) (by decide)
    · exact (gd_mark hk h.m).mono (by decide) (by decide) (by decide)
    · exact gd_word hk h.ws h.w
    · exact (gd_num h.t0 (by omega)).mono (by decide) (by decide) (by decide)⟩
  exact m.tup.mono (by decide) (by decide) (by decide)
theorem gd_en {n : Int} {ks : List Str} {e : Int × List Str} (hk : ks ∈ kinds3) (n4 : n ≤ 4) (h : EnOk n ks e) : Gd 20 2 900 (enD e) := by
  have m : Many 2 20 1 210 [.int e.1, strsD e.2] := ⟨Nat.le_refl _, fun d hd => by
    simp only [List.mem_cons, List.not_mem_nil, or_false] at hd
    have h0 := h.s0
    have h1 := h.s1
    rcases hd with rfl | rfl
    · exact (gd_num h.s0 (by omega)).mono (by decide) (by decide) (by decide)
    · exact gd_word hk h.ws (by have := h.w; omega)⟩
  exact m.tup.mono (by decide) (by decide) (by decide)
theorem Drawn.prt {r : Rdr} {ks : List Str} (D : Drawn r ks) : Prt 20 3 12000 12 [.int r.n, strsD r.first, mvsD r, ensD r] := by
  have n1 := D.n1
  refine ⟨rfl, fun d hd => ?_⟩
  simp only [List.mem_cons, List.not_mem_nil, or_false] at hd
  rcases hd with rfl | rfl | rfl | rfl
  · exact ⟨(gd_num (by omega) D.n4).mono (by decide) (by decide) (by decide), Nat.zero_le _⟩
  · refine ⟨(gd_word D.k D.fs D.f).mono (by decide) (by decide) (by decide), ?_⟩
    show (r.first.map PyData.str).length ≤ 12
    rw [List.length_map]
    have := D.f
    omega
  · have m : Many 12 20 2 900 (r.mv.map mvD) := ⟨by rw [List.length_map]; exact D.ml, fun d hd => by
      obtain ⟨x, hx, rfl⟩ := List.mem_map.mp hd
      exact gd_mv D.k D.n4 (D.mv x hx)⟩
    exact ⟨m.tup.mono (by decide) (by decide) (by decide), m.1⟩
  · have m : Many 4 20 2 900 (r.en.map enD) := ⟨by rw [List.length_map]; exact D.el, fun d hd => by
      obtain ⟨x, hx, rfl⟩ := List.mem_map.mp hd
      exact gd_en D.k D.n4 (D.en x hx)⟩
    exact ⟨m.tup.mono (by decide) (by decide) (by decide), Nat.le_trans m.1 (by decide)⟩
/-- one of the four put otherwise -/
theorem Prt.swap {w pp W n j : Nat} {es : List PyData} {d3 : PyData} (h : Prt w pp W n es) (hj : j < es.length) (g : OgF w pp W (max n 3 + 1) d3) : Prt (2 * w + 200) (pp + 2) (2 * W + 10 * w + 400) (max n 3 + 1) (es.take j ++ [d3] ++ es.drop (j + 1)) := by
  have hl := h.len
  refine ⟨?_, fun d hd => ?_⟩
  · rw [List.length_append, List.length_append, List.length_take, List.length_drop]
    show min j es.length + 1 + _ = 4
    omega
  · rcases List.mem_append.mp hd with z | z
    · rcases List.mem_append.mp z with z | z
      · obtain ⟨a, b⟩ := h.all d (List.mem_of_mem_take z)
        exact ⟨a.mono (by omega) (by omega) (by omega), by omega⟩
      · rw [List.mem_singleton.mp z]
        exact g
    · obtain ⟨a, b⟩ := h.all d (List.mem_of_mem_drop z)
      exact ⟨a.mono (by omega) (by omega) (by omega), by omega⟩
theorem swap_go {K : PySem.W.Frag} {σ : L2.St} {p l a : Addr} {H0 H : Hp} {t : Int} {i j jn w pp W n : Nat} {ys : List V} {es : List PyData} {Q : VK} (e1 : σ[1]? = some (some (.ref p))) (ei : σ[i]? = some (some (.ref a))) (ej : σ[j]? = some (some (.int ((jn : Nat) : Int)))) (D : DeckAt H0 H p l t) (t0 : 0 ≤ t) (t1 : t + 24 < 1000000)
    (ha : H0 a = some (.tup ys)) (qa : DqAll H0 ys es) (hp : Prt w pp W n es) (hj : jn < es.length) (hw : w ≤ 800) (h6 : pp < 6)
    (k : ∀ H1 H' t' v d3, Go p l H0 H t H1 H' t' 24 → Dq H1 v (.tuple (es.take jn ++ [d3] ++ es.drop (jn + 1))) → OgF w pp W (max n 3 + 1) d3 → Q v H') :
    tOp (rCatA K) (tOp (rCatA K) (tSl (rSlA K) (tVar i) tNoPart (tPart (tVar j))) (tTup (tCons (tCall (spBent 6) [] E0 (tCons (tVar 1) (tCons (tOp (rIxT K) (tVar i) (tVar j)) tNil))) tNil))) (tSl (rSlA K) (tVar i) (tPart (tOp (rI0 fun i j => .int (i + j)) (tVar j) (tC (.int 1)))) tNoPart) σ H Q := by
  have le := dq_len qa
  have l4 := hp.len
  refine ⟨_, ei, _, ej, _, rfl, ?_⟩
  dsimp only [tNoPart, tPart]
  refine slA_go D ha qa fun B2 A2 v2 z2 a2 k2 e2 f2 d2 => ?_
  subst e2
  have d2 := (congrArg (DqAll B2 z2) (pc_take es jn)).mp d2
  have ha2 := k2.s _ _ ha
  have qa2 := DqAll.same k2.s _ _ qa
  have hj' : jn < ys.length := by omega
  obtain ⟨di, hdi, qdi⟩ := DqAll.at qa2 (List.getElem?_eq_getElem hj')
  have mi := List.mem_of_getElem? hdi
  obtain ⟨gi, fi⟩ := hp.all di mi
  have g20 := k2.t0
  have g21 := k2.t1
  refine ⟨_, e1, _, ei, _, ej, a, ys, _, ys[jn], rfl, rfl, SqT.of (k2.d.s _ _ ha2), atI_nat (List.getElem?_eq_getElem hj'), B2, p, l, _, ys[jn], di, w, pp, W, max n 3 + 1, rfl, k2.d, by omega, by omega, qdi, gi, hw, by omega, by omega, h6, fun B3 A3 t3 v3 d3 k3 q3 g3' => ?_⟩
  refine ⟨(by show 1 ≤ sizeLine; decide), fun e4 n4 => ?_⟩
  have k4 := (Go.refl k3.d).new (o := .tup [v3]) n4
  have f4 : upd B3 e4 (.tup [v3]) e4 = some (.tup [v3]) := upd_same
  have d4 : DqAll (upd B3 e4 (.tup [v3])) [v3] [d3] := .cons (Dq.same k4.s _ _ q3) .nil
  have d2 := DqAll.same (k3.s.trans k4.s) _ _ d2
  have f2 := (k3.s.trans k4.s) _ _ f2
  have ha4 := (k3.s.trans k4.s) _ _ ha2
  have qa4 := DqAll.same (k3.s.trans k4.s) _ _ qa2
  revert k4 f4 d4 d2 f2 ha4 qa4
  generalize upd A3 e4 (.tup [v3]) = A4
  generalize upd B3 e4 (.tup [v3]) = B4
  intro k4 f4 d4 d2 f2 ha4 qa4
  refine catA_go k4.d f2 f4 d2 d4 ?_ fun B5 A5 v5 k5 d5 => ?_
  · rw [dq_len d2, List.length_take, sizeLine_eq]
    show min jn es.length + 1 ≤ _
    omega
  have ha5' := k5.s _ _ ha4
  have qa5' := DqAll.same k5.s _ _ qa4
  refine ⟨_, ei, _, ej, _, _, rfl, rfl, _, rfl, ?_⟩
  dsimp only [tNoPart, tPart]
  refine slA_go k5.d ha5' qa5' fun B6 A6 v6 z6 a6 k6 e6 f6 d6 => ?_
  subst e6
  have d6 := (congrArg (DqAll B6 z6) (pc_drop es (jn + 1))).mp d6
  have d5' := Dq.same k6.s _ _ d5
  cases d5' with
  | tup f5 d5 =>
    refine catA_go k6.d f5 f6 d5 d6 ?_ fun B7 A7 v7 k7 d7 => ?_
    · rw [dq_len d5, dq_len d6, List.length_append, List.length_take, List.length_drop, sizeLine_eq]
      show min jn es.length + 1 + _ ≤ _
      omega
    · exact k _ _ _ _ _ ((k2.trans (k3.trans (k4.trans (k5.trans (k6.trans k7))))).more (by omega)) d7 g3'
end KL
set_option Elab.async false
set_option linter.all false
set_option maxRecDepth 100000
set_option maxHeartbeats 8000000
namespace KL
open PySem L2 PySem.KX PySem.Spec PyProof.Rows
def spLaw (K : PySem.W.Frag) : Sp := fun vs H Q _ => ∃ (a : Addr) (ns : List Int), vs = [.ref a] ∧ SqL K H a (ns.map V.int) ∧ ns.length ≤ 63 ∧ ∀ H', Q (.bl true) H'
abbrev nLaw : List Str := ["_law_script", "_law_deck_here", "_law_turn", "_law_some", "_law_mate", "_law_k", "_law_at", "_law_bent_here", "_law_twice"]
structure LawFns (P : Program) (w : World) (K : PySem.W.Frag) (mg : Str → Option Value) (base : Heap) (gDeck gDraw gParts gBent gRight : Addr) (dDeck dDraw dParts dBent dRight : FuncData) : Prop where
  deck : FnOk P w K mg base CX0 1 gDeck dDeck ["_law_script"] (spDeck K)
  cDeck : Cal K mg "_law_deck" gDeck dDeck ["_law_script"]
  draw : FnOk P w K mg base CX0 1 gDraw dDraw ["_law_deck_here", "_law_below"] spDraw
  cDraw : Cal K mg "_law_draw" gDraw dDraw ["_law_deck_here", "_law_below"]
  parts : FnOk P w K mg base CX0 4 gParts dParts ["_law_deck_here"] spParts
  cParts : Cal K mg "_law_parts" gParts dParts ["_law_deck_here"]
  bent : FnOk P w K mg base CX0 9 gBent dBent ["_law_deck_here", "_law_it"] (spBent 6)
  cBent : Cal K mg "_law_bent" gBent dBent ["_law_deck_here", "_law_it"]
  right : FnG P w K mg base CX0 8 gRight dRight ["_law_some", "_law_is_named"] spRight
  cRight : Cal K mg "_law_right" gRight dRight ["_law_some", "_law_is_named"]
/-- the law's state: its deck, behind at most so many draws -/
def LwP (p l : Addr) (b : Int) (f : L2.St) (X : Hp → Prop) (σ : L2.St) (H : Hp) : Prop := ∃ H0 t, σ = f ∧ DeckAt H0 H p l t ∧ 0 ≤ t ∧ t ≤ b ∧ X H0
theorem ne_bl {x y : Bool} (h : x = y) : (!decide (V.bl x = V.bl y)) = false := by
  subst h
  rw [decide_eq_true rfl]
  rfl
section
variable {P : Program} {w : World} {K : PySem.W.Frag} {mg : Str → Option Value} {base : Heap} {C CB fI fE fL : Addr} {dI dE dL : FuncData}
variable {gDeck gDraw gParts gBent gRight : Addr} {dDeck dDraw dParts dBent dRight : FuncData}
theorem scLaw : FnScope nLaw ["_law_script"] (defScope lLaw) := ⟨rfl, rfl, rfl, by decide +kernel, rfl, by decide +kernel, by decide +kernel⟩
theorem ok_law {f : Addr} {fd : FuncData} (F : Fun K "law" "law" lLaw f fd) (T : TxtG mg) (TQ : TxtQ K C) (mC : mg "Reader" = some (.ref C)) (R : RdrFns P w K mg base C CB fI fE fL dI dE dL) (L : LawFns P w K mg base gDeck gDraw gParts gBent gRight dDeck dDraw dParts dBent dRight) :
    FnG P w K mg base CX0 10 f fd ["_law_script"] (spLaw K) := by
  refine fnG0 F scLaw (fun vs H Q E h => ?_) (fun cdv A outer s H vs Q E hG hr h => ?_)
  · obtain ⟨a, ns, rfl, _⟩ := h
    rfl
  · obtain ⟨a, ns, rfl, hS, hlen, fin⟩ := h
    have nd := scLaw.nd
    let X0 : Cx := (cxOf CX0 P w K mg base nLaw "law" (defScope lLaw) f cdv A outer s H E).nox
    have r1 : Room 1 X0.A := hr.mono (by decide)
    have r4 : Room 4 X0.A := hr.mono (by decide)
    have r8 : Room 8 X0.A := hr.mono (by decide)
    refine ⟨_, C8.pss_cut (ps_set (i := 1) nd rfl (.inl rfl) (pe_call L.deck r1 (by rfl) L.cDeck.m L.cDeck.k L.cDeck.b .nil pass0 (pa_cons (pv 0) pa_nil)))
      (C8.pss_cut (ps_for PassesOwn.never rfl (pi_range1 (by rfl) T.range (pa_cons pe_int pa_nil)) (pg_name (i := 2) nd rfl (.inl rfl))
        (C8.pss_cut (ps_set (i := 3) nd rfl (.inl rfl) (pe_call L.parts r4 (by rfl) L.cParts.m L.cParts.k L.cParts.b .nil pass0 (pa_cons (pv 1) pa_nil)))
        (C8.pss_cut (ps_if (pt_not (pt_val (pe_callG L.right hG r8 (by rfl) L.cRight.m L.cRight.k L.cRight.b pass0 (pa_cons (pv 3) (pa_cons (pe_cmpR op_eq (pv 2) pe_int (nomark _)) pa_nil))))) (pss_one (ps_ret pe_bl)) pss_nil)
        (C8.pss_cut (ps_set (i := 4) nd rfl (.inl rfl) (pe_call L.parts r4 (by rfl) L.cParts.m L.cParts.k L.cParts.b .nil pass0 (pa_cons (pv 1) pa_nil)))
        (C8.pss_cut (ps_if (pt_cmpR op_ne (pe_cmpR (op_eqOwn (X := X0) R.E R.sE R.iE R.bE (E := E0) pass0 (hr.mono (by decide)))
            (pe_make R.mkd R.I (hr.mono (by decide)) (by rfl) mC R.bI .nil passL (pa_cons (pe_ix (r := rIxT K) ix_tup (pv 3) pe_int (fun _ _ => rfl)) (pa_cons (pe_ix (r := rIxT K) ix_tup (pv 3) pe_int (fun _ _ => rfl)) (pa_cons (pe_ix (r := rIxT K) ix_tup (pv 3) pe_int (fun _ _ => rfl)) (pa_cons (pe_ix (r := rIxT K) ix_tup (pv 3) pe_int (fun _ _ => rfl)) pa_nil)))))
            (pe_make R.mkd R.I (hr.mono (by decide)) (by rfl) mC R.bI .nil passL (pa_cons (pe_ix (r := rIxT K) ix_tup (pv 4) pe_int (fun _ _ => rfl)) (pa_cons (pe_ix (r := rIxT K) ix_tup (pv 4) pe_int (fun _ _ => rfl)) (pa_cons (pe_ix (r := rIxT K) ix_tup (pv 4) pe_int (fun _ _ => rfl)) (pa_cons (pe_ix (r := rIxT K) ix_tup (pv 4) pe_int (fun _ _ => rfl)) pa_nil))))) (nomark _))
            (pe_cmpR (op_eqD hr.units) (pv 3) (pv 4) (nomark _)) (nomark _)) (pss_one (ps_ret pe_bl)) pss_nil)
        (pss_one (ps_for PassesOwn.never rfl (pi_range1 (by rfl) T.range (pa_cons pe_int pa_nil)) (pg_name (i := 5) nd rfl (.inl rfl))
          (C8.pss_cut (ps_set (i := 6) nd rfl (.inl rfl) (pe_call L.draw r1 (by rfl) L.cDraw.m L.cDraw.k L.cDraw.b .nil pass0 (pa_cons (pv 1) (pa_cons pe_int pa_nil))))
          (C8.pss_cut (ps_set (i := 7) nd rfl (.inl rfl) (pe_op op_catA (pe_op op_catA (pe_slice sl_tupA (pv 3) po_none (po_some (pv 6))) (pe_tup (pa_cons (pe_call L.bent hr (by rfl) L.cBent.m L.cBent.k L.cBent.b .nil pass0 (pa_cons (pv 1) (pa_cons (pe_ix (r := rIxT K) ix_tup (pv 3) (pv 6) (fun _ _ => rfl)) pa_nil))) pa_nil))) (pe_slice sl_tupA (pv 3) (po_some (pe_op op_add (pv 6) pe_int)) po_none)))
          (C8.pss_cut (ps_set (i := 6) nd rfl (.inl rfl) (pe_call L.draw r1 (by rfl) L.cDraw.m L.cDraw.k L.cDraw.b .nil pass0 (pa_cons (pv 1) (pa_cons pe_int pa_nil))))
          (C8.pss_cut (ps_set (i := 8) nd rfl (.inl rfl) (pe_op op_catA (pe_op op_catA (pe_slice sl_tupA (pv 7) po_none (po_some (pv 6))) (pe_tup (pa_cons (pe_call L.bent hr (by rfl) L.cBent.m L.cBent.k L.cBent.b .nil pass0 (pa_cons (pv 1) (pa_cons (pe_ix (r := rIxT K) ix_tup (pv 7) (pv 6) (fun _ _ => rfl)) pa_nil))) pa_nil))) (pe_slice sl_tupA (pv 7) (po_some (pe_op op_add (pv 6) pe_int)) po_none)))
          (pss_one (ps_if (PW.pt (pw_or (pt_not (pt_val (pe_callG L.right hG r8 (by rfl) L.cRight.m L.cRight.k L.cRight.b pass0 (pa_cons (pv 7) (pa_cons (pe_cmpR op_eq (pe_op op_mod (pv 5) pe_int) pe_int (nomark _)) pa_nil)))))
            (pw_or1 (pt_not (pt_val (pe_callG L.right hG r8 (by rfl) L.cRight.m L.cRight.k L.cRight.b pass0 (pa_cons (pv 8) (pa_cons (pe_cmpR op_eq (pe_op op_mod (pv 5) pe_int) pe_int (nomark _)) pa_nil)))))))) (pss_one (ps_ret pe_bl)) pss_nil)))))))))))))
      (pss_one (ps_ret pe_bl))), ?_⟩
    refine ⟨fun σ H' => ∃ p l, σ = [some (.ref a), some (.ref p), none, none, none, none, none, none, none] ∧ DeckAt H H' p l 0, ?_, ?_⟩
    · exact ⟨_, rfl, a, ns, rfl, hS, hlen, fun H' p l D => ⟨p, l, rfl, D⟩⟩
    rintro σ1 H1 ⟨p, l, rfl, D⟩
    refine ⟨fun σ H' => True, ?_, fun _ H' _ => fin H'⟩
    refine ⟨_, rfl, by decide, by decide, for_range (fun i σ H' => ∃ o2 o3 o4 o5 o6 o7 o8, LwP p l (1000 * (i : Int)) [some (.ref a), some (.ref p), o2, o3, o4, o5, o6, o7, o8] (fun _ => True) σ H') ⟨_, _, _, _, _, _, _, H, 0, rfl, D, by omega, by simp, trivial⟩ ?_ (fun _ _ _ => trivial)⟩
    clear D H1
    rintro i σ H2 hi ⟨o2, o3, o4, o5, o6, o7, o8, H0, t, rfl, D, t0, tb, _⟩
    have hi3 : i < 3 := hi
    refine ⟨fun σ H' => ∃ v r ks, LwP p l (1000 * (i : Int) + 100) [some (.ref a), some (.ref p), some (.int (0 + (i : Int))), some v, o4, o5, o6, o7, o8] (fun H0 => Dq H0 v (partsD r) ∧ Drawn r ks) σ H', ?_, ?_⟩
    · refine ⟨_, rfl, H0, p, l, t, rfl, D, t0, by omega, fun H3 H3' t' v r ks g dv dr => ⟨v, r, ks, H3, t', rfl, g.d, ?_, ?_, dv, dr⟩⟩
      · have := g.t0
        omega
      · have := g.t1
        omega
    clear D t0 tb H2 H0 t
    rintro σ3 H3 ⟨v, r, ks, H0, t, rfl, D, t0, tb, dv, dr⟩
    have P1 := dr.prt
    refine ⟨fun σ H' => LwP p l (1000 * (i : Int) + 100) [some (.ref a), some (.ref p), some (.int (0 + (i : Int))), some v, o4, o5, o6, o7, o8] (fun H0 => Dq H0 v (partsD r)) σ H', ?_, ?_⟩
    · refine ifs_no (no_right rfl D dv (P1.mono (by decide) (by decide) (by decide) (by decide)) fun H Q k => ⟨_, rfl, rfl, k _⟩) fun H4 S4 => ?_
      exact ⟨H0, t, rfl, D.mono S4, t0, tb, dv⟩
    clear D t0 tb H3 H0 t dv
    rintro σ3 H3 ⟨H0, t, rfl, D, t0, tb, dv⟩
    refine ⟨fun σ H' => ∃ v2 r2 ks2, LwP p l (1000 * (i : Int) + 200) [some (.ref a), some (.ref p), some (.int (0 + (i : Int))), some v, some v2, o5, o6, o7, o8] (fun H0 => Dq H0 v (partsD r) ∧ Dq H0 v2 (partsD r2) ∧ Drawn r2 ks2) σ H', ?_, ?_⟩
    · refine ⟨_, rfl, H0, p, l, t, rfl, D, t0, by omega, fun H4 H4' t' v2 r2 ks2 g dv2 dr2 => ⟨v2, r2, ks2, H4, t', rfl, g.d, ?_, ?_, Dq.same g.s _ _ dv, dv2, dr2⟩⟩
      · have := g.t0
        omega
      · have := g.t1
        omega
    clear D t0 tb H3 H0 t dv
    rintro σ3 H3 ⟨v2, r2, ks2, H0, t, rfl, D, t0, tb, dv, dv2, dr2⟩
    refine ⟨fun σ H' => ∃ o4, LwP p l (1000 * (i : Int) + 200) [some (.ref a), some (.ref p), some (.int (0 + (i : Int))), some v, o4, o5, o6, o7, o8] (fun H0 => Dq H0 v (partsD r)) σ H', ?_, ?_⟩
    · have P2 := dr2.prt
      have F1 := (P1.mono (w' := 900) (pp' := 8) (W' := 60000) (n' := 60) (by decide) (by decide) (by decide) (by decide)).four
      have F2 := (P2.mono (w' := 900) (pp' := 8) (W' := 60000) (n' := 60) (by decide) (by decide) (by decide) (by decide)).four
      have u1 := right_due dr.right
      have u2 := right_due dr2.right
      obtain ⟨_, _, _, _, _, _, _, _, s1⟩ := four_plain F1 u1
      obtain ⟨_, _, _, _, _, _, _, _, s2⟩ := four_plain F2 u2
      have hv := Dq.same D.s _ _ dv
      have hv2 := Dq.same D.s _ _ dv2
      cases hv with
      | @tup b1 xs1 _ e1 q1 =>
      cases q1 with
      | @cons w0 _ _ _ p0 q1 =>
      cases q1 with
      | @cons w1 _ _ _ p1 q1 =>
      cases q1 with
      | @cons w2 _ _ _ p2 q1 =>
      cases q1 with
      | @cons w3 _ _ _ p3 q1 =>
      cases q1
      cases hv2 with
      | @tup b2 xs2 _ e2 q2 =>
      cases q2 with
      | @cons z0 _ _ _ y0 q2 =>
      cases q2 with
      | @cons z1 _ _ _ y1 q2 =>
      cases q2 with
      | @cons z2 _ _ _ y2 q2 =>
      cases q2 with
      | @cons z3 _ _ _ y3 q2 =>
      cases q2
      have St1 := SqT.of (K := K) e1
      refine ⟨_, rfl, b1, _, _, _, rfl, rfl, St1, rfl, _, rfl, b1, _, _, _, rfl, rfl, St1, rfl, _, rfl, b1, _, _, _, rfl, rfl, St1, rfl, _, rfl, b1, _, _, _, rfl, rfl, St1, rfl, fun x dx nx ndx nex => ?_⟩
      have Sx : Same H3 (upd (upd H3 dx (.own x)) x (.ins C dx [])) := fun b o e => by
        rw [upd_ne (ne_of_none e nx), upd_ne (ne_of_none e ndx)]
        exact e
      refine ⟨H3, x, dx, w0, w1, w2, w3, _, _, _, _, rfl, Sx, nx, upd_same, p0, p1, p2, p3, F1.sm, okD_tx _ F1.g2.tx, okD_tx _ F1.g3.tx, fun _ H4 gs S4 hx4 hgs => ⟨rfl, ?_⟩, fun wd e => (by rw [u1] at e; cases e)⟩
      have St2 := SqT.of (K := K) (S4 _ _ e2)
      refine ⟨_, rfl, b2, _, _, _, rfl, rfl, St2, rfl, _, rfl, b2, _, _, _, rfl, rfl, St2, rfl, _, rfl, b2, _, _, _, rfl, rfl, St2, rfl, _, rfl, b2, _, _, _, rfl, rfl, St2, rfl, fun z dz nz ndz nez => ?_⟩
      have Sz : Same H4 (upd (upd H4 dz (.own z)) z (.ins C dz [])) := fun b o e => by
        rw [upd_ne (ne_of_none e nz), upd_ne (ne_of_none e ndz)]
        exact e
      refine ⟨H4, z, dz, z0, z1, z2, z3, _, _, _, _, rfl, Sz, nz, upd_same, Dq.same S4 _ _ y0, Dq.same S4 _ _ y1, Dq.same S4 _ _ y2, Dq.same S4 _ _ y3, F2.sm, okD_tx _ F2.g2.tx, okD_tx _ F2.g3.tx, fun _ H5 hs S5 hz5 hhs => ⟨rfl, ?_⟩, fun wd e => (by rw [u2] at e; cases e)⟩
      have S35 := S4.trans S5
      have x5 := S5 _ _ hx4
      have f1 : FourAt C H5 x (.int r.n) (strsD r.first) (mvsD r) (ensD r) := ⟨dx, gs, w0, w1, w2, w3, x5, hgs, Dq.same S35 _ _ p0, Dq.same S35 _ _ p1, Dq.same S35 _ _ p2, Dq.same S35 _ _ p3⟩
      have f2 : FourAt C H5 z (.int r2.n) (strsD r2.first) (mvsD r2) (ensD r2) := ⟨dz, hs, z0, z1, z2, z3, hz5, hhs, Dq.same S35 _ _ y0, Dq.same S35 _ _ y1, Dq.same S35 _ _ y2, Dq.same S35 _ _ y3⟩
      refine ⟨x, dx, gs, rfl, x5, other_ins TQ.i hz5, x, .ref z, _, _, _, _, rfl, f1, s1, .inr ⟨z, _, _, _, _, rfl, f2, s2, _, rfl, ?_⟩⟩
      have sp : ∀ {r : Rdr} {ks : List Str} (_ : Drawn r ks), SeqAt.shaped (partsD r) = true := fun {r ks} dr => by
        have P := dr.prt
        have pl : plainD (partsD r) = true := by
          show (true && (plainAll (r.first.map .str) && (plainAll (r.mv.map mvD) && (plainAll (r.en.map enD) && true)))) = true
          rw [plain_strs, plain_mvs, plain_ens]
          rfl
        have m : Many 4 20 3 12000 [.int r.n, strsD r.first, mvsD r, ensD r] := ⟨Nat.le_refl _, fun d hd => (P.all d hd).1⟩
        exact shaped_plain pl m.tup (by decide)
      refine ⟨_, rfl, _, rfl, partsD r, partsD r2, dp_shaped (sp dr) (Dq.same (D.s.trans S35) _ _ dv), dp_shaped (sp dr2) (Dq.same (D.s.trans S35) _ _ dv2), sp dr, sp dr2, rfl, _, rfl, iteNo ?_ ?_⟩
      · refine ne_bl ?_
        show (PyData.eqv (.int r.n) (.int r2.n) && (PyData.eqv (strsD r.first) (strsD r2.first) && (PyData.eqv (mvsD r) (mvsD r2) && PyData.eqv (ensD r) (ensD r2)))) = PyData.eqv (.tuple [.int r.n, strsD r.first, mvsD r, ensD r]) (.tuple [.int r2.n, strsD r2.first, mvsD r2, ensD r2])
        simp [PyData.eqv, PyData.eqvAll]
      · exact ⟨_, H0, t, rfl, D.mono S35, t0, tb, dv⟩
    clear D t0 tb H3 H0 t dv dv2 dr2 v2 r2 ks2 o4
    rintro σ3 H3 ⟨o4, H0, t, rfl, D, t0, tb, dv⟩
    refine ⟨_, rfl, by decide, by decide, for_range (fun j σ H' => ∃ o5 o6 o7 o8, LwP p l (1000 * (i : Int) + 200 + 50 * (j : Int)) [some (.ref a), some (.ref p), some (.int (0 + (i : Int))), some v, o4, o5, o6, o7, o8] (fun H0 => Dq H0 v (partsD r)) σ H') ⟨_, _, _, _, H0, t, rfl, D, t0, by simpa using tb, dv⟩ ?_ ?_⟩
    rotate_left
    · rintro σ4 H4 ⟨o5, o6, o7, o8, H0, t, rfl, D, t0, tb, _⟩
      exact ⟨_, _, _, _, _, _, _, H0, t, rfl, D, t0, by simp at tb; omega, trivial⟩
    clear D t0 tb H3 H0 t dv o5 o6 o7 o8
    rintro j σ H3 hj ⟨o5, o6, o7, o8, H0, t, rfl, D, t0, tb, dv⟩
    have hj14 : j < 14 := hj
    refine ⟨fun σ H' => ∃ jn : Nat, jn < 4 ∧ LwP p l (1000 * (i : Int) + 200 + 50 * (j : Int) + 1) [some (.ref a), some (.ref p), some (.int (0 + (i : Int))), some v, o4, some (.int (0 + (j : Int))), some (.int ((jn : Nat) : Int)), o7, o8] (fun H0 => Dq H0 v (partsD r)) σ H', ?_, ?_⟩
    · refine ⟨_, rfl, H0, p, l, t, 4, rfl, D, t0, by omega, by omega, by omega, fun H4 x g x0 x1 => ?_⟩
      obtain ⟨jn, rfl⟩ := Int.eq_ofNat_of_zero_le x0
      exact ⟨jn, by omega, H0, t + 1, rfl, g.d, by omega, by omega, dv⟩
    clear D t0 tb H3 H0 t dv
    rintro σ4 H3 ⟨jn, hjn, H0, t, rfl, D, t0, tb, dv⟩
    refine ⟨fun σ H' => ∃ v1 es, Prt 240 5 24600 13 es ∧ LwP p l (1000 * (i : Int) + 200 + 50 * (j : Int) + 25) [some (.ref a), some (.ref p), some (.int (0 + (i : Int))), some v, o4, some (.int (0 + (j : Int))), some (.int ((jn : Nat) : Int)), some v1, o8] (fun H0 => Dq H0 v (partsD r) ∧ Dq H0 v1 (.tuple es)) σ H', ?_, ?_⟩
    · cases dv with
      | tup ha qa =>
        refine swap_go (i := 3) (j := 6) rfl rfl rfl D t0 (by omega) ha qa P1 (by rw [P1.len]; exact hjn) (by decide) (by decide) fun H4 H4' t' v1 d3 g dq og => ?_
        refine ⟨v1, _, (P1.swap (by rw [P1.len]; exact hjn) og).mono (by decide) (by decide) (by decide) (by decide), H4, t', rfl, g.d, ?_, ?_, Dq.same g.s _ _ (.tup ha qa), dq⟩
        · have := g.t0
          omega
        · have := g.t1
          omega
    clear D t0 tb H3 H0 t dv hjn
    rintro σ4 H3 ⟨v1, es, PE, H0, t, rfl, D, t0, tb, dv, dv1⟩
    refine ⟨fun σ H' => ∃ jn : Nat, jn < 4 ∧ LwP p l (1000 * (i : Int) + 200 + 50 * (j : Int) + 26) [some (.ref a), some (.ref p), some (.int (0 + (i : Int))), some v, o4, some (.int (0 + (j : Int))), some (.int ((jn : Nat) : Int)), some v1, o8] (fun H0 => Dq H0 v (partsD r) ∧ Dq H0 v1 (.tuple es)) σ H', ?_, ?_⟩
    · refine ⟨_, rfl, H0, p, l, t, 4, rfl, D, t0, by omega, by omega, by omega, fun H4 x g x0 x1 => ?_⟩
      obtain ⟨jn, rfl⟩ := Int.eq_ofNat_of_zero_le x0
      exact ⟨jn, by omega, H0, t + 1, rfl, g.d, by omega, by omega, dv, dv1⟩
    clear D t0 tb H3 H0 t dv dv1
    rintro σ4 H3 ⟨jn, hjn, H0, t, rfl, D, t0, tb, dv, dv1⟩
    refine ⟨fun σ H' => ∃ v2 es2, Prt 680 7 60000 14 es2 ∧ LwP p l (1000 * (i : Int) + 200 + 50 * (j : Int) + 50) [some (.ref a), some (.ref p), some (.int (0 + (i : Int))), some v, o4, some (.int (0 + (j : Int))), some (.int ((jn : Nat) : Int)), some v1, some v2] (fun H0 => Dq H0 v (partsD r) ∧ Dq H0 v1 (.tuple es) ∧ Dq H0 v2 (.tuple es2)) σ H', ?_, ?_⟩
    · cases dv1 with
      | tup ha qa =>
        refine swap_go (i := 7) (j := 6) rfl rfl rfl D t0 (by omega) ha qa PE (by rw [PE.len]; exact hjn) (by decide) (by decide) fun H4 H4' t' v2 d3 g dq og => ?_
        refine ⟨v2, _, (PE.swap (by rw [PE.len]; exact hjn) og).mono (by decide) (by decide) (by decide) (by decide), H4, t', rfl, g.d, ?_, ?_, Dq.same g.s _ _ dv, Dq.same g.s _ _ (.tup ha qa), dq⟩
        · have := g.t0
          omega
        · have := g.t1
          omega
    clear D t0 tb H3 H0 t dv dv1
    rintro σ4 H3 ⟨v2, es2, PE2, H0, t, rfl, D, t0, tb, dv, dv1, dv2⟩
    refine ifs_no (no_or (no_right rfl D dv1 (PE.mono (by decide) (by decide) (by decide) (by decide)) fun H Q k => ⟨_, rfl, _, _, rfl, rfl, (by show (0 : Int) < 2; decide), rfl, k _⟩)
      (no_right rfl D dv2 (PE2.mono (by decide) (by decide) (by decide) (by decide)) fun H Q k => ⟨_, rfl, _, _, rfl, rfl, (by show (0 : Int) < 3; decide), rfl, k _⟩)) fun H4 S4 => ?_
    exact ⟨_, _, _, _, H0, t, rfl, D.mono S4, t0, by rw [Int.natCast_add]; omega, dv⟩
end
end KL
set_option Elab.async false
set_option linter.all false
set_option maxRecDepth 100000
set_option maxHeartbeats 4000000
namespace KL
open PySem L2 PySem.KX PySem.W PyProof.Rows
def chkE (K : Frag) (B C : Addr) : Bool :=
  excInitIn K C excB "Exception.__new__" && (excOver K C excB && (hasDictIn K C && (keepIn K (.ref C) && ((findIn K (.ref C) "__setattr__" == some (some (.builtin "object.__setattr__"))) && ((findIn K (.ref C) "__getattribute__" == some (some (.builtin "BaseException.__getattribute__"))) &&
  ((findIn K (.ref C) "__getattr__" == some none) && ((findIn K (.ref C) "__class__" == some (some (.builtin "object.__class__"))) && ((clsIn K C).any (fun cd => cd.mro == [.ref C, .ref B, .type "Exception", .type "BaseException", .type "object"]) && (typeIn K (.ref C) == some (.type "type"))))))))))
structure ChkE (K : Frag) (B C : Addr) : Prop where
  c1 : excInitIn K C excB "Exception.__new__" = true
  c2 : excOver K C excB = true
  c3 : hasDictIn K C = true
  c4 : keepIn K (.ref C) = true
  c5 : findIn K (.ref C) "__setattr__" = some (some (.builtin "object.__setattr__"))
  c6 : findIn K (.ref C) "__getattribute__" = some (some (.builtin "BaseException.__getattribute__"))
  c7 : findIn K (.ref C) "__getattr__" = some none
  c8 : findIn K (.ref C) "__class__" = some (some (.builtin "object.__class__"))
  c9 : ∃ cd, clsIn K C = some cd ∧ cd.mro = [.ref C, .ref B, .type "Exception", .type "BaseException", .type "object"]
  c10 : typeIn K (.ref C) = some (.type "type")
theorem chk_of {K : Frag} {B C : Addr} (h : chkE K B C = true) : ChkE K B C := by
  unfold chkE at h
  simp only [Bool.and_eq_true, beq_iff_eq] at h
  obtain ⟨h1, h2, h3, h4, h5, h6, h7, h8, h9, h10⟩ := h
  obtain ⟨cd, e, m⟩ := any_some h9
  exact ⟨h1, h2, h3, h4, h5, h6, h7, h8, ⟨cd, e, beq_iff_eq.mp m⟩, h10⟩
section
variable {K : Frag} {B C D : Addr}
theorem ChkE.mro (T : ChkE K B C) (v : Value) : subIn K (.ref C) v = some ([Value.ref C, .ref B, .type "Exception", .type "BaseException", .type "object"].contains v) := by
  obtain ⟨cd, e, m⟩ := T.c9
  show mroIn K C v = _
  unfold mroIn
  rw [e, Option.bind_some, m]
  rfl
theorem ChkE.ec (T : ChkE K B C) (hn : specialIn K (.builtin "object.__class__") "__get__" = some (some (.builtin "getset_descriptor.__get__"))) (ht : takesIn K (.builtin "object.__class__") = some true) : EC K C :=
  ⟨T.c1, T.c5, T.c2, T.c3, T.c4, ⟨T.c6, T.c7, by rw [T.mro]; rfl, T.c3, T.c8, hn, ht, T.mro _⟩⟩
theorem ChkE.ref (T : ChkE K B C) (h1 : (clsIn K D).isSome = true) (h2 : typeIn K (.ref D) = some (.type "type")) (hd : D ≠ C) (hb : D ≠ B) : kitOne K (.ref C) (.ref D) = some false := by
  unfold kitOne
  rw [if_neg (by simp [hd.symm])]
  unfold kitCls
  dsimp only
  rw [h1, h2, if_pos (by simp), T.mro]
  simp [hd, hb]
theorem ChkE.base (T : ChkE K B C) (h1 : (clsIn K B).isSome = true) (h2 : typeIn K (.ref B) = some (.type "type")) : kitOne K (.ref C) (.ref B) = some true := by
  unfold kitOne
  split
  · rfl
  · unfold kitCls
    dsimp only
    rw [h1, h2, if_pos (by simp), T.mro]
    simp
theorem ChkE.self : kitOne K (.ref C) (.ref C) = some true := by
  unfold kitOne
  rw [if_pos (by simp)]
theorem ChkE.typ (T : ChkE K B C) {n : String} {b : Bool} (h : (kitMeta n && ([Value.type "Exception", .type "BaseException", .type "object"].contains (.type n) == b)) = true) : kitOne K (.ref C) (.type n) = some b := by
  simp only [Bool.and_eq_true, beq_iff_eq] at h
  unfold kitOne
  rw [if_neg (by simp)]
  unfold kitCls
  dsimp only
  have z1 : (Value.type n == Value.ref C) = false := beq_eq_false_iff_ne.mpr fun q => nomatch q
  have z2 : (Value.type n == Value.ref B) = false := beq_eq_false_iff_ne.mpr fun q => nomatch q
  rw [h.1, if_pos rfl, T.mro, List.contains_cons, List.contains_cons, h.2, z1, z2]
  rfl
theorem ChkE.exm (T : ChkE K B C) (hs : subIn K (.ref D) (.type "BaseException") = some true) (h : kitCls K (.ref C) (.ref D) = some true) : exmOne K (.ref C) (.ref D) = some true := by
  unfold exmOne
  rw [hs, if_pos (by simp)]
  exact h
theorem ChkE.isSome (T : ChkE K B C) : (clsIn K C).isSome = true := by
  obtain ⟨cd, e, _⟩ := T.c9
  rw [e]
  rfl
end
end KL
set_option Elab.async false
set_option linter.all false
set_option maxRecDepth 100000
set_option maxHeartbeats 8000000
namespace KL
open PySem L2 PySem.KX PySem.W PyProof.Rows
theorem all_mk {l : PySem.W.OpenLaw} {w : World} {K : Frag} {h : Heap} {mg : Str → Option Value} {fa B CB IB C fI fQ fN : Addr} {gInt gBet gTup gAsc gMark gMarks gTable gMove gMoves gEnds gDeck gDraw gPick gLines gParts gLState gLMarks gLine gStop gDue gOdd gBent gHeard gRight gLaw : Addr} {tk0 : Tok} (X : K.In h) (G : h.Ns mainGlobals mg) (hfa : mg "law" = some (.ref fa))
    {odE anE : Option Addr} {docE pmE cdvE ctE : Value} {oslE : Array (Option Value)} {paE pbE qaE qbE qcE qdE : Pos}
    {odI anI : Option Addr} {ocI kVI docI pmI cdvI ctI : Value} {oslI : Array (Option Value)}
    {odQ anQ : Option Addr} {ocQ kVQ docQ pmQ cdvQ ctQ : Value} {oslQ : Array (Option Value)}
    {odN anN : Option Addr} {ocN kVN docN pmN cdvN ctN : Value} {oslN : Array (Option Value)}
    {odInt anInt : Option Addr} {ocInt kVInt docInt pmInt cdvInt ctInt : Value} {oslInt : Array (Option Value)}
    {odBet anBet : Option Addr} {ocBet kVBet docBet pmBet cdvBet ctBet : Value} {oslBet : Array (Option Value)}
    {odTup anTup : Option Addr} {ocTup kVTup docTup pmTup cdvTup ctTup : Value} {oslTup : Array (Option Value)}
    {odAsc anAsc : Option Addr} {ocAsc kVAsc docAsc pmAsc cdvAsc ctAsc : Value} {oslAsc : Array (Option Value)}
    {odMark anMark : Option Addr} {ocMark kVMark docMark pmMark cdvMark ctMark : Value} {oslMark : Array (Option Value)}
    {odMarks anMarks : Option Addr} {ocMarks kVMarks docMarks pmMarks cdvMarks ctMarks : Value} {oslMarks : Array (Option Value)}
    {odTable anTable : Option Addr} {ocTable kVTable docTable pmTable cdvTable ctTable : Value} {oslTable : Array (Option Value)}
    {odMove anMove : Option Addr} {ocMove kVMove docMove pmMove cdvMove ctMove : Value} {oslMove : Array (Option Value)}
    {odMoves anMoves : Option Addr} {ocMoves kVMoves docMoves pmMoves cdvMoves ctMoves : Value} {oslMoves : Array (Option Value)}
    {odEnds anEnds : Option Addr} {ocEnds kVEnds docEnds pmEnds cdvEnds ctEnds : Value} {oslEnds : Array (Option Value)}
    {odDeck anDeck : Option Addr} {ocDeck kVDeck docDeck pmDeck cdvDeck ctDeck : Value} {oslDeck : Array (Option Value)}
    {odDraw anDraw : Option Addr} {ocDraw kVDraw docDraw pmDraw cdvDraw ctDraw : Value} {oslDraw : Array (Option Value)}
    {odPick anPick : Option Addr} {ocPick kVPick docPick pmPick cdvPick ctPick : Value} {oslPick : Array (Option Value)}
    {odLines anLines : Option Addr} {ocLines kVLines docLines pmLines cdvLines ctLines : Value} {oslLines : Array (Option Value)}
    {odParts anParts : Option Addr} {ocParts kVParts docParts pmParts cdvParts ctParts : Value} {oslParts : Array (Option Value)}
    {odLState anLState : Option Addr} {ocLState kVLState docLState pmLState cdvLState ctLState : Value} {oslLState : Array (Option Value)}
    {odLMarks anLMarks : Option Addr} {ocLMarks kVLMarks docLMarks pmLMarks cdvLMarks ctLMarks : Value} {oslLMarks : Array (Option Value)}
    {odLine anLine : Option Addr} {ocLine kVLine docLine pmLine cdvLine ctLine : Value} {oslLine : Array (Option Value)}
    {odStop anStop : Option Addr} {ocStop kVStop docStop pmStop cdvStop ctStop : Value} {oslStop : Array (Option Value)}
    {odDue anDue : Option Addr} {ocDue kVDue docDue pmDue cdvDue ctDue : Value} {oslDue : Array (Option Value)}
    {odOdd anOdd : Option Addr} {ocOdd kVOdd docOdd pmOdd cdvOdd ctOdd : Value} {oslOdd : Array (Option Value)}
    {odBent anBent : Option Addr} {ocBent kVBent docBent pmBent cdvBent ctBent : Value} {oslBent : Array (Option Value)}
    {odHeard anHeard : Option Addr} {ocHeard kVHeard docHeard pmHeard cdvHeard ctHeard : Value} {oslHeard : Array (Option Value)}
    {odRight anRight : Option Addr} {ocRight kVRight docRight pmRight cdvRight ctRight : Value} {oslRight : Array (Option Value)}
    {odLaw anLaw : Option Addr} {ocLaw kVLaw docLaw pmLaw cdvLaw ctLaw : Value} {oslLaw : Array (Option Value)}
    (aB : nsIn K mainGlobals "HouseError" = some (some (.ref B)))
    (aE : nsIn K mainGlobals "BadReader" = some (some (.ref CB)))
    (nE : findIn K (.ref CB) "part" = some none)
    (jE : findIn K (.ref CB) "__init__" = some (some (.ref IB)))
    (lE : K.lookup IB = some ⟨.type "function", odE, .func (fnOf "__init__" "BadReader.__init__" (iA "part" paE pbE) (iB "part" qaE qbE qcE qdE) (iS "part") .none .none docE pmE anE cdvE ctE), oslE⟩)
    (dE : codeIn K cdvE "BadReader.__init__" = true)
    (aC : nsIn K mainGlobals "Reader" = some (some (.ref C)))
    (jI : findIn K (.ref C) "__init__" = some (some (.ref fI)))
    (iI : isFn K (.ref fI) = true)
    (jQ : findIn K (.ref C) "__eq__" = some (some (.ref fQ)))
    (iQ : isFn K (.ref fQ) = true)
    (jN : findIn K (.ref C) "__len__" = some (some (.ref fN)))
    (iN : isFn K (.ref fN) = true)
    (lk_I : K.lookup fI = some ⟨ocI, odI, .func (fnOf "__init__" "Reader.__init__" (defArgs sRInit) (defBody sRInit) (defScope sRInit) .none kVI docI pmI anI cdvI ctI), oslI⟩)
    (cI : codeIn K cdvI "Reader.__init__" = true)
    (kI : keepIn K (.ref fI) = true)
    (lk_Q : K.lookup fQ = some ⟨ocQ, odQ, .func (fnOf "__eq__" "Reader.__eq__" (defArgs sREq) (defBody sREq) (defScope sREq) .none kVQ docQ pmQ anQ cdvQ ctQ), oslQ⟩)
    (cQ : codeIn K cdvQ "Reader.__eq__" = true)
    (kQ : keepIn K (.ref fQ) = true)
    (lk_N : K.lookup fN = some ⟨ocN, odN, .func (fnOf "__len__" "Reader.__len__" (defArgs sRLen) (defBody sRLen) (defScope sRLen) .none kVN docN pmN anN cdvN ctN), oslN⟩)
    (cN : codeIn K cdvN "Reader.__len__" = true)
    (kN : keepIn K (.ref fN) = true)
    (pg : plainGet K C Str.empty = true)
    (hd : hasDictIn K C = true)
    (po : plainOver K C = true)
    (sa : findIn K (.ref C) "__setattr__" = some (some (.builtin "object.__setattr__")))
    (mk : makesIn K C = true)
    (kc : keepIn K (.ref C) = true)
    (hac : findIn K (.ref C) "__class__" = some (some (.builtin "object.__class__")))
    (hmc : mroIn K C (.type "object") = some true)
    (hne : findIn K (.ref C) "__ne__" = some (some (.builtin "object.__ne__")))
    (hcl : ((clsIn K C).isSome && (typeIn K (.ref C) == some (.type "type"))) = true)
    (n_states : findIn K (.ref C) "states" = some none)
    (n_first : findIn K (.ref C) "first" = some none)
    (n_moves : findIn K (.ref C) "moves" = some none)
    (n_ends : findIn K (.ref C) "ends" = some none)
    (n__moves : findIn K (.ref C) "_moves" = some none)
    (n__ends : findIn K (.ref C) "_ends" = some none)
    (m0 : nsIn K mainGlobals "MOST_STATES" = some (some (.int 10000 tk0)))
    (aInt : nsIn K mainGlobals "is_int" = some (some (.ref gInt)))
    (lk_Int : K.lookup gInt = some ⟨ocInt, odInt, .func (fnOf "is_int" "is_int" (defArgs sIsInt) (defBody sIsInt) (defScope sIsInt) .none kVInt docInt pmInt anInt cdvInt ctInt), oslInt⟩)
    (cInt : codeIn K cdvInt "is_int" = true)
    (kInt : keepIn K (.ref gInt) = true)
    (aBet : nsIn K mainGlobals "is_between" = some (some (.ref gBet)))
    (lk_Bet : K.lookup gBet = some ⟨ocBet, odBet, .func (fnOf "is_between" "is_between" (defArgs sIsBet) (defBody sIsBet) (defScope sIsBet) .none kVBet docBet pmBet anBet cdvBet ctBet), oslBet⟩)
    (cBet : codeIn K cdvBet "is_between" = true)
    (kBet : keepIn K (.ref gBet) = true)
    (aTup : nsIn K mainGlobals "is_tuple_of" = some (some (.ref gTup)))
    (lk_Tup : K.lookup gTup = some ⟨ocTup, odTup, .func (fnOf "is_tuple_of" "is_tuple_of" (defArgs sIsTup) (defBody sIsTup) (defScope sIsTup) .none kVTup docTup pmTup anTup cdvTup ctTup), oslTup⟩)
    (cTup : codeIn K cdvTup "is_tuple_of" = true)
    (kTup : keepIn K (.ref gTup) = true)
    (aAsc : nsIn K mainGlobals "is_ascending" = some (some (.ref gAsc)))
    (lk_Asc : K.lookup gAsc = some ⟨ocAsc, odAsc, .func (fnOf "is_ascending" "is_ascending" (defArgs sIsAsc) (defBody sIsAsc) (defScope sIsAsc) .none kVAsc docAsc pmAsc anAsc cdvAsc ctAsc), oslAsc⟩)
    (cAsc : codeIn K cdvAsc "is_ascending" = true)
    (kAsc : keepIn K (.ref gAsc) = true)
    (aMark : nsIn K mainGlobals "is_mark" = some (some (.ref gMark)))
    (lk_Mark : K.lookup gMark = some ⟨ocMark, odMark, .func (fnOf "is_mark" "is_mark" (defArgs sIsMark) (defBody sIsMark) (defScope sIsMark) .none kVMark docMark pmMark anMark cdvMark ctMark), oslMark⟩)
    (cMark : codeIn K cdvMark "is_mark" = true)
    (kMark : keepIn K (.ref gMark) = true)
    (aMarks : nsIn K mainGlobals "are_marks" = some (some (.ref gMarks)))
    (lk_Marks : K.lookup gMarks = some ⟨ocMarks, odMarks, .func (fnOf "are_marks" "are_marks" (defArgs sAreMarks) (defBody sAreMarks) (defScope sAreMarks) .none kVMarks docMarks pmMarks anMarks cdvMarks ctMarks), oslMarks⟩)
    (cMarks : codeIn K cdvMarks "are_marks" = true)
    (kMarks : keepIn K (.ref gMarks) = true)
    (aTable : nsIn K mainGlobals "move_table" = some (some (.ref gTable)))
    (lk_Table : K.lookup gTable = some ⟨ocTable, odTable, .func (fnOf "move_table" "move_table" (defArgs sMoveTable) (defBody sMoveTable) (defScope sMoveTable) .none kVTable docTable pmTable anTable cdvTable ctTable), oslTable⟩)
    (cTable : codeIn K cdvTable "move_table" = true)
    (kTable : keepIn K (.ref gTable) = true)
    (aMove : nsIn K mainGlobals "is_move" = some (some (.ref gMove)))
    (lk_Move : K.lookup gMove = some ⟨ocMove, odMove, .func (fnOf "is_move" "is_move" (defArgs sIsMove) (defBody sIsMove) (defScope sIsMove) .none kVMove docMove pmMove anMove cdvMove ctMove), oslMove⟩)
    (cMove : codeIn K cdvMove "is_move" = true)
    (kMove : keepIn K (.ref gMove) = true)
    (aMoves : nsIn K mainGlobals "are_moves" = some (some (.ref gMoves)))
    (lk_Moves : K.lookup gMoves = some ⟨ocMoves, odMoves, .func (fnOf "are_moves" "are_moves" (defArgs sAreMoves) (defBody sAreMoves) (defScope sAreMoves) .none kVMoves docMoves pmMoves anMoves cdvMoves ctMoves), oslMoves⟩)
    (cMoves : codeIn K cdvMoves "are_moves" = true)
    (kMoves : keepIn K (.ref gMoves) = true)
    (aEnds : nsIn K mainGlobals "are_ends" = some (some (.ref gEnds)))
    (lk_Ends : K.lookup gEnds = some ⟨ocEnds, odEnds, .func (fnOf "are_ends" "are_ends" (defArgs sAreEnds) (defBody sAreEnds) (defScope sAreEnds) .none kVEnds docEnds pmEnds anEnds cdvEnds ctEnds), oslEnds⟩)
    (cEnds : codeIn K cdvEnds "are_ends" = true)
    (kEnds : keepIn K (.ref gEnds) = true)
    (aDeck : nsIn K mainGlobals "_law_deck" = some (some (.ref gDeck)))
    (lk_Deck : K.lookup gDeck = some ⟨ocDeck, odDeck, .func (fnOf "_law_deck" "_law_deck" (defArgs lDeck) (defBody lDeck) (defScope lDeck) .none kVDeck docDeck pmDeck anDeck cdvDeck ctDeck), oslDeck⟩)
    (cDeck : codeIn K cdvDeck "_law_deck" = true)
    (kDeck : keepIn K (.ref gDeck) = true)
    (aDraw : nsIn K mainGlobals "_law_draw" = some (some (.ref gDraw)))
    (lk_Draw : K.lookup gDraw = some ⟨ocDraw, odDraw, .func (fnOf "_law_draw" "_law_draw" (defArgs lDraw) (defBody lDraw) (defScope lDraw) .none kVDraw docDraw pmDraw anDraw cdvDraw ctDraw), oslDraw⟩)
    (cDraw : codeIn K cdvDraw "_law_draw" = true)
    (kDraw : keepIn K (.ref gDraw) = true)
    (aPick : nsIn K mainGlobals "_law_pick" = some (some (.ref gPick)))
    (lk_Pick : K.lookup gPick = some ⟨ocPick, odPick, .func (fnOf "_law_pick" "_law_pick" (defArgs lPick) (defBody lPick) (defScope lPick) .none kVPick docPick pmPick anPick cdvPick ctPick), oslPick⟩)
    (cPick : codeIn K cdvPick "_law_pick" = true)
    (kPick : keepIn K (.ref gPick) = true)
    (aLines : nsIn K mainGlobals "_law_lines" = some (some (.ref gLines)))
    (lk_Lines : K.lookup gLines = some ⟨ocLines, odLines, .func (fnOf "_law_lines" "_law_lines" (defArgs lLines) (defBody lLines) (defScope lLines) .none kVLines docLines pmLines anLines cdvLines ctLines), oslLines⟩)
    (cLines : codeIn K cdvLines "_law_lines" = true)
    (kLines : keepIn K (.ref gLines) = true)
    (aParts : nsIn K mainGlobals "_law_parts" = some (some (.ref gParts)))
    (lk_Parts : K.lookup gParts = some ⟨ocParts, odParts, .func (fnOf "_law_parts" "_law_parts" (defArgs lParts) (defBody lParts) (defScope lParts) .none kVParts docParts pmParts anParts cdvParts ctParts), oslParts⟩)
    (cParts : codeIn K cdvParts "_law_parts" = true)
    (kParts : keepIn K (.ref gParts) = true)
    (aLState : nsIn K mainGlobals "_law_is_state" = some (some (.ref gLState)))
    (lk_LState : K.lookup gLState = some ⟨ocLState, odLState, .func (fnOf "_law_is_state" "_law_is_state" (defArgs lIsState) (defBody lIsState) (defScope lIsState) .none kVLState docLState pmLState anLState cdvLState ctLState), oslLState⟩)
    (cLState : codeIn K cdvLState "_law_is_state" = true)
    (kLState : keepIn K (.ref gLState) = true)
    (aLMarks : nsIn K mainGlobals "_law_are_marks" = some (some (.ref gLMarks)))
    (lk_LMarks : K.lookup gLMarks = some ⟨ocLMarks, odLMarks, .func (fnOf "_law_are_marks" "_law_are_marks" (defArgs lAreMarks) (defBody lAreMarks) (defScope lAreMarks) .none kVLMarks docLMarks pmLMarks anLMarks cdvLMarks ctLMarks), oslLMarks⟩)
    (cLMarks : codeIn K cdvLMarks "_law_are_marks" = true)
    (kLMarks : keepIn K (.ref gLMarks) = true)
    (aLine : nsIn K mainGlobals "_law_is_line" = some (some (.ref gLine)))
    (lk_Line : K.lookup gLine = some ⟨ocLine, odLine, .func (fnOf "_law_is_line" "_law_is_line" (defArgs lIsLine) (defBody lIsLine) (defScope lIsLine) .none kVLine docLine pmLine anLine cdvLine ctLine), oslLine⟩)
    (cLine : codeIn K cdvLine "_law_is_line" = true)
    (kLine : keepIn K (.ref gLine) = true)
    (aStop : nsIn K mainGlobals "_law_is_stop" = some (some (.ref gStop)))
    (lk_Stop : K.lookup gStop = some ⟨ocStop, odStop, .func (fnOf "_law_is_stop" "_law_is_stop" (defArgs lIsStop) (defBody lIsStop) (defScope lIsStop) .none kVStop docStop pmStop anStop cdvStop ctStop), oslStop⟩)
    (cStop : codeIn K cdvStop "_law_is_stop" = true)
    (kStop : keepIn K (.ref gStop) = true)
    (aDue : nsIn K mainGlobals "_law_due" = some (some (.ref gDue)))
    (lk_Due : K.lookup gDue = some ⟨ocDue, odDue, .func (fnOf "_law_due" "_law_due" (defArgs lDue) (defBody lDue) (defScope lDue) .none kVDue docDue pmDue anDue cdvDue ctDue), oslDue⟩)
    (cDue : codeIn K cdvDue "_law_due" = true)
    (kDue : keepIn K (.ref gDue) = true)
    (aOdd : nsIn K mainGlobals "_law_odd" = some (some (.ref gOdd)))
    (lk_Odd : K.lookup gOdd = some ⟨ocOdd, odOdd, .func (fnOf "_law_odd" "_law_odd" (defArgs lOdd) (defBody lOdd) (defScope lOdd) .none kVOdd docOdd pmOdd anOdd cdvOdd ctOdd), oslOdd⟩)
    (cOdd : codeIn K cdvOdd "_law_odd" = true)
    (kOdd : keepIn K (.ref gOdd) = true)
    (aBent : nsIn K mainGlobals "_law_bent" = some (some (.ref gBent)))
    (lk_Bent : K.lookup gBent = some ⟨ocBent, odBent, .func (fnOf "_law_bent" "_law_bent" (defArgs lBent) (defBody lBent) (defScope lBent) .none kVBent docBent pmBent anBent cdvBent ctBent), oslBent⟩)
    (cBent : codeIn K cdvBent "_law_bent" = true)
    (kBent : keepIn K (.ref gBent) = true)
    (aHeard : nsIn K mainGlobals "_law_heard" = some (some (.ref gHeard)))
    (lk_Heard : K.lookup gHeard = some ⟨ocHeard, odHeard, .func (fnOf "_law_heard" "_law_heard" (defArgs lHeard) (defBody lHeard) (defScope lHeard) .none kVHeard docHeard pmHeard anHeard cdvHeard ctHeard), oslHeard⟩)
    (cHeard : codeIn K cdvHeard "_law_heard" = true)
    (kHeard : keepIn K (.ref gHeard) = true)
    (aRight : nsIn K mainGlobals "_law_right" = some (some (.ref gRight)))
    (lk_Right : K.lookup gRight = some ⟨ocRight, odRight, .func (fnOf "_law_right" "_law_right" (defArgs lRight) (defBody lRight) (defScope lRight) .none kVRight docRight pmRight anRight cdvRight ctRight), oslRight⟩)
    (cRight : codeIn K cdvRight "_law_right" = true)
    (kRight : keepIn K (.ref gRight) = true)
    (aLaw : nsIn K mainGlobals "law" = some (some (.ref gLaw)))
    (lk_Law : K.lookup gLaw = some ⟨ocLaw, odLaw, .func (fnOf "law" "law" (defArgs lLaw) (defBody lLaw) (defScope lLaw) .none kVLaw docLaw pmLaw anLaw cdvLaw ctLaw), oslLaw⟩)
    (cLaw : codeIn K cdvLaw "law" = true)
    (kLaw : keepIn K (.ref gLaw) = true)
    (zisinstance : nsIn K mainGlobals "isinstance" = some none)
    (zint : nsIn K mainGlobals "int" = some none)
    (zbool : nsIn K mainGlobals "bool" = some none)
    (zstr : nsIn K mainGlobals "str" = some none)
    (ztuple : nsIn K mainGlobals "tuple" = some none)
    (zlen : nsIn K mainGlobals "len" = some none)
    (zall : nsIn K mainGlobals "all" = some none)
    (zzip : nsIn K mainGlobals "zip" = some none)
    (zrange : nsIn K mainGlobals "range" = some none)
    (zlist : nsIn K mainGlobals "list" = some none)
    (zrepr : nsIn K mainGlobals "repr" = some none)
    (zsorted : nsIn K mainGlobals "sorted" = some none)
    (zset : nsIn K mainGlobals "set" = some none)
    (zdict : nsIn K mainGlobals "dict" = some none)
    (zenumerate : nsIn K mainGlobals "enumerate" = some none)
    (sp : specialIn K (.builtin "object.__class__") "__get__" = some (some (.builtin "getset_descriptor.__get__")))
    (tk : takesIn K (.builtin "object.__class__") = some true)
    (chk : chkE K B CB = true)
    : ∃ fd : FuncData, (∀ (s : Shared) (u : Value), BindsTo s fd ⟨[u], []⟩ [("_law_script", u)]) ∧ ∀ base : Heap, K.In base → base.Ns mainGlobals mg → FnG l.prog w K mg base CX0 10 fa fd ["_law_script"] (spLaw K) := by
  have e := hfa.symm.trans (mg_of X G aLaw)
  cases e
  have ck := chk_of chk
  have ec : EC K CB := ck.ec sp tk
  have T : TxtB mg := ⟨mg_none_of X G zisinstance, mg_none_of X G zint, mg_none_of X G zbool, mg_none_of X G zstr, mg_none_of X G ztuple, mg_none_of X G zlen, mg_none_of X G zall, mg_none_of X G zzip⟩
  have TD : TxtD mg := ⟨mg_none_of X G zlist, T.int, T.len⟩
  have TG : TxtG mg := ⟨TD, mg_none_of X G zrange, T.tuple, mg_none_of X G zsorted, mg_none_of X G zset, mg_none_of X G zdict, mg_none_of X G zrepr, mg_none_of X G zenumerate⟩
  have TU : TxtU mg := ⟨T, mg_none_of X G zsorted, mg_none_of X G zset⟩
  have TO : TxtO mg := ⟨T, mg_none_of X G zlist⟩
  have cls : Cls K C := ⟨pg, hd, po, sa⟩
  have TR : TxtR K mg C := ⟨cls, n_states, n_first, n_moves, n_ends, n__moves, n__ends, ⟨_, mg_of X G m0⟩⟩
  have TE : TxtE K mg CB IB := ⟨{ c := ec, fls := by unfold IsFl; simp, nf := nE, iC := jE, fn := ⟨_, _, _, _, _, _, _, _, _, _, _, _, _, lE, dE⟩ }, ck.c10, mg_of X G aE⟩
  have mC := mg_of X G aC
  have IC : C8.InsC K C := ⟨cls, hac, sp, tk, hmc, by unfold kitOne; rw [if_pos (by simp)]⟩
  have TQ : TxtQ K C := ⟨IC, hcl⟩
  have FI := fun_mk (st := sRInit) lk_I cI kI
  have bI := FI.binds (ps := pInit4) fun _ _ _ _ _ _ us hl => match us, hl with | [_, _, _, _, _], _ => rfl
  have FQ := fun_mk (st := sREq) lk_Q cQ kQ
  have bQ := FQ.binds (ps := ["self", "other"]) fun _ _ _ _ _ _ us hl => match us, hl with | [_, _], _ => rfl
  have FN := fun_mk (st := sRLen) lk_N cN kN
  have bN := FN.binds (ps := ["self"]) fun _ _ _ _ _ _ us hl => match us, hl with | [_], _ => rfl
  have FInt := fun_mk (st := sIsInt) lk_Int cInt kInt
  have bInt := FInt.binds (ps := ["thing"]) fun _ _ _ _ _ _ us hl => match us, hl with | [_], _ => rfl
  have FBet := fun_mk (st := sIsBet) lk_Bet cBet kBet
  have bBet := FBet.binds (ps := ["thing", "low", "high"]) fun _ _ _ _ _ _ us hl => match us, hl with | [_, _, _], _ => rfl
  have FTup := fun_mk (st := sIsTup) lk_Tup cTup kTup
  have bTup := FTup.binds (ps := ["thing", "low", "high"]) fun _ _ _ _ _ _ us hl => match us, hl with | [_, _, _], _ => rfl
  have FAsc := fun_mk (st := sIsAsc) lk_Asc cAsc kAsc
  have bAsc := FAsc.binds (ps := ["items"]) fun _ _ _ _ _ _ us hl => match us, hl with | [_], _ => rfl
  have FMark := fun_mk (st := sIsMark) lk_Mark cMark kMark
  have bMark := FMark.binds (ps := ["thing"]) fun _ _ _ _ _ _ us hl => match us, hl with | [_], _ => rfl
  have FMarks := fun_mk (st := sAreMarks) lk_Marks cMarks kMarks
  have bMarks := FMarks.binds (ps := ["thing"]) fun _ _ _ _ _ _ us hl => match us, hl with | [_], _ => rfl
  have FTable := fun_mk (st := sMoveTable) lk_Table cTable kTable
  have bTable := FTable.binds (ps := ["moves"]) fun _ _ _ _ _ _ us hl => match us, hl with | [_], _ => rfl
  have FMove := fun_mk (st := sIsMove) lk_Move cMove kMove
  have bMove := FMove.binds (ps := ["states", "thing"]) fun _ _ _ _ _ _ us hl => match us, hl with | [_, _], _ => rfl
  have FMoves := fun_mk (st := sAreMoves) lk_Moves cMoves kMoves
  have bMoves := FMoves.binds (ps := ["states", "thing"]) fun _ _ _ _ _ _ us hl => match us, hl with | [_, _], _ => rfl
  have FEnds := fun_mk (st := sAreEnds) lk_Ends cEnds kEnds
  have bEnds := FEnds.binds (ps := ["states", "thing"]) fun _ _ _ _ _ _ us hl => match us, hl with | [_, _], _ => rfl
  have FDeck := fun_mk (st := lDeck) lk_Deck cDeck kDeck
  have bDeck := FDeck.binds (ps := ["_law_script"]) fun _ _ _ _ _ _ us hl => match us, hl with | [_], _ => rfl
  have FDraw := fun_mk (st := lDraw) lk_Draw cDraw kDraw
  have bDraw := FDraw.binds (ps := ["_law_deck_here", "_law_below"]) fun _ _ _ _ _ _ us hl => match us, hl with | [_, _], _ => rfl
  have FPick := fun_mk (st := lPick) lk_Pick cPick kPick
  have bPick := FPick.binds (ps := ["_law_deck_here", "_law_some"]) fun _ _ _ _ _ _ us hl => match us, hl with | [_, _], _ => rfl
  have FLines := fun_mk (st := lLines) lk_Lines cLines kLines
  have bLines := FLines.binds (ps := ["_law_deck_here", "_law_size", "_law_kinds"]) fun _ _ _ _ _ _ us hl => match us, hl with | [_, _, _], _ => rfl
  have FParts := fun_mk (st := lParts) lk_Parts cParts kParts
  have bParts := FParts.binds (ps := ["_law_deck_here"]) fun _ _ _ _ _ _ us hl => match us, hl with | [_], _ => rfl
  have FLState := fun_mk (st := lIsState) lk_LState cLState kLState
  have bLState := FLState.binds (ps := ["_law_it", "_law_size"]) fun _ _ _ _ _ _ us hl => match us, hl with | [_, _], _ => rfl
  have FLMarks := fun_mk (st := lAreMarks) lk_LMarks cLMarks kLMarks
  have bLMarks := FLMarks.binds (ps := ["_law_it"]) fun _ _ _ _ _ _ us hl => match us, hl with | [_], _ => rfl
  have FLine := fun_mk (st := lIsLine) lk_Line cLine kLine
  have bLine := FLine.binds (ps := ["_law_it", "_law_size"]) fun _ _ _ _ _ _ us hl => match us, hl with | [_, _], _ => rfl
  have FStop := fun_mk (st := lIsStop) lk_Stop cStop kStop
  have bStop := FStop.binds (ps := ["_law_it", "_law_size"]) fun _ _ _ _ _ _ us hl => match us, hl with | [_, _], _ => rfl
  have FDue := fun_mk (st := lDue) lk_Due cDue kDue
  have bDue := FDue.binds (ps := ["_law_some"]) fun _ _ _ _ _ _ us hl => match us, hl with | [_], _ => rfl
  have FOdd := fun_mk (st := lOdd) lk_Odd cOdd kOdd
  have bOdd := FOdd.binds (ps := ["_law_deck_here", "_law_it"]) fun _ _ _ _ _ _ us hl => match us, hl with | [_, _], _ => rfl
  have FBent := fun_mk (st := lBent) lk_Bent cBent kBent
  have bBent := FBent.binds (ps := ["_law_deck_here", "_law_it"]) fun _ _ _ _ _ _ us hl => match us, hl with | [_, _], _ => rfl
  have FHeard := fun_mk (st := lHeard) lk_Heard cHeard kHeard
  have bHeard := FHeard.binds (ps := ["_law_some", "_law_is_named"]) fun _ _ _ _ _ _ us hl => match us, hl with | [_, _], _ => rfl
  have FRight := fun_mk (st := lRight) lk_Right cRight kRight
  have bRight := FRight.binds (ps := ["_law_some", "_law_is_named"]) fun _ _ _ _ _ _ us hl => match us, hl with | [_, _], _ => rfl
  have FLaw := fun_mk (st := lLaw) lk_Law cLaw kLaw
  have bLaw := FLaw.binds (ps := ["_law_script"]) fun _ _ _ _ _ _ us hl => match us, hl with | [_], _ => rfl
  have kb : ∀ (s2 : Shared) (a : Addr) (ws : List Value), K.In s2.heap → ws.length = kInit4.length → BindsTo s2 (fnOf "__init__" "Reader.__init__" (defArgs sRInit) (defBody sRInit) (defScope sRInit) .none kVI docI pmI anI cdvI ctI) ⟨[.ref a], kInit4.zip ws⟩ (pInit4.zip (.ref a :: ws.reverse)) := fun s2 a ws _ hl => match ws, hl with
    | [_, _, _, _], _ => .of_eq (fd := (fnOf "__init__" "Reader.__init__" (defArgs sRInit) (defBody sRInit) (defScope sRInit) .none kVI docI pmI anI cdvI ctI)) rfl
  have TH : TxtH K mg CB IB C fI (fnOf "__init__" "Reader.__init__" (defArgs sRInit) (defBody sRInit) (defScope sRInit) .none kVI docI pmI anI cdvI ctI) := {
    e := TE
    ex := ck.exm (by rw [ck.mro]; rfl) (by
      unfold kitCls
      dsimp only
      rw [ck.isSome, ck.c10, if_pos (by simp), ck.mro]
      simp)
    mkd := ⟨mk, jI, iI, kc⟩
    mC := mC
    b := bI
    kb := kb }
  refine ⟨_, fun s u => .of_eq (fd := fnOf "law" "law" (defArgs lLaw) (defBody lLaw) (defScope lLaw) .none kVLaw docLaw pmLaw anLaw cdvLaw ctLaw) rfl, fun base _ _ => ?_⟩
  have CInt : Cal K mg "is_int" gInt _ ["thing"] := ⟨mg_of X G aInt, kInt, bInt⟩
  have CBet : Cal K mg "is_between" gBet _ ["thing", "low", "high"] := ⟨mg_of X G aBet, kBet, bBet⟩
  have CTup : Cal K mg "is_tuple_of" gTup _ ["thing", "low", "high"] := ⟨mg_of X G aTup, kTup, bTup⟩
  have CAsc : Cal K mg "is_ascending" gAsc _ ["items"] := ⟨mg_of X G aAsc, kAsc, bAsc⟩
  have CMark : Cal K mg "is_mark" gMark _ ["thing"] := ⟨mg_of X G aMark, kMark, bMark⟩
  have CMarks : Cal K mg "are_marks" gMarks _ ["thing"] := ⟨mg_of X G aMarks, kMarks, bMarks⟩
  have CTable : Cal K mg "move_table" gTable _ ["moves"] := ⟨mg_of X G aTable, kTable, bTable⟩
  have CMove : Cal K mg "is_move" gMove _ ["states", "thing"] := ⟨mg_of X G aMove, kMove, bMove⟩
  have CMoves : Cal K mg "are_moves" gMoves _ ["states", "thing"] := ⟨mg_of X G aMoves, kMoves, bMoves⟩
  have CEnds : Cal K mg "are_ends" gEnds _ ["states", "thing"] := ⟨mg_of X G aEnds, kEnds, bEnds⟩
  have CDeck : Cal K mg "_law_deck" gDeck _ ["_law_script"] := ⟨mg_of X G aDeck, kDeck, bDeck⟩
  have CDraw : Cal K mg "_law_draw" gDraw _ ["_law_deck_here", "_law_below"] := ⟨mg_of X G aDraw, kDraw, bDraw⟩
  have CPick : Cal K mg "_law_pick" gPick _ ["_law_deck_here", "_law_some"] := ⟨mg_of X G aPick, kPick, bPick⟩
  have CLines : Cal K mg "_law_lines" gLines _ ["_law_deck_here", "_law_size", "_law_kinds"] := ⟨mg_of X G aLines, kLines, bLines⟩
  have CParts : Cal K mg "_law_parts" gParts _ ["_law_deck_here"] := ⟨mg_of X G aParts, kParts, bParts⟩
  have CLState : Cal K mg "_law_is_state" gLState _ ["_law_it", "_law_size"] := ⟨mg_of X G aLState, kLState, bLState⟩
  have CLMarks : Cal K mg "_law_are_marks" gLMarks _ ["_law_it"] := ⟨mg_of X G aLMarks, kLMarks, bLMarks⟩
  have CLine : Cal K mg "_law_is_line" gLine _ ["_law_it", "_law_size"] := ⟨mg_of X G aLine, kLine, bLine⟩
  have CStop : Cal K mg "_law_is_stop" gStop _ ["_law_it", "_law_size"] := ⟨mg_of X G aStop, kStop, bStop⟩
  have CDue : Cal K mg "_law_due" gDue _ ["_law_some"] := ⟨mg_of X G aDue, kDue, bDue⟩
  have COdd : Cal K mg "_law_odd" gOdd _ ["_law_deck_here", "_law_it"] := ⟨mg_of X G aOdd, kOdd, bOdd⟩
  have CBent : Cal K mg "_law_bent" gBent _ ["_law_deck_here", "_law_it"] := ⟨mg_of X G aBent, kBent, bBent⟩
  have CHeard : Cal K mg "_law_heard" gHeard _ ["_law_some", "_law_is_named"] := ⟨mg_of X G aHeard, kHeard, bHeard⟩
  have CRight : Cal K mg "_law_right" gRight _ ["_law_some", "_law_is_named"] := ⟨mg_of X G aRight, kRight, bRight⟩
  have GInt := ok_int (P := l.prog) (w := w) (mg := mg) (base := base) FInt T
  have GBet := ok_bet (P := l.prog) (w := w) (mg := mg) (base := base) FBet T GInt CInt
  have GTup := ok_tup (P := l.prog) (w := w) (mg := mg) (base := base) FTup T
  have GAsc := ok_asc (P := l.prog) (w := w) (mg := mg) (base := base) FAsc T
  have GMark := ok_mark (P := l.prog) (w := w) (mg := mg) (base := base) FMark T
  have GMarks := ok_marks (P := l.prog) (w := w) (mg := mg) (base := base) FMarks T GMark CMark
  have GTable := ok_table (P := l.prog) (w := w) (mg := mg) (base := base) FTable
  have GMove := ok_move (P := l.prog) (w := w) (mg := mg) (base := base) FMove T GTup CTup GBet CBet GMark CMark GMarks CMarks
  have GMoves := ok_moves (P := l.prog) (w := w) (mg := mg) (base := base) FMoves T GMove CMove GAsc CAsc
  have GEnds := ok_ends (P := l.prog) (w := w) (mg := mg) (base := base) FEnds T GTup CTup GBet CBet GMarks CMarks GAsc CAsc
  have GDeck := ok_deck (P := l.prog) (w := w) (mg := mg) (base := base) FDeck TD
  have GDraw := ok_draw (P := l.prog) (w := w) (mg := mg) (base := base) FDraw TD
  have GPick := ok_pick (P := l.prog) (w := w) (mg := mg) (base := base) FPick TD GDraw CDraw
  have GLines := ok_lines (P := l.prog) (w := w) (mg := mg) (base := base) FLines TG GDraw CDraw GPick CPick
  have GParts := ok_parts (P := l.prog) (w := w) (mg := mg) (base := base) FParts TG GDraw CDraw GPick CPick GLines CLines
  have GLState := ok_lstate (P := l.prog) (w := w) (mg := mg) (base := base) FLState T
  have GLMarks := ok_lmarks (P := l.prog) (w := w) (mg := mg) (base := base) FLMarks T
  have GLine := ok_lline (P := l.prog) (w := w) (mg := mg) (base := base) FLine T GLState CLState GLMarks CLMarks
  have GStop := ok_lstop (P := l.prog) (w := w) (mg := mg) (base := base) FStop T GLState CLState GLMarks CLMarks
  have GDue := ok_ldue (P := l.prog) (w := w) (mg := mg) (base := base) FDue TU GLState CLState GLMarks CLMarks GLine CLine GStop CStop
  have GOdd := ok_odd (P := l.prog) (w := w) (mg := mg) (base := base) FOdd TO GPick CPick
  have GBent := ok_bent (P := l.prog) (w := w) (mg := mg) (base := base) FBent T CBent GDraw CDraw GOdd COdd 6
  have GInit := ok_rinitX (P := l.prog) (w := w) (base := base) FI TR TE GBet CBet GMarks CMarks GMoves CMoves GEnds CEnds GTable CTable
  have GQ := ok_req (P := l.prog) (w := w) (base := base) FQ TR TQ T mC
  have GN := ok_rlen (P := l.prog) (w := w) (base := base) FN TR T.len TG.range
  have RF : RdrFns l.prog w K mg base C CB fI fQ fN _ _ _ := ⟨GInit, ⟨mk, jI, iI, kc⟩, bI, GQ, jQ, iQ, bQ, hne, hmc, GN, jN, iN, bN⟩
  have GHeard := ok_heard (P := l.prog) (w := w) (mg := mg) (base := base) FHeard TH GInit
  have GRight := ok_right (P := l.prog) (w := w) (mg := mg) (base := base) FRight TG T TR TQ mC RF GDue CDue GHeard CHeard
  have LF : LawFns l.prog w K mg base gDeck gDraw gParts gBent gRight _ _ _ _ _ := ⟨GDeck, CDeck, GDraw, CDraw, GParts, CParts, GBent, CBent, GRight, CRight⟩
  exact ok_law FLaw TG TQ mC RF LF
theorem walk {l : PySem.W.OpenLaw} {q : Program} {loose : List Str} {XP : (Str → Option Value) → Heap → Prop} {YP : World → Heap → Prop} {d : DefRec} {K : Params → Frag} (hn : l.most = some 63) (hdf : d.params.defaults = []) (hY : ∀ (w : World) (h : Heap), YP w h → (K w.params).In h)
    (F : ∀ (w : World) (mg : Str → Option Value) (fa : Addr) (h : Heap), (K w.params).In h → h.Ns mainGlobals mg → mg d.name = some (.ref fa) →
      ∃ fd : FuncData, (∀ (s : Shared) (u : Value), BindsTo s fd ⟨[u], []⟩ [("_law_script", u)]) ∧ ∀ base : Heap, (K w.params).In base → base.Ns mainGlobals mg → FnG l.prog w (K w.params) mg base CX0 10 fa fd ["_law_script"] (spLaw (K w.params))) : WalkO q loose XP YP l.row.toRowW d [] (fun f vs => PySem.call f vs) :=
  walkG (n := 63) (k := 10) (x := "_law_script") (CX := fun _ => CX0) (sp := fun w => spLaw (K w.params)) hn (by decide) hdf ⟨rfl, by decide, by decide⟩ hY F (fun _ _ a ns hl _ hS => ⟨a, ns, rfl, hS, hl, fun _ => rfl⟩) fun _ _ _ _ _ z => z
end KL
set_option Elab.async false
open PySem PySem.W PyProof.Rows in
set_option maxRecDepth 100000 in
set_option maxHeartbeats 0 in
theorem PySem.Challenge.cw_loghouse_k27_readers_of_any_values_holds : PySem.Challenge.rw_loghouse_k27_readers_of_any_values.Holds := by
  w_on; o_law; k_head; (case hw => w_witness2)
  k_fill
  refine KL.walk (l := PySem.Challenge.rw_loghouse_k27_readers_of_any_values) rfl rfl (fun w h Y => PySem.W.kIn_of Y) ?F
  case F =>
    intro w mg fa h KX G hmg
    refine' KL.all_mk KX G hmg ?aB ?aE ?nE ?jE ?lE ?dE ?aC ?jI ?iI ?jQ ?iQ ?jN ?iN ?lk_I ?cI ?kI ?lk_Q ?cQ ?kQ ?lk_N ?cN ?kN ?pg ?hd ?po ?sa ?mk ?kc ?hac ?hmc ?hne ?hcl ?n_states ?n_first ?n_moves ?n_ends ?n__moves ?n__ends ?m0 ?aInt ?lk_Int ?cInt ?kInt ?aBet ?lk_Bet ?cBet ?kBet ?aTup ?lk_Tup ?cTup ?kTup ?aAsc ?lk_Asc ?cAsc ?kAsc ?aMark ?lk_Mark ?cMark ?kMark ?aMarks ?lk_Marks ?cMarks ?kMarks ?aTable ?lk_Table ?cTable ?kTable ?aMove ?lk_Move ?cMove ?kMove ?aMoves ?lk_Moves ?cMoves ?kMoves ?aEnds ?lk_Ends ?cEnds ?kEnds ?aDeck ?lk_Deck ?cDeck ?kDeck ?aDraw ?lk_Draw ?cDraw ?kDraw ?aPick ?lk_Pick ?cPick ?kPick ?aLines ?lk_Lines ?cLines ?kLines ?aParts ?lk_Parts ?cParts ?kParts ?aLState ?lk_LState ?cLState ?kLState ?aLMarks ?lk_LMarks ?cLMarks ?kLMarks ?aLine ?lk_Line ?cLine ?kLine ?aStop ?lk_Stop ?cStop ?kStop ?aDue ?lk_Due ?cDue ?kDue ?aOdd ?lk_Odd ?cOdd ?kOdd ?aBent ?lk_Bent ?cBent ?kBent ?aHeard ?lk_Heard ?cHeard ?kHeard ?aRight ?lk_Right ?cRight ?kRight ?aLaw ?lk_Law ?cLaw ?kLaw ?zisinstance ?zint ?zbool ?zstr ?ztuple ?zlen ?zall ?zzip ?zrange ?zlist ?zrepr ?zsorted ?zset ?zdict ?zenumerate ?sp ?tk ?chk
    (case aB => k_is)
    (case aE => k_is)
    (case nE => k_is)
    (case jE => k_is)
    (case lE => k_is)
    (case dE => k_is)
    (case aC => k_is)
    (case jI => k_is)
    (case iI => k_is)
    (case jQ => k_is)
    (case iQ => k_is)
    (case jN => k_is)
    (case iN => k_is)
    (case lk_I => k_is)
    (case cI => k_is)
    (case kI => k_is)
    (case lk_Q => k_is)
    (case cQ => k_is)
    (case kQ => k_is)
    (case lk_N => k_is)
    (case cN => k_is)
    (case kN => k_is)
    (case pg => k_is)
    (case hd => k_is)
    (case po => k_is)
    (case sa => k_is)
    (case mk => k_is)
    (case kc => k_is)
    (case hac => k_is)
    (case hmc => k_is)
    (case hne => k_is)
    (case hcl => kernel_rfl)
    (case n_states => k_is)
    (case n_first => k_is)
    (case n_moves => k_is)
    (case n_ends => k_is)
    (case n__moves => k_is)
    (case n__ends => k_is)
    (case m0 => k_is)
    (case aInt => k_is)
    (case lk_Int => k_is)
    (case cInt => k_is)
    (case kInt => k_is)
    (case aBet => k_is)
    (case lk_Bet => k_is)
    (case cBet => k_is)
    (case kBet => k_is)
    (case aTup => k_is)
    (case lk_Tup => k_is)
    (case cTup => k_is)
    (case kTup => k_is)
    (case aAsc => k_is)
    (case lk_Asc => k_is)
    (case cAsc => k_is)
    (case kAsc => k_is)
    (case aMark => k_is)
    (case lk_Mark => k_is)
    (case cMark => k_is)
    (case kMark => k_is)
    (case aMarks => k_is)
    (case lk_Marks => k_is)
    (case cMarks => k_is)
    (case kMarks => k_is)
    (case aTable => k_is)
    (case lk_Table => k_is)
    (case cTable => k_is)
    (case kTable => k_is)
    (case aMove => k_is)
    (case lk_Move => k_is)
    (case cMove => k_is)
    (case kMove => k_is)
    (case aMoves => k_is)
    (case lk_Moves => k_is)
    (case cMoves => k_is)
    (case kMoves => k_is)
    (case aEnds => k_is)
    (case lk_Ends => k_is)
    (case cEnds => k_is)
    (case kEnds => k_is)
    (case aDeck => k_is)
    (case lk_Deck => k_is)
    (case cDeck => k_is)
    (case kDeck => k_is)
    (case aDraw => k_is)
    (case lk_Draw => k_is)
    (case cDraw => k_is)
    (case kDraw => k_is)
    (case aPick => k_is)
    (case lk_Pick => k_is)
    (case cPick => k_is)
    (case kPick => k_is)
    (case aLines => k_is)
    (case lk_Lines => k_is)
    (case cLines => k_is)
    (case kLines => k_is)
    (case aParts => k_is)
    (case lk_Parts => k_is)
    (case cParts => k_is)
    (case kParts => k_is)
    (case aLState => k_is)
    (case lk_LState => k_is)
    (case cLState => k_is)
    (case kLState => k_is)
    (case aLMarks => k_is)
    (case lk_LMarks => k_is)
    (case cLMarks => k_is)
    (case kLMarks => k_is)
    (case aLine => k_is)
    (case lk_Line => k_is)
    (case cLine => k_is)
    (case kLine => k_is)
    (case aStop => k_is)
    (case lk_Stop => k_is)
    (case cStop => k_is)
    (case kStop => k_is)
    (case aDue => k_is)
    (case lk_Due => k_is)
    (case cDue => k_is)
    (case kDue => k_is)
    (case aOdd => k_is)
    (case lk_Odd => k_is)
    (case cOdd => k_is)
    (case kOdd => k_is)
    (case aBent => k_is)
    (case lk_Bent => k_is)
    (case cBent => k_is)
    (case kBent => k_is)
    (case aHeard => k_is)
    (case lk_Heard => k_is)
    (case cHeard => k_is)
    (case kHeard => k_is)
    (case aRight => k_is)
    (case lk_Right => k_is)
    (case cRight => k_is)
    (case kRight => k_is)
    (case aLaw => k_is)
    (case lk_Law => k_is)
    (case cLaw => k_is)
    (case kLaw => k_is)
    (case zisinstance => k_is)
    (case zint => k_is)
    (case zbool => k_is)
    (case zstr => k_is)
    (case ztuple => k_is)
    (case zlen => k_is)
    (case zall => k_is)
    (case zzip => k_is)
    (case zrange => k_is)
    (case zlist => k_is)
    (case zrepr => k_is)
    (case zsorted => k_is)
    (case zset => k_is)
    (case zdict => k_is)
    (case zenumerate => k_is)
    (case sp => k_is)
    (case tk => k_is)
    (case chk => kernel_rfl)
