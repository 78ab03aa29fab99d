import PyProof.Rows.All
import Wide.All
import OpenK.AllK
import Wide.FinOn
import HandS.ForMost
import HandS.ForExc
import HandS.Style
import HandS.IsInst
import HandS.TupLe
import HandS.Zip
import PyProof.ReprRoads
import PyProof.EqAt
import PyProof.EqKinds
import HandS.Walk
import HandS.TupAny
import PyProof.NeKinds
import HandS.DictComp
import HandS.SortInts
import KE.SortData
import KE.KDictPairs
import HandS.SetKeys
import HandS.SetFor
import HandS.TupSets
import HandS.ExcInit
import HandS.ExcIs
import KE.KExcInit
import PyProof.ExcBaseAll.Exception
import PyProof.InstStoreFacts
import HandS.MakeKwOnly
import HandS.ExcValue
import HandS.ExcField
import KE.KExcIs
import HandS.Ends
import HandS.ExcOwn
import PyProof.FactsAll.tuple_2
import PyProof.StrLawsRepr
import PyProof.FitsInt
import HandS.OwnEq
import PyProof.InstNe
import HandS.Codes
import HandS.TupMul
import PyProof.ListMulRoad
import HandS.Conv
import HandS.Text
import PyProof.Rows.IntBool
import KE.KIntText
import HandS.WordsExc
import PyProof.WalksMore
import PyProof.TupleIter
import PyProof.FactsAll.subtypes_4
import HandS.FStr
import HandS.Small
import OpenK.KMeth
import KE.KExcStr
import HandS.ClsMeth
import HandS.CallLocal
import KE.KCallOwn
import HandS.StrMore
import KE.IntTextLaws
import KE.IntTextText
import PyProof.StrLawsAffix
import PyProof.StrLawsChain
import PyProof.ReprReads
import KE.GoesEnumKw
import HandS.SortKw
import HandS.DictEq
import KE.KEqDict
import PyProof.CallFns
import PyProof.StrLawsIn
import KE.DataMinMax
import PyProof.Rows.StrClose
import KE.KRevSl
import PyProof.StrOps2
import HandS.Deep
import PyProof.P3In
import PySem.Challenge.RW_loghouse_k40_policies
set_option Elab.async false
set_option linter.all false
set_option maxRecDepth 100000
set_option maxHeartbeats 2000000
namespace KL
open PySem L2 PySem.Spec PyProof.Rows
/-! ### data, dicts among them -/
mutual
inductive Dq (H : Hp) : V → PyData → Prop
  | non : Dq H .non .none
  | bl (b : Bool) : Dq H (.bl b) (.bool b)
  | int (i : Int) : Dq H (.int i) (.int i)
  | str (x : Str) : Dq H (.str x) (.str x)
  | lst {a : Addr} {xs : List V} {ds : List PyData} : H a = some (.lst xs) → DqAll H xs ds → Dq H (.ref a) (.list ds)
  | tup {a : Addr} {xs : List V} {ds : List PyData} : H a = some (.tup xs) → DqAll H xs ds → Dq H (.ref a) (.tuple ds)
  | dct0 {a : Addr} : H a = some (.dK []) → Dq H (.ref a) (.dict [])
  | dct1 {a : Addr} {x : Str} {i : Int} : H a = some (.dK [(Sum.inr x, V.int i)]) → Dq H (.ref a) (.dict [(.str x, .int i)])
inductive DqAll (H : Hp) : List V → List PyData → Prop
  | nil : DqAll H [] []
  | cons {v : V} {vs : List V} {d : PyData} {ds : List PyData} : Dq H v d → DqAll H vs ds → DqAll H (v :: vs) (d :: ds)
end
mutual
theorem Dq.same {H H' : Hp} (e : Same H H') : ∀ (d : PyData) (v : V), Dq H v d → Dq H' v d
  | .none, _, h => by
    cases h
    exact .non
  | .bool _, _, h => by
    cases h
    exact .bl _
  | .int _, _, h => by
    cases h
    exact .int _
  | .str _, _, h => by
    cases h
    exact .str _
  | .list ds, _, h => by
    cases h with
    | lst q r => exact .lst (e _ _ q) (DqAll.same e ds _ r)
  | .tuple ds, _, h => by
    cases h with
    | tup q r => exact .tup (e _ _ q) (DqAll.same e ds _ r)
  | .dict kvs, _, h => by
    cases h with
    | dct0 q => exact .dct0 (e _ _ q)
    | dct1 q => exact .dct1 (e _ _ q)
theorem DqAll.same {H H' : Hp} (e : Same H H') : ∀ (ds : List PyData) (vs : List V), DqAll H vs ds → DqAll H' vs ds
  | [], _, h => by
    cases h
    exact .nil
  | d :: ds, _, h => by
    cases h with
    | cons q r => exact .cons (Dq.same e d _ q) (DqAll.same e ds _ r)
end
theorem same_new {H : Hp} {p : Addr} {o : HO} (h : H p = none) : Same H (upd H p o) := fun b u e => by
  rw [upd_ne (ne_of_none e h)]
  exact e
theorem DqAll.get {H : Hp} : ∀ (ds : List PyData) (vs : List V) (i : Nat) (v : V), DqAll H vs ds → vs[i]? = some v → ∃ d, d ∈ ds ∧ Dq H v d
  | _, _, i, v, .nil, e => by simp at e
  | _, _, 0, v, .cons (d := d) h _, e => by
    simp at e
    subst e
    exact ⟨d, by simp, h⟩
  | _, _, i + 1, v, .cons _ r, e => by
    obtain ⟨d, hd, h⟩ := DqAll.get _ _ i v r (by simpa using e)
    exact ⟨d, by simp [hd], h⟩

theorem iteNo {b : Bool} {A B : Prop} (hb : b = false) (h : B) : if b = true then A else B := by
  subst hb
  exact iteF h
theorem iteYes {b : Bool} {A B : Prop} (hb : b = true) (h : A) : if b = true then A else B := by
  subst hb
  exact iteT h
/-! ### kinds -/
def tyName : PyData → String
  | .none => "NoneType"
  | .bool _ => "bool"
  | .int _ => "int"
  | .str _ => "str"
  | .list _ => "list"
  | .tuple _ => "tuple"
  | .dict _ => "dict"
theorem Dq.ty {K : PySem.W.Frag} {H : Hp} {v : V} {d : PyData} (h : Dq H v d) : TyX K H v (.type (tyName d)) := by
  cases h with
  | non => exact .base .non
  | bl b => exact .base (.bl b)
  | int i => exact .base (.int i)
  | str x => exact .base (.str x)
  | lst e _ => exact .base (.lst e)
  | tup e _ => exact .base (.tup e)
  | dct0 e => exact .base (.dK e)
  | dct1 e => exact .base (.dK e)
/-- isinstance of data, by the name of a built-in class -/
def isA (T : String) (d : PyData) : Bool := (kitB (tyName d) T).getD false
def kinds4 : List String := ["int", "bool", "str", "tuple", "list", "dict"]
theorem kit_data {K : PySem.W.Frag} {T : String} (hT : T ∈ kinds4) (d : PyData) : PySem.W.kitOne K (.type (tyName d)) (.type T) = some (isA T d) := by
  have z : (kinds4.all fun T => ["NoneType", "bool", "int", "str", "list", "tuple", "dict"].all fun n => (kitB n T).isSome) = true := by decide +kernel
  have y := List.all_eq_true.mp z T hT
  have n : tyName d ∈ ["NoneType", "bool", "int", "str", "list", "tuple", "dict"] := by cases d <;> simp [tyName]
  have x := List.all_eq_true.mp y _ n
  obtain ⟨b, hb⟩ := Option.isSome_iff_exists.mp x
  rw [kit_ty hb]
  unfold isA
  rw [hb]
  rfl
def rIsD : List V → Hp → VK → Prop := fun xs H Q => ∃ (v : V) (d : PyData) (T : String), xs = [v, .ty T] ∧ T ∈ kinds4 ∧ Dq H v d ∧ Q (.bl (isA T d)) H
theorem call_isD {X : Cx} : CallR X (.builtin "isinstance") rIsD := fun pins s σ H xs us Q I r h => by
  obtain ⟨v, d, T, rfl, hT, hd, q⟩ := h
  exact call_isi pins s σ H _ us Q I r ⟨v, .ty T, _, _, _, rfl, .ty T, hd.ty, kit_data hT d, q⟩
end KL
set_option Elab.async false
set_option linter.all false
set_option maxRecDepth 100000
set_option maxHeartbeats 2000000
namespace KL
open PySem L2 PySem.Spec PyProof.Rows
def top (i : Nat) : Stmt := PySem.Challenge.pw_loghouse_k40_policies.main.body.getD i (.Pass ⟨0, 0, 0, 0⟩)
abbrev sIsInt : Stmt := top 6
abbrev sIsBet : Stmt := top 7
abbrev sIsTup : Stmt := top 8
abbrev sIsAsc : Stmt := top 9
/-! ### the mirror -/
def intD : PyData → Bool
  | .int _ => true
  | _ => false
def betD (lo hi : Int) : PyData → Bool
  | .int i => decide (lo ≤ i) && decide (i ≤ hi)
  | _ => false
def letS (x : Str) : Bool := decide (x.length = 1) && (!decide (x.cps.toList < ("a" : Str).cps.toList) && !decide (("z" : Str).cps.toList < x.cps.toList))
def letD : PyData → Bool
  | .str x => letS x
  | _ => false
def tupD (lo hi : Int) : PyData → Bool
  | .tuple ds => decide (lo ≤ (ds.length : Int)) && decide ((ds.length : Int) ≤ hi)
  | _ => false
mutual
/-- sizes that nothing here comes near to -/
def smB : PyData → Bool
  | .none => true
  | .bool _ => true
  | .int i => decide (i.natAbs.log2 < 1900)
  | .str x => decide (x.length ≤ 1000)
  | .list ds => decide (ds.length ≤ 1000) && smAll ds
  | .tuple ds => decide (ds.length ≤ 1000) && smAll ds
  | .dict kvs => decide (kvs.length ≤ 1)
def smAll : List PyData → Bool
  | [] => true
  | d :: r => smB d && smAll r
end
/-- a test of one thing -/
def spTest (f : PyData → Bool) : Sp := fun vs H Q _ => ∃ (v : V) (d : PyData), vs = [v] ∧ Dq H v d ∧ smB d = true ∧ ∀ H', Same H H' → Q (.bl (f d)) H'
/-- a test of one thing with two numbers -/
def spTest2 (f : Int → Int → PyData → Bool) : Sp := fun vs H Q _ => ∃ (v : V) (d : PyData) (lo hi : Int), vs = [v, .int lo, .int hi] ∧ Dq H v d ∧ smB d = true ∧ ∀ H', Same H H' → Q (.bl (f lo hi d)) H'
structure TxtB (mg : Str → Option Value) : Prop where
  isi : mg "isinstance" = none
  int : mg "int" = none
  bool : mg "bool" = none
  str : mg "str" = none
  tuple : mg "tuple" = none
  len : mg "len" = none
  all : mg "all" = none
  zip : mg "zip" = none
/-- a def of the module, called by its name -/
structure Cal (K : PySem.W.Frag) (mg : Str → Option Value) (x : Str) (f : Addr) (fd : FuncData) (ps : List Str) : Prop where
  m : mg x = some (.ref f)
  k : PySem.W.keepIn K (.ref f) = true
  b : L2.Binds K fd ps []
section
variable {P : Program} {w : World} {K : PySem.W.Frag} {mg : Str → Option Value} {base : Heap}
theorem scIsInt : FnScope ["thing"] ["thing"] (defScope sIsInt) := ⟨rfl, rfl, rfl, by decide +kernel, rfl, by decide +kernel, by decide +kernel⟩
theorem ok_int {f : Addr} {fd : FuncData} (F : Fun K "is_int" "is_int" sIsInt f fd) (T : TxtB mg) : FnOk P w K mg base CX0 1 f fd ["thing"] (spTest intD) := by
  refine F.ok scIsInt (fun vs H Q E h => ?_) (fun cdv A outer s H vs Q E hr h => ?_)
  · obtain ⟨v, d, rfl, _⟩ := h
    rfl
  · obtain ⟨v, d, rfl, hd, _, k⟩ := h
    refine ⟨_, pss_one (ps_ret (pe_and (pe_callB call_isD (by rfl) T.isi (by decide +kernel) (pa_cons (pv 0) (pa_cons (pe_bltn (v := .ty "int") (by rfl) T.int (by decide +kernel) rfl) pa_nil)))
      (pe_one (pe_not (pe_callB call_isD (by rfl) T.isi (by decide +kernel) (pa_cons (pv 0) (pa_cons (pe_bltn (v := .ty "bool") (by rfl) T.bool (by decide +kernel) rfl) pa_nil))))))), ?_⟩
    have q := k H (Same.refl H)
    refine ⟨_, rfl, v, d, "int", rfl, by decide, hd, _, rfl, ?_⟩
    cases d <;> first | exact q | exact ⟨_, rfl, v, _, "bool", rfl, by decide, hd, _, rfl, q⟩
theorem scIsBet : FnScope ["thing", "low", "high"] ["thing", "low", "high"] (defScope sIsBet) := ⟨rfl, rfl, rfl, by decide +kernel, rfl, by decide +kernel, by decide +kernel⟩
theorem ok_bet {f g : Addr} {fd gd : FuncData} (F : Fun K "is_between" "is_between" sIsBet f fd) (T : TxtB mg) (G : FnOk P w K mg base CX0 1 g gd ["thing"] (spTest intD)) (c : Cal K mg "is_int" g gd ["thing"]) : FnOk P w K mg base CX0 2 f fd ["thing", "low", "high"] (spTest2 betD) := by
  refine F.ok scIsBet (fun vs H Q E h => ?_) (fun cdv A outer s H vs Q E hr h => ?_)
  · obtain ⟨v, d, lo, hi, rfl, _⟩ := h
    rfl
  · obtain ⟨v, d, lo, hi, rfl, hd, sm, k⟩ := h
    refine ⟨_, pss_one (ps_ret (pe_and (pe_call G hr (by rfl) c.m c.k c.b .nil pass0 (pa_cons (pv 0) pa_nil)) (pe_one (pe_chain op_le op_le (pv 1) (pv 0) (pv 2))))), ?_⟩
    refine ⟨_, rfl, v, d, rfl, hd, sm, fun H1 S1 => ⟨_, rfl, ?_⟩⟩
    have q := k H1 S1
    cases hd with
    | int i =>
      refine ⟨_, rfl, _, rfl, _, _, rfl, rfl, _, rfl, ?_⟩
      by_cases h1 : lo ≤ i
      · refine iteYes (decide_eq_true h1) ⟨_, rfl, _, _, rfl, rfl, ?_⟩
        have e : betD lo hi (.int i) = decide (i ≤ hi) := by simp [betD, h1]
        rw [e] at q
        exact q
      · refine iteNo (decide_eq_false h1) ?_
        have e : betD lo hi (.int i) = false := by simp [betD, h1]
        rw [e] at q
        exact q
    | non => exact q
    | bl _ => exact q
    | str _ => exact q
    | lst _ _ => exact q
    | tup _ _ => exact q
    | dct0 _ => exact q
    | dct1 _ => exact q
theorem scIsTup : FnScope ["thing", "low", "high"] ["thing", "low", "high"] (defScope sIsTup) := ⟨rfl, rfl, rfl, by decide +kernel, rfl, by decide +kernel, by decide +kernel⟩
theorem ok_tup {f : Addr} {fd : FuncData} (F : Fun K "is_tuple_of" "is_tuple_of" sIsTup f fd) (T : TxtB mg) : FnOk P w K mg base CX0 1 f fd ["thing", "low", "high"] (spTest2 tupD) := by
  refine F.ok scIsTup (fun vs H Q E h => ?_) (fun cdv A outer s H vs Q E hr h => ?_)
  · obtain ⟨v, d, lo, hi, rfl, _⟩ := h
    rfl
  · obtain ⟨v, d, lo, hi, rfl, hd, sm, k⟩ := h
    refine ⟨_, pss_one (ps_ret (pe_and (pe_callB call_isD (by rfl) T.isi (by decide +kernel) (pa_cons (pv 0) (pa_cons (pe_bltn (v := .ty "tuple") (by rfl) T.tuple (by decide +kernel) rfl) pa_nil)))
      (pe_one (pe_chain op_le op_le (pv 1) (pe_callB call_len_seq (by rfl) T.len PySem.boot_len (pa_cons (pv 0) pa_nil)) (pv 2))))), ?_⟩
    have q := k H (Same.refl H)
    refine ⟨_, rfl, v, d, "tuple", rfl, by decide, hd, _, rfl, ?_⟩
    cases hd with
    | tup e ha =>
      rename_i a xs ds
      have el : xs.length = ds.length := by
        clear q k sm e
        induction ds generalizing xs with
        | nil => cases ha; rfl
        | cons _ _ ih =>
          cases ha with
          | cons _ r => exact congrArg (· + 1) (ih r)
      refine ⟨_, rfl, _, rfl, a, xs, rfl, .inr (SqT.of e), _, _, rfl, rfl, _, rfl, ?_⟩
      rw [el]
      by_cases h1 : lo ≤ (ds.length : Int)
      · refine iteYes (decide_eq_true h1) ⟨_, rfl, _, _, rfl, rfl, ?_⟩
        have e : tupD lo hi (.tuple ds) = decide ((ds.length : Int) ≤ hi) := by simp [tupD, h1]
        rw [e] at q
        exact q
      · refine iteNo (decide_eq_false h1) ?_
        have e : tupD lo hi (.tuple ds) = false := by simp [tupD, h1]
        rw [e] at q
        exact q
    | non => exact q
    | bl _ => exact q
    | int _ => exact q
    | str _ => exact q
    | lst _ _ => exact q
    | dct0 _ => exact q
    | dct1 _ => exact q
end
end KL
set_option Elab.async false
set_option linter.all false
set_option maxRecDepth 100000
set_option maxHeartbeats 2000000
namespace KL
open PySem L2 PySem.Spec PyProof.Rows
theorem DqAll.len {H : Hp} : ∀ {ds : List PyData} {xs : List V}, DqAll H xs ds → xs.length = ds.length
  | [], _, h => by
    cases h
    rfl
  | _ :: _, _, h => by
    cases h with
    | cons _ r => exact congrArg (· + 1) (DqAll.len r)
theorem DqAll.at {H : Hp} : ∀ {ds : List PyData} {xs : List V} {i : Nat} {x : V}, DqAll H xs ds → xs[i]? = some x → ∃ d, ds[i]? = some d ∧ Dq H x d
  | [], _, i, x, h, e => by
    cases h
    simp at e
  | d :: ds, _, 0, x, h, e => by
    cases h with
    | cons q _ =>
      simp at e
      subst e
      exact ⟨d, rfl, q⟩
  | d :: ds, _, i + 1, x, h, e => by
    cases h with
    | cons _ r =>
      obtain ⟨d', h1, h2⟩ := DqAll.at r (by simpa using e)
      exact ⟨d', by simpa using h1, h2⟩
theorem sm_at : ∀ {ds : List PyData} {i : Nat} {d : PyData}, smAll ds = true → ds[i]? = some d → smB d = true
  | [], i, d, _, e => by simp at e
  | d :: ds, 0, d', h, e => by
    simp at e
    subst e
    exact (Bool.and_eq_true_iff.mp h).1
  | d :: ds, i + 1, d', h, e => sm_at (Bool.and_eq_true_iff.mp h).2 (by simpa using e)
/-- what a comprehension over data has made so far -/
def MadeTo (H0 : Hp) (D : Addr) (bs : List V) (H : Hp) : Prop := Same H0 H ∧ H D = some (.lst bs)
theorem MadeTo.more {H0 H H' : Hp} {D : Addr} {bs : List V} (b : V) (hD : H0 D = none) (M : MadeTo H0 D bs H) (S : Same H H') : H' D = some (.lst bs) ∧ MadeTo H0 D (bs ++ [b]) (upd H' D (.lst (bs ++ [b]))) := by
  refine ⟨S _ _ M.2, fun x o e => ?_, upd_same⟩
  have nx : x ≠ D := fun z => by
    rw [z, hD] at e
    cases e
  rw [upd_ne nx]
  exact S _ _ (M.1 _ _ e)
theorem take_map {β : Type} {g : PyData → β} {ds : List PyData} {i : Nat} {d : PyData} (h : ds[i]? = some d) : (ds.take (i + 1)).map g = (ds.take i).map g ++ [g d] := by
  rw [List.take_add_one, h, List.map_append]
  rfl
theorem sm_len {ds : List PyData} (h : smB (.tuple ds) = true) : ds.length ≤ 1000 := of_decide_eq_true (Bool.and_eq_true_iff.mp h).1
theorem sm_all {ds : List PyData} (h : smB (.tuple ds) = true) : smAll ds = true := (Bool.and_eq_true_iff.mp h).2
theorem take_size {β : Type} {g : PyData → β} {j : β → V} {ds : List PyData} (i : Nat) (h : ds.length ≤ 1000) : (((ds.take i).map g).map j).length < sizeLine := by
  rw [List.length_map, List.length_map, List.length_take]
  exact Nat.lt_of_le_of_lt (Nat.le_trans (Nat.min_le_right _ _) h) (by rw [sizeLine_eq]; omega)
/-- one more turn of a comprehension over data that makes truth values -/
theorem MadeTo.turn {H0 H H' : Hp} {D : Addr} {g : PyData → Bool} {ds : List PyData} {i : Nat} {d : PyData} (hD : H0 D = none) (M : MadeTo H0 D (((ds.take i).map g).map V.bl) H) (S : Same H H') (hl : ds.length ≤ 1000) (h : ds[i]? = some d) :
    ∃ acc, H' D = some (.lst acc) ∧ acc.length < sizeLine ∧ MadeTo H0 D (((ds.take (i + 1)).map g).map V.bl) (upd H' D (.lst (acc ++ [.bl (g d)]))) := by
  have m := M.more (.bl (g d)) hD S
  refine ⟨_, m.1, take_size i hl, ?_⟩
  rw [take_map h, List.map_append]
  exact m.2
end KL
set_option Elab.async false
set_option linter.all false
set_option maxRecDepth 100000
set_option maxHeartbeats 2000000
namespace KL
open PySem L2 PySem.Spec PyProof.Rows
mutual
/-- x < y of two things of one shape -/
def ltD : PyData → PyData → Bool
  | .int i, .int j => decide (i < j)
  | .str x, .str y => decide (x.cps.toList < y.cps.toList)
  | .tuple xs, .tuple ys => ltAll xs ys
  | _, _ => false
def ltAll : List PyData → List PyData → Bool
  | [], [] => false
  | [], _ :: _ => true
  | _ :: _, [] => false
  | x :: xs, y :: ys => if PyData.eqv x y = true then ltAll xs ys else ltD x y
end
mutual
/-- whether they can be compared -/
def cmpD : PyData → PyData → Bool
  | .int _, .int _ => true
  | .str _, .str _ => true
  | .tuple xs, .tuple ys => cmpAll xs ys
  | _, _ => false
def cmpAll : List PyData → List PyData → Bool
  | x :: xs, y :: ys => cmpD x y && cmpAll xs ys
  | _, _ => true
end
theorem lexAt_shift (e r : Nat → Bool) (z : Bool) : ∀ (k i : Nat), Ob.lexAt e r z (i + 1) k = Ob.lexAt (fun j => e (j + 1)) (fun j => r (j + 1)) z i k
  | 0, _ => rfl
  | k + 1, i => by
    rw [Ob.lexAt_succ, Ob.lexAt_succ, lexAt_shift e r z k (i + 1)]
def peq (xs ys : List PyData) (j : Nat) : Bool := PyData.eqv (xs.getD j .none) (ys.getD j .none)
theorem lex_all : ∀ (xs ys : List PyData), Ob.lexAt (peq xs ys) (fun j => ltD (xs.getD j .none) (ys.getD j .none)) (decide (xs.length < ys.length)) 0 (min xs.length ys.length) = ltAll xs ys
  | [], [] => rfl
  | [], _ :: _ => by simp [Ob.lexAt_zero, ltAll]
  | _ :: _, [] => by simp [Ob.lexAt_zero, ltAll]
  | x :: xs, y :: ys => by
    have m : min (x :: xs).length (y :: ys).length = min xs.length ys.length + 1 := by
      rw [List.length_cons, List.length_cons]
      omega
    rw [m, Ob.lexAt_succ, lexAt_shift]
    have z : decide ((x :: xs).length < (y :: ys).length) = decide (xs.length < ys.length) := by
      rw [List.length_cons, List.length_cons]
      by_cases q : xs.length < ys.length
      · rw [decide_eq_true q, decide_eq_true (by omega)]
      · rw [decide_eq_false q, decide_eq_false (by omega)]
    rw [z]
    show (if PyData.eqv x y = true then Ob.lexAt (peq xs ys) (fun j => ltD (xs.getD j .none) (ys.getD j .none)) (decide (xs.length < ys.length)) 0 (min xs.length ys.length) else ltD x y) = ltAll (x :: xs) (y :: ys)
    rw [lex_all xs ys, ltAll]
theorem reads_at {h : Heap} : ∀ {us : List Value} {ds : List PyData} {as : List Addr}, ReadsAll h us ds as → ∀ (j : Nat) (hj : j < us.length), ∃ bs, Reads h us[j] (ds.getD j .none) bs
  | _, _, _, .nil, j, hj => absurd hj (Nat.not_lt_zero _)
  | _, _, _, .cons r _, 0, _ => ⟨_, r⟩
  | _, _, _, .cons _ rs, j + 1, hj => reads_at rs j (Nat.lt_of_succ_lt_succ hj)
theorem reads_len {h : Heap} : ∀ {us : List Value} {ds : List PyData} {as : List Addr}, ReadsAll h us ds as → us.length = ds.length
  | _, _, _, .nil => rfl
  | _, _, _, .cons _ rs => congrArg (· + 1) (reads_len rs)
theorem lay_at : ∀ {ds : List PyData} (j : Nat), PyData.canLayAll0 ds = true → (ds.getD j .none).canLay0 = true
  | [], j, _ => by simp [PyData.canLay0]
  | d :: ds, 0, h => (Bool.and_eq_true_iff.mp h).1
  | d :: ds, j + 1, h => lay_at (ds := ds) j (Bool.and_eq_true_iff.mp h).2
theorem cmp_at : ∀ {xs ys : List PyData} (j : Nat), cmpAll xs ys = true → j < xs.length → j < ys.length → cmpD (xs.getD j .none) (ys.getD j .none) = true
  | [], _, _, _, h, _ => absurd h (Nat.not_lt_zero _)
  | _ :: _, [], _, _, _, h => absurd h (Nat.not_lt_zero _)
  | x :: xs, y :: ys, 0, h, _, _ => (Bool.and_eq_true_iff.mp (show (cmpD x y && cmpAll xs ys) = true from h)).1
  | x :: xs, y :: ys, j + 1, h, h1, h2 => cmp_at (xs := xs) (ys := ys) j (Bool.and_eq_true_iff.mp (show (cmpD x y && cmpAll xs ys) = true from h)).2 (Nat.lt_of_succ_lt_succ h1) (Nat.lt_of_succ_lt_succ h2)
theorem depth_at : ∀ {ds : List PyData} (j : Nat), (ds.getD j .none).depth ≤ PyData.depthAll ds
  | [], j => by simp [PyData.depth]
  | d :: ds, 0 => by
    show d.depth ≤ max d.depth (PyData.depthAll ds)
    omega
  | d :: ds, j + 1 => by
    have := depth_at (ds := ds) j
    show (ds.getD j .none).depth ≤ max d.depth (PyData.depthAll ds)
    omega
/-- x < y of two things that can be compared -/
theorem lt_data : ∀ (n : Nat) (d e : PyData) (A : Around) (s : Shared) (a b : Value) (as bs : List Addr), d.depth ≤ n → Reads s.heap a d as → Reads s.heap b e bs → d.canLay0 = true → e.canLay0 = true → cmpD d e = true → A.units + n < cLine → Ob.RcOp .Lt A s a b (ltD d e)
  | n, .int i, e, A, s, a, b, as, bs, hn, ra, rb, la, lb, c, hu => by
    cases ra
    cases rb <;> first | exact Ob.RcOp.lt_int _ _ _ _ | (exfalso; simp [cmpD] at c)
  | n, .str x, e, A, s, a, b, as, bs, hn, ra, rb, la, lb, c, hu => by
    cases ra
    cases rb with
    | str y t => exact fun _ _ _ _ h => lt_str h
    | _ => exfalso; simp [cmpD] at c
  | n + 1, .tuple xs, .tuple ys, A, s, _, _, _, _, hn, .tuple (a := l) (vs := us) h1 h2 h3 h4, .tuple (a := l') (vs := ws) k1 k2 k3 k4, la, lb, c, hu => by
    have hd : PyData.depthAll xs ≤ n := by
      have : PyData.depthAll xs + 1 ≤ n + 1 := hn
      omega
    have R := Ob.RcOp.tuples_lt (A := A) (s := s) (e := peq xs ys) (r := fun j => ltD (xs.getD j .none) (ys.getD j .none)) (l := l) (b := l') (items := us) (items2 := ws) ⟨_, h1, h2, _, h3⟩ ⟨_, k1, k2, _, k3⟩ (by omega)
      (fun j j1 j2 => by
        obtain ⟨_, q1⟩ := reads_at h4 j (by simpa using j1)
        obtain ⟨_, q2⟩ := reads_at k4 j (by simpa using j2)
        have q := SeqAt.eqAt_reads _ _ A.in1 s _ _ _ _ q1 q2 (lay_at j la) (lay_at j lb) (by
          have := depth_at (ds := xs) j
          show A.units + 1 + _ < _
          omega)
        simpa [peq] using q)
      (fun j j1 j2 _ => by
        obtain ⟨_, q1⟩ := reads_at h4 j (by simpa using j1)
        obtain ⟨_, q2⟩ := reads_at k4 j (by simpa using j2)
        have l1 : us.size = xs.length := by rw [← reads_len h4]; simp
        have l2 : ws.size = ys.length := by rw [← reads_len k4]; simp
        have q := lt_data n _ _ A.in1 s _ _ _ _ (Nat.le_trans (depth_at j) hd) q1 q2 (lay_at j la) (lay_at j lb) (cmp_at j c (by omega) (by omega)) (by show A.units + 1 + n < cLine; omega)
        simpa using q)
    have l1 : us.size = xs.length := by rw [← reads_len h4]; simp
    have l2 : ws.size = ys.length := by rw [← reads_len k4]; simp
    rw [l1, l2, lex_all] at R
    exact R
  | _, .none, _, _, _, _, _, _, _, _, _, _, _, _, c, _ => by simp [cmpD] at c
  | _, .bool _, _, _, _, _, _, _, _, _, _, _, _, _, c, _ => by simp [cmpD] at c
  | _, .list _, _, _, _, _, _, _, _, _, _, _, _, _, c, _ => by simp [cmpD] at c
  | _, .dict _, _, _, _, _, _, _, _, _, _, _, _, _, c, _ => by simp [cmpD] at c
  | 0, .tuple xs, _, _, _, _, _, _, _, hn, _, _, _, _, _, _ => by
    have : PyData.depthAll xs + 1 ≤ 0 := hn
    omega
  | _ + 1, .tuple _, .none, _, _, _, _, _, _, _, _, _, _, _, c, _ => by simp [cmpD] at c
  | _ + 1, .tuple _, .bool _, _, _, _, _, _, _, _, _, _, _, _, c, _ => by simp [cmpD] at c
  | _ + 1, .tuple _, .int _, _, _, _, _, _, _, _, _, _, _, _, c, _ => by simp [cmpD] at c
  | _ + 1, .tuple _, .str _, _, _, _, _, _, _, _, _, _, _, _, c, _ => by simp [cmpD] at c
  | _ + 1, .tuple _, .list _, _, _, _, _, _, _, _, _, _, _, _, c, _ => by simp [cmpD] at c
  | _ + 1, .tuple _, .dict _, _, _, _, _, _, _, _, _, _, _, _, c, _ => by simp [cmpD] at c
end KL
set_option Elab.async false
set_option linter.all false
set_option maxRecDepth 100000
set_option maxHeartbeats 2000000
namespace KL
open PySem L2 PySem.Spec PyProof.Rows
section
variable {X : Cx} {pins : List (Addr × Obj)} {σ : L2.St} {H : Hp} {s : Shared}
mutual
theorem Dq.reads0 (I : Inv X pins σ H s) : ∀ (d : PyData) (v : V) (u : Value), Dq H v d → d.canLay0 = true → RelV v u → ∃ as, Reads s.heap u d as
  | .none, _, _, h, _, r => by
    cases h
    cases r
    exact ⟨_, .none⟩
  | .bool b, _, _, h, _, r => by
    cases h
    cases r
    exact ⟨_, .bool b⟩
  | .int i, _, _, h, _, r => by
    cases h
    obtain ⟨t, rfl⟩ := r
    exact ⟨_, .int i t⟩
  | .str x, _, _, h, _, r => by
    cases h
    obtain ⟨t, rfl⟩ := r
    exact ⟨_, .str x t⟩
  | .list ds, _, _, h, l, r => by
    cases h with
    | lst q ha =>
      cases r
      obtain ⟨_, its, n, rv, ho⟩ := I.hok _ _ q
      obtain ⟨as, hr⟩ := DqAll.reads0 I ds _ its ha l rv
      exact ⟨_, .list ho rfl rfl hr⟩
  | .tuple ds, _, _, h, l, r => by
    cases h with
    | tup q ha =>
      cases r
      obtain ⟨_, its, rv, o, h1, h2, n, h3⟩ := I.hok _ _ q
      obtain ⟨as, hr⟩ := DqAll.reads0 I ds _ its ha l rv
      exact ⟨_, .tuple h1 h2 h3 hr⟩
  | .dict _, _, _, _, l, _ => by simp [PyData.canLay0] at l
theorem DqAll.reads0 (I : Inv X pins σ H s) : ∀ (ds : List PyData) (vs : List V) (us : List Value), DqAll H vs ds → PyData.canLayAll0 ds = true → Vals vs us → ∃ as, ReadsAll s.heap us ds as
  | [], _, _, h, _, r => by
    cases h
    cases r
    exact ⟨_, .nil⟩
  | d :: ds, _, _, h, l, r => by
    cases h with
    | cons h1 h2 =>
      cases r with
      | cons r1 r2 =>
        have l' := Bool.and_eq_true_iff.mp (show (d.canLay0 && PyData.canLayAll0 ds) = true from l)
        obtain ⟨as, q1⟩ := Dq.reads0 I d _ _ h1 l'.1 r1
        obtain ⟨bs, q2⟩ := DqAll.reads0 I ds _ _ h2 l'.2 r2
        exact ⟨_, .cons q1 q2⟩
end
end
/-- x < y of data -/
def rLtD : R2 := fun x y H Q => ∃ d e, Dq H x d ∧ Dq H y e ∧ d.canLay0 = true ∧ e.canLay0 = true ∧ cmpD d e = true ∧ d.depth ≤ 20 ∧ Q (.bl (ltD d e)) H
theorem op_ltD {X : Cx} (hu : X.A.units + 64 < cLine) : OpR X (compareOp .Lt) rLtD := by
  intro pins s σ H x y v u Q I rx ry h
  obtain ⟨d, e, hd, he, ld, le, c, hn, q⟩ := h
  obtain ⟨as, r1⟩ := Dq.reads0 I d x v hd ld rx
  obtain ⟨bs, r2⟩ := Dq.reads0 I e y u he le ry
  exact lt_data 20 d e X.A s v u as bs hn r1 r2 ld le c (by omega) _ _ _ _ ⟨.bl (ltD d e), H, I, rfl, q⟩
theorem walk_zipT {K : PySem.W.Frag} {a b : Addr} {xs ys : List V} {n : Nat} (hn : n = min xs.length ys.length) : Walk (RZ.ItzT K a b) n (fun H => SqT K H a xs ∧ SqT K H b ys) (YPair (fun i => xs[i]?) (fun i => ys[i]?)) := by
  subst hn
  refine ⟨fun i _ hi q => ?_, fun _ q => ⟨xs, ys, q.1, q.2, by omega⟩, fun i H v H' _ q y => ?_⟩
  · have h1 : i < xs.length := by omega
    have h2 : i < ys.length := by omega
    exact ⟨xs, ys, xs[i], ys[i], q.1, q.2, by simp [h1], by simp [h2]⟩
  · obtain ⟨T, x, z, h1, h2, h3, h4, h5⟩ := y
    exact ⟨T, x, z, h1, h2, h3, h4 xs q.1, h5 ys q.2⟩
def ascTo (ds : List PyData) (j : Nat) : List Bool := (List.range j).map fun i => ltD (ds.getD i .none) (ds.getD (i + 1) .none)
def ascD (ds : List PyData) : Bool := (ascTo ds (ds.length - 1)).all id
/-- a slice of a list or of a tuple -/
def rSlX (K : PySem.W.Frag) : V → Option Int → Option Int → Hp → VK → Prop := fun x lo hi H Q => rSlL K x lo hi H Q ∨ rSlA K x lo hi H Q
theorem sl_any {X : Cx} : SlR X (rSlX X.K) := by
  intro pins s σ H x v vl vu lo hi sl Q I rx hs pl pu h
  rcases h with h | h
  · exact sl_list pins s σ H x v vl vu lo hi sl Q I rx hs pl pu h
  · exact sl_tupA pins s σ H x v vl vu lo hi sl Q I rx hs pl pu h
def spAsc : Sp := fun vs H Q _ => ∃ (a : Addr) (xs : List V) (ds : List PyData), vs = [.ref a] ∧ (H a = some (.lst xs) ∨ H a = some (.tup xs)) ∧ DqAll H xs ds ∧ ds.length ≤ 1000 ∧ PyData.canLayAll0 ds = true ∧ PyData.depthAll ds ≤ 20 ∧
  (∀ i, i + 1 < ds.length → cmpD (ds.getD i .none) (ds.getD (i + 1) .none) = true) ∧ ∀ H', Same H H' → Q (.bl (ascD ds)) H'
theorem getD_of {ds : List PyData} {i : Nat} {d : PyData} (h : ds[i]? = some d) : ds.getD i .none = d := by
  rw [List.getD_eq_getElem?_getD, h, Option.getD_some]
theorem six_one (n : Nat) : HT.sIx n 0 (some 1) = min 1 n := HT.sIx_nat n 0 1
theorem cut_tail (xs : List V) : cutV xs (some 1) none = xs.drop 1 := by
  unfold cutV
  rw [six_one, HT.sIx_none]
  cases xs with
  | nil => rfl
  | cons x r =>
    have e : min 1 (x :: r).length = 1 := by
      rw [List.length_cons]
      omega
    rw [e]
    exact List.take_of_length_le (by rw [List.length_drop]; omega)
section
variable {P : Program} {w : World} {K : PySem.W.Frag} {mg : Str → Option Value} {base : Heap}
theorem scIsAsc : FnScope ["items", "ahead", "behind"] ["items"] (defScope sIsAsc) := ⟨rfl, rfl, rfl, by decide +kernel, rfl, by decide +kernel, by decide +kernel⟩
theorem ok_asc {f : Addr} {fd : FuncData} (F : Fun K "is_ascending" "is_ascending" sIsAsc f fd) (T : TxtB mg) : FnOk P w K mg base CX0 1 f fd ["items"] spAsc := by
  refine F.ok scIsAsc (fun vs H Q E h => ?_) (fun cdv A outer s H vs Q E hr h => ?_)
  · obtain ⟨a, xs, ds, rfl, _⟩ := h
    rfl
  · obtain ⟨a, xs, ds, rfl, hx, ha, hl, lay, dp, hc, k⟩ := h
    refine ⟨_, pss_one (ps_ret (pe_callB (cr_all rfl) (by rfl) T.all (by decide +kernel) (pa_cons (pe_lc (own := [("ahead", 1), ("behind", 2)]) (g := gTup K 2 (gCons (gName 1) (gCons (gName 2) gNil))) (tt := tYes) rfl scIsAsc.nd (RZ.pi_zipA (by rfl) T.zip (pa_cons (pv 0) (pa_cons (pe_slice sl_any (pv 0) (po_some pe_int) po_none) pa_nil)))
      (blkOk_by (N := ["items", "ahead", "behind"]) (sc := defScope sIsAsc) (by decide +kernel)) (fun _ _ _ _ _ => pg_tup rfl (pgs_cons (pg_name (i := 1) scIsAsc.nd rfl (.inl rfl)) (pgs_cons (pg_name (i := 2) scIsAsc.nd rfl (.inl rfl)) pgs_nil))) (fun _ _ _ _ _ => pts_nil)
      (fun _ _ _ _ _ => pe_cmpR (op_ltD hr.units) (pv 1) (pv 2) (nomark _))) pa_nil))), ?_⟩
    have len := ha.len
    have fin : ∀ (D : Addr) (H1 : Hp), Same H H1 → H1 D = none → ∀ (n : Nat), n = ds.length - 1 → ∀ H2, MadeTo H1 D ((ascTo ds n).map V.bl) H2 → ∃ (a : Addr) (bs : List Bool), [V.ref D] = [V.ref a] ∧ SqL K H2 a (bs.map V.bl) ∧ Q (.bl (bs.all id)) H2 := fun D H1 S1 nD n hn H2 M => by
      refine ⟨D, ascTo ds n, rfl, SqL.of M.2, ?_⟩
      have q := k H2 (S1.trans M.1)
      subst hn
      exact q
    rcases hx with hx | hx
    · refine ⟨_, rfl, _, rfl, _, rfl, .inl ⟨a, xs, rfl, SqL.of hx, fun b nb => ?_⟩⟩
      have S1 := same_new (o := .lst (cutV xs (some 1) none)) nb
      revert S1
      have hb : (upd H b (.lst (cutV xs (some 1) none))) b = some (.lst (xs.drop 1)) := by rw [upd_same, cut_tail]
      revert hb
      generalize upd H b (.lst (cutV xs (some 1) none)) = H1
      intro hb S1
      refine ⟨a, b, xs, xs.drop 1, rfl, .inl ⟨SqL.of (S1 _ _ hx), SqL.of hb, fun D nD => ?_⟩⟩
      have en : ds.length - 1 = min xs.length (xs.drop 1).length := by
        rw [List.length_drop]
        omega
      refine lc_it (walk_zip (K := K) (a := a) (b := b) en) (fun i H2 => MadeTo H1 D ((ascTo ds i).map V.bl) H2) ⟨same_new nD, upd_same⟩ (fun i H2 _ M => ⟨SqL.of (M.1 _ _ (S1 _ _ hx)), SqL.of (M.1 _ _ hb)⟩) ?_ (fun H2 M => fin D H1 S1 nD _ rfl H2 M)
      rintro i _ H2 _ hi M ⟨T, y, z, rfl, nT, rfl, ey, ez⟩
      obtain ⟨d1, e1, q1⟩ := DqAll.at ha ey
      have ez : xs[i + 1]? = some z := by
        have ez : (xs.drop 1)[i]? = some z := ez
        rw [List.getElem?_drop, Nat.add_comm] at ez
        exact ez
      obtain ⟨d2, e2, q2⟩ := DqAll.at ha ez
      have S2 := same_new (o := .tup [y, z]) nT
      have S := S1.trans (M.1.trans S2)
      have c := hc i (by omega)
      rw [getD_of e1, getD_of e2] at c
      have l1 := lay_at i lay
      have l2 := lay_at (i + 1) lay
      have p1 := Nat.le_trans (depth_at (ds := ds) i) dp
      rw [getD_of e1] at l1 p1
      rw [getD_of e2] at l2
      refine ⟨T, [y, z], rfl, SqT.of upd_same, rfl, y, [z], rfl, z, [], rfl, rfl, rfl, ?_⟩
      refine ⟨_, rfl, _, rfl, d1, d2, Dq.same S d1 y q1, Dq.same S d2 z q2, l1, l2, c, p1, ?_⟩
      have m := M.more (.bl (ltD d1 d2)) nD S2
      refine ⟨_, m.1, ?_, ?_⟩
      · rw [List.length_map, ascTo, List.length_map, List.length_range]
        exact Nat.lt_of_lt_of_le hi (Nat.le_trans (Nat.sub_le _ _) (Nat.le_trans hl (by rw [sizeLine_eq]; omega)))
      · have ea : ascTo ds (i + 1) = ascTo ds i ++ [ltD d1 d2] := by
          rw [ascTo, ascTo, List.range_succ, List.map_append, List.map_singleton, getD_of e1, getD_of e2]
        rw [ea, List.map_append]
        exact m.2
    · refine ⟨_, rfl, _, rfl, _, rfl, .inr ⟨a, xs, rfl, SqT.of hx, ?_, ?_⟩⟩
      · rintro ⟨w1, w2⟩
        have x0 : xs = [] := by
          rw [six_one] at w1
          cases xs with
          | nil => rfl
          | cons x r =>
            rw [List.length_cons] at w1
            omega
        subst x0
        have d0 : ds.length = 0 := len.symm
        refine ⟨a, a, [], [], rfl, .inr ⟨SqT.of hx, SqT.of hx, fun D nD => ?_⟩⟩
        refine lc_it (walk_zipT (K := K) (a := a) (b := a) (xs := []) (ys := []) (n := ds.length - 1) (by rw [d0]; rfl)) (fun i H2 => MadeTo H D ((ascTo ds i).map V.bl) H2) ⟨same_new nD, upd_same⟩ (fun i H2 _ M => ⟨SqT.of (M.1 _ _ hx), SqT.of (M.1 _ _ hx)⟩) ?_ (fun H2 M => fin D H (Same.refl H) nD _ rfl H2 M)
        intro i x H2 H3 hi
        omega
      · intro _ b nb
        have S1 := same_new (o := .tup (cutV xs (some 1) none)) nb
        revert S1
        have hb : (upd H b (.tup (cutV xs (some 1) none))) b = some (.tup (xs.drop 1)) := by rw [upd_same, cut_tail]
        revert hb
        generalize upd H b (.tup (cutV xs (some 1) none)) = H1
        intro hb S1
        refine ⟨a, b, xs, xs.drop 1, rfl, .inr ⟨SqT.of (S1 _ _ hx), SqT.of hb, fun D nD => ?_⟩⟩
        have en : ds.length - 1 = min xs.length (xs.drop 1).length := by
          rw [List.length_drop]
          omega
        refine lc_it (walk_zipT (K := K) (a := a) (b := b) en) (fun i H2 => MadeTo H1 D ((ascTo ds i).map V.bl) H2) ⟨same_new nD, upd_same⟩ (fun i H2 _ M => ⟨SqT.of (M.1 _ _ (S1 _ _ hx)), SqT.of (M.1 _ _ hb)⟩) ?_ (fun H2 M => fin D H1 S1 nD _ rfl H2 M)
        rintro i _ H2 _ hi M ⟨T, y, z, rfl, nT, rfl, ey, ez⟩
        obtain ⟨d1, e1, q1⟩ := DqAll.at ha ey
        have ez : xs[i + 1]? = some z := by
          have ez : (xs.drop 1)[i]? = some z := ez
          rw [List.getElem?_drop, Nat.add_comm] at ez
          exact ez
        obtain ⟨d2, e2, q2⟩ := DqAll.at ha ez
        have S2 := same_new (o := .tup [y, z]) nT
        have S := S1.trans (M.1.trans S2)
        have c := hc i (by omega)
        rw [getD_of e1, getD_of e2] at c
        have l1 := lay_at i lay
        have l2 := lay_at (i + 1) lay
        have p1 := Nat.le_trans (depth_at (ds := ds) i) dp
        rw [getD_of e1] at l1 p1
        rw [getD_of e2] at l2
        refine ⟨T, [y, z], rfl, SqT.of upd_same, rfl, y, [z], rfl, z, [], rfl, rfl, rfl, ?_⟩
        refine ⟨_, rfl, _, rfl, d1, d2, Dq.same S d1 y q1, Dq.same S d2 z q2, l1, l2, c, p1, ?_⟩
        have m := M.more (.bl (ltD d1 d2)) nD S2
        refine ⟨_, m.1, ?_, ?_⟩
        · rw [List.length_map, ascTo, List.length_map, List.length_range]
          exact Nat.lt_of_lt_of_le hi (Nat.le_trans (Nat.sub_le _ _) (Nat.le_trans hl (by rw [sizeLine_eq]; omega)))
        · have ea : ascTo ds (i + 1) = ascTo ds i ++ [ltD d1 d2] := by
            rw [ascTo, ascTo, List.range_succ, List.map_append, List.map_singleton, getD_of e1, getD_of e2]
          rw [ea, List.map_append]
          exact m.2
end
end KL
set_option Elab.async false
set_option linter.all false
set_option maxRecDepth 100000
set_option maxHeartbeats 2000000
namespace KL
open PySem L2 PySem.Spec PyProof.Rows
def itemD (i : Nat) : PyData → PyData
  | .tuple ds => ds.getD i .none
  | _ => .none
def allD (f : PyData → Bool) : PyData → Bool
  | .tuple ds => ds.all f
  | _ => true
def itemsD : PyData → List PyData
  | .tuple ds => ds
  | _ => []
def isTupD : PyData → Bool
  | .tuple _ => true
  | _ => false
theorem tup_of {lo hi : Int} {d : PyData} (h : tupD lo hi d = true) : ∃ ds, d = .tuple ds ∧ lo ≤ (ds.length : Int) ∧ (ds.length : Int) ≤ hi := by
  cases d with
  | tuple ds =>
    have q := Bool.and_eq_true_iff.mp h
    exact ⟨ds, rfl, of_decide_eq_true q.1, of_decide_eq_true q.2⟩
  | _ => cases h
theorem at_some {ds : List PyData} {xs : List V} {H : Hp} (ha : DqAll H xs ds) {i : Nat} (hi : i < ds.length) : ∃ x, xs[i]? = some x ∧ ds[i]? = some (ds.getD i .none) ∧ Dq H x (ds.getD i .none) := by
  have h1 : i < xs.length := by rw [ha.len]; exact hi
  have e : xs[i]? = some xs[i] := List.getElem?_eq_getElem h1
  obtain ⟨d, hd, q⟩ := DqAll.at ha e
  rw [getD_of hd]
  exact ⟨_, e, hd, q⟩
theorem allD_map (f : PyData → Bool) (ds : List PyData) : (ds.map f).all id = allD f (.tuple ds) := by
  show (ds.map f).all id = ds.all f
  rw [List.all_map]
  rfl
theorem getD_map {f : PyData → PyData} {ds : List PyData} {i : Nat} (hi : i < ds.length) : (ds.map f).getD i .none = f (ds.getD i .none) := by
  rw [List.getD_eq_getElem?_getD, List.getElem?_map, List.getElem?_eq_getElem hi, List.getD_eq_getElem?_getD, List.getElem?_eq_getElem hi]
  rfl
theorem all_at {f : PyData → Bool} {ds : List PyData} (h : ds.all f = true) {i : Nat} (hi : i < ds.length) : f (ds.getD i .none) = true := by
  rw [List.getD_eq_getElem?_getD, List.getElem?_eq_getElem hi]
  exact List.all_eq_true.mp h _ (List.getElem_mem hi)
theorem bet_of {lo hi : Int} {d : PyData} (h : betD lo hi d = true) : ∃ i, d = .int i ∧ lo ≤ i ∧ i ≤ hi := by
  cases d with
  | int i =>
    have q := Bool.and_eq_true_iff.mp h
    exact ⟨i, rfl, of_decide_eq_true q.1, of_decide_eq_true q.2⟩
  | _ => cases h
end KL
set_option Elab.async false
set_option linter.all false
set_option maxRecDepth 100000
set_option maxHeartbeats 2000000
namespace PySem
namespace SeqAt
open AutoSeq1 (wpAny_loadPart')
open MeetsSeq
theorem str_eq_dict (b : Str) (u : Tok) (l : Addr) (c : Value) (es : Array DictEntry) (n : Nat) (dd : Option Addr) (sl : Array (Option Value)) :
    Meets (Builtin.«str.__eq__» ⟨[.str b u, .ref l], []⟩) (fun _ R s => s.heap.get? l = some { cls := c, dict := dd, data := .dict es n, slots := sl } ∧ R (.ok (.ret .notImplemented)) s) :=
  .of_wp fun prog w A R s h => by obtain ⟨hp, g, d, tk, os⟩ := s; obtain ⟨hl, h⟩ := h; wp_walk using wpAny_loadPart' hl, wpAny_load hl; exact ⟨_, rfl, h⟩
theorem str_ne_dict (b : Str) (u : Tok) (l : Addr) (c : Value) (es : Array DictEntry) (n : Nat) (dd : Option Addr) (sl : Array (Option Value)) :
    Meets (Builtin.«str.__ne__» ⟨[.str b u, .ref l], []⟩) (fun _ R s => s.heap.get? l = some { cls := c, dict := dd, data := .dict es n, slots := sl } ∧ R (.ok (.ret .notImplemented)) s) :=
  .of_wp fun prog w A R s h => by obtain ⟨hp, g, d, tk, os⟩ := s; obtain ⟨hl, h⟩ := h; wp_walk using wpAny_loadPart' hl, wpAny_load hl; exact ⟨_, rfl, h⟩
section
variable {A : Around} {s : Shared}
theorem dict_eq_str {prog : Program} {w : World} {E : Value → Shared → Prop} {l : Addr} {o : Obj} {es : Array DictEntry} {n : Nat} (b : Str) (u : Tok) (ho : s.heap.get? l = some o) (hc : o.cls = .type "dict") (Q' : Value → Shared → Prop) (h : Q' .notImplemented s) :
    wpAny (model prog w) A (call (.builtin "dict.__eq__") [.ref l, .str b u]) Q' E s := by
  have ht : s.TypeIs (.ref l) "dict" := ⟨o, ho, hc⟩
  refine wpAny_call_entry PySem.F.slot_dict_eq ht PySem.F.entry_dict_eq ?_ (PySem.F.args_dict_eq_2 _ _)
  show wpAny _ _ (Builtin.Dict.dictSlotArgs "__eq__" ⟨[.ref l, .str b u], []⟩ >>= _) _ _ s
  refine wpAny_bind ?_
  unfold Builtin.Dict.dictSlotArgs
  refine wpAny_bind (wpAny_notOrdered_dict ht ?_)
  show wpAny _ _ (pure (Value.ref l, Value.str b u)) _ _ s
  refine wpAny_pure ?_
  refine wpAny_bind (wpAny_isInstance (T := "str") (typeIs_str s b u) PySem.F.sub_str_dict ?_)
  simp only [Bool.not_false, if_true]
  exact wpAny_bind (wpAny_rule (wpAny_bind (wpAny_pure (wpAny_pure ⟨_, rfl, h⟩))))
theorem dict_ne_str {prog : Program} {w : World} {E : Value → Shared → Prop} {l : Addr} {o : Obj} {es : Array DictEntry} {n : Nat} (b : Str) (u : Tok) (ho : s.heap.get? l = some o) (hc : o.cls = .type "dict") (Q' : Value → Shared → Prop) (h : Q' .notImplemented s) :
    wpAny (model prog w) A (call (.builtin "dict.__ne__") [.ref l, .str b u]) Q' E s := by
  have ht : s.TypeIs (.ref l) "dict" := ⟨o, ho, hc⟩
  refine wpAny_call_entry PySem.F.slot_dict_ne ht PySem.F.entry_dict_ne ?_ (PySem.F.args_dict_ne_2 _ _)
  show wpAny _ _ (Builtin.Dict.dictSlotArgs "__ne__" ⟨[.ref l, .str b u], []⟩ >>= _) _ _ s
  refine wpAny_bind ?_
  unfold Builtin.Dict.dictSlotArgs
  refine wpAny_bind (wpAny_notOrdered_dict ht ?_)
  show wpAny _ _ (pure (Value.ref l, Value.str b u)) _ _ s
  refine wpAny_pure ?_
  refine wpAny_bind (wpAny_isInstance (T := "str") (typeIs_str s b u) PySem.F.sub_str_dict ?_)
  simp only [Bool.not_false, if_true]
  exact wpAny_bind (wpAny_rule (wpAny_bind (wpAny_pure (wpAny_pure ⟨_, rfl, h⟩))))
theorem RcAt.str_dict {l : Addr} {cl : Value} {dd : Option Addr} {es : Array DictEntry} {n : Nat} {sl : Array (Option Value)} (b : Str) (u : Tok) (ho : s.heap.get? l = some ⟨.type "dict", dd, .dict es n, sl⟩) (hu : A.units < cLine) : RcAt A s (.str b u) (.ref l) false := fun prog w E Q h =>
  rc_eq_decline_or (k := false) (typeIs_str s b u) ⟨_, ho, rfl⟩ (by decide) F.sub_dict_str F.slot_str_eq F.slot_dict_eq_refl
    (fun _ hq => call_meets F.slot_str_eq (typeIs_str s b u) F.entry_str_eq (F.args_str_eq_2 _ _) (str_eq_dict b u l (.type "dict") es n dd sl) ⟨ho, hq⟩)
    (fun _ hq => dict_eq_str (es := es) (n := n) b u ho rfl _ hq)
    (fun _ hq => wpAny_of_eq (rfl : isSame (.str b u) (.ref l) = pure false) hq) (.inr hu) h
theorem EqAt.str_dict {l : Addr} {dd : Option Addr} {es : Array DictEntry} {n : Nat} {sl : Array (Option Value)} (b : Str) (u : Tok) (ho : s.heap.get? l = some ⟨.type "dict", dd, .dict es n, sl⟩) (hu : A.units < cLine) : EqAt A s (.str b u) (.ref l) false := fun prog w E Q h => by
  unfold eqBool
  refine wpAny_holding ?_
  refine wpAny_ite_split (fun hab => absurd (eq_of_beq hab) nofun) (fun _ => ?_)
  exact wpAny_bind (RcAt.str_dict (cl := .none) b u ho hu prog w E _ (wpAny_truthy_bool h))
theorem RcAt.dict_str {l : Addr} {dd : Option Addr} {es : Array DictEntry} {n : Nat} {sl : Array (Option Value)} (b : Str) (u : Tok) (ho : s.heap.get? l = some ⟨.type "dict", dd, .dict es n, sl⟩) (hu : A.units < cLine) : RcAt A s (.ref l) (.str b u) false := fun prog w E Q h =>
  rc_eq_decline_or (k := false) ⟨_, ho, rfl⟩ (typeIs_str s b u) (by decide) F.sub_str_dict F.slot_dict_eq F.slot_str_eq_refl
    (fun _ hq => dict_eq_str (es := es) (n := n) b u ho rfl _ hq)
    (fun _ hq => call_meets F.slot_str_eq_refl (typeIs_str s b u) F.entry_str_eq (F.args_str_eq_2 _ _) (str_eq_dict b u l (.type "dict") es n dd sl) ⟨ho, hq⟩)
    (fun _ hq => wpAny_of_eq (rfl : isSame (.ref l) (.str b u) = pure false) hq) (.inr hu) h
theorem RcNeAt.dict_str {l : Addr} {dd : Option Addr} {es : Array DictEntry} {n : Nat} {sl : Array (Option Value)} (b : Str) (u : Tok) (ho : s.heap.get? l = some ⟨.type "dict", dd, .dict es n, sl⟩) (hu : A.units < cLine) : RcNeAt A s (.ref l) (.str b u) true := fun prog w E Q h =>
  rc_ne_decline_or (k := false) ⟨_, ho, rfl⟩ (typeIs_str s b u) (by decide) F.sub_str_dict F.slot_dict_ne F.slot_str_ne_refl
    (fun _ hq => dict_ne_str (es := es) (n := n) b u ho rfl _ hq)
    (fun _ hq => call_meets F.slot_str_ne_refl (typeIs_str s b u) F.entry_str_ne (F.args_str_ne_2 _ _) (str_ne_dict b u l (.type "dict") es n dd sl) ⟨ho, hq⟩)
    (fun _ hq => wpAny_of_eq (rfl : isSame (.ref l) (.str b u) = pure false) hq) (.inr hu) h
end
end SeqAt
end PySem
namespace KL
open PySem L2 PySem.Spec PyProof.Rows
/-- whether a thing is this text -/
def isStrD (x : Str) : PyData → Bool
  | .str y => x == y
  | _ => false
section
variable {A : Around} {s : Shared}
theorem eqAt_str {v : Value} {d : PyData} {as : List Addr} (b : Str) (u : Tok) (r : Reads s.heap v d as) (hu : A.units < cLine) : SeqAt.EqAt A s (.str b u) v (isStrD b d) := by
  cases r with
  | none => exact .str_none b u
  | bool k => exact .str_bool b u k
  | int i t => exact .str_int b u i t
  | str x t => exact .str_str b u x t
  | list k1 k2 k3 k4 => exact .str_list b u ⟨_, k1, k2, _, k3⟩ hu
  | tuple k1 k2 k3 k4 => exact .str_tuple b u ⟨_, k1, k2, _, k3⟩ hu
  | dict k1 k2 k3 k4 k5 =>
    rename_i o _ _ _ _ _
    obtain ⟨cl, dd, dt, sl⟩ := o

    subst k2 k3
    exact .str_dict b u k1 hu
theorem rcAt_str {v : Value} {d : PyData} {as : List Addr} (b : Str) (u : Tok) (r : Reads s.heap v d as) (hu : A.units < cLine) : SeqAt.RcAt A s v (.str b u) (isStrD b d) := by
  cases r with
  | none => exact .none_str b u
  | bool k => exact .bool_str k b u
  | int i t => exact .int_str i t b u
  | str x t =>
    have q := SeqAt.RcAt.str_str (A := A) (s := s) x t b u
    have e : (x == b) = isStrD b (.str x) := by
      show (x == b) = (b == x)
      exact Bool.beq_comm
    rwa [e] at q
  | list k1 k2 k3 k4 => exact .list_str b u ⟨_, k1, k2, _, k3⟩ hu
  | tuple k1 k2 k3 k4 => exact .tuple_str b u ⟨_, k1, k2, _, k3⟩ hu
  | dict k1 k2 k3 k4 k5 =>
    rename_i o _ _ _ _ _
    obtain ⟨cl, dd, dt, sl⟩ := o

    subst k2 k3
    exact .dict_str b u k1 hu
theorem rcNeAt_str {v : Value} {d : PyData} {as : List Addr} (b : Str) (u : Tok) (r : Reads s.heap v d as) (hu : A.units < cLine) : SeqAt.RcNeAt A s v (.str b u) (!isStrD b d) := by
  cases r with
  | none => exact .none_str b u
  | bool k => exact .bool_str k b u
  | int i t => exact .int_str i t b u
  | str x t =>
    have q := SeqAt.RcNeAt.str_str (A := A) (s := s) x t b u
    have e : (x == b) = isStrD b (.str x) := by
      show (x == b) = (b == x)
      exact Bool.beq_comm
    rwa [e] at q
  | list k1 k2 k3 k4 => exact .list_str b u ⟨_, k1, k2, _, k3⟩ hu
  | tuple k1 k2 k3 k4 => exact .tuple_str b u ⟨_, k1, k2, _, k3⟩ hu
  | dict k1 k2 k3 k4 k5 =>
    rename_i o _ _ _ _ _
    obtain ⟨cl, dd, dt, sl⟩ := o

    subst k2 k3
    exact .dict_str b u k1 hu
end
end KL
set_option Elab.async false
set_option linter.all false
set_option maxRecDepth 100000
set_option maxHeartbeats 2000000
namespace KL
open PySem L2 PySem.Spec PyProof.Rows
def isTop : PyData → Bool
  | .dict _ => true
  | _ => false
section
variable {X : Cx} {pins : List (Addr × Obj)} {σ : L2.St} {H : Hp} {s : Shared}
mutual
theorem Dq.reads (I : Inv X pins σ H s) : ∀ (d : PyData) (v : V) (u : Value), Dq H v d → RelV v u → ∃ as, Reads s.heap u d as ∧ (isTop d = true → sysModules ∉ as)
  | .none, _, _, h, r => by
    cases h
    cases r
    exact ⟨_, .none, fun z => by cases z⟩
  | .bool b, _, _, h, r => by
    cases h
    cases r
    exact ⟨_, .bool b, fun z => by cases z⟩
  | .int i, _, _, h, r => by
    cases h
    obtain ⟨t, rfl⟩ := r
    exact ⟨_, .int i t, fun z => by cases z⟩
  | .str x, _, _, h, r => by
    cases h
    obtain ⟨t, rfl⟩ := r
    exact ⟨_, .str x t, fun z => by cases z⟩
  | .list ds, _, _, h, r => by
    cases h with
    | lst q ha =>
      cases r
      obtain ⟨_, its, n, rv, ho⟩ := I.hok _ _ q
      obtain ⟨as, hr⟩ := DqAll.reads I ds _ its ha rv
      exact ⟨_, .list ho rfl rfl hr, fun z => by cases z⟩
  | .tuple ds, _, _, h, r => by
    cases h with
    | tup q ha =>
      cases r
      obtain ⟨_, its, rv, o, h1, h2, n, h3⟩ := I.hok _ _ q
      obtain ⟨as, hr⟩ := DqAll.reads I ds _ its ha rv
      exact ⟨_, .tuple h1 h2 h3 hr, fun z => by cases z⟩
  | .dict kvs, _, _, h, r => by
    cases h with
    | dct0 q =>
      cases r
      obtain ⟨_, ns, vs, rv, o, es, ep, h1, h2, h3, _, h5, _⟩ := I.hok _ _ q
      cases rv
      have e0 : es.toList = [] := by
        cases e : es.toList with
        | nil => rfl
        | cons x y =>
          rw [e] at h5
          cases h5
      refine ⟨_, .dict h1 h2.1 h3 (as := []) (bs := []) (by rw [e0]; exact .nil) (by rw [e0]; exact .nil), fun _ z => ?_⟩
      simp at z
      rw [← z] at ns
      simp at ns
    | @dct1 a0 x0 i0 q =>
      cases r
      obtain ⟨_, ns, vs, rv, o, es, ep, h1, h2, h3, _, h5, _⟩ := I.hok _ _ q
      cases rv with
      | cons r1 r2 =>
        cases r2
        obtain ⟨r1, t, r3⟩ := r1
        have e1 : ∃ (e : DictEntry) (tk : Tok), es.toList = [e] ∧ e.key = .str x0 tk ∧ e.val = .int i0 t := by
          generalize es.toList = L at h5
          cases h5 with
          | cons k1 k2 k3 =>
            rename_i e es'
            cases k3
            have k1 : keyIs _ _ = true := k1
            rw [← r1] at k1
            rcases keyIs_shape k1 with ⟨_, _, z, _⟩ | ⟨y, tk, z, z2⟩
            · cases z
            · cases z
              exact ⟨e, tk, rfl, z2, k2.trans r3⟩
        obtain ⟨e, tk, e1, e2, e3⟩ := e1
        refine ⟨_, .dict h1 h2.1 h3 (as := [] ++ []) (bs := [] ++ []) ?_ ?_, fun _ z => ?_⟩
        · rw [e1, List.map_cons, e2]
          exact .cons (.str _ tk) .nil
        · rw [e1, List.map_cons, e3]
          exact .cons (.int _ t) .nil
        · simp at z
          rw [← z] at ns
          simp at ns
theorem DqAll.reads (I : Inv X pins σ H s) : ∀ (ds : List PyData) (vs : List V) (us : List Value), DqAll H vs ds → Vals vs us → ∃ as, ReadsAll s.heap us ds as
  | [], _, _, h, r => by
    cases h
    cases r
    exact ⟨_, .nil⟩
  | d :: ds, _, _, h, r => by
    cases h with
    | cons h1 h2 =>
      cases r with
      | cons r1 r2 =>
        obtain ⟨as, q1, _⟩ := Dq.reads I d _ _ h1 r1
        obtain ⟨bs, q2⟩ := DqAll.reads I ds _ _ h2 r2
        exact ⟨_, .cons q1 q2⟩
end
end
/-- x == y, y a text -/
def rEqStr (y0 : Bool) : R2 := fun x y H Q => ∃ d t, Dq H x d ∧ y = .str t ∧ Q (.bl (if y0 = true then isStrD t d else !isStrD t d)) H
section
variable {X : Cx}
theorem op_eqStr (hu : X.A.units + 64 < cLine) : OpR X (compareOp .Eq) (rEqStr true) := by
  intro pins s σ H x y v u Q I rx ry h
  obtain ⟨d, t, hd, rfl, q⟩ := h
  obtain ⟨as, r, _⟩ := Dq.reads I d x v hd rx
  obtain ⟨tk, rfl⟩ := ry
  exact rcAt_str t tk r (by omega) _ _ _ _ ⟨.bl _, H, I, rfl, q⟩
theorem op_neStr (hu : X.A.units + 64 < cLine) : OpR X (compareOp .NotEq) (rEqStr false) := by
  intro pins s σ H x y v u Q I rx ry h
  obtain ⟨d, t, hd, rfl, q⟩ := h
  obtain ⟨as, r, _⟩ := Dq.reads I d x v hd rx
  obtain ⟨tk, rfl⟩ := ry
  exact rcNeAt_str t tk r (by omega) _ _ _ _ ⟨.bl _, H, I, rfl, q⟩
end
/-- a text among texts -/
def strIs : PyData → PyData → Bool
  | .str x, d => isStrD x d
  | _, _ => false
def inD (es : List PyData) (d : PyData) : Bool := es.any fun e => strIs e d
def strB : PyData → Bool
  | .str _ => true
  | _ => false
def allStr (es : List PyData) : Bool := es.all strB
def vStr (d : PyData) : Value → Bool
  | .str x _ => isStrD x d
  | _ => false
theorem any_str {H : Hp} {d : PyData} : ∀ {es : List PyData} {ys : List V} {us : List Value}, DqAll H ys es → Vals ys us → allStr es = true → us.any (vStr d) = inD es d ∧ ∀ u ∈ us, ∃ x t, u = .str x t
  | [], _, _, h, r, _ => by
    cases h
    cases r
    exact ⟨rfl, fun u hu => by simp at hu⟩
  | e :: es, _, _, h, r, a => by
    cases h with
    | cons h1 h2 =>
      cases r with
      | cons r1 r2 =>
        rename_i u us
        have a' := Bool.and_eq_true_iff.mp (show (strB e && allStr es) = true from a)
        obtain ⟨q1, q2⟩ := any_str (d := d) h2 r2 a'.2
        cases h1 with
        | str x =>
          obtain ⟨t, rfl⟩ := r1
          refine ⟨?_, fun u' hu => ?_⟩
          · show (vStr d (.str x t) || us.any (vStr d)) = _
            rw [q1]
            rfl
          · rcases List.mem_cons.mp hu with rfl | hu
            · exact ⟨x, t, rfl⟩
            · exact q2 u' hu
        | _ => exact absurd a'.1 (by simp [strB])
def rInStr (neg : Bool) : R2 := fun x y H Q => ∃ d p ys es, Dq H x d ∧ y = .ref p ∧ H p = some (.lst ys) ∧ DqAll H ys es ∧ allStr es = true ∧ Q (.bl (if neg = true then !inD es d else inD es d)) H
section
variable {X : Cx}
theorem op_inStr (hu : X.A.units + 64 < cLine) : OpR X (compareOp .In) (rInStr false) := by
  intro pins s σ H x y v u Q I rx ry h
  obtain ⟨d, p, ys, es, hd, rfl, hp, he, ha, q⟩ := h
  obtain ⟨as, r, _⟩ := Dq.reads I d x v hd rx
  cases (show u = Value.ref p from ry)
  obtain ⟨_, its, n, rv, ho⟩ := I.hok _ _ hp
  obtain ⟨q1, q2⟩ := any_str (d := d) he rv ha
  refine SeqAt.in_listAt (vStr d) ⟨_, ho, rfl, n, rfl⟩ (fun y hy => ?_) ⟨.bl _, H, I, rfl, ?_⟩
  · obtain ⟨z, t, rfl⟩ := q2 y (by simpa using hy)
    exact eqAt_str z t r (by show X.A.units + 1 < cLine; omega)
  · rw [List.any_toArray, q1]
    exact q
theorem op_notInStr (hu : X.A.units + 64 < cLine) : OpR X (compareOp .NotIn) (rInStr true) := by
  intro pins s σ H x y v u Q I rx ry h
  obtain ⟨d, p, ys, es, hd, rfl, hp, he, ha, q⟩ := h
  obtain ⟨as, r, _⟩ := Dq.reads I d x v hd rx
  cases (show u = Value.ref p from ry)
  obtain ⟨_, its, n, rv, ho⟩ := I.hok _ _ hp
  obtain ⟨q1, q2⟩ := any_str (d := d) he rv ha
  refine SeqAt.notIn_listAt (vStr d) ⟨_, ho, rfl, n, rfl⟩ (fun y hy => ?_) ⟨.bl _, H, I, rfl, ?_⟩
  · obtain ⟨z, t, rfl⟩ := q2 y (by simpa using hy)
    exact eqAt_str z t r (by show X.A.units + 1 < cLine; omega)
  · rw [List.any_toArray, q1]
    exact q
end
theorem DqAll.snoc {H : Hp} : ∀ {es : List PyData} {ys : List V} {y : V} {e : PyData}, DqAll H ys es → Dq H y e → DqAll H (ys ++ [y]) (es ++ [e])
  | [], _, _, _, h, q => by
    cases h
    exact .cons q .nil
  | _ :: _, _, _, _, h, q => by
    cases h with
    | cons h1 h2 => exact .cons h1 (DqAll.snoc h2 q)
/-- a comprehension that has made these data so far -/
def MadeQ (H0 : Hp) (D : Addr) (es : List PyData) (H : Hp) : Prop := Same H0 H ∧ ∃ ys, H D = some (.lst ys) ∧ DqAll H0 ys es
theorem MadeQ.start {H0 : Hp} {D : Addr} (nD : H0 D = none) : MadeQ H0 D [] (upd H0 D (.lst [])) := ⟨same_new nD, [], upd_same, .nil⟩
theorem MadeQ.turn {H0 H H' : Hp} {D : Addr} {g : PyData → PyData} {ds : List PyData} {i : Nat} {d : PyData} {y : V} (hD : H0 D = none) (M : MadeQ H0 D ((ds.take i).map g) H) (S : Same H H') (hl : ds.length ≤ 1000) (h : ds[i]? = some d) (q : Dq H0 y (g d)) :
    ∃ acc, H' D = some (.lst acc) ∧ acc.length < sizeLine ∧ MadeQ H0 D ((ds.take (i + 1)).map g) (upd H' D (.lst (acc ++ [y]))) := by
  obtain ⟨S0, ys, hy, hq⟩ := M
  refine ⟨ys, S _ _ hy, ?_, fun x o e => ?_, ys ++ [y], upd_same, ?_⟩
  · rw [hq.len, List.length_map, List.length_take]
    exact Nat.lt_of_le_of_lt (Nat.le_trans (Nat.min_le_right _ _) hl) (by rw [sizeLine_eq]; omega)
  · have nx : x ≠ D := fun z => by
      rw [z, hD] at e
      cases e
    rw [upd_ne nx]
    exact S _ _ (S0 _ _ e)
  · rw [take_map h]
    exact hq.snoc q
theorem find_at {p : PyData → Bool} : ∀ {ds : List PyData} {i : Nat} {d : PyData}, (ds.take i).all p = true → ds[i]? = some d → p d = false → (ds.find? fun x => !p x) = some d
  | [], _, _, _, e, _ => by simp at e
  | x :: ds, 0, d, _, e, h => by
    simp at e
    subst e
    rw [List.find?_cons_of_pos]
    simp [h]
  | x :: ds, i + 1, d, a, e, h => by
    have a' := Bool.and_eq_true_iff.mp (show (p x && (ds.take i).all p) = true from a)
    rw [List.find?_cons_of_neg (by simp [a'.1])]
    exact find_at a'.2 (by simpa using e) h
theorem find_none {p : PyData → Bool} {ds : List PyData} (a : ds.all p = true) : (ds.find? fun x => !p x) = none := by
  rw [List.find?_eq_none]
  intro x hx
  simp [List.all_eq_true.mp a x hx]
theorem take_all {p : PyData → Bool} {ds : List PyData} {i : Nat} {d : PyData} (a : (ds.take i).all p = true) (e : ds[i]? = some d) (h : p d = true) : (ds.take (i + 1)).all p = true := by
  rw [List.take_add_one, e, List.all_append, a]
  simp [h]
/-- a comprehension that has made these data so far, some of them new -/
def MadeN (H0 : Hp) (D : Addr) (es : List PyData) (H : Hp) : Prop := ∃ (J : Hp) (ys : List V), Same H0 J ∧ J D = none ∧ Same J H ∧ H D = some (.lst ys) ∧ DqAll J ys es
theorem MadeN.start {H0 : Hp} {D : Addr} (nD : H0 D = none) : MadeN H0 D [] (upd H0 D (.lst [])) := ⟨H0, [], Same.refl _, nD, same_new nD, upd_same, .nil⟩
theorem MadeN.same {H0 H : Hp} {D : Addr} {es : List PyData} (M : MadeN H0 D es H) : Same H0 H := by
  obtain ⟨J, ys, S0, _, S1, _⟩ := M
  exact S0.trans S1
theorem MadeN.turn {H0 H : Hp} {D p : Addr} {es ds : List PyData} {us : List V} (M : MadeN H0 D es H) (np : H p = none) (q : DqAll H0 us ds) :
    ∃ acc, upd H p (.tup us) D = some (.lst acc) ∧ acc.length = es.length ∧ MadeN H0 D (es ++ [.tuple ds]) (upd (upd H p (.tup us)) D (.lst (acc ++ [.ref p]))) := by
  obtain ⟨J, ys, S0, nD, S1, hD, hq⟩ := M
  have pD : p ≠ D := fun z => by
    rw [z, hD] at np
    cases np
  have nJ : J p = none := by
    cases e : J p with
    | none => rfl
    | some o =>
      rw [S1 _ _ e] at np
      cases np
  have SJ := same_new (o := .tup us) nJ
  refine ⟨ys, by rw [upd_ne pD.symm]; exact hD, hq.len, upd J p (.tup us), ys ++ [.ref p], S0.trans SJ, by rw [upd_ne pD.symm]; exact nD, fun b o e => ?_, upd_same, ?_⟩
  · have bD : b ≠ D := fun z => by
      rw [z, upd_ne pD.symm, nD] at e
      cases e
    rw [upd_ne bD]
    by_cases bp : b = p
    · subst bp
      rw [upd_same] at e ⊢
      exact e
    · rw [upd_ne bp] at e ⊢
      exact S1 _ _ e
  · exact (DqAll.same SJ _ _ hq).snoc (.tup upd_same (DqAll.same (S0.trans SJ) _ _ q))
theorem DqAll.take {H : Hp} : ∀ {ds : List PyData} {xs : List V} (n : Nat), DqAll H xs ds → DqAll H (xs.take n) (ds.take n)
  | [], _, n, h => by
    cases h
    simp
    exact .nil
  | _ :: _, _, 0, h => .nil
  | _ :: _, _, n + 1, h => by
    cases h with
    | cons q r => exact .cons q (DqAll.take n r)
theorem cut_two (xs : List V) (h : 2 ≤ xs.length) : cutV xs none (some 2) = xs.take 2 := by
  unfold cutV
  rw [HT.sIx_none, show HT.sIx xs.length xs.length (some 2) = min 2 xs.length from HT.sIx_nat xs.length xs.length 2]
  rw [List.drop_zero, Nat.sub_zero, Nat.min_eq_left h]
theorem not_whole (xs : List V) (h : 2 < xs.length) : ¬ (HT.sIx xs.length 0 none = 0 ∧ HT.sIx xs.length xs.length (some 2) = xs.length) := fun z => by
  have q := z.2
  rw [show HT.sIx xs.length xs.length (some 2) = min 2 xs.length from HT.sIx_nat xs.length xs.length 2] at q
  omega
theorem isT_of {d : PyData} (h : isTupD d = true) : ∃ ds, d = .tuple ds := by
  cases d with
  | tuple ds => exact ⟨ds, rfl⟩
  | _ => cases h
theorem int_of {d : PyData} (h : intD d = true) : ∃ i, d = .int i := by
  cases d with
  | int i => exact ⟨i, rfl⟩
  | _ => cases h
theorem bool_ft (b : Bool) : b = false ∨ b = true := by cases b <;> simp
end KL
set_option Elab.async false
set_option linter.all false
set_option maxRecDepth 100000
set_option maxHeartbeats 2000000
namespace KL
open PySem L2 PySem.Spec PyProof.Rows
/-! ### sorted(xs) of a list of data that can be compared -/
def pairD (p : V × PyData) : PyData := p.2
def ItemQ (H : Hp) (u : Value) (p : V × PyData) : Prop := RelV p.1 u ∧ Dq H p.1 p.2
theorem each_items {H : Hp} : ∀ {ds : List PyData} {xs : List V} {us : List Value}, DqAll H xs ds → Vals xs us → PySem.W.EachIs (ItemQ H) us (xs.zip ds)
  | [], _, _, h, r => by
    cases h
    cases r
    exact .nil
  | d :: ds, _, _, h, r => by
    cases h with
    | cons h1 h2 =>
      cases r with
      | cons r1 r2 => exact .cons ⟨r1, h1⟩ (each_items h2 r2)
theorem each_reads {X : Cx} {pins : List (Addr × Obj)} {σ : L2.St} {H : Hp} {s : Shared} (I : Inv X pins σ H s) : ∀ {ds : List PyData} {xs : List V} {us : List Value}, DqAll H xs ds → Vals xs us → PyData.canLayAll0 ds = true → PySem.W.EachIs (fun u p => ∃ as, Reads s.heap u (pairD p) as) us (xs.zip ds)
  | [], _, _, h, r, _ => by
    cases h
    cases r
    exact .nil
  | d :: ds, _, _, h, r, l => by
    cases h with
    | cons h1 h2 =>
      cases r with
      | cons r1 r2 =>
        have l' := Bool.and_eq_true_iff.mp (show (d.canLay0 && PyData.canLayAll0 ds) = true from l)
        exact .cons (Dq.reads0 I d _ _ h1 l'.1 r1) (each_reads I h2 r2 l'.2)
theorem vals_of_each {H : Hp} : ∀ {us : List Value} {zs : List (V × PyData)}, PySem.W.EachIs (ItemQ H) us zs → Vals (zs.map (·.1)) us ∧ DqAll H (zs.map (·.1)) (zs.map (·.2))
  | _, _, .nil => ⟨.nil, .nil⟩
  | _, _, .cons h t => by
    obtain ⟨q1, q2⟩ := vals_of_each t
    exact ⟨.cons h.1 q1, .cons h.2 q2⟩
theorem zip_snd : ∀ {ds : List PyData} {xs : List V}, xs.length = ds.length → (xs.zip ds).map (·.2) = ds
  | [], [], _ => rfl
  | d :: ds, x :: xs, h => by
    show d :: (xs.zip ds).map (·.2) = d :: ds
    rw [zip_snd (ds := ds) (xs := xs) (Nat.succ.inj h)]
/-- the order of sorted -/
def leD : PyData → PyData → Bool := PySem.W.dataLe false id
def rSortedQ (K : PySem.W.Frag) : List V → Hp → VK → Prop := fun vs H Q => ∃ (Hd : Hp) (a : Addr) (xs : List V) (ds : List PyData), vs = [V.ref a] ∧ SqL K H a xs ∧ Same Hd H ∧ DqAll Hd xs ds ∧ PyData.canLayAll0 ds = true ∧ PySem.W.AllAlike ds ∧ PySem.W.Sortable ds ∧ PyData.depthAll ds ≤ 20 ∧
  ∀ (ys : List V) (p : Addr), DqAll Hd ys (ds.mergeSort leD) → H p = none → Q (.ref p) (upd H p (.lst ys))
theorem depth_mem1 : ∀ {ds : List PyData} {d : PyData}, d ∈ ds → d.depth ≤ PyData.depthAll ds
  | e :: ds, d, h => by
    show d.depth ≤ max e.depth (PyData.depthAll ds)
    rcases List.mem_cons.mp h with rfl | h
    · exact Nat.le_max_left _ _
    · exact Nat.le_trans (depth_mem1 h) (Nat.le_max_right _ _)
theorem sort_snd (zs : List (V × PyData)) : (zs.mergeSort (PySem.W.dataLe false pairD)).map (·.2) = (zs.map (·.2)).mergeSort leD := by
  rw [List.map_mergeSort]
  intro a _ b _
  rfl
theorem cr_sortedQ {X : Cx} (hu : X.A.units + 64 < cLine) : CallR X (.builtin "sorted") (rSortedQ X.K) := by
  intro pins s σ H vs us Q I r h
  obtain ⟨Hd, a, xs, ds, rfl, hs, S, hd, lay, al, so, dp, q⟩ := h
  obtain ⟨its, rv, hl, hz⟩ := I.list hs
  rw [Vals.ref1 r]
  have len := hd.len
  have e2 := zip_snd len
  have zl : (xs.zip ds).length = ds.length := by rw [List.length_zip, len, Nat.min_self]
  have e3 : (xs.zip ds).map pairD = ds := e2
  refine PySem.W.sorted_data (R := ItemQ Hd) (enc := pairD) (bs := xs.zip ds) hl.isList (each_items hd rv) (each_reads I (DqAll.same S _ _ hd) rv lay) (by rw [e3]; exact al) (by rw [e3]; exact so) (by rw [zl, ← len]; exact hz) (fun b hb => ?_) (fun out lo ho => ?_)
  · have hm : pairD b ∈ ds := by
      rw [← e3]
      exact List.mem_map.mpr ⟨b, hb, rfl⟩
    have := depth_mem1 hm
    omega
  · obtain ⟨q1, q2⟩ := vals_of_each ho
    rw [sort_snd, e2] at q2
    obtain ⟨ep, he'⟩ := PyProof.Rows.sortedAll_at s.heap its out.toArray
    have hlen : (((xs.zip ds).mergeSort (PySem.W.dataLe false pairD)).map (·.1)).length ≤ sizeLine := by
      rw [List.length_map, List.length_mergeSort, zl, ← len]
      exact hz
    exact ⟨.ref _, upd H (s.heap.objs.size + 1) (.lst _), I.laid (t' := s.toks) (fun _ _ => PyProof.Rows.sortedAll_old) (Nat.le_succ _) ⟨hlen, out, ep, q1, he'⟩, rfl, q _ _ q2 (I.hok.fresh (Nat.le_succ _))⟩
end KL
set_option Elab.async false
set_option linter.all false
set_option maxRecDepth 100000
set_option maxHeartbeats 4000000
namespace KL
open PySem L2 PySem.Spec PyProof.Rows
/-! ### xs.extend(t), t a tuple -/
theorem ext_tup (l : Addr) (us : Array Value) (n : Nat) (b : Addr) (ws : Array Value) (m : Nat) (dd : Option Addr) (sl : Array (Option Value)) (c0 : ¬(!us.isEmpty && Builtin.List.listTooLong (us.size + ws.size)) = true) (c1 : us.size ≤ sizeLine) (c2 : us.size + ws.size ≤ sizeLine + 1) :
    Meets (Builtin.«list.extend» ⟨[.ref l, .ref b], []⟩) (fun _ R s => s.heap.get? l = some { cls := .type "list", dict := none, data := .seq us n, slots := #[] } ∧ s.heap.get? b = some ⟨.type "tuple", dd, .seq ws m, sl⟩ ∧
      R (.ok (.ret .none)) { s with heap := s.heap.update l (Obj.mapSeq fun x => x ++ ws), toks := s.toks }) :=
  .of_wp fun prog w A R s hh => by
    obtain ⟨hp, g, d, tk, os⟩ := s
    obtain ⟨hl, hb, hh⟩ := hh
    have f3 := AutoSeq1.sub_list_list
    have f4 := AutoSeq1.sub_tuple_list
    have f2 := AutoSeq1.sub_tuple_tuple
    have f5 := AutoSeq1.sub_list_tuple
    have z : (us ++ ws).size ≤ sizeLine + 1 := by
      rw [Array.size_append]
      exact c2
    wp_walk using (wpAny_updateSeq hl rfl (hz := c1) (_hz' := z)), AutoSeq1.wpAny_loadPart' hl, AutoSeq1.wpAny_loadPart' hb
    exact ⟨_, rfl, hh⟩
def rExtT (K : PySem.W.Frag) : V → List V → Hp → VK → Prop := fun x vs H Q => ∃ l b xs zs, x = .ref l ∧ vs = [.ref b] ∧ H l = some (.lst xs) ∧ SqT K H b zs ∧ xs.length + zs.length ≤ sizeLine ∧ Q .non (upd H l (.lst (xs ++ zs)))
theorem mt_extT {X : Cx} : MtM X "list.extend" (rExtT X.K) := by
  intro pins s σ H x vs v us Q I rx rv h
  obtain ⟨l, b, xs, zs, rfl, rfl, hH, hB, hz, q⟩ := h
  cases rx
  obtain ⟨u, rfl, ru⟩ := rv.one
  cases ru
  obtain ⟨z, its, n, r, hl, e⟩ := I.lstM hH
  obtain ⟨its2, r2, ⟨⟨cls, dd, data, sl⟩, ho, hc, m, hd⟩, hs⟩ := I.tuple hB
  simp only at hc hd
  subst hc hd
  have s1 : its.toArray.size = xs.length := by rw [List.size_toArray, r.length]
  have s2 : its2.toArray.size = zs.length := by rw [List.size_toArray, r2.length]
  have hsz : its.toArray.size + its2.toArray.size ≤ sizeLine := by omega
  have hlong : ¬ (!its.toArray.isEmpty && Builtin.List.listTooLong (its.toArray.size + its2.toArray.size)) = true := by
    rw [notLongL hsz, Bool.and_false]
    exact Bool.false_ne_true
  refine call_meets F.slot_list_extend ⟨_, e, rfl⟩ F.entry_list_extend (F.args_list_extend_2 _ _) (ext_tup l its.toArray n b its2.toArray m dd sl hlong (by omega) (by omega)) ⟨e, ho, ?_⟩
  refine ⟨.non, _, I.lset (its' := its ++ its2) hH e (by simp) (r.append r2) ?_, rfl, q⟩
  rw [List.length_append]
  exact hz
/-! ### dict(xs), xs a list of pairs whose keys are tuples of ints and texts -/
def mergeT (kvs more : List (List Key × V)) : List (List Key × V) := more.foldl (fun acc kv => putK acc kv.1 kv.2) kvs
def rDictT (K : PySem.W.Frag) : List V → Hp → VK → Prop := fun xs H Q => ∃ (a : Addr) (ps : List Addr) (kvs : List (List Key × V)), xs = [.ref a] ∧ SqL K H a (ps.map V.ref) ∧
  Paired (fun p kv => ∃ b, SqT K H p [.ref b, kv.2] ∧ H b = some (.tup (kv.1.map kV))) ps kvs ∧ ∀ p, H p = none → Q (.ref p) (upd H p (.dT (mergeT [] kvs)))
section
variable {X : Cx}
theorem pairs_ofT {pins : List (Addr × Obj)} {σ : L2.St} {H : Hp} {s : Shared} (I : Inv X pins σ H s) : ∀ {ps : List Addr} {kvs : List (List Key × V)}, Paired (fun p kv => ∃ b, SqT X.K H p [.ref b, kv.2] ∧ H b = some (.tup (kv.1.map kV))) ps kvs →
    ∃ xs : List (List Key × Addr × Value), KT H kvs xs ∧ xs.length = ps.length ∧ ∀ (j : Nat) (q : List Key × Addr × Value), xs[j]? = some q → ∃ p, ps[j]? = some p ∧ IsTup s.heap p #[.ref q.2.1, q.2.2] ∧ (tupleKind (mixKind X.prog X.w)).is s.heap q.1 q.2.1
  | _, _, .nil => ⟨[], .nil, rfl, fun j q e => by simp at e⟩
  | _, _, .cons (a := p) (b := kv) h t => by
    obtain ⟨xs, r, hl, hp⟩ := pairs_ofT I t
    obtain ⟨b, h, hb⟩ := h
    obtain ⟨its, rv, ht, _⟩ := I.tuple h
    obtain ⟨u, y, ei, ru, ry⟩ := vals2 rv
    subst ei
    cases (show u = Value.ref b from ru)
    refine ⟨(kv.1, b, y) :: xs, .cons ⟨rfl, hb, ry⟩ r, by rw [List.length_cons, List.length_cons, hl], fun j q e => ?_⟩
    cases j with
    | zero =>
      have e' : (kv.1, b, y) = q := Option.some.inj e
      subst e'
      exact ⟨p, rfl, ht, key_of I.hok hb⟩
    | succ j =>
      obtain ⟨p', e1, e2, e3⟩ := hp j q (by simpa using e)
      exact ⟨p', by simpa using e1, e2, e3⟩
theorem merge_keyed {H : Hp} : ∀ {kvs : List (List Key × V)} {xs : List (List Key × Addr × Value)} {acc : List (List Key × V)} {ys : List (List Key × Addr × Value)}, KT H kvs xs → KT H acc ys → KT H (mergeT acc kvs) (storedAllH ys xs)
  | _, _, _, _, .nil, r => r
  | _, _, _, _, .cons (a := kv) (b := x) h t, r => by
    obtain ⟨h1, h2, h3⟩ := h
    have q := r.put kv.1 h2 h3
    have m := merge_keyed t q
    show KT H (mergeT (putK _ kv.1 kv.2) _) (storedAllH (storedH _ x.1 x.2.1 x.2.2) _)
    rw [← h1]
    exact m
theorem merge_len : ∀ (kvs acc : List (List Key × V)), (mergeT acc kvs).length ≤ acc.length + kvs.length
  | [], acc => Nat.le_refl _
  | kv :: kvs, acc => by
    have h1 := merge_len kvs (putK acc kv.1 kv.2)
    have h2 := length_putK acc kv.1 kv.2
    show (mergeT (putK acc kv.1 kv.2) kvs).length ≤ _
    rw [List.length_cons]
    omega
theorem call_dictT (hc : X.calm = true) (hu : X.A.units + 64 < cLine) : CallR X (.type "dict") (rDictT X.K) := by
  intro pins s σ H xs us Q I r h
  obtain ⟨a, ps, kvs, rfl, hs, hp, q⟩ := h
  obtain ⟨its, rv, pl, hz⟩ := I.list hs
  rw [Vals.ref1 r]
  have ei := refs_at rv
  subst ei
  rw [List.length_map] at hz
  obtain ⟨prs, rel, hl, hpr⟩ := pairs_ofT I hp
  obtain ⟨o, n, ho, hcl, hd, hdat⟩ := pl
  have hm : (s.heap.objs.size == sysModules) = false := beq_eq_false_iff_ne.mpr (Nat.ne_of_gt I.big)
  have lp : (prs.map fun x => (Value.ref x.2.1, x.2.2)).length = prs.length := List.length_map _
  refine call_dict_pairsH (knd := tupleKind (mixKind X.prog X.w)) (ps := prs) (PairArg.list a (ps.map Value.ref).toArray (fun j => ps.getD j 0) (prs.map fun x => (Value.ref x.2.1, x.2.2))) (I.ok.hd hc) (show X.A.units + 1 + 1 < cLine by omega)
    ⟨⟨o, n, ho, hcl, hd, hdat⟩, ?_, fun j k v e => ?_⟩ ⟨lp.symm, fun i key v e => ?_⟩ (fun h' hk x hx => ?_) (by rw [lp, hl]; exact hz) fun h' tk hd' k => ?_
  · rw [lp, hl]
    simp
  · rw [List.getElem?_map] at e
    cases ex : prs[j]? with
    | none =>
      rw [ex] at e
      cases e
    | some x =>
      rw [ex] at e
      have e := Option.some.inj e
      obtain ⟨p, e1, e2, e3⟩ := hpr j x ex
      cases e
      refine ⟨by simp [e1], ?_⟩
      show PairAt s.heap (ps.getD j 0) _ _
      rw [List.getD_eq_getElem?_getD, e1]
      obtain ⟨o', h1, h2, m, h3⟩ := e2
      exact .inl ⟨o', h1, h2, m, h3⟩
  · have e : (prs.map fun x => (Value.ref x.2.1, x.2.2))[i]? = some (key, v) := e
    rw [List.getElem?_map] at e
    cases ex : prs[i]? with
    | none =>
      rw [ex] at e
      cases e
    | some x =>
      rw [ex] at e
      have e := Option.some.inj e
      cases e
      exact ⟨x.1, x.2.1, rfl, rfl⟩
  · obtain ⟨j, hj⟩ := List.mem_iff_getElem?.mp hx
    obtain ⟨p, e1, e2, o', its', m, h1, h2, h3, h4⟩ := hpr j x hj
    refine ⟨o', its', m, hk _ _ (Nat.ne_of_lt (Heap.lt_size h1)) (fun z => nomatch z) h1, h2, h3, h4⟩
  · have hlen : (mergeT [] kvs).length ≤ sizeLine := by
      have h1 := merge_len kvs []
      have h2 : kvs.length = prs.length := Paired.length rel
      rw [List.length_nil] at h1
      omega
    have keep : ∀ b o, s.heap.get? b = some o → h'.get? b = some o := fun b o e => k b o (fun z => nomatch z) e
    have m := merge_keyed rel (.nil : KT H [] [])
    obtain ⟨o', es, ep, d1, d2, d3, d4, _, d5⟩ := hd'
    refine ⟨.ref s.heap.objs.size, upd H s.heap.objs.size (.dT (mergeT [] kvs)), I.laid (t' := tk) keep (Nat.le_refl _) (show ObjOk X.prog X.w _ _ _ (.dT (mergeT [] kvs)) from ⟨hlen, hm, _, m.keeps fun b ys e => ?_, o', es, ep, d1, d2, d3, d4, d5⟩), rfl, q _ (I.hok.fresh (Nat.le_refl _))⟩
    rw [upd_ne (ne_of_none e (I.hok.fresh (Nat.le_refl _)))]
    exact e
end
end KL
set_option Elab.async false
set_option linter.all false
set_option maxRecDepth 100000
set_option maxHeartbeats 4000000
namespace KL
open PySem L2 PySem.Spec PyProof.Rows
/-! ### sets of ints and texts, their order too -/
theorem paired_perm {α β : Type} {R : α → β → Prop} {l l' : List α} (p : l'.Perm l) : ∀ {m : List β}, Paired R l m → ∃ m', m'.Perm m ∧ Paired R l' m' := by
  induction p with
  | nil => intro m h; exact ⟨m, .refl _, h⟩
  | cons x _ ih =>
    intro m h
    cases h with
    | cons h1 h2 =>
      obtain ⟨m', p', q'⟩ := ih h2
      exact ⟨_ :: m', p'.cons _, .cons h1 q'⟩
  | swap x y l =>
    intro m h
    cases h with
    | cons h1 h2 =>
      cases h2 with
      | cons h3 h4 => exact ⟨_ :: _ :: _, .swap _ _ _, .cons h3 (.cons h1 h4)⟩
  | trans _ _ ih1 ih2 =>
    intro m h
    obtain ⟨m', p', q'⟩ := ih2 h
    obtain ⟨m'', p'', q''⟩ := ih1 q'
    exact ⟨m'', p''.trans p', q''⟩
def KeyE (P : Program) (w : World) (e : Int × Value) (k : Key) : Prop := RelV (kV k) e.2 ∧ e.1 = (mixKind P w).hash k
/-- a set that has the keys ks, in some order -/
structure SetKs (P : Program) (w : World) (h : Heap) (a : Addr) (ks : List Key) : Prop where
  ex : ∃ o es ep t, h.get? a = some o ∧ o.ExactSet ∧ o.data = .set es ep t ∧ Paired (KeyE P w) es.toList ks ∧ es.size < scanBound ∧ t.fits es.size = true ∧ Ris t.place.toList ∧ (w.params.followText "set-order" = true ∨ t.led = true)
  nd : ks.Nodup
section
variable {P : Program} {w : World} {A : Around} {E : Value → Shared → Prop} {s : Shared} {a : Addr} {ks : List Key} {h h' : Heap}
theorem SetKs.at (R : SetKs P w h a ks) (k : ∀ o, h.get? a = some o → h'.get? a = some o) : SetKs P w h' a ks := by
  obtain ⟨⟨o, es, ep, t, ho, r⟩, nd⟩ := R
  exact ⟨⟨o, es, ep, t, k o ho, r⟩, nd⟩
theorem elems_of : ∀ {l : List (Int × Value)} {ks : List Key}, Paired (KeyE P w) l ks → ElemsOf (mixKind P w) l
  | _, _, .nil => fun e he => nomatch he
  | _, _, .cons h t => fun e he => by
    rcases List.mem_cons.mp he with z | z
    · subst z
      exact ⟨⟨_, kV_is h.1, h.2⟩, key_scan h.1⟩
    · exact elems_of t e z
theorem is_only {k j : Key} {v : Value} (r : RelV (kV j) v) : (mixKind P w).is k v = true ↔ k = j := by
  constructor
  · intro h
    exact (mixKind P w).inj v k j h (kV_is r)
  · rintro rfl
    exact kV_is r
theorem mem_is {k : Key} : ∀ {l : List (Int × Value)} {ks : List Key}, Paired (KeyE P w) l ks → (k ∈ ks ↔ ∃ e ∈ l, (mixKind P w).is k e.2 = true)
  | _, _, .nil => ⟨fun z => (nomatch z), fun ⟨_, z, _⟩ => (nomatch z)⟩
  | _, _, .cons h t => by
    rw [List.mem_cons, mem_is t]
    constructor
    · rintro (z | ⟨e, h1, h2⟩)
      · exact ⟨_, List.mem_cons_self, (is_only h.1).2 z⟩
      · exact ⟨e, List.mem_cons_of_mem _ h1, h2⟩
    · rintro ⟨e, h1, h2⟩
      rcases List.mem_cons.mp h1 with z | z
      · subst z
        exact .inl ((is_only h.1).1 h2)
      · exact .inr ⟨e, z, h2⟩
/-- what stands in the place of ks when k is put in -/
def PutIn (k : Key) (ks ks' : List Key) : Prop := (k ∈ ks ∧ ks' = ks) ∨ (k ∉ ks ∧ ks'.Perm (k :: ks))
theorem PutIn.mem {k j : Key} {ks ks' : List Key} (h : PutIn k ks ks') : j ∈ ks' ↔ j = k ∨ j ∈ ks := by
  rcases h with ⟨h1, rfl⟩ | ⟨_, h2⟩
  · exact ⟨.inr, fun z => z.elim (fun e => e ▸ h1) id⟩
  · rw [h2.mem_iff, List.mem_cons]
theorem PutIn.len {k : Key} {ks ks' : List Key} (h : PutIn k ks ks') : ks'.length ≤ ks.length + 1 := by
  rcases h with ⟨_, rfl⟩ | ⟨_, h2⟩
  · exact Nat.le_succ _
  · rw [h2.length_eq]
    exact Nat.le_refl _
/-- the entries are stored, and laid anew where the table is too full -/
theorem ks_tail {g : Bool → Sem Unit} {o : Obj} {es es1 : Array (Int × Value)} {ep : Nat} {t t2 : SetTable} {ls : List Key} {dm : Bool} {R : Option Bool → Shared → Prop}
    (hg : ∀ (b : Bool) (s₁ : Shared) (Q' : Unit → Shared → Prop), Q' () s₁ → wpAny (model P w) A (g b) Q' E s₁) (ho : s.heap.get? a = some o) (hx : o.ExactSet) (hd : o.data = .set es ep t)
    (pr : Paired (KeyE P w) es1.toList ls) (nd : ls.Nodup) (hb : es1.size < scanBound) (hf : t2.fits es1.size = true) (hr : Ris t2.place.toList) (hl : w.params.followText "set-order" = true ∨ t2.led = true)
    (hR : ∀ h' ms, Heap.SameBut a s.heap h' → SetKs P w h' a ms → ms.Perm ls → R (some true) { s with heap := h' }) :
    wpAny (model P w) A (do
        storeSet a es1 t2
        if (!dm && t2.tooFull) = true then do
            g (relayAll t2 es1 (SetTable.grown es1.size)).2.2
            storeSet a (relayAll t2 es1 (SetTable.grown es1.size)).1 (relayAll t2 es1 (SetTable.grown es1.size)).2.1
            pure (some true)
          else pure (some true)) R E s := by
  have stored := store_at (es' := es1) (t' := t2) ho hd
  have same := Heap.SameBut.update s.heap a (Obj.putSet es1 t2)
  refine wpAny_bind (wpAny_storeSet_of ho hd ?_ (fits_of_scanBound hb))
  by_cases full : (!dm && t2.tooFull) = true
  · rw [if_pos full]
    have k1 := relayAll_perm t2 es1 (SetTable.grown es1.size)
    have k2 := relayAll_fits t2 es1 (SetTable.grown es1.size)
    have k3 := relayAll_ris t2 es1 (SetTable.grown es1.size)
    have k4 := relayAll_led t2 es1 (SetTable.grown es1.size)
    revert k1 k2 k3 k4
    generalize relayAll t2 es1 (SetTable.grown es1.size) = Z
    obtain ⟨es2, t3, gv⟩ := Z
    intro k1 k2 k3 k4
    dsimp only at k1 k2 k3 k4 ⊢
    obtain ⟨ms, m1, m2⟩ := paired_perm k1 pr
    have sz : es2.size = es1.size := by rw [← Array.length_toList, k1.length_eq, Array.length_toList]
    have b2 : es2.size < scanBound := by omega
    refine wpAny_bind (hg _ _ _ (wpAny_bind (wpAny_storeSet_of stored rfl (wpAny_pure ?_) (fits_of_scanBound b2))))
    refine hR _ ms (same.trans (Heap.SameBut.update _ a _)) ⟨⟨_, es2, _, t3, store_at (es' := es2) (t' := t3) stored rfl, hx, rfl, m2, b2, k2, k3, hl.imp id fun z => ?_⟩, m1.nodup_iff.mpr nd⟩ m1
    rw [k4]
    exact z
  · rw [if_neg full]
    exact wpAny_pure (hR _ ls same ⟨⟨_, es1, _, t2, stored, hx, rfl, pr, hb, hf, hr, hl⟩, nd⟩ (.refl _))
theorem ks_put {k : Key} {u : Value} {Q : Bool → Shared → Prop} (ru : RelV (kV k) u) (R : SetKs P w s.heap a ks) (room : ks.length + 1 < scanBound)
    (hQ : ∀ h' ks' b, Heap.SameBut a s.heap h' → SetKs P w h' a ks' → PutIn k ks ks' → Q b { s with heap := h' }) : wpAny (model P w) A (setAddHashed a u ((mixKind P w).hash k)) Q E s := by
  obtain ⟨⟨o, es, ep, t, ho, hx, hd, pr, hb, hf, hr, hl⟩, nd⟩ := R
  have len : es.size = ks.length := by rw [← Array.length_toList]; exact Paired.length pr
  have isk := kV_is (P := P) (w := w) ru
  have scn := key_scan ru
  have el := elems_of pr
  unfold setAddHashed setAddHashedIn
  refine wpAny_holding (wpAny_bind (wpAny_setState_of ho hd hf ?_))
  dsimp only
  rw [byScan_of scn hb el]
  simp only [↓reduceIte]
  unfold setAddByScan
  refine wpAny_bind (wpAny_bind (wpAny_rule (wpAny_bind (wpAny_setScan_of isk ho hd hf el ?_))))
  cases hfi : List.findIdx? (fun e => (mixKind P w).is k e.2) es.toList with
  | some j =>
    dsimp only
    obtain ⟨hj, pj, _⟩ := List.findIdx?_eq_some_iff_getElem.mp hfi
    have hm : k ∈ ks := (mem_is pr).2 ⟨es.toList[j], List.getElem_mem hj, pj⟩
    exact wpAny_pure (wpAny_pure (hQ s.heap ks _ (Heap.SameBut.refl a s.heap) ⟨⟨o, es, ep, t, ho, hx, hd, pr, hb, hf, hr, hl⟩, nd⟩ (.inl ⟨hm, rfl⟩)))
  | none =>
    dsimp only
    have hm : k ∉ ks := fun z => by
      obtain ⟨e, he, q⟩ := (mem_is pr).1 z
      have c := List.findIdx?_eq_none_iff.mp hfi e he
      rw [q] at c
      cases c
    have gw : ∀ (b : Bool) {s₁ : Shared} {Q' : Unit → Shared → Prop}, Q' () s₁ → wpAny (model P w) A (match b with | true => rule "set.scan.the-table-gave-way" | false => pure ()) Q' E s₁ := fun b s₁ Q' q => by
      cases b
      · exact wpAny_pure q
      · exact wpAny_rule q
    have k1 := layNew_perm t es ((mixKind P w).hash k) u
    have k2 := layNew_fits t es ((mixKind P w).hash k) u
    have k3 := layNew_ris t es ((mixKind P w).hash k) u hr
    have k4 := layNew_led t es ((mixKind P w).hash k) u
    revert k1 k2 k3 k4
    generalize layNew t es ((mixKind P w).hash k) u = Z
    obtain ⟨es1, t1, dm, gv⟩ := Z
    intro k1 k2 k3 k4
    dsimp only at k1 k2 k3 k4 ⊢
    rw [Array.toList_push] at k1
    have k1 : es1.toList.Perm (((mixKind P w).hash k, u) :: es.toList) := k1.trans (List.perm_append_singleton _ _)
    obtain ⟨ls, m1, m2⟩ := paired_perm k1 (m := k :: ks) (.cons ⟨ru, rfl⟩ pr)
    have sz : es1.size = ks.length + 1 := by rw [← Array.length_toList, k1.length_eq, List.length_cons, Array.length_toList, len]
    have b1 : es1.size < scanBound := by omega
    have nd1 : ls.Nodup := m1.nodup_iff.mpr (List.nodup_cons.mpr ⟨hm, nd⟩)
    have led : w.params.followText "set-order" = true ∨ t1.led = true := hl.imp id fun z => by
      rw [k4]
      exact z
    have fin : ∀ b h' ms, Heap.SameBut a s.heap h' → SetKs P w h' a ms → ms.Perm ls → Q b { s with heap := h' } := fun b h' ms sb r pm => hQ h' ms b sb r (.inr ⟨hm, pm.trans m1⟩)
    refine wpAny_bind (gw _ ?_)
    split
    · refine wpAny_bind ?_
      rw [hashByValue_scannable 8 scn]
      refine wpAny_pure ?_
      refine ks_tail (fun b s₁ Q' q => gw b q) ho hx hd m2 nd1 b1 ?_ ?_ ?_ fun h' ms sb r pm => ?_
      · first | exact k2 | (split <;> first | exact k2 | exact SetTable.fits_plain_off k2)
      · first | exact k3 | (split <;> exact k3)
      · first | exact led | (split <;> exact led)
      · dsimp only
        exact wpAny_pure (fin _ h' ms sb r pm)
    · refine wpAny_bind (wpAny_pure ?_)
      simp only [↓reduceIte]
      refine ks_tail (fun b s₁ Q' q => gw b q) ho hx hd m2 nd1 b1 k2 k3 led fun h' ms sb r pm => ?_
      dsimp only
      exact wpAny_pure (fin _ h' ms sb r pm)
end
end KL
set_option Elab.async false
set_option linter.all false
set_option maxRecDepth 100000
set_option maxHeartbeats 4000000
namespace KL
open PySem L2 PySem.Spec PyProof.Rows
section
variable {P : Program} {w : World} {A : Around} {E : Value → Shared → Prop} {s : Shared} {a : Addr}
theorem keep_run {Wn : World} {h : Heap} {a : Addr} {ks : List Key} (R : SetKs P Wn h a ks) {h' : Heap} (e : ∀ o, h.get? a = some o → h'.get? a = some o) : SetKs P Wn h' a ks := R.at e
/-- the items of an iterator are put into the set at D, one behind the other -/
theorem ks_fill {I D : Addr} {fp wr : List Addr} {G : Array GenState → Array GenState → Prop} {n : Nat} {Pv : Nat → Value → Prop} {St : Nat → Shared → Prop} {R : Result → Shared → Prop} (W : WalksS P w A.in1 I fp wr G n Pv St) (hD : D ∉ fp)
    (xs : List Key) (hn : xs.length = n) (hb : n + 1 < scanBound) (hv : ∀ i v, Pv i v → ∃ k, xs[i]? = some k ∧ RelV (kV k) v) (left : Nat) :
    ∀ (i : Nat) (s : Shared) (ks : List Key), i + left = n → St i s → SetKs P w s.heap D ks → (∀ j, j ∈ ks ↔ j ∈ xs.take i) → ks.length ≤ i →
      (∀ s' ks', Moved (D :: wr) G s s' → SetKs P w s'.heap D ks' → (∀ j, j ∈ ks' ↔ j ∈ xs) → ks'.length ≤ n → R (.ok (.ret .none)) s') → codeAny (model P w) A (.builtin "set.update.loop" ⟨[.ref D, .ref I], []⟩) R s := by
  have off : D ∉ wr := fun z => hD (W.sub _ z)
  have more : ∀ b ∈ wr, b ∈ D :: wr := fun b z => List.mem_cons_of_mem _ z
  induction left with
  | zero =>
    intro i s ks e st S hm hl k
    have e : i = n := e
    subst e
    refine codeAny_builtin F.entry_set_update_loop ?_
    rw [Around.under_plainId F.plain_set_update_loop _]
    show wpAny _ A.in1 (pyNext (.ref I) >>= _) _ _ s
    refine wpAny_bind (W.done s _ _ st fun s' mv => ?_)
    show wpAny _ A.in1 (ret Value.none) _ _ s'
    rw [List.take_of_length_le (by omega)] at hm
    exact wpAny_pure (k s' ks (mv.mono more) (S.at fun o q => mv.heap D o off q) hm hl)
  | succ left ih =>
    intro i s ks e st S hm hl k
    refine codeAny_builtin F.entry_set_update_loop ?_
    rw [Around.under_plainId F.plain_set_update_loop _]
    show wpAny _ A.in1 (pyNext (.ref I) >>= _) _ _ s
    refine wpAny_bind (W.item i s _ _ (by omega) st fun v s' hp st' mv => ?_)
    obtain ⟨z, hz, rz⟩ := hv i v hp
    show wpAny _ A.in1 (holding [v] (setAdd D v) >>= _) _ _ s'
    refine wpAny_bind (wpAny_holding ?_)
    unfold setAdd
    refine wpAny_holding (wpAny_bind ((mixKind P w).pyHash (k := z) (kV_is rz) ?_))
    refine ks_put (s := { s' with toks := s'.toks + 1 }) rz (S.at fun o q => mv.heap D o off q) (by omega) fun h' ks' bb sb S2 pu => ?_
    have hm2 : ∀ j, j ∈ ks' ↔ j ∈ xs.take (i + 1) := fun j => by
      rw [pu.mem, hm, List.take_add_one, hz, List.mem_append]
      exact ⟨fun q => q.elim (fun c => .inr (by rw [c]; exact List.mem_singleton.mpr rfl)) .inl, fun q => q.elim .inr fun c => .inl (List.mem_singleton.mp c)⟩
    have hl2 : ks'.length ≤ i + 1 := Nat.le_trans pu.len (by omega)
    refine wpAny_pure ⟨plainId_quiet F.plain_set_update_loop _, ih (i + 1) _ ks' (by omega) (W.frame _ s' _ _ st' (Nat.le_succ _) fun b hb o e => ?_) S2 hm2 hl2 fun s2 ks2 mv2 S3 hm3 hl3 => ?_⟩
    · have nb : b ≠ D := fun c => hD (by rw [← c]; exact hb)
      rw [sb.2 b nb]
      exact e
    · refine k s2 ks2 (Moved.trans W.gtrans ((mv.mono more).then_heap (Nat.le_succ _) fun b o hb e => ?_) mv2) S3 hm3 hl3
      have nb : b ≠ D := fun c => hb (by rw [c]; exact List.mem_cons_self)
      rw [sb.2 b nb]
      exact e
/-- a built-in class called, the check of its __init__ by itself -/
theorem type_made {T newId initId : String} {Bi : Builtin} {args : List Value} {Q Q₁ : Value → Shared → Prop} (tc : TypeCalled T newId initId) (ct : checkTypeCall T ⟨args, []⟩ = pure ()) (en : entryFor table initId = some Bi)
    (nw : codeAny (model P w) A.in1 (.call (.builtin newId) ⟨.type T :: args, []⟩) (wants Q₁ E) s)
    (nx : ∀ obj s₁, Q₁ obj s₁ → s₁.TypeIs obj T ∧ (∀ {A' : Around} {E' : Value → Shared → Prop} {Q' : Unit → Shared → Prop}, Q' () s₁ → wpAny (model P w) A' (checkBuiltinCall initId ⟨obj :: args, []⟩) Q' E' s₁) ∧
      wpAny (model P w) A.in1.in1 (Bi ⟨obj :: args, []⟩)
        (fun fin s' => match fin with | .done f => wants (fun r s₂ => r = .none ∧ Q obj s₂) E (.ok f) s' | .again c' => c'.quiet = true ∧ codeAny (model P w) A.in1 c' (wants (fun r s₂ => r = .none ∧ Q obj s₂) E) s')
        (fun e s' => wants (fun r s₂ => r = .none ∧ Q obj s₂) E (.error e) s') s₁) : wpAny (model P w) A (call (.type T) args) Q E s := by
  obtain ⟨c0, cs, mro⟩ := tc.mro
  have m1 := tc.made
  have m2 := tc.sub
  have m3 := tc.notType
  have m4 := tc.canCreate
  refine wpAny_call (codeAny_of_tree (show wpAny _ _ (callAny (.type T) _) _ _ _ from ?_))
  refine wpAny_pure ⟨Code.quiet_builtin _ (by decide +kernel), codeAny_builtin F.entry_type_call ?_⟩
  rw [Around.under_plain (weight_type_call_type T args []) rfl]
  repeat any_goals (first | assumption | wp_step)

  refine codeAny_mono nw fun r s₁ hr => ?_
  rcases r with e | f
  · exact hr
  · cases f with
    | ret obj =>
      obtain ⟨q1, q2, q3⟩ := nx _ _ hr
      have l1 := tc.init.lookup
      have l2 := tc.init.bind obj
      repeat any_goals (first | assumption | wp_step)

      refine codeAny_mono (codeAny_call_builtin tc.init.plain en (q2 q3)) fun r₂ s₂ h2 => ?_
      rcases r₂ with e | f
      · exact h2
      · cases f with
        | ret r =>
          obtain ⟨rfl, q⟩ := h2
          repeat any_goals (first | assumption | wp_step)
        | _ => exact h2.elim
    | _ => exact hr.elim
theorem back_get : ∀ {xs : List V} {us : List Value} {i : Nat} {v : Value}, Vals xs us → us[i]? = some v → ∃ y, xs[i]? = some y ∧ RelV y v
  | _, _, i, v, .nil, e => by simp at e
  | _, _, 0, v, .cons h _, e => by
    simp at e
    subst e
    exact ⟨_, rfl, h⟩
  | _, _, i + 1, v, .cons _ t, e => by
    obtain ⟨y, q1, q2⟩ := back_get t (i := i) (by simpa using e)
    exact ⟨y, by simpa using q1, q2⟩
theorem call_set_ks {l : Addr} {us : Array Value} {xs : List Key} {Q : Value → Shared → Prop} (hh : A.handled = none) (hl : s.heap.IsList l us) (rv : Vals (xs.map kV) us.toList) (hb : xs.length + 1 < scanBound)
    (h : ∀ h' tk ks, SetKs P w h' s.heap.objs.size ks → (∀ j, j ∈ ks ↔ j ∈ xs) → ks.length ≤ xs.length → (∀ b o, s.heap.get? b = some o → h'.get? b = some o) → Q (.ref s.heap.objs.size) { s with heap := h', toks := tk }) :
    wpAny (model P w) A (call (.type "set") [.ref l]) Q E s := by
  have sz : us.size = xs.length := by
    have := rv.length
    rw [List.length_map] at this
    rw [← Array.length_toList, ← this]
  refine type_made (Q₁ := fun obj s₁ => obj = .ref s.heap.objs.size ∧ s₁ = { s with heap := s.heap.push { cls := .type "set", dict := none, data := .set #[] 0 (.fresh 0 0 (!w.params.followText "set-order")) } }) F.called_set (F.typeCall_set_1 _) F.entry_set_init (code_set_led1 _ ⟨rfl, rfl⟩) ?_
  rintro obj s₁ ⟨rfl, rfl⟩
  have new : (s.heap.push { cls := .type "set", dict := none, data := .set #[] 0 (.fresh 0 0 (!w.params.followText "set-order")) }).get? s.heap.objs.size = some { cls := .type "set", dict := none, data := .set #[] 0 (.fresh 0 0 (!w.params.followText "set-order")) } := Heap.get?_push_size _ rfl
  refine ⟨⟨_, new, rfl⟩, fun q => check_set_init_1 ⟨_, new, rfl⟩ q, ?_⟩
  have hT : Shared.TypeIs { s with heap := s.heap.push { cls := .type "set", dict := none, data := .set #[] 0 (.fresh 0 0 (!w.params.followText "set-order")) } } (.ref s.heap.objs.size) "set" := ⟨_, new, rfl⟩
  obtain ⟨⟨cls, dd, dat, sl⟩, ho, hc, n, hd⟩ := hl
  simp only at hc hd
  subst hc hd
  have ho' : (s.heap.push { cls := .type "set", dict := none, data := .set #[] 0 (.fresh 0 0 (!w.params.followText "set-order")) }).get? l = some { cls := .type "list", dict := dd, data := .seq us n, slots := sl } := Heap.get?_push_of_some _ ho
  have hl' : (s.heap.push { cls := .type "set", dict := none, data := .set #[] 0 (.fresh 0 0 (!w.params.followText "set-order")) }).IsList l us := ⟨_, ho', rfl, n, rfl⟩
  have hz : (s.heap.push { cls := .type "set", dict := none, data := .set #[] 0 (.fresh 0 0 (!w.params.followText "set-order")) }).objs.size = s.heap.objs.size + 1 := Heap.size_push ..
  have b1 := F.sub_list_set
  have b2 := F.sub_list_frozenset
  have b3 : (Value.type "list" == Value.type "dict") = false := by decide
  unfold Builtin.«set.__init__» noKeywords Builtin.Frozenset.updateFrom
  generalize hPI : pyIter = PI
  wp_walk
  subst hPI
  have lS : l < s.heap.objs.size := Heap.lt_size ho
  have nI : l ≠ (s.heap.push { cls := .type "set", dict := none, data := .set #[] 0 (.fresh 0 0 (!w.params.followText "set-order")) }).objs.size := by
    rw [hz]
    exact Nat.ne_of_lt (Nat.lt_succ_of_lt lS)
  have hD : s.heap.objs.size ∉ [(s.heap.push { cls := .type "set", dict := none, data := .set #[] 0 (.fresh 0 0 (!w.params.followText "set-order")) }).objs.size, l] := fun z => by
    rcases List.mem_cons.mp z with z | z
    · rw [hz] at z
      exact Nat.ne_of_lt (Nat.lt_succ_self _) z
    · have := List.mem_singleton.mp z
      exact Nat.ne_of_gt lS this
  have hv : ∀ (i : Nat) (v : Value), us[i]? = some v → ∃ k, xs[i]? = some k ∧ RelV (kV k) v := fun i v e => by
    obtain ⟨k, q, r⟩ : ∃ y, (xs.map kV)[i]? = some y ∧ RelV y v := by
      have e : us.toList[i]? = some v := by rw [Array.getElem?_toList]; exact e
      exact back_get rv e
    rw [List.getElem?_map] at q
    cases ex : xs[i]? with
    | none =>
      rw [ex] at q
      cases q
    | some x =>
      rw [ex] at q
      cases q
      exact ⟨x, rfl, r⟩
  refine wpAny_pyIter_list hl' ?_
  refine wpAny_bind (wpAny_runValue ?_)
  refine ks_fill ((Walks.list (show A.in1.in1.in1.handled = none by simp [hh]) _ l nI us).toS) hD xs sz.symm (by omega) hv us.size 0 _ [] (by omega)
    ⟨⟨_, Heap.get?_push_size _ rfl, rfl, rfl⟩, hl'.push _⟩ ⟨⟨_, #[], 0, _, Heap.get?_push_of_some _ new, ⟨rfl, rfl, rfl⟩, rfl, .nil, by decide, rfl, List.Pairwise.nil, ?_⟩, List.nodup_nil⟩ (fun j => by simp) (Nat.le_refl _) ?_
  · show _ ∨ (!w.params.followText "set-order") = true
    cases w.params.followText "set-order"
    · exact .inr rfl
    · exact .inl rfl
  · intro s' ks mv S hm hk
    obtain ⟨h', g', d', tk', os'⟩ := s'
    have eg : g' = s.gens := mv.gens
    have ed : d' = s.drawn := mv.drawn
    have eo : os' = s.os := mv.os
    subst eg ed eo
    show wpAny _ _ _ _ _ _
    refine wpAny_pure ?_
    show wpAny _ _ (ret Value.none) _ _ _
    refine wpAny_pure ⟨rfl, h h' tk' ks S hm (by omega) fun b o e => ?_⟩
    have bS : b < s.heap.objs.size := Heap.lt_size e
    refine mv.heap b o (fun z => ?_) (Heap.get?_push_of_some _ (Heap.get?_push_of_some _ e))
    rcases List.mem_cons.mp z with z | z
    · exact Nat.ne_of_lt bS z
    · have z := List.mem_singleton.mp z
      rw [hz] at z
      exact Nat.ne_of_lt (Nat.lt_succ_of_lt bS) z
end
end KL
set_option Elab.async false
set_option linter.all false
set_option maxRecDepth 100000
set_option maxHeartbeats 4000000
namespace KL
open PySem L2 PySem.Spec PyProof.Rows
/-- the set of the keys ks -/
def KsO (P : Program) (w : World) (a : Addr) (ks : List Key) : HO := .ext fun h => SetKs P w h a ks
theorem ksO_ok {P : Program} {w : World} {H : Hp} {h : Heap} {a : Addr} {ks : List Key} (R : SetKs P w h a ks) : ObjOk P w H h a (KsO P w a ks) := by
  obtain ⟨⟨o, _, _, _, ho, _⟩, _⟩ := id R
  exact ⟨R, ⟨o, ho⟩, fun _ _ p k => p.at k⟩
def rSetK (K : PySem.W.Frag) (P : Program) (w : World) : List V → Hp → VK → Prop := fun vs H Q => ∃ (a : Addr) (xs : List Key), vs = [V.ref a] ∧ SqL K H a (xs.map kV) ∧ xs.length ≤ 2000 ∧
  ∀ p ks, H p = none → ks.Nodup → (∀ j, j ∈ ks ↔ j ∈ xs) → ks.length ≤ xs.length → Q (.ref p) (upd H p (KsO P w p ks))
/-- sorted(s), s a set of texts -/
def rSortK (P : Program) (w : World) : List V → Hp → VK → Prop := fun vs H Q => ∃ (a : Addr) (ss : List Str), vs = [V.ref a] ∧ H a = some (KsO P w a (ss.map Sum.inr)) ∧
  ∀ (ys : List Str) (p : Addr), ys.Perm ss → ys.Nodup → ys.Pairwise (fun x y => x.cps.toList ≤ y.cps.toList) → H p = none → Q (.ref p) (upd H p (.lst (ys.map V.str)))
theorem paired_map {α β γ : Type} {R : α → γ → Prop} {f : β → γ} : ∀ {l : List α} {m : List β}, Paired R l (m.map f) → Paired (fun x y => R x (f y)) l m
  | _, [], h => by
    cases h
    exact .nil
  | _, y :: m, h => by
    cases h with
    | cons h1 h2 => exact .cons h1 (paired_map h2)
def StrE (u : Value) (x : Str) : Prop := ∃ t, u = .str x t
theorem strs_each : ∀ {l : List (Int × Value)} {ss : List Str} {P : Program} {w : World}, Paired (KeyE P w) l (ss.map Sum.inr) → Paired StrE (l.map (·.2)) ss
  | _, [], _, _, h => by
    cases h
    exact .nil
  | _, x :: ss, _, _, h => by
    cases h with
    | cons h1 h2 => exact .cons h1.1 (strs_each h2)
theorem each_str {h : Heap} {a : Addr} : ∀ {us : List Value} {ss : List Str}, Paired StrE us ss → PySem.W.EachIs StrE us ss ∧ PySem.W.EachIs (fun v b => ∃ as, Reads h v (PyData.str b) as ∧ a ∉ as) us ss
  | _, _, .nil => ⟨.nil, .nil⟩
  | _, _, .cons h t => by
    obtain ⟨q1, q2⟩ := each_str t
    obtain ⟨tk, rfl⟩ := h
    exact ⟨.cons ⟨tk, rfl⟩ q1, .cons ⟨[], .str _ _, fun z => nomatch z⟩ q2⟩
theorem vals_strs : ∀ {us : List Value} {ss : List Str}, PySem.W.EachIs StrE us ss → Vals (ss.map V.str) us
  | _, _, .nil => .nil
  | _, _, .cons h t => .cons h (vals_strs t)
theorem str_le_total (x y : Str) : (decide (x.cps.toList ≤ y.cps.toList) || decide (y.cps.toList ≤ x.cps.toList)) = true := by
  rcases List.le_total x.cps.toList y.cps.toList with h | h
  · rw [decide_eq_true h]
    rfl
  · rw [decide_eq_true h, Bool.or_true]
section
variable {X : Cx}
theorem cr_setK (hc : X.calm = true) : CallR X (.type "set") (rSetK X.K X.prog X.w) := by
  intro pins s σ H vs us Q I r h
  obtain ⟨a, xs, rfl, hs, hz, q⟩ := h
  obtain ⟨its, rv, hl, _⟩ := I.list hs
  rw [Vals.ref1 r]
  refine call_set_ks (xs := xs) (I.ok.hd hc) hl.isList (by simpa using rv) (by unfold scanBound; omega) fun h' tk ks S hm hk keep => ?_
  exact ⟨.ref s.heap.objs.size, upd H s.heap.objs.size (KsO X.prog X.w s.heap.objs.size ks), I.laid (t' := tk) keep (Nat.le_refl _) (ksO_ok S), rfl, q _ ks (I.hok.fresh (Nat.le_refl _)) S.nd hm hk⟩
theorem cr_sortK (hc : X.calm = true) (hu : X.A.units + 64 < cLine) : CallR X (.builtin "sorted") (rSortK X.prog X.w) := by
  intro pins s σ H vs us Q I r h
  obtain ⟨a, ss, rfl, ha, q⟩ := h
  have R : SetKs X.prog X.w s.heap a (ss.map Sum.inr) := (I.hok a _ ha).1
  rw [Vals.ref1 r]
  obtain ⟨⟨o, es, ep, t, ho, hx, hd, pr, hb, hf, hr, hl⟩, nd⟩ := R
  have nds : ss.Nodup := by
    have := nd
    unfold List.Nodup at this ⊢
    rw [List.pairwise_map] at this
    exact this.imp fun h e => h (by rw [e])
  refine Calls.call_function_entry kind_sorted plain_sorted entry_sorted (args_sorted1 _) ?_
  unfold Builtin.«sorted»
  refine wpAny_bind (m := checkCount "sorted" 1 1 _) (wpAny_pure ?_)
  refine wpAny_bind (collect_set (A := X.A.in1) (I.ok.hd hc) ⟨o, ho, hx.1, hd⟩ hf hb hr hl fun s1 out k1 z1 g1 o1 pm => ?_)
  obtain ⟨ms, pms, prm⟩ := paired_perm pm (strs_each pr)
  have lo : out.length = ms.length := Paired.length prm
  have lm : ms.length = es.size := by
    rw [pms.length_eq, ← Array.length_toList, Paired.length pr, List.length_map]
  have lz : out.length ≤ sizeLine := by
    rw [lo, lm]
    exact fits_of_scanBound hb
  refine wpAny_bind (wpAny_newList ?_ lz)
  have hoL : (s1.heap.push (seqObj "list" out.toArray 0)).get? s1.heap.objs.size = some (seqObj "list" out.toArray 0) := Heap.get?_push_size _ rfl
  obtain ⟨e1, e2⟩ := each_str (h := s1.heap.push (seqObj "list" out.toArray 0)) (a := s1.heap.objs.size) prm
  have al : PySem.W.AllAlike (ms.map PyData.str) := PySem.W.AllAlike.of fun _ _ => rfl
  have so : PySem.W.Sortable (ms.map PyData.str) := PySem.W.Sortable.others fun _ => ⟨fun z => (nomatch z), fun _ z => nomatch z⟩
  refine wpAny_bind (wpAny_holding (PySem.W.list_sort_data hoL e1 e2 al so (by rw [← lo]; exact lz) (fun b _ => (by show X.A.units + 1 + 1 + 0 < cLine; omega)) fun srt ls es' => ?_))
  have vv := vals_strs es'
  rw [PySem.W.dataLe_str (k := fun x => x)] at vv
  have pmm : (ms.mergeSort fun a b => decide (a.cps.toList ≤ b.cps.toList)).Perm ms := List.mergeSort_perm _ _
  have pw := List.pairwise_mergeSort (le := fun (a b : Str) => decide (a.cps.toList ≤ b.cps.toList)) (fun x y z h1 h2 => decide_eq_true (List.le_trans (of_decide_eq_true h1) (of_decide_eq_true h2))) (fun x y => str_le_total x y) ms
  obtain ⟨c, hcc⟩ := sortedHeap_at (vs := out) (out := srt.toArray) hoL
  have len : ((ms.mergeSort fun a b => decide (a.cps.toList ≤ b.cps.toList)).map V.str).length ≤ sizeLine := by
    rw [List.length_map, pmm.length_eq, ← lo]
    exact lz
  have keep : ∀ b u, s.heap.get? b = some u → (sortedHeap (s1.heap.push (seqObj "list" out.toArray 0)) s1.heap.objs.size out srt.toArray).get? b = some u := fun b u e => by
    have e1 := k1 b u e
    have lt := Heap.lt_size e1
    rw [sortedHeap_old (Nat.ne_of_lt lt) (by rw [size_push']; exact Nat.lt_succ_of_lt lt)]
    exact Heap.get?_push_of_some _ e1
  have hn : H s1.heap.objs.size = none := I.hok.fresh z1
  have J : Inv X pins σ (upd H s1.heap.objs.size (.lst ((ms.mergeSort fun a b => decide (a.cps.toList ≤ b.cps.toList)).map V.str))) { s with heap := sortedHeap (s1.heap.push (seqObj "list" out.toArray 0)) s1.heap.objs.size out srt.toArray, gens := s1.gens, drawn := s1.drawn, toks := s1.toks } :=
    I.call (ch := []) (Un.laid keep z1 hn) (I.hok.laid keep z1 ⟨len, srt, c, vv, hcc⟩) (by rw [g1]; exact I.bare) (fun _ z => nomatch z)
  have es1 : ({ s1 with heap := sortedHeap (s1.heap.push (seqObj "list" out.toArray 0)) s1.heap.objs.size out srt.toArray } : Shared) = { s with heap := sortedHeap (s1.heap.push (seqObj "list" out.toArray 0)) s1.heap.objs.size out srt.toArray, gens := s1.gens, drawn := s1.drawn, toks := s1.toks } := by
    cases s1
    cases s
    cases o1
    rfl
  refine wpAny_pure ⟨_, rfl, ?_⟩
  rw [es1]
  exact ⟨.ref _, _, J, rfl, q _ _ (pmm.trans pms) ((pmm.trans pms).nodup_iff.mpr nds) (pw.imp fun h => of_decide_eq_true h) hn⟩
end
end KL
set_option Elab.async false
set_option linter.all false
set_option maxRecDepth 100000
set_option maxHeartbeats 4000000
namespace KL
open PySem L2 PySem.Spec PyProof.Rows
/-! ### tuples of ints and texts, looked for in a set -/
abbrev AtK (P : Program) (w : World) (h : Heap) (k : List Key) (b : Addr) : Prop := IsTupleKey (mixKind P w) h k b
abbrev hK (P : Program) (w : World) (k : List Key) : Int := tupleKeyHash (mixKind P w) k
def Flat1 (v : Value) : Prop := (∃ i t, v = Value.int i t) ∨ ∃ x t, v = Value.str x t
theorem flat_items {P : Program} {w : World} : ∀ {k : List Key} {vs : List Value}, ItemsAre (mixKind P w) k vs → ∀ v ∈ vs, Flat1 v
  | _, _, .nil => fun _ h => nomatch h
  | _, _, .cons (k := k0) h t => fun v hv => by
    rcases List.mem_cons.mp hv with e | hv
    · subst e
      rcases keyIs_shape (k := k0) h with ⟨i, t, _, e⟩ | ⟨x, t, _, e⟩
      · exact .inl ⟨i, t, e⟩
      · exact .inr ⟨x, t, e⟩
    · exact flat_items t v hv
theorem flat_class {v : Value} (h : Flat1 v) (n : Nat) : ofAClassStatement n v = pure false := by
  rcases h with ⟨i, t, rfl⟩ | ⟨x, t, rfl⟩ <;> cases n <;> rfl
theorem flat_value {v : Value} (h : Flat1 v) (n : Nat) : hashByValue n v = pure true ∨ hashByValue n v = pure false := by
  rcases h with ⟨i, t, rfl⟩ | ⟨x, t, rfl⟩
  · exact .inl (by cases n <;> rfl)
  · exact .inr (by cases n <;> rfl)
section
variable {P : Program} {w : World} {A : Around} {E : Value → Shared → Prop} {s : Shared} {k : List Key} {b : Addr}
theorem row_class {Q : Bool → Shared → Prop} (hb : AtK P w s.heap k b) (q : Q false s) : wpAny (model P w) A (ofAClassStatement 8 (.ref b)) Q E s := by
  have ty := hb.typeIs
  obtain ⟨ob, its, c, h1, _, h2, h3⟩ := hb
  unfold ofAClassStatement
  refine wpAny_bind (wpAny_typeOf ty ?_)
  dsimp only
  simp only [show (("tuple" : String) == "tuple") = true by decide, if_true, Bool.not_true, Bool.false_eq_true, if_false]
  try refine wpAny_bind (wpAny_pure ?_)
  try simp only [Bool.not_true, Bool.false_eq_true, if_false]
  change wpAny _ _ (seqItems? (.ref b) >>= _) _ _ s
  refine wpAny_bind (wpAny_seqItems h1 h2 ?_)
  dsimp only
  refine wpAny_bind ?_
  change wpAny _ _ (forIn its _ _) _ _ s
  rw [← Array.forIn_toList]
  refine wpAny_forIn_list _ (fun left got s1 => got.1 = none ∧ s1 = s ∧ ∀ v ∈ left, Flat1 v) _ (fun v left got s1 hv => ?_) (fun got s1 hv => ?_) _ _ ⟨rfl, rfl, flat_items h3⟩
  · obtain ⟨g, rfl, fl⟩ := hv
    rw [flat_class (fl v List.mem_cons_self)]
    refine wpAny_bind (wpAny_pure ?_)
    simp only [Bool.false_eq_true, if_false]
    exact wpAny_pure ⟨rfl, rfl, fun u hu => fl u (List.mem_cons_of_mem _ hu)⟩
  · obtain ⟨g1, g2⟩ := got
    obtain ⟨g, rfl, _⟩ := hv
    cases (show g1 = none from g)
    exact wpAny_pure q
theorem row_value {Q : Bool → Shared → Prop} (hb : AtK P w s.heap k b) (q : ∀ c, Q c s) : wpAny (model P w) A (hashByValue 8 (.ref b)) Q E s := by
  have ty := hb.typeIs
  obtain ⟨ob, its, c, h1, _, h2, h3⟩ := hb
  unfold hashByValue
  refine wpAny_bind (wpAny_specialOf ty F.slot_tuple_hash.lookup ?_)
  change wpAny _ _ (seqItems? (.ref b) >>= _) _ _ s
  refine wpAny_bind (wpAny_seqItems h1 h2 (wpAny_bind ?_))
  change wpAny _ _ (forIn its _ _) _ _ s
  rw [← Array.forIn_toList]
  refine wpAny_forIn_list _ (fun left got s1 => got.1 = none ∧ s1 = s ∧ ∀ v ∈ left, Flat1 v) _ (fun v left got s1 hv => ?_) (fun got s1 hv => ?_) _ _ ⟨rfl, rfl, flat_items h3⟩
  · obtain ⟨g, rfl, fl⟩ := hv
    rcases flat_value (fl v List.mem_cons_self) 7 with e | e
    · rw [e]
      refine wpAny_bind (wpAny_pure ?_)
      simp only [Bool.not_true, Bool.false_eq_true, if_false]
      exact wpAny_pure ⟨rfl, rfl, fun u hu => fl u (List.mem_cons_of_mem _ hu)⟩
    · rw [e]
      refine wpAny_bind (wpAny_pure ?_)
      simp only [Bool.not_false, if_true]
      exact wpAny_pure (wpAny_pure (q false))
  · obtain ⟨g1, g2⟩ := got
    obtain ⟨g, rfl, _⟩ := hv
    cases (show g1 = none from g)
    exact wpAny_pure (q true)
/-- a search among such tuples shows nothing of the table -/
theorem row_unseen {Q : Bool → Shared → Prop} {ys : List Value} (hb : AtK P w s.heap k b) (hy : ∀ y ∈ ys, ∃ j c, y = Value.ref c ∧ AtK P w s.heap j c) (q : Q false s) : wpAny (model P w) A (searchCouldBeSeen (.ref b) ys) Q E s := by
  unfold searchCouldBeSeen
  refine wpAny_bind (wpAny_forIn_list _ (fun left got s1 => got.1 = none ∧ s1 = s ∧ ∀ y ∈ left, ∃ j c, y = Value.ref c ∧ AtK P w s.heap j c) _ (fun v left got s1 hv => ?_) (fun got s1 hv => ?_) _ _ ⟨rfl, rfl, hy⟩)
  · obtain ⟨g, rfl, fl⟩ := hv
    obtain ⟨j, c, rfl, hc⟩ := fl v List.mem_cons_self
    have next : ∀ y ∈ left, ∃ j c, y = Value.ref c ∧ AtK P w s1.heap j c := fun u hu => fl u (List.mem_cons_of_mem _ hu)
    dsimp only
    by_cases same : (b == c || (carriedByValue (.ref b) && carriedByValue (.ref c))) = true
    · exact wp_if_pos same (wpAny_pure ⟨rfl, rfl, next⟩)
    · refine wp_if_neg same (wpAny_bind (wpAny_eqIsQuiet_tuple hb ?_))
      simp only [Bool.not_true, Bool.false_eq_true, if_false]
      refine wpAny_bind (wpAny_eqIsQuiet_tuple hc ?_)
      simp only [Bool.not_true, Bool.false_eq_true, if_false]
      refine wpAny_bind (row_class hb ?_)
      simp only [Bool.false_eq_true, if_false]
      refine wpAny_bind (row_class hc ?_)
      simp only [Bool.false_eq_true, if_false]
      exact wpAny_pure ⟨rfl, rfl, next⟩
  · obtain ⟨g1, g2⟩ := got
    obtain ⟨g, rfl, _⟩ := hv
    cases (show g1 = none from g)
    exact wpAny_pure q
/-- it stays where it is when nothing but a set changes -/
theorem row_keeps {h h' : Heap} {a : Addr} {o : Obj} {es : Array (Int × Value)} {ep : Nat} {t : SetTable} (hb : AtK P w h k b) (ho : h.get? a = some o) (hd : o.data = .set es ep t) (sb : Heap.SameBut a h h') : AtK P w h' k b := by
  obtain ⟨ob, its, c, h1, h2, h3, h4⟩ := hb
  refine ⟨ob, its, c, (sb.2 b fun z => ?_).trans h1, h2, h3, h4⟩
  subst z
  cases h1.symm.trans ho
  rw [hd] at h3
  cases h3
theorem row_more {h h' : Heap} (hb : AtK P w h k b) (up : ∀ c o, h.get? c = some o → h'.get? c = some o) : AtK P w h' k b := by
  obtain ⟨ob, its, c, h1, r⟩ := hb
  exact ⟨ob, its, c, up _ _ h1, r⟩
end
/-! ### a set of such tuples -/
abbrev KRow := Addr × List Key
/-- how they stand in it -/
def entK (P : Program) (w : World) (L : List KRow) : List (Int × Value) := L.map fun r => (hK P w r.2, Value.ref r.1)
def hashesK (P : Program) (w : World) (L : List KRow) : List Int := L.map fun r => hK P w r.2
structure RowSet (P : Program) (w : World) (h : Heap) (a : Addr) (L : List KRow) (es : Array (Int × Value)) (ep : Nat) (t : SetTable) : Prop where
  obj : ∃ o, h.get? a = some o ∧ o.ExactSet ∧ o.data = .set es ep t
  ents : es.toList = entK P w L
  table : TabOk t (hashesK P w L)
  once : (L.map (·.2)).Nodup
  rows : ∀ r ∈ L, AtK P w h r.2 r.1
  order : w.params.followText "set-order" = true ∨ t.led = true
  loose : L.length * 5 < t.mask * 3
  few : L.length < 64
section
variable {P : Program} {w : World} {A : Around} {E : Value → Shared → Prop} {s : Shared} {a : Addr} {L : List KRow} {es : Array (Int × Value)} {ep : Nat} {t : SetTable}
theorem ent_len (he : es.toList = entK P w L) : es.size = L.length := by
  rw [← Array.length_toList, he]
  exact List.length_map _
theorem ent_at (he : es.toList = entK P w L) {i : Nat} {r : KRow} (h : L[i]? = some r) : es[i]? = some (hK P w r.2, Value.ref r.1) := by
  rw [← Array.getElem?_toList, he]
  unfold entK
  rw [List.getElem?_map, h]
  rfl
theorem fits_of {hs : List Int} (T : TabOk t hs) {n : Nat} (hn : n = hs.length) (room : n ≤ t.mask) : t.fits n = true := by
  have z := T.sz
  unfold SetTable.fits SetTable.fill
  rw [T.dm, Bool.and_eq_true, beq_iff_eq, decide_eq_true_eq]
  refine ⟨by omega, ?_⟩
  change t.place.size + 0 ≤ t.mask
  omega
theorem RowSet.fits (R : RowSet P w s.heap a L es ep t) : t.fits es.size = true := by
  have z := ent_len R.ents
  have r := R.loose
  exact fits_of R.table (by rw [z]; exact (List.length_map _).symm) (by omega)
theorem firm (T : MaskOk t.mask) : ¬ t.gaveWay = true := by
  unfold SetTable.gaveWay
  rw [mask_odd T]
  decide
end
end KL
set_option Elab.async false
set_option linter.all false
set_option maxRecDepth 100000
set_option maxHeartbeats 4000000
namespace KL
open PySem L2 PySem.Spec PyProof.Rows
/-! ### the search for such a tuple -/
/-- the c-th stop on the way of a hash -/
abbrev stop (t : SetTable) (h : Int) (c : Nat) : SetTable.Probe := nth t.mask (runAt t.mask (SetTable.bits h % (t.mask + 1)) (SetTable.bits h)) c
theorem stop_plain (t : SetTable) (h : Int) : ∀ c, (stop t h c).dummy = none
  | 0 => rfl
  | c + 1 => by
    rw [stop, nth_succ]
    have ih := stop_plain t h c
    unfold adv
    split
    · exact ih
    · exact ih
theorem stop_on (t : SetTable) (h : Int) (c d : Nat) : nth t.mask (stop t h c) d = stop t h (c + d) := (nth_add t.mask c _ d).symm
theorem stop_j (t : SetTable) (h : Int) (c d : Nat) : (nth t.mask (stop t h c) d).j = way t.mask h (c + d) := congrArg SetTable.Probe.j (stop_on t h c d)
section
variable {P : Program} {w : World} {A : Around} {E : Value → Shared → Prop} {s : Shared} {a x : Addr} {L : List KRow} {es : Array (Int × Value)} {ep : Nat} {t : SetTable} {k : List Key}
/-- where the tuple may stand, from the c-th stop on -/
def Ahead (P : Program) (w : World) (t : SetTable) (L : List KRow) (k : List Key) (K c : Nat) : Prop := ∀ (i : Nat) r, L[i]? = some r → r.2 = k → ∃ d, c ≤ d ∧ d < K ∧ t.place.toList[i]? = some (way t.mask (hK P w k) d)
theorem RowSet.slot_in (R : RowSet P w s.heap a L es ep t) {i j : Nat} (h : t.place.toList[i]? = some j) : ∃ r, L[i]? = some r ∧ r ∈ L := by
  have z := R.table.sz
  have l : i < t.place.toList.length := (List.getElem?_eq_some_iff.mp h).1
  rw [Array.length_toList, z] at l
  have l : i < L.length := by
    rw [hashesK, List.length_map] at l
    exact l
  exact ⟨L[i], List.getElem?_eq_getElem l, List.getElem_mem l⟩
/-- an entry that has the hash is compared; if it is another one, the search goes on behind it -/
theorem seek (R : RowSet P w s.heap a L es ep t) (hx : AtK P w s.heap k x) (hu : A.units < cLine) {K : Nat} (lim : K < 10 * SetTable.turns t.mask) (free : way t.mask (hK P w k) K ∉ t.place.toList)
    (full : ∀ c, c < K → way t.mask (hK P w k) c ∈ t.place.toList) {Q : SetFound → Shared → Prop} (there : k ∈ L.map (·.2) → Q (.there none) s) (gone : k ∉ L.map (·.2) → Q (.free (way t.mask (hK P w k) K) false) s) :
    ∀ (f c : Nat) (from' : Option SetTable.Probe), from'.getD (t.probeStart (hK P w k)) = stop t (hK P w k) c → c ≤ K → K - c < f → Ahead P w t L k K c → wpAny (model P w) A (setSearchFrom a (.ref x) (hK P w k) true f from') Q E s := by
  intro f
  obtain ⟨o, ho, hex, hd⟩ := R.obj
  have hashes : ∀ (i : Nat) (r : KRow), L[i]? = some r → (fun i => (es[i]?.map (·.1)).getD 0) i = hK P w r.2 := fun i r hr => by
    change (es[i]?.map (·.1)).getD 0 = _
    rw [ent_at R.ents hr]
    rfl
  induction f with
  | zero => intro c _ _ _ z; exact absurd z (Nat.not_lt_zero _)
  | succ f ih =>
    intro c from' start le lt ahead
    rw [setSearchFrom_succ]
    refine wpAny_bind (wpAny_setState_of ho hd R.fits ?_)
    dsimp only
    refine wp_if_neg (firm R.table.mok) ?_
    try refine wpAny_bind (wpAny_pure ?_)
    have cK : c + (K - c) = K := by omega
    -- a stop of the entry sought is never passed
    have kept : ∀ (d i : Nat) (r : KRow), L[i]? = some r → r.2 = k → t.place.toList[i]? = some (way t.mask (hK P w k) d) → c ≤ d → ¬ (∃ n, c + n = d ∧ ∀ i0 : Nat, t.place.toList[i0]? = some (nth t.mask (stop t (hK P w k) c) n).j → (es[i0]?.map (fun e : Int × Value => e.1)).getD 0 ≠ hK P w k) := by
      rintro d i r hr e hi _ ⟨n, rfl, no⟩
      refine no i ?_ ((hashes i r hr).trans (congrArg (hK P w) e))
      rw [stop_j]
      exact hi
    rcases go_spec t R.table.ris R.table.dm (fun i => (es[i]?.map (·.1)).getD 0) (hK P w k) (10 * SetTable.turns t.mask) (K - c) (stop t (hK P w k) c) (stop_plain _ _ _) (by omega)
      (fun q hq => by rw [stop_j]; exact full (c + q) (by omega)) (by rw [stop_j, cK]; exact free) with ⟨q, i, hq, hi, _, no, met⟩ | ⟨no, met⟩
    · have met' : t.probe (fun i => (es[i]?.map (·.1)).getD 0) (hK P w k) (from'.getD (t.probeStart (hK P w k))) = some (.candidate (way t.mask (hK P w k) (c + q)) i (stop t (hK P w k) (c + (q + 1)))) := by
        rw [start, ← stop_j, ← stop_on]
        exact met
      rw [met']
      dsimp only
      rw [stop_j] at hi
      obtain ⟨r, hr, mem⟩ := R.slot_in hi
      have er := ent_at R.ents hr
      have compare : wpAny (model P w) A (searchRest a (.ref x) (hK P w k) true f es t (way t.mask (hK P w k) (c + q)) i (stop t (hK P w k) (c + (q + 1)))) Q E s := by
        unfold searchRest
        rw [er]
        dsimp only
        refine wpAny_bind (wpAny_holding (wpAny_eqBool_tuple hu (R.rows r mem) hx (wpAny_bind (wpAny_setState_of ho hd R.fits ?_))))
        dsimp only
        by_cases eq : r.2 = k
        · exact wp_if_pos (by simp [eq]) (wpAny_pure (there (List.mem_map.mpr ⟨r, mem, eq⟩)))
        · refine wp_if_neg (by simp [eq]) ?_
          try refine wpAny_bind (wpAny_pure ?_)
          have live : t.slot (way t.mask (hK P w k) (c + q)) = .live i := slot_live R.table.ris hi
          rw [show t.sameMemory t.moves t.mask = some true by unfold SetTable.sameMemory; rw [if_pos (beq_self_eq_true _)]]
          dsimp only
          simp only [if_true, live, er]
          refine wpAny_bind (wpAny_isSame_ref_self (wpAny_bind (wpAny_pure ?_)))
          simp only [if_true]
          refine wp_if_neg (by simp [eq]) (ih (c + (q + 1)) _ rfl (by omega) (by omega) fun i0 r0 h0 e0 => ?_)
          obtain ⟨d, d1, d2, d3⟩ := ahead i0 r0 h0 e0
          refine ⟨d, ?_, d2, d3⟩
          rcases Nat.lt_trichotomy d (c + q) with z | z | z
          · have no' := no (d - c)
            refine absurd ⟨d - c, by omega, fun i1 h1 => ?_⟩ (kept d i0 r0 h0 e0 d3 d1)
            first | exact no' i1 (by omega) h1 | exact no' (by omega) i1 h1
          · exfalso
            rw [z] at d3
            have l2 := slot_live R.table.ris d3
            rw [live] at l2
            injection l2 with l2
            subst l2
            rw [hr] at h0
            cases h0
            exact eq e0
          · omega
      by_cases led : t.led = true
      · refine wp_if_neg (by simp [led]) ?_
        try refine wpAny_bind (wpAny_pure ?_)
        exact compare
      · refine wp_if_pos (by simp [led]) (wpAny_bind (row_unseen hx (fun y hy => ?_) ?_))
        · obtain ⟨e, he, rfl⟩ := List.mem_map.mp hy
          have he : e ∈ es.toList := by
            have h2 : e ∈ es ∧ e.1 = hK P w k := by simpa using he
            simpa using h2.1
          rw [R.ents] at he
          obtain ⟨r0, m0, rfl⟩ := List.mem_map.mp he
          exact ⟨r0.2, r0.1, rfl, R.rows r0 m0⟩
        · refine wp_if_neg (by decide) ?_
          try refine wpAny_bind (wpAny_pure ?_)
          exact compare
    · have met' : t.probe (fun i => (es[i]?.map (·.1)).getD 0) (hK P w k) (from'.getD (t.probeStart (hK P w k))) = some (.empty (way t.mask (hK P w k) K) none) := by
        have e2 : way t.mask (hK P w k) K = (nth t.mask (stop t (hK P w k) c) (K - c)).j := by rw [stop_j, cK]
        rw [start, e2]
        exact met
      rw [met']
      dsimp only
      refine wpAny_pure (gone fun m => ?_)
      obtain ⟨r, mem, e⟩ := List.mem_map.mp m
      obtain ⟨i, hi, ei⟩ := List.getElem_of_mem mem
      have hr : L[i]? = some r := by rw [List.getElem?_eq_getElem hi, ei]
      obtain ⟨d, d1, d2, d3⟩ := ahead i r hr e
      have no' := no (d - c)
      refine kept d i r hr e d3 d1 ⟨d - c, by omega, fun i1 h1 => ?_⟩
      first | exact no' i1 (by omega) h1 | exact no' (by omega) i1 h1
end
end KL
set_option Elab.async false
set_option linter.all false
set_option maxRecDepth 100000
set_option maxHeartbeats 4000000
namespace KL
open PySem L2 PySem.Spec PyProof.Rows
/-! ### one more such tuple -/
theorem all_picked {α : Type} (L : List α) : ∀ n, n ≤ L.length → (List.range n).filterMap (fun i => L[i]?) = L.take n
  | 0, _ => rfl
  | n + 1, h => by
    rw [List.range_succ, List.filterMap_append, all_picked L n (Nat.le_of_succ_le h), List.take_add_one, List.getElem?_eq_getElem h, List.filterMap_cons_some (List.getElem?_eq_getElem h)]
    rfl
theorem picked {α : Type} (L : List α) {o : List Nat} (h : o.Perm (List.range L.length)) : (o.filterMap fun i => L[i]?).Perm L := by
  have e := all_picked L L.length (Nat.le_refl _)
  rw [List.take_length] at e
  exact (h.filterMap _).trans (by rw [e])
section
variable {P : Program} {w : World}
theorem picked_ents {L : List KRow} {es : Array (Int × Value)} (he : es.toList = entK P w L) (o : List Nat) : (o.filterMap fun i => es[i]?) = entK P w (o.filterMap fun i => L[i]?) := by
  unfold entK
  rw [List.map_filterMap]
  congr 1
  funext i
  rw [← Array.getElem?_toList, he]
  unfold entK
  rw [List.getElem?_map]
theorem picked_hashes {L : List KRow} {es : Array (Int × Value)} (he : es.toList = entK P w L) : ∀ {o : List Nat}, (∀ i ∈ o, i < L.length) → hashesK P w (o.filterMap fun i => L[i]?) = o.map fun i => (es.map (·.1)).getD i 0
  | [], _ => rfl
  | i :: o, h => by
    have hi := h i List.mem_cons_self
    rw [List.filterMap_cons_some (List.getElem?_eq_getElem hi), List.map_cons, ← picked_hashes he fun j hj => h j (List.mem_cons_of_mem _ hj)]
    have e : (es.map (·.1))[i]? = some (hK P w (L[i]).2) := by
      rw [Array.getElem?_map, ent_at he (List.getElem?_eq_getElem hi)]
      rfl
    have e2 : (es.map (·.1)).getD i 0 = hK P w (L[i]).2 := by simp [Array.getD_eq_getD_getElem?, e]
    rw [e2]
    rfl
theorem dull {t : SetTable} {hs : List Int} (T : TabOk t hs) (c : Bool) : TabOk (if c = true then t else { t with plain := false }) hs := by
  cases c
  · exact ⟨T.ris, T.dm, T.sz, T.mok, T.bd, T.reach⟩
  · exact T
variable {A : Around} {E : Value → Shared → Prop} {s : Shared} {a x : Addr} {L : List KRow} {es : Array (Int × Value)} {ep : Nat} {t : SetTable} {k : List Key}
theorem seek0 (R : RowSet P w s.heap a L es ep t) (hx : AtK P w s.heap k x) (hu : A.units < cLine) {Q : SetFound → Shared → Prop} (there : k ∈ L.map (·.2) → Q (.there none) s)
    (gone : ∀ K, k ∉ L.map (·.2) → way t.mask (hK P w k) K ∉ t.place.toList → (∀ c, c < K → way t.mask (hK P w k) c ∈ t.place.toList) → Q (.free (way t.mask (hK P w k) K) false) s) :
    wpAny (model P w) A (setSearch a (.ref x) (hK P w k) true) Q E s := by
  have room := R.loose
  have hl : (hashesK P w L).length = L.length := List.length_map _
  obtain ⟨K, lim, free, full⟩ := R.table.first (by rw [hl]; omega) (hK P w k)
  have big : K < 100000 := by
    have : SetTable.turns t.mask ≤ 142 := by
      unfold SetTable.turns
      rcases R.table.mok with e | e | e <;> rw [e] <;> decide
    omega
  unfold setSearch
  refine seek R hx hu lim free full there (fun n => gone K n free full) 100000 0 none rfl (Nat.zero_le _) (by omega) fun i r hr e => ?_
  have h1 : (hashesK P w L)[i]? = some (hK P w k) := by
    unfold hashesK
    rw [List.getElem?_map, hr, ← e]
    rfl
  have h2 : i < t.place.toList.length := by
    rw [Array.length_toList, R.table.sz, hl]
    exact (List.getElem?_eq_some_iff.mp hr).1
  obtain ⟨d, d1, d2⟩ := R.table.before free h1 (List.getElem?_eq_getElem h2)
  exact ⟨d, Nat.zero_le _, d1, by rw [d2]; exact List.getElem?_eq_getElem h2⟩
/-- the table laid anew -/
theorem grow {o : Obj} (ho : s.heap.get? a = some o) (hex : o.ExactSet) (hd : o.data = .set es ep t) (he : es.toList = entK P w L) (T : TabOk t (hashesK P w L)) (fit : L.length ≤ t.mask) (once : (L.map (·.2)).Nodup)
    (rows : ∀ r ∈ L, AtK P w s.heap r.2 r.1) (ord : w.params.followText "set-order" = true ∨ t.led = true) (few : L.length < 64) {want M : Nat} (hw : SetTable.sizeAbove want - 1 = M) (hM : MaskOk M) (small : SetTable.sizeAbove want ≤ 128) (loose : L.length * 5 < M * 3)
    {Q : Unit → Shared → Prop} (q : ∀ h' L' es' ep' t', Heap.SameBut a s.heap h' → RowSet P w h' a L' es' ep' t' → L'.Perm L → Q () { s with heap := h' }) : wpAny (model P w) A (setRelay a want) Q E s := by
  have el := ent_len he
  have hl : (hashesK P w L).length = L.length := List.length_map _
  have fits := fits_of T (n := es.size) (by rw [el, hl]) (by rw [el]; exact fit)
  obtain ⟨t1, ord1, e1, perm, T1, m1, l1, _, _⟩ := relaid_ok t (hs := es.map (·.1)) (wanted := want) hw hM (by rw [Array.size_map, el]; omega)
  rw [Array.size_map, el] at perm
  have pk := picked L perm
  have same : (ord1.filterMap (es[·]?)).toList = entK P w (ord1.toList.filterMap fun i => L[i]?) := by
    rw [← picked_ents he]
    first | exact Array.toList_filterMap .. | simp
  rw [← picked_hashes he fun i hi => List.mem_range.mp (perm.mem_iff.mp hi)] at T1
  generalize ord1.toList.filterMap (fun i => L[i]?) = L1 at pk same T1
  have n1 : (ord1.filterMap (es[·]?)).size = es.size := by rw [ent_len same, pk.length_eq, el]
  rw [setRelay_eq]
  refine wpAny_bind (wpAny_setState_of ho hd fits ?_)
  dsimp only
  refine wp_if_neg (by rw [sizeLine_eq]; omega) ?_
  try refine wpAny_bind (wpAny_pure ?_)
  rw [e1]
  dsimp only
  refine wpAny_bind (wp_if_neg (by rw [n1]; simp) ?_)
  try refine wpAny_bind (wpAny_pure ?_)
  refine wpAny_pure ?_
  dsimp only
  have sb : Heap.SameBut a s.heap (s.heap.update a (Obj.putSet (ord1.filterMap (es[·]?)) t1)) := Heap.SameBut.update ..
  refine wpAny_storeSet_of ho hd (q _ L1 _ (ep + 1) t1 sb ⟨⟨_, store_at ho hd, ⟨hex.1, hex.2.1, hex.2.2⟩, rfl⟩, same, T1, (pk.map (·.2)).nodup_iff.mpr once, fun r hr => row_keeps (rows r (pk.mem_iff.mp hr)) ho hd sb, by rw [l1]; exact ord, ?_, by rw [pk.length_eq]; exact few⟩ pk) (by rw [n1, el, sizeLine_eq]; omega)
  rw [pk.length_eq, m1]
  exact loose
/-- what stands in the set behind it -/
def Joined (x : Addr) (k : List Key) (L L' : List KRow) : Prop := (k ∈ L.map (·.2) ∧ L' = L) ∨ (k ∉ L.map (·.2) ∧ L'.Perm ((x, k) :: L))
theorem join (R : RowSet P w s.heap a L es ep t) (hx : AtK P w s.heap k x) (hu : A.units < cLine) (room : L.length + 1 < 64) {Q : Bool → Shared → Prop}
    (q : ∀ b h' L' es' ep' t', Heap.SameBut a s.heap h' → RowSet P w h' a L' es' ep' t' → Joined x k L L' → Q b { s with heap := h' }) : wpAny (model P w) A (setAddHashed a (.ref x) (hK P w k)) Q E s := by
  obtain ⟨o, ho, hex, hd⟩ := R.obj
  have el := ent_len R.ents
  have hl : (hashesK P w L).length = L.length := List.length_map _
  have loose := R.loose
  unfold setAddHashed
  refine wpAny_holding ?_
  rw [show (100000 : Nat) = 99999 + 1 from rfl, setAddHashedIn_succ]
  refine wpAny_bind (wpAny_setState_of ho hd R.fits ?_)
  dsimp only
  refine wp_if_neg (by simp [byScan, Value.scannable]) ?_
  try refine wpAny_bind (wpAny_pure ?_)
  refine wpAny_bind (seek0 R hx hu (fun m => ?_) fun K n free full => ?_)
  · exact wpAny_pure (q false s.heap L es ep t (Heap.SameBut.refl a s.heap) R (.inl ⟨m, rfl⟩))
  · dsimp only
    refine wpAny_bind (wpAny_setState_of ho hd R.fits ?_)
    dsimp only
    obtain ⟨p1, p2, p3, p4, p5, _, _, _, p9⟩ := R.table.put free full
    generalize t.put (way t.mask (hK P w k) K) = tp at p1 p3 p4 p5 p9 ⊢
    obtain ⟨t1, p⟩ := tp
    dsimp only at p1 p3 p4 p5 p9 ⊢
    subst p1
    generalize SetTable.below t.place (way t.mask (hK P w k) K) = p at p2 p3 ⊢
    have cont : ∀ c : Bool, wpAny (model P w) A (do
        storeSet a (SetTable.insertAt es p (hK P w k, Value.ref x)) (if c = true then t1 else { t1 with plain := false })
        if (!false && (if c = true then t1 else { t1 with plain := false }).tooFull) = true then setRelay a (SetTable.grown (es.size + 1))
        pure true) Q E s := fun c => by
      have T1 := dull p3 c
      have k1 : (if c = true then t1 else { t1 with plain := false }).mask = t.mask ∧ (if c = true then t1 else { t1 with plain := false }).led = t.led ∧ (if c = true then t1 else { t1 with plain := false }).fill = (hashesK P w L).length + 1 := by
        cases c <;> exact ⟨p4, p5, p9⟩
      generalize (if c = true then t1 else { t1 with plain := false }) = t2 at T1 k1 ⊢
      obtain ⟨m2, o2, f2⟩ := k1
      rw [hl] at f2
      have pm : (L.take p ++ (x, k) :: L.drop p).Perm ((x, k) :: L) := put_perm L p (x, k)
      have ie : (SetTable.insertAt es p (hK P w k, Value.ref x)).toList = entK P w (L.take p ++ (x, k) :: L.drop p) := by
        rw [SetTable.toList_insertAt, R.ents]
        unfold entK
        rw [List.map_append, List.map_cons, List.map_take, List.map_drop]
      have ih : hashesK P w (L.take p ++ (x, k) :: L.drop p) = (hashesK P w L).take p ++ hK P w k :: (hashesK P w L).drop p := by
        unfold hashesK
        rw [List.map_append, List.map_cons, List.map_take, List.map_drop]
      rw [← ih] at T1
      have once : ((L.take p ++ (x, k) :: L.drop p).map (·.2)).Nodup := (pm.map (·.2)).nodup_iff.mpr (List.nodup_cons.mpr ⟨n, R.once⟩)
      generalize SetTable.insertAt es p (hK P w k, Value.ref x) = es1 at ie ⊢
      generalize L.take p ++ (x, k) :: L.drop p = L1 at pm T1 once ie
      have l1 : L1.length = L.length + 1 := pm.length_eq
      have e1 := ent_len ie
      refine wpAny_bind (wpAny_storeSet_of ho hd ?_ (by rw [e1, l1, sizeLine_eq]; omega))
      have sb : Heap.SameBut a s.heap (s.heap.update a (Obj.putSet es1 t2)) := Heap.SameBut.update ..
      have ho1 := store_at (es' := es1) (t' := t2) ho hd
      generalize s.heap.update a (Obj.putSet es1 t2) = h1 at sb ho1 ⊢
      have rows1 : ∀ r ∈ L1, AtK P w h1 r.2 r.1 := fun r hr => by
        rcases List.mem_cons.mp (pm.mem_iff.mp hr) with e | hr
        · rw [e]
          exact row_keeps hx ho hd sb
        · exact row_keeps (R.rows r hr) ho hd sb
      have ord1 : w.params.followText "set-order" = true ∨ t2.led = true := by
        rw [o2]
        exact R.order
      by_cases tf : t2.tooFull = true
      · have over : (L.length + 1) * 5 ≥ t.mask * 3 := by
          have h := tf
          unfold SetTable.tooFull at h
          rw [decide_eq_true_eq, f2, m2] at h
          exact h
        have at2 : (t.mask = 7 ∧ L.length = 4) ∨ (t.mask = 31 ∧ L.length = 18) := by
          rcases R.table.mok with e | e | e
          · exact .inl ⟨e, by omega⟩
          · exact .inr ⟨e, by omega⟩
          · exfalso
            omega
        have laid : ∀ M, SetTable.sizeAbove (SetTable.grown (L.length + 1)) - 1 = M → MaskOk M → SetTable.sizeAbove (SetTable.grown (L.length + 1)) ≤ 128 → (L.length + 1) * 5 < M * 3 →
            wpAny (model P w) A (setRelay a (SetTable.grown (L.length + 1))) (fun _ s' => wpAny (model P w) A (pure true) Q E s') E { s with heap := h1 } := fun M q1 q2 q3 q4 =>
          grow (s := { s with heap := h1 }) ho1 ⟨hex.1, hex.2.1, hex.2.2⟩ rfl ie T1 (by rw [l1, m2]; rcases at2 with ⟨z, z2⟩ | ⟨z, z2⟩ <;> omega) once rows1 ord1 (by omega) q1 q2 q3 (by rw [l1]; exact q4) fun h2 L2 es2 ep2 t3 sb2 R2 pm2 =>
            wpAny_pure (q true h2 L2 es2 ep2 t3 (sb.trans sb2) R2 (.inr ⟨n, pm2.trans pm⟩))
        rw [el]
        first
          | (refine wpAny_bind (wp_if_pos (by simp [tf]) ?_)
             rcases at2 with ⟨_, z⟩ | ⟨_, z⟩
             · exact laid 31 (by rw [z, size_20]) (.inr (.inl rfl)) (by rw [z, size_20]; decide) (by omega)
             · exact laid 127 (by rw [z, size_76]) (.inr (.inr rfl)) (by rw [z, size_76]; decide) (by omega))
          | (refine wp_if_pos (by simp [tf]) (wpAny_bind ?_)
             rcases at2 with ⟨_, z⟩ | ⟨_, z⟩
             · exact laid 31 (by rw [z, size_20]) (.inr (.inl rfl)) (by rw [z, size_20]; decide) (by omega)
             · exact laid 127 (by rw [z, size_76]) (.inr (.inr rfl)) (by rw [z, size_76]; decide) (by omega))
      · have fin := q true h1 L1 es1 (ep + 1) t2 sb ⟨⟨_, ho1, ⟨hex.1, hex.2.1, hex.2.2⟩, rfl⟩, ie, T1, once, rows1, ord1, by
          have h := tf
          unfold SetTable.tooFull at h
          rw [decide_eq_true_eq, f2, m2] at h
          rw [l1, m2]
          omega, by omega⟩ (.inr ⟨n, pm⟩)
        first
          | exact wp_if_neg (by simp [tf]) (wpAny_pure fin)
          | exact wpAny_bind (wp_if_neg (by simp [tf]) (wpAny_pure (wpAny_pure fin)))
    by_cases pl : t1.plain = true
    · first
        | exact wpAny_bind (wp_if_pos pl (row_value hx cont))
        | exact wp_if_pos pl (wpAny_bind (row_value hx cont))
    · first
        | exact wpAny_bind (wp_if_neg pl (wpAny_pure (cont true)))
        | exact wp_if_neg pl (wpAny_bind (wpAny_pure (cont true)))
        | exact wp_if_neg pl (cont true)
end
end KL
set_option Elab.async false
set_option linter.all false
set_option maxRecDepth 100000
set_option maxHeartbeats 4000000
namespace KL
open PySem L2 PySem.Spec PyProof.Rows
/-! ### set(xs), xs rows of ints and texts -/
/-- what the first i rows leave in the set -/
structure Took (rs : List KRow) (i : Nat) (L : List KRow) : Prop where
  sub : ∀ r ∈ L, r ∈ rs.take i
  all : ∀ r ∈ rs.take i, r.2 ∈ L.map (·.2)
  len : L.length ≤ i
theorem Took.on {rs L L' : List KRow} {i : Nat} {r : KRow} (g : Took rs i L) (h : rs[i]? = some r) (j : Joined r.1 r.2 L L') : Took rs (i + 1) L' := by
  have et : rs.take (i + 1) = rs.take i ++ [r] := by
    rw [List.take_add_one, h]
    rfl
  rcases j with ⟨m, rfl⟩ | ⟨_, pm⟩
  · refine ⟨fun x hx => ?_, fun x hx => ?_, Nat.le_succ_of_le g.len⟩
    · rw [et]
      exact List.mem_append_left _ (g.sub x hx)
    · rw [et] at hx
      rcases List.mem_append.mp hx with z | z
      · exact g.all x z
      · rw [List.mem_singleton.mp z]
        exact m
  · refine ⟨fun x hx => ?_, fun x hx => ?_, ?_⟩
    · rw [et]
      rcases List.mem_cons.mp (pm.mem_iff.mp hx) with e | z
      · rw [e]
        exact List.mem_append_right _ (List.mem_singleton.mpr rfl)
      · exact List.mem_append_left _ (g.sub x z)
    · rw [(pm.map (·.2)).mem_iff, List.map_cons]
      rw [et] at hx
      rcases List.mem_append.mp hx with z | z
      · exact List.mem_cons_of_mem _ (g.all x z)
      · rw [List.mem_singleton.mp z]
        exact List.mem_cons_self
    · have l := g.len
      rw [pm.length_eq, List.length_cons]
      omega
section
variable {P : Program} {w : World} {A : Around} {E : Value → Shared → Prop} {s : Shared}
theorem RowSet.move {h h' : Heap} {a : Addr} {L : List KRow} {es : Array (Int × Value)} {ep : Nat} {t : SetTable} (R : RowSet P w h a L es ep t) (k : ∀ o, h.get? a = some o → h'.get? a = some o) (rows : ∀ r ∈ L, AtK P w h' r.2 r.1) : RowSet P w h' a L es ep t := by
  obtain ⟨o, ho, r⟩ := R.obj
  exact ⟨⟨o, k o ho, r⟩, R.ents, R.table, R.once, rows, R.order, R.loose, R.few⟩
theorem rows_fill {I D : Addr} {fp wr : List Addr} {G : Array GenState → Array GenState → Prop} {n : Nat} {Pv : Nat → Value → Prop} {St : Nat → Shared → Prop} {R : Result → Shared → Prop} (W : WalksS P w A.in1 I fp wr G n Pv St) (hD : D ∉ fp)
    (rs : List KRow) (hn : rs.length = n) (few : n < 64) (hv : ∀ i v, Pv i v → ∃ r, rs[i]? = some r ∧ v = .ref r.1) (h0 : Heap) (at0 : ∀ r ∈ rs, AtK P w h0 r.2 r.1) (D0 : h0.get? D = none) (w0 : ∀ b ∈ wr, h0.get? b = none) (hu : A.in1.units < cLine) (left : Nat) :
    ∀ (i : Nat) (s : Shared) (L : List KRow), i + left = n → St i s → (∀ b o, h0.get? b = some o → s.heap.get? b = some o) → (∃ es ep t, RowSet P w s.heap D L es ep t) → Took rs i L →
      (∀ s' L', Moved (D :: wr) G s s' → (∃ es ep t, RowSet P w s'.heap D L' es ep t) → Took rs n L' → R (.ok (.ret .none)) s') → codeAny (model P w) A (.builtin "set.update.loop" ⟨[.ref D, .ref I], []⟩) R s := by
  have off : D ∉ wr := fun z => hD (W.sub _ z)
  have more : ∀ b ∈ wr, b ∈ D :: wr := fun b z => List.mem_cons_of_mem _ z
  have stay : ∀ {s s' : Shared}, Moved wr G s s' → (∀ b o, h0.get? b = some o → s.heap.get? b = some o) → ∀ b o, h0.get? b = some o → s'.heap.get? b = some o := fun mv up b o e => mv.heap b o (fun z => by rw [w0 b z] at e; cases e) (up b o e)
  induction left with
  | zero =>
    intro i s L e st up S g k
    have e : i = n := e
    subst e
    obtain ⟨es, ep, t, S⟩ := S
    refine codeAny_builtin F.entry_set_update_loop ?_
    rw [Around.under_plainId F.plain_set_update_loop _]
    show wpAny _ A.in1 (pyNext (.ref I) >>= _) _ _ s
    refine wpAny_bind (W.done s _ _ st fun s' mv => ?_)
    show wpAny _ A.in1 (ret Value.none) _ _ s'
    exact wpAny_pure (k s' L (mv.mono more) ⟨es, ep, t, S.move (fun o q => mv.heap D o off q) fun r hr => row_more (at0 r (List.mem_of_mem_take (g.sub r hr))) (stay mv up)⟩ g)
  | succ left ih =>
    intro i s L e st up S g k
    obtain ⟨es, ep, t, S⟩ := S
    refine codeAny_builtin F.entry_set_update_loop ?_
    rw [Around.under_plainId F.plain_set_update_loop _]
    show wpAny _ A.in1 (pyNext (.ref I) >>= _) _ _ s
    refine wpAny_bind (W.item i s _ _ (by omega) st fun v s' hp st' mv => ?_)
    obtain ⟨r, hr, rfl⟩ := hv i v hp
    have up2 := stay mv up
    have hx : AtK P w s'.heap r.2 r.1 := row_more (at0 r (List.mem_of_getElem? hr)) up2
    show wpAny _ A.in1 (holding [Value.ref r.1] (setAdd D (.ref r.1)) >>= _) _ _ s'
    refine wpAny_bind (wpAny_holding ?_)
    unfold setAdd
    refine wpAny_holding (wpAny_bind (wpAny_pyHash_tuple hu hx ?_))
    have S1 := S.move (h' := s'.heap) (fun o q => mv.heap D o off q) fun q hq => row_more (at0 q (List.mem_of_mem_take (g.sub q hq))) up2
    refine join (s := { s' with toks := s'.toks + (r.2.length + 1) }) S1 hx hu (by have := g.len; omega) fun bb h' L' es' ep' t' sb S2 j => ?_
    have up3 : ∀ b o, h0.get? b = some o → h'.get? b = some o := fun b o e => (sb.2 b fun z => by rw [z, D0] at e; cases e).trans (up2 b o e)
    refine wpAny_pure ⟨plainId_quiet F.plain_set_update_loop _, ih (i + 1) _ L' (by omega) (W.frame _ s' _ _ st' (Nat.le_add_right _ _) fun b hb o e => ?_) up3 ⟨es', ep', t', S2⟩ (g.on hr j) fun s2 L2 mv2 S3 g3 => ?_⟩
    · have nb : b ≠ D := fun c => hD (by rw [← c]; exact hb)
      rw [sb.2 b nb]
      exact e
    · refine k s2 L2 (Moved.trans W.gtrans ((mv.mono more).then_heap (Nat.le_add_right _ _) fun b o hb e => ?_) mv2) S3 g3
      have nb : b ≠ D := fun c => hb (by rw [c]; exact List.mem_cons_self)
      rw [sb.2 b nb]
      exact e
theorem call_set_rows {l : Addr} {us : Array Value} {rs : List KRow} {Q : Value → Shared → Prop} (hh : A.handled = none) (hl : s.heap.IsList l us) (rv : us.toList = rs.map fun r => Value.ref r.1) (at0 : ∀ r ∈ rs, AtK P w s.heap r.2 r.1) (few : rs.length < 64) (hu : A.units + 3 < cLine)
    (h : ∀ h' tk L, (∃ es ep t, RowSet P w h' s.heap.objs.size L es ep t) → Took rs rs.length L → (∀ b o, s.heap.get? b = some o → h'.get? b = some o) → Q (.ref s.heap.objs.size) { s with heap := h', toks := tk }) :
    wpAny (model P w) A (call (.type "set") [.ref l]) Q E s := by
  have sz : us.size = rs.length := by
    rw [← Array.length_toList, rv, List.length_map]
  refine type_made (Q₁ := fun obj s₁ => obj = .ref s.heap.objs.size ∧ s₁ = { s with heap := s.heap.push { cls := .type "set", dict := none, data := .set #[] 0 (.fresh 0 0 (!w.params.followText "set-order")) } }) F.called_set (F.typeCall_set_1 _) F.entry_set_init (code_set_led1 _ ⟨rfl, rfl⟩) ?_
  rintro obj s₁ ⟨rfl, rfl⟩
  have new : (s.heap.push { cls := .type "set", dict := none, data := .set #[] 0 (.fresh 0 0 (!w.params.followText "set-order")) }).get? s.heap.objs.size = some { cls := .type "set", dict := none, data := .set #[] 0 (.fresh 0 0 (!w.params.followText "set-order")) } := Heap.get?_push_size _ rfl
  refine ⟨⟨_, new, rfl⟩, fun q => check_set_init_1 ⟨_, new, rfl⟩ q, ?_⟩
  have hT : Shared.TypeIs { s with heap := s.heap.push { cls := .type "set", dict := none, data := .set #[] 0 (.fresh 0 0 (!w.params.followText "set-order")) } } (.ref s.heap.objs.size) "set" := ⟨_, new, rfl⟩
  obtain ⟨⟨cls, dd, dat, sl⟩, ho, hc, n, hd⟩ := hl
  simp only at hc hd
  subst hc hd
  have ho' : (s.heap.push { cls := .type "set", dict := none, data := .set #[] 0 (.fresh 0 0 (!w.params.followText "set-order")) }).get? l = some { cls := .type "list", dict := dd, data := .seq us n, slots := sl } := Heap.get?_push_of_some _ ho
  have hl' : (s.heap.push { cls := .type "set", dict := none, data := .set #[] 0 (.fresh 0 0 (!w.params.followText "set-order")) }).IsList l us := ⟨_, ho', rfl, n, rfl⟩
  have hz : (s.heap.push { cls := .type "set", dict := none, data := .set #[] 0 (.fresh 0 0 (!w.params.followText "set-order")) }).objs.size = s.heap.objs.size + 1 := Heap.size_push ..
  have b1 := F.sub_list_set
  have b2 := F.sub_list_frozenset
  have b3 : (Value.type "list" == Value.type "dict") = false := by decide
  unfold Builtin.«set.__init__» noKeywords Builtin.Frozenset.updateFrom
  generalize hPI : pyIter = PI
  wp_walk
  subst hPI
  have lS : l < s.heap.objs.size := Heap.lt_size ho
  have nI : l ≠ (s.heap.push { cls := .type "set", dict := none, data := .set #[] 0 (.fresh 0 0 (!w.params.followText "set-order")) }).objs.size := by
    rw [hz]
    exact Nat.ne_of_lt (Nat.lt_succ_of_lt lS)
  have hD : s.heap.objs.size ∉ [(s.heap.push { cls := .type "set", dict := none, data := .set #[] 0 (.fresh 0 0 (!w.params.followText "set-order")) }).objs.size, l] := fun z => by
    rcases List.mem_cons.mp z with z | z
    · rw [hz] at z
      exact Nat.ne_of_lt (Nat.lt_succ_self _) z
    · have := List.mem_singleton.mp z
      exact Nat.ne_of_gt lS this
  have hv : ∀ (i : Nat) (v : Value), us[i]? = some v → ∃ r, rs[i]? = some r ∧ v = .ref r.1 := fun i v e => by
    have e : us.toList[i]? = some v := by rw [Array.getElem?_toList]; exact e
    rw [rv, List.getElem?_map] at e
    cases ex : rs[i]? with
    | none =>
      rw [ex] at e
      cases e
    | some x =>
      rw [ex] at e
      exact ⟨x, rfl, (Option.some.inj e).symm⟩
  have gone : ∀ b, s.heap.objs.size ≤ b → s.heap.get? b = none := fun b hb => by
    cases q : s.heap.get? b with
    | none => rfl
    | some o => exact absurd (Heap.lt_size q) (Nat.not_lt.mpr hb)
  refine wpAny_pyIter_list hl' ?_
  refine wpAny_bind (wpAny_runValue ?_)
  refine rows_fill ((Walks.list (show A.in1.in1.in1.handled = none by simp [hh]) _ l nI us).toS) hD rs sz.symm (by omega) hv s.heap at0 (gone _ (Nat.le_refl _)) (fun b hb => gone b (by
      rw [List.mem_singleton.mp hb, hz]
      exact Nat.le_succ _)) hu us.size 0 _ [] (by omega)
    ⟨⟨_, Heap.get?_push_size _ rfl, rfl, rfl⟩, hl'.push _⟩ (fun b o e => Heap.get?_push_of_some _ (Heap.get?_push_of_some _ e)) ⟨#[], 0, _, ⟨_, Heap.get?_push_of_some _ new, ⟨rfl, rfl, rfl⟩, rfl⟩, rfl, ⟨List.Pairwise.nil, rfl, rfl, .inl rfl, fun x hx => (by cases hx), fun i h j hi => (by simp [hashesK] at hi)⟩, List.nodup_nil, fun r hr => (by cases hr), ?_, (by show 0 * 5 < 7 * 3; decide), (by show 0 < 64; decide)⟩ ⟨fun r hr => (by cases hr), fun r hr => (by simp at hr), Nat.le_refl _⟩ ?_
  · show _ ∨ (!w.params.followText "set-order") = true
    cases w.params.followText "set-order"
    · exact .inr rfl
    · exact .inl rfl
  · intro s' L mv S g
    obtain ⟨h', g', d', tk', os'⟩ := s'
    have eg : g' = s.gens := mv.gens
    have ed : d' = s.drawn := mv.drawn
    have eo : os' = s.os := mv.os
    subst eg ed eo
    show wpAny _ _ _ _ _ _
    refine wpAny_pure ?_
    show wpAny _ _ (ret Value.none) _ _ _
    rw [sz] at g
    refine wpAny_pure ⟨rfl, h h' tk' L S g fun b o e => ?_⟩
    have bS : b < s.heap.objs.size := Heap.lt_size e
    refine mv.heap b o (fun z => ?_) (Heap.get?_push_of_some _ (Heap.get?_push_of_some _ e))
    rcases List.mem_cons.mp z with z | z
    · exact Nat.ne_of_lt bS z
    · have z := List.mem_singleton.mp z
      rw [hz] at z
      exact Nat.ne_of_lt (Nat.lt_succ_of_lt bS) z
end
end KL
set_option Elab.async false
set_option linter.all false
set_option maxRecDepth 100000
set_option maxHeartbeats 4000000
namespace KL
open PySem L2 PySem.Spec PyProof.Rows
/-! ### sets of rows by rule: set(xs), sorted(set) -/
def keyD : Key → PyData
  | .inl i => .int i
  | .inr x => .str x
def rowD (k : List Key) : PyData := .tuple (k.map keyD)
theorem keys_dq {H : Hp} : ∀ k : List Key, DqAll H (k.map kV) (k.map keyD)
  | [] => .nil
  | .inl i :: k => .cons (.int i) (keys_dq k)
  | .inr x :: k => .cons (.str x) (keys_dq k)
theorem row_dq {H : Hp} {r : KRow} (h : H r.1 = some (.tup (r.2.map kV))) : Dq H (.ref r.1) (rowD r.2) := .tup h (keys_dq r.2)
theorem row_depth : ∀ k : List Key, PyData.depthAll (k.map keyD) = 0
  | [] => rfl
  | .inl i :: k => by
    show max 0 (PyData.depthAll (k.map keyD)) = 0
    rw [row_depth k]
    rfl
  | .inr x :: k => by
    show max 0 (PyData.depthAll (k.map keyD)) = 0
    rw [row_depth k]
    rfl
theorem items_read {P : Program} {w : World} {h : Heap} : ∀ {k : List Key} {vs : List Value}, ItemsAre (mixKind P w) k vs → ReadsAll h vs (k.map keyD) []
  | _, _, .nil => .nil
  | _, _, .cons (k := k0) h1 t => by
    have r := items_read (h := h) t
    rcases keyIs_shape (k := k0) h1 with ⟨i, tk, rfl, rfl⟩ | ⟨x, tk, rfl, rfl⟩
    · exact .cons (as := []) (bs := []) (.int i tk) r
    · exact .cons (as := []) (bs := []) (.str x tk) r
theorem AtK.read {P : Program} {w : World} {h : Heap} {k : List Key} {b : Addr} (x : AtK P w h k b) : Reads h (.ref b) (rowD k) [] := by
  obtain ⟨ob, its, c, h1, h2, h3, h4⟩ := x
  exact .tuple h1 h2 h3 (items_read h4)
structure RowS0 (P : Program) (w : World) (h : Heap) (a : Addr) (L : List KRow) : Prop where
  ex : ∃ es ep t, (∃ o, h.get? a = some o ∧ o.ExactSet ∧ o.data = .set es ep t) ∧ es.toList = entK P w L ∧ TabOk t (hashesK P w L) ∧ (w.params.followText "set-order" = true ∨ t.led = true) ∧ L.length * 5 < t.mask * 3
  once : (L.map (·.2)).Nodup
  few : L.length < 64
def RowsO (P : Program) (w : World) (a : Addr) (L : List KRow) : HO := .ext fun h => RowS0 P w h a L
theorem rowsO_ok {P : Program} {w : World} {H : Hp} {h : Heap} {a : Addr} {L : List KRow} (R : RowS0 P w h a L) : ObjOk P w H h a (RowsO P w a L) := by
  obtain ⟨⟨es, ep, t, ⟨o, ho, r⟩, q⟩, o1, f⟩ := id R
  exact ⟨R, ⟨o, ho⟩, fun _ _ p k => by
    obtain ⟨⟨es, ep, t, ⟨o, ho, r⟩, q⟩, o1, f⟩ := p
    exact ⟨⟨es, ep, t, ⟨o, k o ho, r⟩, q⟩, o1, f⟩⟩
theorem RowSet.bare {P : Program} {w : World} {h : Heap} {a : Addr} {L : List KRow} {es : Array (Int × Value)} {ep : Nat} {t : SetTable} (R : RowSet P w h a L es ep t) : RowS0 P w h a L :=
  ⟨⟨es, ep, t, R.obj, R.ents, R.table, R.order, R.loose⟩, R.once, R.few⟩
def rSetR (K : PySem.W.Frag) (P : Program) (w : World) : List V → Hp → VK → Prop := fun vs H Q => ∃ (a : Addr) (rs : List KRow), vs = [V.ref a] ∧ SqL K H a (rs.map fun r => V.ref r.1) ∧ (∀ r ∈ rs, H r.1 = some (.tup (r.2.map kV))) ∧ rs.length < 64 ∧
  ∀ p L, H p = none → (∀ r ∈ L, r ∈ rs) → (L.map (·.2)).Nodup → (∀ r ∈ rs, r.2 ∈ L.map (·.2)) → Q (.ref p) (upd H p (RowsO P w p L))
def rSortR (P : Program) (w : World) : List V → Hp → VK → Prop := fun vs H Q => ∃ (a : Addr) (L : List KRow), vs = [V.ref a] ∧ H a = some (RowsO P w a L) ∧ (∀ r ∈ L, H r.1 = some (.tup (r.2.map kV))) ∧ (∀ r ∈ L, ∀ r' ∈ L, PySem.W.alike (rowD r.2) (rowD r'.2) = true) ∧ (∀ r ∈ L, r.2 ≠ []) ∧
  ∀ (ms : List KRow) (ys : List V) (p : Addr), ms.Perm L → DqAll H ys ((ms.map fun r => rowD r.2).mergeSort leD) → H p = none → Q (.ref p) (upd H p (.lst ys))
theorem refs_vals : ∀ {rs : List KRow} {us : List Value}, Vals (rs.map fun r => V.ref r.1) us → us = rs.map fun r => Value.ref r.1
  | [], _, h => by
    cases h
    rfl
  | r :: rs, _, h => by
    cases h with
    | cons h1 h2 =>
      rw [refs_vals h2]
      cases (show _ = Value.ref r.1 from h1)
      rfl
theorem vals_rows : ∀ rs : List KRow, Vals (rs.map fun r => V.ref r.1) (rs.map fun r => Value.ref r.1)
  | [] => .nil
  | _ :: rs => .cons rfl (vals_rows rs)
theorem paired_rows : ∀ L : List KRow, Paired (fun (v : Value) (r : KRow) => v = .ref r.1) (L.map fun r => Value.ref r.1) L
  | [] => .nil
  | _ :: L => .cons rfl (paired_rows L)
theorem rows_paired : ∀ {out : List Value} {ms : List KRow}, Paired (fun (v : Value) (r : KRow) => v = .ref r.1) out ms → out = ms.map fun r => Value.ref r.1
  | _, _, .nil => rfl
  | _, _, .cons h t => by
    rw [rows_paired t, h]
    rfl
theorem each_rows {R : Value → KRow → Prop} : ∀ (ms : List KRow), (∀ r ∈ ms, R (.ref r.1) r) → PySem.W.EachIs R (ms.map fun r => Value.ref r.1) ms
  | [], _ => .nil
  | r :: ms, h => .cons (h r List.mem_cons_self) (each_rows ms fun x hx => h x (List.mem_cons_of_mem _ hx))
theorem rows_each : ∀ {us : List Value} {ms : List KRow}, PySem.W.EachIs (fun (v : Value) (r : KRow) => v = .ref r.1) us ms → us = ms.map fun r => Value.ref r.1
  | _, _, .nil => rfl
  | _, _, .cons h t => by
    rw [rows_each t, h]
    rfl
section
variable {X : Cx}
theorem cr_setR (hc : X.calm = true) (hu : X.A.units + 64 < cLine) : CallR X (.type "set") (rSetR X.K X.prog X.w) := by
  intro pins s σ H vs us Q I r h
  obtain ⟨a, rs, rfl, hs, rows, few, q⟩ := h
  obtain ⟨its, rv, hl, _⟩ := I.list hs
  rw [Vals.ref1 r]
  refine call_set_rows (rs := rs) (I.ok.hd hc) hl.isList (by rw [← refs_vals rv]) (fun x hx => key_of I.hok (rows x hx)) few (by omega) fun h' tk L S g keep => ?_
  obtain ⟨es, ep, t, S⟩ := S
  have all := g.all
  have sub := g.sub
  rw [List.take_length] at all sub
  exact ⟨.ref s.heap.objs.size, upd H s.heap.objs.size (RowsO X.prog X.w s.heap.objs.size L), I.laid (t' := tk) keep (Nat.le_refl _) (rowsO_ok S.bare), rfl, q _ L (I.hok.fresh (Nat.le_refl _)) sub S.once all⟩
theorem cr_sortR (hc : X.calm = true) (hu : X.A.units + 64 < cLine) : CallR X (.builtin "sorted") (rSortR X.prog X.w) := by
  intro pins s σ H vs us Q I r h
  obtain ⟨a, L, rfl, ha, rows, alk, ne, q⟩ := h
  have R : RowS0 X.prog X.w s.heap a L := (I.hok a _ ha).1
  rw [Vals.ref1 r]
  obtain ⟨⟨es, ep, t, ⟨o, ho, hx, hd⟩, ents, tab, ord, loose⟩, once, few⟩ := R
  have el := ent_len ents
  have at0 : ∀ x ∈ L, AtK X.prog X.w s.heap x.2 x.1 := fun x hx => key_of I.hok (rows x hx)
  have hf : t.fits es.size = true := fits_of tab (by rw [el]; exact (List.length_map _).symm) (by omega)
  refine Calls.call_function_entry kind_sorted plain_sorted entry_sorted (args_sorted1 _) ?_
  unfold Builtin.«sorted»
  refine wpAny_bind (m := checkCount "sorted" 1 1 _) (wpAny_pure ?_)
  refine wpAny_bind (collect_set (A := X.A.in1) (I.ok.hd hc) ⟨o, ho, hx.1, hd⟩ hf (by unfold scanBound; omega) tab.ris ord fun s1 out k1 z1 g1 o1 pm => ?_)
  have ev : es.toList.map (·.2) = L.map fun r => Value.ref r.1 := by
    rw [ents]
    unfold entK
    rw [List.map_map]
    rfl
  rw [ev] at pm
  obtain ⟨ms, pms, prm⟩ := paired_perm pm (paired_rows L)
  have eo := rows_paired prm
  subst eo
  have lm : ms.length = L.length := pms.length_eq
  have lz : (ms.map fun r => Value.ref r.1).length ≤ sizeLine := by
    rw [List.length_map, sizeLine_eq]
    omega
  refine wpAny_bind (wpAny_newList ?_ lz)
  have hoL : (s1.heap.push (seqObj "list" (ms.map fun r => Value.ref r.1).toArray 0)).get? s1.heap.objs.size = some (seqObj "list" (ms.map fun r => Value.ref r.1).toArray 0) := Heap.get?_push_size _ rfl
  have inL : ∀ x ∈ ms, x ∈ L := fun x hx => pms.mem_iff.mp hx
  have e1 : PySem.W.EachIs (fun (v : Value) (r : KRow) => v = .ref r.1) (ms.map fun r => Value.ref r.1) ms := each_rows ms fun _ _ => rfl
  have e2 : PySem.W.EachIs (fun (v : Value) (r : KRow) => ∃ as, Reads (s1.heap.push (seqObj "list" (ms.map fun r => Value.ref r.1).toArray 0)) v (rowD r.2) as ∧ s1.heap.objs.size ∉ as) (ms.map fun r => Value.ref r.1) ms :=
    each_rows ms fun x hx => ⟨[], (row_more (at0 x (inL x hx)) fun c o e => Heap.get?_push_of_some _ (k1 c o e)).read, fun z => nomatch z⟩
  have al : PySem.W.AllAlike (ms.map fun r => rowD r.2) := fun d hd d' hd' => by
    obtain ⟨x, hx, rfl⟩ := List.mem_map.mp hd
    obtain ⟨y, hy, rfl⟩ := List.mem_map.mp hd'
    exact alk x (inL x hx) y (inL y hy)
  have so : PySem.W.Sortable (ms.map fun r => rowD r.2) := .inl fun d hd => by
    obtain ⟨x, hx, rfl⟩ := List.mem_map.mp hd
    have := ne x (inL x hx)
    obtain ⟨_, k⟩ := x
    cases k with
    | nil => exact absurd rfl this
    | cons k0 k => exact ⟨_, _, rfl⟩
  refine wpAny_bind (wpAny_holding (PySem.W.list_sort_data hoL e1 e2 al so (by rw [lm, sizeLine_eq]; omega) (fun b _ => (by show X.A.units + 1 + 1 + (PyData.depthAll (b.2.map keyD) + 1) < cLine; rw [row_depth]; omega)) fun srt ls es' => ?_))
  have evs := rows_each es'
  have ed : (ms.mergeSort (PySem.W.dataLe false fun r : KRow => rowD r.2)).map (fun r => rowD r.2) = (ms.map fun r => rowD r.2).mergeSort leD := List.map_mergeSort fun _ _ _ _ => rfl
  have pmm : (ms.mergeSort (PySem.W.dataLe false fun r : KRow => rowD r.2)).Perm ms := List.mergeSort_perm _ _
  generalize ms.mergeSort (PySem.W.dataLe false fun r : KRow => rowD r.2) = ns at evs ed pmm
  subst evs
  obtain ⟨c, hcc⟩ := sortedHeap_at (vs := ms.map fun r => Value.ref r.1) (out := (ns.map fun r => Value.ref r.1).toArray) hoL
  have len : (ns.map fun r => V.ref r.1).length ≤ sizeLine := by
    rw [List.length_map, pmm.length_eq, lm, sizeLine_eq]
    omega
  have keep : ∀ b u, s.heap.get? b = some u → (sortedHeap (s1.heap.push (seqObj "list" (ms.map fun r => Value.ref r.1).toArray 0)) s1.heap.objs.size (ms.map fun r => Value.ref r.1) (ns.map fun r => Value.ref r.1).toArray).get? b = some u := fun b u e => by
    have e1 := k1 b u e
    have lt := Heap.lt_size e1
    rw [sortedHeap_old (Nat.ne_of_lt lt) (by rw [size_push']; exact Nat.lt_succ_of_lt lt)]
    exact Heap.get?_push_of_some _ e1
  have hn : H s1.heap.objs.size = none := I.hok.fresh z1
  have J : Inv X pins σ (upd H s1.heap.objs.size (.lst (ns.map fun r => V.ref r.1))) { s with heap := sortedHeap (s1.heap.push (seqObj "list" (ms.map fun r => Value.ref r.1).toArray 0)) s1.heap.objs.size (ms.map fun r => Value.ref r.1) (ns.map fun r => Value.ref r.1).toArray, gens := s1.gens, drawn := s1.drawn, toks := s1.toks } :=
    I.call (ch := []) (Un.laid keep z1 hn) (I.hok.laid keep z1 ⟨len, _, c, vals_rows ns, hcc⟩) (by rw [g1]; exact I.bare) (fun _ z => nomatch z)
  have es1 : ({ s1 with heap := sortedHeap (s1.heap.push (seqObj "list" (ms.map fun r => Value.ref r.1).toArray 0)) s1.heap.objs.size (ms.map fun r => Value.ref r.1) (ns.map fun r => Value.ref r.1).toArray } : Shared) = { s with heap := sortedHeap (s1.heap.push (seqObj "list" (ms.map fun r => Value.ref r.1).toArray 0)) s1.heap.objs.size (ms.map fun r => Value.ref r.1) (ns.map fun r => Value.ref r.1).toArray, gens := s1.gens, drawn := s1.drawn, toks := s1.toks } := by
    cases s1
    cases s
    cases o1
    rfl
  refine wpAny_pure ⟨_, rfl, ?_⟩
  rw [es1]
  refine ⟨.ref _, _, J, rfl, q ms _ _ pms ?_ hn⟩
  rw [← ed]
  have rowsN : ∀ x ∈ ns, H x.1 = some (.tup (x.2.map kV)) := fun x hx => rows x (inL x (pmm.mem_iff.mp hx))
  clear ed pmm len keep J es1 hcc ls es'
  induction ns with
  | nil => exact .nil
  | cons x ns ih => exact .cons (row_dq (rowsN x List.mem_cons_self)) (ih fun y hy => rowsN y (List.mem_cons_of_mem _ hy))
end
end KL
set_option Elab.async false
set_option linter.all false
set_option maxRecDepth 100000
set_option maxHeartbeats 4000000
namespace PySem
namespace KX
open PySem.W PySem.Calls PyProof.Rows
abbrev excB : List Value := [.type "Exception", .type "BaseException", .type "object"]
/-! ### a call of an error's class with keywords alone -/
section
variable {M : Model} {A : Around} {E : Value → Shared → Prop} {h : Heap} {g : Array GenState} {d : Drawn} {t : Nat} {os : OsState}
variable {nm q : Str} {C N : Addr} {bs bm bmB : List Value} {hdct : Bool} {sn : List Str} {sub : List Value} {ab : Bool} {col : Option Bool} {dd : Option Addr} {k0 k1 k2 k3 k5 : Option Value} {B newId initId : String}
theorem newCheckK (F : ExcBaseFacts B newId initId bmB) (hT : ∀ X : String, bm.contains (.type X) = bmB.contains (.type X)) {kw : List (Str × Value)} {Q : Unit → Shared → Prop}
    (hC : h.get? C = some (excClassObj nm q C N bs bm hdct sn sub ab col dd k0 k1 k2 k3 k5 newId)) (hq : Q () ⟨h, g, d, t, os⟩) : wpAny M A (checkBuiltinCall newId ⟨[.ref C], kw⟩) Q E ⟨h, g, d, t, os⟩ := by
  have z1 : (Value.ref C :: bm).contains (.type B) = true := by
    rw [List.contains_cons, hT, F.hasB, Bool.or_true]
  have z2 := F.noStar
  simp only [checkBuiltinCall, F.newKind, F.newSplit, F.newRow]
  repeat (first
    | refine wpAny_loadPart_at hC ?_
    | (refine wpAny_isSubtype_exc hC ?_
       rw [z1])
    | refine wpAny_staticBase_exc hC ?_
    | refine wpAny_madeBy_exc hC ?_
    | simp only [bne_self_eq_false, Bool.false_eq_true, if_false]
    | wp_step)
  exact hq
end
section
variable {prog : Program} {w : World} {A : Around} {E : Value → Shared → Prop} {R : Result → Shared → Prop} {h : Heap} {g : Array GenState} {d : Drawn} {t : Nat} {os : OsState}
variable {nm q : Str} {C N : Addr} {bs bm bmB : List Value} {hdct : Bool} {sn : List Str} {sub : List Value} {ab : Bool} {col : Option Bool} {dd : Option Addr} {k0 k1 k2 k3 k5 : Option Value} {B newId initId : String}
/-- the heap behind: empty args, the object -/
abbrev madeH (h : Heap) (C : Addr) : Heap := (h.push (kdv_tup [])).push (PX.excO C h.objs.size)
theorem newK (F : ExcBaseFacts B newId initId bmB) (hT : ∀ X : String, bm.contains (.type X) = bmB.contains (.type X)) {kw : List (Str × Value)}
    (hC : h.get? C = some (excClassObj nm q C N bs bm hdct sn sub ab col dd k0 k1 k2 k3 k5 newId)) (hq : R (.ok (.ret (.ref (h.objs.size + 1)))) ⟨madeH h C, g, d, t, os⟩) :
    codeAny (model prog w) A (.builtin newId ⟨[.ref C], kw⟩) R ⟨h, g, d, t, os⟩ := by
  have z0 := F.ends
  have z1 : (Value.ref C :: bm).contains (.type B) = true := by
    rw [List.contains_cons, hT, F.hasB, Bool.or_true]
  have z2 : (Value.ref C :: bm).contains (.type "AttributeError") = false := by
    rw [List.contains_cons, hT, F.noAttr]
    rfl
  have z3 : (Value.ref C :: bm).contains (.type "NameError") = false := by
    rw [List.contains_cons, hT, F.noName]
    rfl
  refine codeAny_builtinAt F.entry ?_
  unfold Builtin.«BaseException.__new__»
  refine wpAt_bind ?_
  show wpAt _ _ _ (stack >>= _) _ _ _
  refine wpAt_bind (wpAt_stack fun p below => wpAt_of_wpAny ?_)
  wp_walk
  refine wpAt_of_wpAny ?_
  rw [F.owner]
  repeat (first
    | with_reducible refine wpAny_madeHere_exc F.canon hC ?_
    | with_reducible refine wpAny_loadPart_at hC ?_
    | (with_reducible refine wpAny_isSubtype_exc hC ?_
       first
         | rw [z1]
         | rw [z2]
         | rw [z3])
    | wp_step)
  show R _ _
  rw [Heap.size_push]
  exact hq
theorem typeCallK (F : ExcBaseFacts B newId initId bmB) (hT : ∀ X : String, bm.contains (.type X) = bmB.contains (.type X)) {kw : List (Str × Value)} {fI : Addr} {Q : Fin → Shared → Prop}
    (hC : h.get? C = some (excClassObj nm q C N bs bm hdct sn sub ab col dd k0 k1 k2 k3 k5 newId)) (hi : Looks (model prog w) h (typeLookup (.ref C) "__init__") (some (.ref fI))) (hb : ∀ self, Looks (model prog w) h (bindSpecial (.ref fI) self) (.ref fI, [self]))
    (hq : codeAny (model prog w) A (.call (.ref fI) ⟨[.ref (h.objs.size + 1)], kw⟩) (fun r s' => match r with
      | .ok (.ret v) => v = .none ∧ Q (.done (.ret (.ref (h.objs.size + 1)))) s'
      | .ok _ => False
      | .error e => E e s') ⟨madeH h C, g, d, t, os⟩) : wpAny (model prog w) A (Builtin.«type.__call__» ⟨[.ref C], kw⟩) Q E ⟨h, g, d, t, os⟩ := by
  repeat (first
    | with_reducible refine wpAny_loadPart_at hC ?_
    | with_reducible refine wpAny_madeBy_exc hC ?_
    | wp_step)
  refine codeAny_call_builtin_code (Code.quiet_builtin _ F.quiet) (newCheckK F hT hC ?_)
  refine newK F hT hC ?_
  show wpAny _ _ _ _ _ _
  have k : ∀ b o, h.get? b = some o → (madeH h C).get? b = some o := fun b o e => Heap.get?_push_of_some _ (Heap.get?_push_of_some _ e)
  have hC1 := k _ _ hC
  have hg1 : (madeH h C).get? (h.objs.size + 1) = some (PX.excO C h.objs.size) := by heap_get
  have z : (Value.ref C :: bm).contains (.ref C) = true := by simp
  have i1 := hi.keeps k
  have b1 := (hb (.ref (h.objs.size + 1))).keeps k
  unfold isInstance
  repeat (first
    | with_reducible refine wpAny_loadPart_at hg1 ?_
    | (with_reducible refine wpAny_isSubtype_exc hC1 ?_
       rw [z])
    | wp_step)
  show wpAny _ _ (typeLookup (.ref C) _) _ _ _
  refine i1.at ?_
  refine wpAny_holding (wpAny_bind (b1.at ?_))
  refine wpAny_bind (wpAny_call (codeAny_mono hq fun r s' y => ?_))
  rcases r with e | (v | _ | _ | _) <;> first | exact y | exact y.elim | skip
  obtain ⟨rfl, y⟩ := y
  first
    | exact wpAny_pure (wpAny_pure y)
    | (wp_walk
       exact y)
theorem typeCheckK {M : Model} {E : Value → Shared → Prop} {kw : List (Str × Value)} {Q : Unit → Shared → Prop} (hC : h.get? C = some (excClassObj nm q C N bs bm hdct sn sub ab col dd k0 k1 k2 k3 k5 newId)) (hq : Q () ⟨h, g, d, t, os⟩) :
    wpAny M A (checkBuiltinCall "type.__call__" ⟨[.ref C], kw⟩) Q E ⟨h, g, d, t, os⟩ := by
  have y1 := tc_sub
  have y2 : (⟨h, g, d, t, os⟩ : Shared).TypeIs (.ref C) "type" := ⟨_, hC, rfl⟩
  simp only [checkBuiltinCall, tc_kind, tc_split]
  repeat (any_goals (first
    | assumption
    | with_reducible refine wpAny_loadPart_at hC ?_
    | with_reducible refine wpAny_onRaise ?_
    | with_reducible refine wpAny_map ?_
    | wp_step))
theorem callK (F : ExcBaseFacts B newId initId bmB) (hT : ∀ X : String, bm.contains (.type X) = bmB.contains (.type X)) {kw : List (Str × Value)} {fI : Addr}
    (hC : h.get? C = some (excClassObj nm q C N bs bm hdct sn sub ab col dd k0 k1 k2 k3 k5 newId)) (hi : Looks (model prog w) h (typeLookup (.ref C) "__init__") (some (.ref fI))) (hb : ∀ self, Looks (model prog w) h (bindSpecial (.ref fI) self) (.ref fI, [self]))
    (hq : codeAny (model prog w) (A.under (.builtin "type.__call__" ⟨[.ref C], kw⟩)) (.call (.ref fI) ⟨[.ref (h.objs.size + 1)], kw⟩) (InitBack (h.objs.size + 1) R) ⟨madeH h C, g, d, t, os⟩) :
    codeAny (model prog w) A (.call (.ref C) ⟨[], kw⟩) R ⟨h, g, d, t, os⟩ := by
  have y1 := tc_lookup
  have y2 := tc_bind (.ref C)
  have y3 : (⟨h, g, d, t, os⟩ : Shared).TypeIs (.ref C) "type" := ⟨_, hC, rfl⟩
  refine codeAny_of_tree ?_
  show wpAny _ _ (callAny (.ref C) _) _ _ _
  repeat (any_goals (first
    | assumption
    | with_reducible refine wpAny_loadPart_at hC ?_
    | wp_step))
  refine ⟨rfl, ?_⟩
  refine codeAny_call_builtin_at (Code.quiet_builtin _ (by decide +kernel)) entry_typeCall (typeCheckK hC (typeCallK F hT hC hi hb ?_))
  refine codeAny_mono hq fun r s' y => ?_
  rcases r with e | (v | _ | _ | _) <;> exact y
end
end KX
end PySem
set_option Elab.async false
set_option linter.all false
set_option maxRecDepth 100000
set_option maxHeartbeats 4000000
namespace PySem
namespace KX
open PySem.W PySem.Calls PyProof.Rows PySem.HandSPX
def iA (fl : Str) (p1 p2 : Pos) : Arguments := { posonlyargs := [], args := [{ arg := "self", annotation := none, pos := p1 }, { arg := fl, annotation := none, pos := p2 }], vararg := none, kwonlyargs := [], kw_defaults := [], kwarg := none, defaults := [] }
def iB (fl : Str) (q1 q2 q3 q4 : Pos) : List Stmt := [.Assign [.Attribute (.Name "self" q1) fl q2] (.Name fl q3) q4]
def iS (fl : Str) : Scope := { kind := .function, names := [(PySem.Str.ofString "self", .local), (fl, .local)], isGenerator := false, isCoroutine := false, more := [] }
/-- the fields of the errors -/
def IsFl (fl : Str) : Prop := fl = "part" ∨ fl = "line" ∨ fl = "index" ∨ fl = "paper" ∨ fl = "deed" ∨ fl = "thing" ∨ fl = "tries"
/-- what the written part says of an error's class at C -/
structure EC (K : Frag) (C : Addr) : Prop where
  ini : excInitIn K C excB "Exception.__new__" = true
  sa : findIn K (.ref C) "__setattr__" = some (some (.builtin "object.__setattr__"))
  ov : excOver K C excB = true
  hd : hasDictIn K C = true
  kp : keepIn K (.ref C) = true
  is : L2.ExcC K C
/-- .. and of its field and its __init__ -/
structure EI (K : Frag) (C fI : Addr) (fl qual : Str) : Prop where
  c : EC K C
  fls : IsFl fl
  nf : findIn K (.ref C) fl = some none
  iC : findIn K (.ref C) "__init__" = some (some (.ref fI))
  fn : ∃ (od : Option Addr) (doc pm : Value) (an : Option Addr) (cdv ct : Value) (osl : Array (Option Value)) (p1 p2 q1 q2 q3 q4 : Pos),
    K.lookup fI = some ⟨.type "function", od, .func (fnOf "__init__" qual (iA fl p1 p2) (iB fl q1 q2 q3 q4) (iS fl) .none .none doc pm an cdv ct), osl⟩ ∧ codeIn K cdv qual = true
/-- a made error: at e, its dict at d -/
structure Made (h h' : Heap) (e C d : Addr) (fl : Str) (v : Value) : Prop where
  keep : ∀ b o, h.get? b = some o → h'.get? b = some o
  new : h.objs.size ≤ e
  obj : ∃ t1 : Addr, h'.get? e = some { cls := .ref C, dict := some d, data := .fields #[.ref t1, .none, .none, .none, .bool false, .none] }
  dbig : h.objs.size ≤ d
  dne : d ≠ e
  ns : h'.Ns1 d (fun y => if y = fl then some v else none)
section
variable {prog : Program} {w : World} {A : Around} {E : Value → Shared → Prop} {R : Result → Shared → Prop} {s : Shared} {K : Frag} {C fI : Addr} {fl qual : Str}
theorem nameAt {M : Model} {s : Shared} {name : Str} {scope : Scope} {L a : Addr} {cd : Value} {m : Str → Option Value} {x : Str} {pos : Pos} {v : Value} {Q : Value → Shared → Prop} (hn : s.heap.Ns L m) (hv : m x = some v) (h : Q v s)
    (hk : scope.kind = .function) (hl : (envOfC name scope L a cd).kindOf x = some .local) (hd : (x == ("__debug__" : Str)) = false) : wpAny M A (eval (.Name x pos) (envOfC name scope L a cd)) Q E s :=
  wpAny_Name (wpAny_loadName_local hk hl hn hv h) hd
/-- self.fl = v on a fresh error -/
theorem storeE {x t0 : Addr} {tk : Tok} {v : Value} (T : EC K C) (nf : findIn K (.ref C) fl = some none) (X : K.In s.heap) (hx : s.heap.get? x = some (PX.excO C t0))
    (hq : ∀ h' tk' dx, (∀ b o, b ≠ x → s.heap.get? b = some o → h'.get? b = some o) → s.heap.objs.size ≤ dx → dx ≠ x → h'.get? x = some { cls := .ref C, dict := some dx, data := .fields #[.ref t0, .none, .none, .none, .bool false, .none] } →
      h'.Ns1 dx (fun y => if y = fl then some v else none) → R (.ok (.ret .none)) { s with heap := h', toks := tk' }) : codeAny (model prog w) A (.call (.builtin "object.__setattr__") ⟨[.ref x, .str fl tk, v], []⟩) R s := by
  refine osa_openX (od := none) F.store_Exception X ⟨hx, rfl, rfl, trivial⟩ T.ov (show takerIn K C fl = some none by unfold takerIn; rw [nf]; rfl) fun b => ?_
  obtain ⟨cd, hc, hd'⟩ := any_some T.hd
  have hxs : x ≠ s.heap.objs.size := Nat.ne_of_lt (Heap.lt_size hx)
  refine wpAny_bind (wpAny_pure (wpAny_bind (instanceDict_exc hx (looks_clsIn X hc) hd' ?_)))
  show wpAny _ _ (Builtin.ObjectAttr.storeInDict s.heap.objs.size (.str fl tk) fl v) _ _ _
  refine PX.store_in_new ?_ fun h' tk' hn' hs => ?_
  · exact ⟨_, #[], _, (Heap.get?_update_ne _ _ _ _ hxs.symm).trans (Heap.get?_push_at rfl rfl), rfl, fun e he => absurd he (by simp), fun _ => rfl⟩
  · have hx1 := Heap.get?_push_of_some (dictOf [] 0) hx
    refine hq h' tk' s.heap.objs.size (fun b o hb ho => ?_) (Nat.le_refl _) hxs.symm ?_ hn'
    · exact (hs.2 b (Nat.ne_of_lt (Heap.lt_size ho))).trans ((Heap.get?_update_ne _ _ _ _ hb).trans (Heap.get?_push_of_some _ ho))
    · exact (hs.2 x hxs).trans (Heap.get?_update_self _ hx1 rfl)
/-- the run of __init__ -/
theorem initRun (T : EI K C fI fl qual) {x t0 : Addr} {v : Value} {as : Args} (X : K.In s.heap) (hlim : s.heap.NoLimit) (hx : s.heap.get? x = some (PX.excO C t0)) (hroom : A.depth < recursionLimit)
    (has : as = ⟨[.ref x, v], []⟩ ∨ as = ⟨[.ref x], [(fl, v)]⟩)
    (hq : ∀ h' tk dx, (∀ b o, b ≠ x → s.heap.get? b = some o → h'.get? b = some o) → s.heap.objs.size ≤ dx → dx ≠ x → h'.get? x = some { cls := .ref C, dict := some dx, data := .fields #[.ref t0, .none, .none, .none, .bool false, .none] } →
      h'.Ns1 dx (fun y => if y = fl then some v else none) → R (.ok (.ret .none)) { s with heap := h', toks := tk }) : codeAny (model prog w) A (.call (.ref fI) as) R s := by
  obtain ⟨od, doc, pm, an, cdv, ct, osl, p1, p2, q1, q2, q3, q4, ho, hcd⟩ := T.fn
  have bd : BindsTo s (fnOf "__init__" qual (iA fl p1 p2) (iB fl q1 q2 q3 q4) (iS fl) .none .none doc pm an cdv ct) as [("self", .ref x), (fl, v)] := by
    rcases T.fls with e | e | e | e | e | e | e <;> subst e <;> rcases has with e | e <;> subst e <;> exact .of_eq (by first | rfl | with_unfolding_all rfl)
  have kd : ([(("self" : Str), Value.ref x), (fl, v)].all fun y => (iS fl).names.lookup y.1 == some .local || (iS fl).names.lookup y.1 == some .cell) = true := by
    rcases T.fls with e | e | e | e | e | e | e <;> subst e <;> first | rfl | with_unfolding_all rfl
  refine Att.call_fn X hlim ho hcd hroom bd kd (fun s₁ IC => ?_) rfl rfl rfl
  obtain ⟨h₁, tk₁, rfl⟩ := IC.toInCall.same
  have k : ∀ b o, s.heap.get? b = some o → h₁.get? b = some o := IC.toInCall.keep
  have hn := IC.toInCall.ns
  have X₁ : K.In h₁ := X.keeps k
  have hx₁ := k _ _ hx
  have z : s.heap.objs.size < h₁.objs.size := hn.lt
  show wpAny _ _ (execs _ _) _ _ _
  refine wpAny_execs_cons (plainObj_wpAny_Assign_Attribute ?_)
  have n1 : ∀ {a : Addr} {cd : Value}, (envOfC qual (iS fl) s.heap.objs.size a cd).kindOf fl = some .local := fun {a cd} => by
    rcases T.fls with e | e | e | e | e | e | e <;> subst e <;> first | rfl | with_unfolding_all rfl
  have n2 : ∀ {a : Addr} {cd : Value}, (envOfC qual (iS fl) s.heap.objs.size a cd).kindOf "self" = some .local := fun {a cd} => by
    rcases T.fls with e | e | e | e | e | e | e <;> subst e <;> first | rfl | with_unfolding_all rfl
  have n3 : (fl == ("__debug__" : Str)) = false := by
    rcases T.fls with e | e | e | e | e | e | e <;> subst e <;> decide +kernel
  refine nameAt (v := v) hn ?_ (nameAt (v := .ref x) hn ?_ ?_ rfl n2 (by decide +kernel)) rfl n1 n3
  · rcases T.fls with e | e | e | e | e | e | e <;> subst e <;> first | rfl | with_unfolding_all rfl | kernel_rfl
  · rcases T.fls with e | e | e | e | e | e | e <;> subst e <;> first | rfl | with_unfolding_all rfl | kernel_rfl
  refine set_plain X₁ (ox := PX.excO C t0) (od := none) ⟨hx₁, rfl, rfl, trivial⟩ T.c.sa ?_
  refine storeE T.c T.nf X₁ hx₁ fun h₃ tk₃ dx k₃ dn dne hx₃ hn₃ => ?_
  show wpAny _ _ (execs _ _) _ _ _
  exact wpAny_execs_nil (hq h₃ tk₃ dx (fun b o hb e => k₃ b o hb (k b o e)) (Nat.le_of_lt (Nat.lt_of_lt_of_le z dn)) dne hx₃ hn₃)
end
end KX
end PySem
set_option Elab.async false
set_option linter.all false
set_option maxRecDepth 100000
set_option maxHeartbeats 4000000
namespace PySem
namespace KX
open PySem.W PySem.Calls PyProof.Rows PySem.HandSPX
section
variable {prog : Program} {w : World} {A : Around} {E : Value → Shared → Prop} {R : Result → Shared → Prop} {s : Shared} {K : Frag} {C fI : Addr} {fl qual : Str}
theorem exMade (T : EI K C fI fl qual) {v : Value} {as : Args} (has : as = ⟨[v], []⟩ ∨ as = ⟨[], [(fl, v)]⟩) (X : K.In s.heap) (hlim : s.heap.NoLimit) (hroom : A.depth + 1 < recursionLimit)
    (hq : ∀ h' tk e d, Made s.heap h' e C d fl v → R (.ok (.ret (.ref e))) { s with heap := h', toks := tk }) : codeAny (model prog w) A (.call (.ref C) as) R s := by
  obtain ⟨nm, N, q, bs, bm, hdct, sn, sub, ab, col, dd, k0, k1, k2, k3, k5, hC, hT⟩ := excInit_of X T.c.ini
  obtain ⟨od, doc, pm, an, cdv, ct, osl, p1, p2, q1, q2, q3, q4, ho, hcd⟩ := T.fn
  obtain ⟨hp, g, dr, tk, os⟩ := s
  have hfI := X _ _ ho
  have fin : ∀ (pos : List Value) (c : Code) (as' : Args), (as' = ⟨[.ref (hp.objs.size + 1), v], []⟩ ∨ as' = ⟨[.ref (hp.objs.size + 1)], [(fl, v)]⟩) → (A.under c).depth = A.depth + 1 →
      codeAny (model prog w) (A.under c) (.call (.ref fI) as') (InitBack (hp.objs.size + 1) R) ⟨(hp.push (kdv_tup pos)).push (PX.excO C hp.objs.size), g, dr, tk, os⟩ := fun pos c as' ha hdp => by
    have k : ∀ b o, hp.get? b = some o → ((hp.push (kdv_tup pos)).push (PX.excO C hp.objs.size)).get? b = some o := fun b o e => Heap.get?_push_of_some _ (Heap.get?_push_of_some _ e)
    have hget : ((hp.push (kdv_tup pos)).push (PX.excO C hp.objs.size)).get? (hp.objs.size + 1) = some (PX.excO C hp.objs.size) := by heap_get
    refine initRun (s := ⟨(hp.push (kdv_tup pos)).push (PX.excO C hp.objs.size), g, dr, tk, os⟩) T (X.keeps k) (hlim.keeps k) hget ?_ ha fun h' tk' dx k' dn dne hx hns => ?_
    · rw [hdp]
      exact hroom
    · have z : hp.objs.size + 1 + 1 ≤ dx := by
        have q := dn
        rw [Heap.size_push, Heap.size_push] at q
        exact q
      exact ⟨rfl, hq h' tk' (hp.objs.size + 1) dx ⟨fun b o e => k' b o (Nat.ne_of_lt (Nat.lt_succ_of_lt (Heap.lt_size e))) (k b o e), Nat.le_succ _, ⟨_, hx⟩, Nat.le_trans (Nat.le_trans (Nat.le_succ _) (Nat.le_succ _)) z, dne, hns⟩⟩
  rcases has with rfl | rfl
  · refine PX.call_own F.excBase_Exception hT hC (looks_findIn X T.iC) (fun self => exc_bind hfI rfl self) (by show 1 ≤ sizeLine; rw [sizeLine_eq]; omega) (fin [v] _ _ (.inl rfl) ?_)
    first | rfl | simp [Around.under, Code.weight, Code.isCreation, Code.isGuard, Code.isCaller, Code.frames, Code.isFrame, guardIds]
  · refine callK F.excBase_Exception hT hC (looks_findIn X T.iC) (fun self => exc_bind hfI rfl self) (fin [] _ _ (.inr rfl) ?_)
    first | rfl | simp [Around.under, Code.weight, Code.isCreation, Code.isGuard, Code.isCaller, Code.frames, Code.isFrame, guardIds]
end
end KX
end PySem
namespace KL
open PySem L2 PySem.KX PySem.Spec PyProof.Rows
section
variable {X : Cx} {pins : List (Addr × Obj)} {σ : L2.St} {H : Hp} {s : Shared}
theorem invTwo {h' : Heap} {tk : Nat} {a C d : Addr} {fl : Str} {v : V} {u : Value} (I : Inv X pins σ H s) (M : Made s.heap h' a C d fl u) (rv : RelV v u) :
    H a = none ∧ H d = none ∧ Inv X pins σ (upd (upd H d (exd d [(fl, v)])) a (exo a C (some d))) { s with heap := h', toks := tk } := by
  have na : H a = none := I.hok.fresh M.new
  have nd : H d = none := I.hok.fresh M.dbig
  have fa : ∀ {b : Addr} {o : Obj}, s.heap.get? b = some o → b ≠ a := fun q => Nat.ne_of_lt (Nat.lt_of_lt_of_le (Heap.lt_size q) M.new)
  have fd : ∀ {b : Addr} {o : Obj}, s.heap.get? b = some o → b ≠ d := fun q => Nat.ne_of_lt (Nat.lt_of_lt_of_le (Heap.lt_size q) M.dbig)
  have S : Same H (upd (upd H d (exd d [(fl, v)])) a (exo a C (some d))) := fun b o e => by
    rw [upd_ne (ne_of_none e na), upd_ne (ne_of_none e nd)]
    exact e
  refine ⟨na, nd, I.un { keep := fun b o q _ _ _ => M.keep b o q, slot := fun b o q _ _ _ => ⟨o.slots, M.keep b o q⟩, free := fun b o q n _ => ?_, there := fun b o q _ => ⟨o, M.keep b o q⟩, tups := fun b xs q => S _ _ q, frzs := fun b o u q => S _ _ q, tbls := fun b ps q => ⟨#[], by rw [S _ _ q]; simp⟩ } fun b o e => ?_⟩
  · rw [upd_ne (fa q), upd_ne (fd q)]
    exact n
  · by_cases hb : b = a
    · subst hb
      rw [upd_same] at e
      cases e
      obtain ⟨t1, ho⟩ := M.obj
      exact exo_ok ho
    · rw [upd_ne hb] at e
      by_cases hd : b = d
      · subst hd
        rw [upd_same] at e
        cases e
        refine exd_ok M.ns fun f => ?_
        rw [lookup_put]
        by_cases hf : f = fl
        · rw [if_pos hf, if_pos hf]
          exact rv
        · rw [if_neg hf, if_neg hf]
          exact True.intro
      · rw [upd_ne hd] at e
        exact (I.hok b o e).stay (fun c w _ q => M.keep c w q) (fun c q => S _ _ q) fun c xs q => S _ _ q
end
/-- C(e) or C(fl = e) -/
def tEx (C : Addr) (fl : Str) (ta : TA) : TE := fun σ H Q => ta σ H fun vs H1 => ∃ v, vs = [v] ∧ ∀ a d, H1 a = none → H1 d = none → d ≠ a → Q (.ref a) (upd (upd H1 d (exd d [(fl, v)])) a (exo a C (some d)))
section
variable {X : Cx} {C fI : Addr} {fl qual x : Str} {p pos kpos : Pos} {e : Expr} {te : TE} {ta : TA}
theorem pe_ex (T : EI X.K C fI fl qual) (gC : X.mg x = some (.ref C)) (hr : Room 1 X.A) (hg : Gl X x) (ha : PA X [e] ta) (hdb : (x == ("__debug__" : Str)) = false := by decide) (he : starEach (e :: []) X.env = (false, eval e X.env) :: starEach [] X.env := by rfl)
    (hpl : (backTo pos (starEach [] X.env)).any (·.1) = false := by rfl) : PE X (.Call (.Name x p) [e] [] pos) (tEx C fl ta) := by
  refine ⟨fun pins s σ H Q I h => ?_⟩
  refine wpAny_Call_Name_kw (ld_glob I hg gC ?_ hdb)
  refine PySem.W.callWith_K (h₀ := X.base) I.ok.mod.kin T.c.kp (thn (ha.run pos pins s σ H _ I h) fun us s1 ⟨vs, H1, I1, r, v, ev, q⟩ => ⟨I1.kIn, ?_⟩) he hpl
  subst ev
  cases r with
  | cons rv rn =>
    cases rn
    rename_i u
    refine wpAny_call (exMade T (.inl rfl) I1.kIn I1.nolimit (by have := hr.dp; omega) fun h' tk a d M => ?_)
    obtain ⟨n1, n2, J⟩ := invTwo (tk := tk) I1 M rv
    exact ⟨.ref a, _, J, rfl, q a d n1 n2 M.dne⟩
theorem pe_exK (T : EI X.K C fI fl qual) (gC : X.mg x = some (.ref C)) (hr : Room 1 X.A) (hg : Gl X x) (ha : PE X e te) (hdb : (x == ("__debug__" : Str)) = false := by decide)
    (hall : (backToKw pos (keywordEach [⟨some fl, e, kpos⟩] X.env)).all (·.1.isSome) = true := by rfl) (hks : (backToKw pos (keywordEach [⟨some fl, e, kpos⟩] X.env)).filterMap (·.1) = [fl] := by rfl)
    (hpl : ((backTo pos (starEach [] X.env)).any (·.1) || (backToKw pos (keywordEach [⟨some fl, e, kpos⟩] X.env)).any (·.1.isNone)) = false := by rfl) :
    PE X (.Call (.Name x p) [] [⟨some fl, e, kpos⟩] pos) (tEx C fl (tCons te tNil)) := by
  refine ⟨fun pins s σ H Q I h => ?_⟩
  refine wpAny_Call_Name_kw (ld_glob I hg gC ?_ hdb)
  refine PySem.W.callWith_KW0 (h₀ := X.base) I.ok.mod.kin T.c.kp hall ?_ hpl
  refine thn ((pk_cons ha pk_nil).run pos pins s σ H _ I h) fun us s1 ⟨vs, H1, I1, r, v, ev, q⟩ => ⟨I1.kIn, ?_⟩
  rw [hks]
  subst ev
  cases r with
  | cons rv rn =>
    cases rn
    rename_i u
    refine wpAny_call (exMade T (.inr rfl) I1.kIn I1.nolimit (by have := hr.dp; omega) fun h' tk a d M => ?_)
    obtain ⟨n1, n2, J⟩ := invTwo (tk := tk) I1 M rv
    exact ⟨.ref a, _, J, rfl, q a d n1 n2 M.dne⟩
end
end KL
set_option Elab.async false
set_option linter.all false
set_option maxRecDepth 100000
set_option maxHeartbeats 4000000
namespace KL
open PySem L2 PySem.KX PySem.Spec PyProof.Rows
/-- an error's class without an __init__ -/
structure EB (K : PySem.W.Frag) (C : Addr) : Prop where
  c : EC K C
  ex : PySem.W.excIn K C excB "Exception.__new__" = true
/-- C() -/
def tEx0 (C : Addr) : TE := fun _ H Q => ∀ a, H a = none → Q (.ref a) (upd H a (exo a C none))
/-- e.f of an error -/
def tExAt (K : PySem.W.Frag) (f : Str) (te : TE) : TE := fun σ H Q => te σ H fun x H1 => ∃ (a C d : Addr) (fs : List (Str × V)) (v : V), x = .ref a ∧ EC K C ∧ PySem.W.findIn K (.ref C) f = some none ∧ H1 a = some (exo a C (some d)) ∧ H1 d = some (exd d fs) ∧ fs.lookup f = some v ∧ Q v H1
/-- an error stands at a -/
def ErrAt (H : Hp) (a C : Addr) : Prop := H a = some (exo a C none) ∨ ∃ d fs, H a = some (exo a C (some d)) ∧ H d = some (exd d fs)
/-- isinstance(e, c) -/
def rExIs (K : PySem.W.Frag) : List V → Hp → VK → Prop := fun xs H Q => ∃ (a C : Addr) (c : V) (cv : Value) (b : Bool), xs = [.ref a, c] ∧ EC K C ∧ ErrAt H a C ∧ ClsV c cv ∧ PySem.W.kitOne K (.ref C) cv = some b ∧ Q (.bl b) H
section
variable {X : Cx}
theorem pe_ex0 {C : Addr} {x : Str} {p pos : Pos} (T : EB X.K C) (gC : X.mg x = some (.ref C)) (hg : Gl X x) (hdb : (x == ("__debug__" : Str)) = false := by decide) : PE X (.Call (.Name x p) [] [] pos) (tEx0 C) := by
  refine ⟨fun pins s σ H Q I h => ?_⟩
  refine wpAny_Call_Name_kw (ld_glob I hg gC ?_ hdb)
  refine PySem.W.callWith_K0 I.kIn T.c.kp ?_
  obtain ⟨bm, N, nm, qn, bs, hdct, sn, sub, ab, col, dd, k0, k1, k2, k3, k5, mN, hC, hN, hni, O⟩ := exc_obj I.kIn T.ex
  obtain ⟨hp, g, dr, tk, os⟩ := s
  refine wpAny_call_exc_subT F.excBase_Exception O hC hN hni (fun h' a hm => ?_) (Nat.zero_le _)
  have hn : H a = none := I.hok.gone hm.new
  obtain ⟨t, ht, _, _⟩ := hm.there
  exact ⟨.ref a, upd H a (exo a C none), I.laidN (t' := tk) hm.keeps hm.new hn (exo_ok ht), rfl, h a hn⟩
theorem pe_exAt {e : Expr} {f : Str} {te : TE} {pos : Pos} (he : PE X e te) (hb : attributeBase e f X.env (eval e X.env) = eval e X.env := by rfl) : PE X (.Attribute e f pos) (tExAt X.K f te) := by
  refine ⟨fun pins s σ H Q I h => ?_⟩
  refine attr_of hb (thn (he.run pins s σ H _ I h) fun u s1 ⟨x, H1, I1, rx, a, C, d, fs, v, ex, T, nf, ha, hd, l, q⟩ => ?_)
  subst ex
  obtain rfl : u = Value.ref a := rx
  obtain ⟨t1, ho⟩ := exo_at I1.hok ha
  obtain ⟨mA, hns, hr⟩ := exd_at I1.hok hd
  obtain ⟨od, hod, hl⟩ := lookIn_ns hns
  obtain ⟨u, hu, ru⟩ := RelO.some_of (v := v) (o := mA f) (by rw [← l]; exact hr f)
  exact PySem.PX.exc_get I1.kIn ⟨ho, rfl, rfl, hod⟩ T.is.hg T.is.hk T.is.hs (PySem.W.findObj_own T.hd nf rfl (by rw [hl, hu])) (handed_of ru) ⟨v, H1, I1.tok _, ru, q⟩
theorem call_exIs : CallR X (.builtin "isinstance") (rExIs X.K) := by
  intro pins s σ H xs us Q I r h
  obtain ⟨a, C, c, cv, b, rfl, T, ea, kc, e, q⟩ := h
  obtain ⟨u1, u2, rfl, r1, r2⟩ := vals2 r
  have e2 := kc.eq r2
  subst e2
  cases (show u1 = Value.ref a from r1)
  have hcl : (PySem.W.clsIn X.K C).isSome = true := by
    obtain ⟨cd, hc, _⟩ := PySem.W.any_some T.hd
    rw [hc]
    rfl
  have go : ∀ {ox : Obj} {od : Option Obj}, PySem.W.InstAt s.heap a ox C od → wpAny (model X.prog X.w) X.A (call (.builtin "isinstance") [.ref a, u2]) (EP X pins σ Q) X.xe s := fun {ox od} J =>
    PySem.W.kia_one (PySem.W.kitx_exc hcl T.is.hg T.is.hk T.is.hs T.is.ha T.is.hn T.is.ht T.is.hm) I.kIn J e (fun z => nomatch z) fun tk => ⟨.bl b, H, I.tok tk, rfl, q⟩
  rcases ea with ea | ⟨d, fs, ea, ed⟩
  · obtain ⟨t1, ho⟩ := exo_at I.hok ea
    exact go (od := none) ⟨ho, rfl, rfl, trivial⟩
  · obtain ⟨t1, ho⟩ := exo_at I.hok ea
    obtain ⟨mA, hns, hr⟩ := exd_at I.hok ed
    obtain ⟨od, hod, hl⟩ := lookIn_ns hns
    exact go (od := some od) ⟨ho, rfl, rfl, hod⟩
end
end KL
set_option Elab.async false
set_option linter.all false
set_option maxRecDepth 100000
set_option maxHeartbeats 4000000
namespace KL
open PySem L2 PySem.KX PySem.Spec PyProof.Rows
/-- a def's promise where no guard stands around its call -/
structure FnG (P : Program) (w : World) (K : PySem.W.Frag) (mg : Str → Option Value) (base : Heap) (CX : CXT) (k : Nat) (f : Addr) (fd : FuncData) (ps : List Str) (sp : Sp) : Prop where
  len : ∀ vs H Q E, sp vs H Q E → vs.length = ps.length
  run : ∀ (A : Around) (outer : List Env) (s : Shared) (H : Hp) (args : Args) (us : List Value) (vs : List V) (Q : VK) (E : XK), A.guards = some [] → Room k A → Env0 P w K mg base A outer s H → BindsTo s fd args (ps.zip us) → Vals vs us → sp vs H Q E →
    codeAny (model P w) A (.call (.ref f) args) (CR CX outer P w H s Q E) s
section
variable {P : Program} {w : World} {K : PySem.W.Frag} {mg : Str → Option Value} {base : Heap}
theorem fnG {CX : CXT} {k : Nat} {f : Addr} {qual x : Str} {st : Stmt} {N ps : List Str} {sp : Sp} {fd : FuncData} (F : Fun K x qual st f fd) (S : FnScope N ps (defScope st)) (len : ∀ vs H Q E, sp vs H Q E → vs.length = ps.length)
    (hbody : ∀ (cdv : Value) (A : Around) (outer : List Env) (s : Shared) (H : Hp) (vs : List V) (Q : VK) (E : XK), A.guards = some [] → Room k (A.deeper (envOfC qual (defScope st) s.heap.objs.size f cdv)) → sp vs H Q E →
      ∃ t, PSs (cxOf CX P w K mg base N qual (defScope st) f cdv A outer s H E) (defBody st) t ∧ t { nx := fun _ H' => Q .non H', rt := Q } (start N vs) H) : FnG P w K mg base CX (k + 1) f fd ps sp := by
  obtain ⟨oc, od, kV, doc, pm, an, cdv, ct, osl, rfl, lk, hcd⟩ := F.ex
  refine ⟨len, fun A outer s H args us vs Q E hg hr e0 hb r hs => ?_⟩
  have hl := len _ _ _ _ hs
  have KX := e0.mod.kin.keeps fun b o e => (e0.bs b o e).1
  have lim := e0.mod.nolimit.keeps fun b o e => (e0.bs b o e).1
  have hk : ∀ y ∈ ps.zip us, (defScope st).names.lookup y.1 = some .local ∨ ((defScope st).names.lookup y.1 = some .cell ∧ ((cellsFrom (s.heap.objs.size + 1) (defScope st).names []).lookup y.1).isSome = true) := by
    rintro ⟨n, v⟩ hy
    rcases S.par n (List.of_mem_zip hy).1 with q | q
    · exact Or.inl q
    · exact Or.inr ⟨q, PySem.W.cellsFrom_some _ _ _ (Or.inl q)⟩
  refine codeAny_call_function hr.depth (KX _ _ lk) rfl S.co S.gen rfl (PySem.W.codeRec_of KX hcd) (hb _ _ _ _ ?_)
  refine wpAny_newFunctionEnv_cells S.kind hk fun env he s1 z => ?_
  subst he
  refine ⟨lim.keeps z.toInCall.keep, codeAny_func ?_⟩
  obtain ⟨t, ht, hq⟩ := hbody cdv A outer s H vs Q E hg (hr.deeper _) hs
  have J0 := inv_start (CX := CX) (E := E) S hr.hd e0 hl r z
  refine wpAny_mono (ht.run [] s1 (start N vs) H _ J0 hq) (fun fl s' y => ?_) fun e s' y => y
  match fl, y with
  | .ret u, ⟨v, σ', H', J, rv, q⟩ => exact ⟨v, H', J.os, J.bare, J.base, J.hok, rv, q⟩
  | .next, ⟨σ', H', J, q⟩ => exact ⟨V.non, H', J.os, J.bare, J.base, J.hok, rfl, q⟩
  | .brk, ⟨_, _, _, q⟩ => exact q.elim
  | .cont, ⟨_, _, _, q⟩ => exact q.elim
end
section
variable {X : Cx} {CX : CXT} {k : Nat} {f : Addr} {fd : FuncData} {ps : List Str} {sp : Sp} {E : XK} {x : Str} {p pos : Pos} {e : Expr} {es : List Expr} {t : TA}
theorem pe_callG (F : FnG X.prog X.w X.K X.mg X.base CX k f fd ps sp) (hG : X.A.guards = some []) (hr : Room k X.A) (hg : Gl X x) (hm : X.mg x = some (.ref f)) (hk : PySem.W.keepIn X.K (.ref f) = true) (hb : L2.Binds X.K fd ps []) (hx : Passes CX X E)
    (ha : PA X (e :: es) t) (hdb : (x == ("__debug__" : Str)) = false := by decide) (he : starEach (e :: es) X.env = (false, eval e X.env) :: starEach es X.env := by rfl) (hpl : (backTo pos (starEach es X.env)).any (·.1) = false := by rfl) :
    PE X (.Call (.Name x p) (e :: es) [] pos) (tCall sp [] E t) := by
  refine ⟨fun pins s σ H Q I h => ?_⟩
  refine wpAny_Call_Name_kw (ld_glob I hg hm ?_ hdb)
  refine PySem.W.callWith_K (h₀ := X.base) I.ok.mod.kin hk (thn (ha.run pos pins s σ H _ I h) fun us s1 ⟨vs, H1, I1, r, q⟩ => ⟨I1.kIn, ?_⟩) he hpl
  have q' : sp vs H1 Q E := by
    have z : sp (vs ++ []) H1 Q E := q
    rwa [List.append_nil] at z
  have hl : (us ++ []).length = ps.length := by
    rw [List.append_nil, ← r.length]
    exact F.len _ _ _ _ q'
  have bd := hb s1 us I1.kIn hl
  rw [List.append_nil] at bd
  refine wpAny_call (codeAny_mono (F.run X.A X.stack s1 H1 ⟨us, []⟩ us vs Q E hG hr I1.env0 bd r q') fun res s' y => ?_)
  match res, y with
  | .error er, y => exact hx pins σ H1 s1 er s' I1 y
  | .ok (.ret u), y => exact I1.after y
  | .ok .next, y => exact False.elim y
  | .ok .brk, y => exact False.elim y
  | .ok .cont, y => exact False.elim y
end
section
variable {P : Program} {w : World} {K : PySem.W.Frag} {mg mb : Str → Option Value} {CX : CXT} {k : Nat} {fa a : Addr} {fd : FuncData} {x : Str} {sp : Sp} {s1 : Shared} {vs : List Value} {ns : List Int}
/-- the law's call, from a heap in which the script alone may be tracked -/
theorem law_core (KX : K.In s1.heap) (hns : s1.heap.Ns mainGlobals mg) (hb : s1.heap.Ns builtinsNs mb) (hbb : ∀ x : Str, x ≠ "__name__" → mb x = bootBuiltins x) (hlim : s1.heap.NoLimit) (hg : s1.gens = #[])
    (ha : s1.heap.get? a = some { cls := .type "list", data := .seq vs.toArray }) (hr : Room k PySem.callerA)
    (F : ∀ base : Heap, K.In base → base.Ns mainGlobals mg → FnG P w K mg base CX k fa fd [x] sp) (hbind : ∀ (s : Shared) (u : Value), BindsTo s fd ⟨[u], []⟩ [(x, u)])
    (hCX : ∀ H e s', CX [] H s1 (fun _ _ _ => False) e s' → False) (H : Hp) (hO : Only H) (q0 : sp [.ref a] H (fun v _ => v = .bl true) fun _ _ _ => False) (hok : HOk P w H s1.heap) (hA : ∀ b, H b ≠ none → b = a) (hK : H a ≠ none → K.lookup a = none) :
    codeAny (model P w) PySem.callerA (.call (.ref fa) ⟨[.ref a], []⟩) (fun r s' => r = .ok (.ret (.bool true)) ∧ OldK s1.heap s'.heap ∧ s'.os = s1.os ∧ AllBare s'.gens) s1 := by
  have only_a : ∀ {b : Addr} {u : HO}, H b = some u → b = a := fun {b u} q => hA b (by rw [q]; simp)
  have dict_free : ∀ {b : Addr} {o : Obj} {es : Array DictEntry} {ep : Nat}, s1.heap.get? b = some o → o.data = .dict es ep → H b = none := fun {b o es ep} e d => by
    cases q : H b with
    | none => rfl
    | some u =>
      have z := only_a q
      subst z
      rw [ha] at e
      cases e
      have d' : Data.seq vs.toArray _ = Data.dict es ep := d
      cases d'
  have up : ∀ {b : Addr} {m : Str → Option Value}, s1.heap.Ns b m → (hidT s1.heap H).Ns b m := fun {b m} ⟨o, es, ep, e, d, r⟩ => ⟨o, es, ep, hidT_get e (dict_free e d), d, r⟩
  have kIn : K.In (hidT s1.heap H) := fun b o e => by
    refine hidT_get (KX b o e) ?_
    cases q : H b with
    | none => rfl
    | some u =>
      have z := only_a q
      subst z
      rw [hK (by rw [q]; simp)] at e
      cases e
  have M : Mod K mg (hidT s1.heap H) := ⟨kIn, up hns, ⟨mb, up hb, hbb⟩, let ⟨mc, y1, y2⟩ := hlim; ⟨mc, up y1, y2⟩⟩
  have nil : ∀ b : Addr, b ∉ ([] : List Addr) := fun b z => by simp at z
  have e0 : Env0 P w K mg (hidT s1.heap H) PySem.callerA [] s1 H := ⟨rfl, M, fun b o e => of_hidT e, Nat.le_of_eq (hidT_size _ _), trivial, fun b z => absurd z (nil b), hok, .of_eq hg⟩
  refine codeAny_mono ((F _ kIn (up hns)).run PySem.callerA [] s1 H ⟨[.ref a], []⟩ [.ref a] [.ref a] _ _ rfl hr e0 (hbind s1 (.ref a)) (.cons rfl .nil) q0) fun r s' y => ?_
  match r, y with
  | .error e, y => exact (hCX H e s' y).elim
  | .ok .next, y => exact y.elim
  | .ok .brk, y => exact y.elim
  | .ok .cont, y => exact y.elim
  | .ok (.ret u), ⟨v, H', os, bare, un, hok', rv, q⟩ =>
    have q' : v = .bl true := q
    subst q'
    have eu : u = Value.bool true := rv
    subst eu
    refine ⟨rfl, OldK.of_keep fun b o e => ?_, os, bare⟩
    cases q : H b with
    | none => exact un.keep b o e q (nil b) (nil b)
    | some u =>
      rcases hO b with z | ⟨ob, xs, z⟩
      · rw [q] at z
        cases z
      · have e1 := (hok b _ z).1
        have e2 := (hok' b _ (un.frzs b ob _ z)).1
        rw [e] at e1
        cases e1
        exact e2
theorem law_callG (KX : K.In s1.heap) (hns : s1.heap.Ns mainGlobals mg) (hb : s1.heap.Ns builtinsNs mb) (hbb : ∀ x : Str, x ≠ "__name__" → mb x = bootBuiltins x) (hlim : s1.heap.NoLimit) (hg : s1.gens = #[])
    (ha : s1.heap.get? a = some { cls := .type "list", data := .seq vs.toArray }) (hi : IntsAre vs ns) (hl : ns.length ≤ sizeLine) (hr : Room k PySem.callerA)
    (F : ∀ base : Heap, K.In base → base.Ns mainGlobals mg → FnG P w K mg base CX k fa fd [x] sp) (hbind : ∀ (s : Shared) (u : Value), BindsTo s fd ⟨[u], []⟩ [(x, u)])
    (hsp : ∀ H : Hp, Only H → SqL K H a (ns.map V.int) → sp [.ref a] H (fun v _ => v = .bl true) fun _ _ _ => False) (hCX : ∀ H e s', CX [] H s1 (fun _ _ _ => False) e s' → False) :
    codeAny (model P w) PySem.callerA (.call (.ref fa) ⟨[.ref a], []⟩) (fun r s' => r = .ok (.ret (.bool true)) ∧ OldK s1.heap s'.heap ∧ s'.os = s1.os ∧ AllBare s'.gens) s1 := by
  have rv := vals_ints hi
  have lenV := hi.length
  cases hk : K.lookup a with
  | some o =>
    have e := KX a o hk
    rw [ha] at e
    cases e
    have hO : Only (fun _ => none) := fun _ => .inl rfl
    refine law_core KX hns hb hbb hlim hg ha hr F hbind hCX (fun _ => none) hO (hsp _ hO (.inr ⟨_, vs.toArray, _, hk, rfl, rfl, rfl, by rw [List.size_toArray, lenV]; exact hl, by simpa using rv⟩)) (fun b u z => ?_) (fun b z => absurd rfl z) fun z => absurd rfl z
    have z' : (none : Option HO) = some u := z
    cases z'
  | none =>
    let T : Hp := fun b => if b = a then some (.frz { cls := .type "list", data := .seq vs.toArray } (.lst (ns.map V.int))) else none
    have Ta : T a = some (.frz { cls := .type "list", data := .seq vs.toArray } (.lst (ns.map V.int))) := if_pos rfl
    have Tb : ∀ b, b ≠ a → T b = none := fun b hb => if_neg hb
    have hO : Only T := fun b => by
      by_cases z : b = a
      · exact .inr ⟨_, _, by rw [z]; exact Ta⟩
      · exact .inl (Tb b z)
    refine law_core KX hns hb hbb hlim hg ha hr F hbind hCX T hO (hsp T hO (.inl (.inr ⟨_, Ta⟩))) (fun b u z => ?_) (fun b z => ?_) fun _ => hk
    · by_cases y : b = a
      · subst y
        have z' := Ta.symm.trans z
        cases z'
        exact ⟨ha, by rw [List.length_map]; exact hl, vs, _, rv, ha⟩
      · have z' := (Tb b y).symm.trans z
        cases z'
    · by_cases y : b = a
      · exact y
      · exact absurd (Tb b y) z
end
/-- the goal that the head leaves, from the law's promise -/
theorem walkG {l : PySem.W.OpenLaw} {n k : Nat} {q : Program} {loose : List Str} {XP : (Str → Option Value) → Heap → Prop} {YP : World → Heap → Prop} {d : DefRec} {K : Params → PySem.W.Frag} {CX : World → CXT} {sp : World → Sp} {x : Str}
    (hn : l.most = some n) (hn2 : n ≤ sizeLine) (hdf : d.params.defaults = []) (hr : Room k PySem.callerA) (hY : ∀ (w : World) (h : Heap), YP w h → (K w.params).In h)
    (F : ∀ (w : World) (mg : Str → Option Value) (fa : Addr) (h : Heap), (K w.params).In h → h.Ns mainGlobals mg → mg d.name = some (.ref fa) →
      ∃ fd : FuncData, (∀ (s : Shared) (u : Value), BindsTo s fd ⟨[u], []⟩ [(x, u)]) ∧ ∀ base : Heap, (K w.params).In base → base.Ns mainGlobals mg → FnG l.prog w (K w.params) mg base (CX w) k fa fd [x] (sp w))
    (hsp : ∀ (w : World) (H : Hp) (a : Addr) (ns : List Int), ns.length ≤ n → Only H → SqL (K w.params) H a (ns.map V.int) → sp w [.ref a] H (fun v _ => v = .bl true) fun _ _ _ => False)
    (hCX : ∀ (w : World) (H : Hp) (s : Shared) (e : Value) (s' : Shared), CX w [] H s (fun _ _ _ => False) e s' → False) : PySem.W.WalkO q loose XP YP l.row.toRowW d [] (fun f vs => PySem.call f vs) := by
  refine Att.attach_call hn hdf fun w s0 s1 mg mb fa o pm cd doc a vs ns G Y ho hd hcd hmg hobj hints hlen hg => ?_
  have KX := hY w _ Y
  obtain ⟨fd, hb, hF⟩ := F w mg fa _ KX G.T.g hmg
  exact law_callG KX G.T.g G.T.b G.T.builtins G.T.nolimit hg hobj hints (Nat.le_trans hlen hn2) hr hF hb (fun H hO hS => hsp w H a ns hlen hO hS) fun H e s' => hCX w H s1 e s'
end KL
set_option Elab.async false
set_option linter.all false
set_option maxRecDepth 100000
set_option maxHeartbeats 4000000
namespace KL
open PySem L2 PySem.KX PySem.Spec PyProof.Rows
theorem fnG0 {P : Program} {w : World} {K : PySem.W.Frag} {mg : Str → Option Value} {base : Heap} {k : Nat} {f : Addr} {qual x : Str} {st : Stmt} {N ps : List Str} {sp : Sp} {fd : FuncData} (F : Fun K x qual st f fd) (S : FnScope N ps (defScope st)) (len : ∀ vs H Q E, sp vs H Q E → vs.length = ps.length)
    (hbody : ∀ (cdv : Value) (A : Around) (outer : List Env) (s : Shared) (H : Hp) (vs : List V) (Q : VK) (E : XK), A.guards = some [] → Room k (A.deeper (envOfC qual (defScope st) s.heap.objs.size f cdv)) → sp vs H Q E →
      ∃ t, PSs (cxOf CX0 P w K mg base N qual (defScope st) f cdv A outer s H E).nox (defBody st) t ∧ t { nx := fun _ H' => Q .non H', rt := Q } (start N vs) H) : FnG P w K mg base CX0 (k + 1) f fd ps sp :=
  fnG F S len fun cdv A outer s H vs Q E hg hr hs => by
    obtain ⟨t, ht, hq⟩ := hbody cdv A outer s H vs Q E hg hr hs
    exact ⟨t, ht.nox, hq⟩
/-- what a raised error leaves to be wished for -/
def tMkX (C : Addr) (fl : Str) (ta : TA) : L2.St → Hp → XK → Prop := fun σ H Q => ta σ H fun vs H1 => ∃ v, vs = [v] ∧ ∀ d, H1 d = none → Q (.ref C) (some d) (upd H1 d (.xd [(fl, v)]))
section
variable {X : Cx} {C fI : Addr} {fl qual x : Str} {p pos kpos : Pos} {e : Expr} {te : TE} {ta : TA}
theorem mkpOf {pins : List (Addr × Obj)} {σ : L2.St} {H : Hp} {s : Shared} {h' : Heap} {tk : Nat} {a d : Addr} {v : V} {u : Value} {Q : XK} (I : Inv X pins σ H s) (M : Made s.heap h' a C d fl u) (rv : RelV v u) (hR : Raises X (.ref C)) (q : ∀ d, H d = none → Q (.ref C) (some d) (upd H d (.xd [(fl, v)]))) :
    MkP X pins σ Q (.ref a) { s with heap := h', toks := tk } := by
  have nd : H d = none := I.hok.fresh M.dbig
  have na : H a = none := I.hok.fresh M.new
  obtain ⟨G, g1, g2⟩ := restrict h' fun b => decide (b ≠ a)
  have gk : ∀ b, b ≠ a → G.get? b = h'.get? b := fun b hb => g1 b (decide_eq_true hb)
  have ga : G.get? a = none := g2 a (by simp)
  have gs : ∀ b o, G.get? b = some o → h'.get? b = some o := fun b o e => by
    by_cases hb : b = a
    · rw [hb, ga] at e
      cases e
    · rw [← gk b hb]
      exact e
  obtain ⟨o, es, ep, y1, y2⟩ := M.ns
  have new : ObjOk X.prog X.w (upd H d (.xd [(fl, v)])) G d (.xd [(fl, v)]) := by
    refine ⟨_, ⟨o, es, ep, (gk d M.dne).trans y1, y2⟩, fun f => ?_⟩
    rw [lookup_put]
    by_cases hf : f = fl
    · rw [if_pos hf, if_pos hf]
      exact rv
    · rw [if_neg hf, if_neg hf]
      exact True.intro
  have J := I.laid (t' := tk) (a := d) (o := .xd [(fl, v)]) (h' := G) (fun b o e => (gk b (Nat.ne_of_lt (Nat.lt_of_lt_of_le (Heap.lt_size e) M.new))).trans (M.keep b o e)) M.dbig new
  obtain ⟨t1, ho⟩ := M.obj
  exact ⟨a, _, _, { s with heap := G, toks := tk }, _, .ref C, some d, rfl, J, gs, ga, ho, ⟨rfl, rfl⟩, rfl, rfl, by rw [upd_ne M.dne.symm]; exact na, rfl, I.bare, hR, q d nd⟩
theorem pmk_ex (T : EI X.K C fI fl qual) (tC : PySem.W.typeIn X.K (.ref C) = some (.type "type")) (gC : X.mg x = some (.ref C)) (hr : Room 1 X.A) (hg : Gl X x) (ha : PA X [e] ta) (hdb : (x == ("__debug__" : Str)) = false := by decide) (he : starEach (e :: []) X.env = (false, eval e X.env) :: starEach [] X.env := by rfl)
    (hpl : (backTo pos (starEach [] X.env)).any (·.1) = false := by rfl) : PMk X (.Call (.Name x p) [e] [] pos) (tMkX C fl ta) := by
  intro pins s σ H Q I h
  refine wpAny_Call_Name_kw (ld_glob I hg gC ?_ hdb)
  refine PySem.W.callWith_K (h₀ := X.base) I.ok.mod.kin T.c.kp (thn (ha.run pos pins s σ H _ I h) fun us s1 ⟨vs, H1, I1, r, v, ev, q⟩ => ⟨I1.kIn, ?_⟩) he hpl
  subst ev
  cases r with
  | cons rv rn =>
    cases rn
    exact wpAny_call (exMade T (.inl rfl) I1.kIn I1.nolimit (by have := hr.dp; omega) fun h' tk a d M => mkpOf I1 M rv (raises_own T.c.is.hs tC) q)
theorem pmk_exK (T : EI X.K C fI fl qual) (tC : PySem.W.typeIn X.K (.ref C) = some (.type "type")) (gC : X.mg x = some (.ref C)) (hr : Room 1 X.A) (hg : Gl X x) (ha : PE X e te) (hdb : (x == ("__debug__" : Str)) = false := by decide)
    (hall : (backToKw pos (keywordEach [⟨some fl, e, kpos⟩] X.env)).all (·.1.isSome) = true := by rfl) (hks : (backToKw pos (keywordEach [⟨some fl, e, kpos⟩] X.env)).filterMap (·.1) = [fl] := by rfl)
    (hpl : ((backTo pos (starEach [] X.env)).any (·.1) || (backToKw pos (keywordEach [⟨some fl, e, kpos⟩] X.env)).any (·.1.isNone)) = false := by rfl) : PMk X (.Call (.Name x p) [] [⟨some fl, e, kpos⟩] pos) (tMkX C fl (tCons te tNil)) := by
  intro pins s σ H Q I h
  refine wpAny_Call_Name_kw (ld_glob I hg gC ?_ hdb)
  refine PySem.W.callWith_KW0 (h₀ := X.base) I.ok.mod.kin T.c.kp hall ?_ hpl
  refine thn ((pk_cons ha pk_nil).run pos pins s σ H _ I h) fun us s1 ⟨vs, H1, I1, r, v, ev, q⟩ => ⟨I1.kIn, ?_⟩
  rw [hks]
  subst ev
  cases r with
  | cons rv rn =>
    cases rn
    exact wpAny_call (exMade T (.inr rfl) I1.kIn I1.nolimit (by have := hr.dp; omega) fun h' tk a d M => mkpOf I1 M rv (raises_own T.c.is.hs tC) q)
/-- isinstance of the error that the suite holds -/
def rIsX (K : PySem.W.Frag) (a : Addr) (cls : Value) (d : Option Addr) : List V → Hp → VK → Prop := fun xs H Q => ∃ (D dd : Addr) (fs : List (Str × V)) (c : V) (cv : Value) (b : Bool), xs = [.ref a, c] ∧ cls = .ref D ∧ d = some dd ∧ H dd = some (.xd fs) ∧ EC K D ∧ ClsV c cv ∧ PySem.W.kitOne K (.ref D) cv = some b ∧ Q (.bl b) H
theorem call_isX {a : Addr} {oe : Obj} {cls : Value} {d : Option Addr} {pn : List (Addr × Obj)} (hz : Zc cls d oe) (hf : ∃ vs, oe.data = .fields vs) : CallR (X.suite a ((a, oe) :: pn)) (.builtin "isinstance") (rIsX X.K a cls d) := by
  intro pins s σ H xs us Q I r h
  obtain ⟨D, dd, fs, c, cv, b, rfl, rfl, rfl, hd, T, kc, e, q⟩ := h
  obtain ⟨u1, u2, rfl, r1, r2⟩ := vals2 r
  have e2 := kc.eq r2
  subst e2
  cases (show u1 = Value.ref a from r1)
  obtain ⟨ha, _⟩ := I.pin (a, oe) (List.mem_append_left _ List.mem_cons_self)
  obtain ⟨vs, hv⟩ := hf
  have hx : ObjOk X.prog X.w H s.heap dd (.xd fs) := I.hok dd _ hd
  obtain ⟨mA, hns, _⟩ := hx
  obtain ⟨od, hod, _⟩ := lookIn_ns hns
  have J : PySem.W.InstAt s.heap a oe D (some od) := ⟨ha, hz.1, by unfold PySem.W.notCls; rw [hv] <;> rfl, by rw [hz.2]; exact hod⟩
  have hcl : (PySem.W.clsIn X.K D).isSome = true := by
    obtain ⟨cd, hc, _⟩ := PySem.W.any_some T.hd
    rw [hc]
    rfl
  exact PySem.W.kia_one (PySem.W.kitx_exc hcl T.is.hg T.is.hk T.is.hs T.is.ha T.is.hn T.is.ht T.is.hm) I.kIn J e (fun z => nomatch z) fun tk => ⟨.bl b, H, I.kept (t' := tk) fun _ _ z => z, rfl, q⟩
end
end KL
set_option Elab.async false
set_option linter.all false
set_option maxRecDepth 100000
set_option maxHeartbeats 2000000
namespace KL
open PySem L2 PySem.KX PySem.Spec PyProof.Rows
section
variable {X : Cx} {pins : List (Addr × Obj)} {σ : L2.St} {H : Hp} {s : Shared}
theorem most_two {h : Heap} {n m : Nat} {as bs : List Addr} (x : ReadAtMost h n as) (y : ReadAtMost h m bs) : ReadAtMost h (max n m) (as ++ bs) :=
  (x.mono (Nat.le_max_left n m)).append (y.mono (Nat.le_max_right n m))
mutual
theorem Dq.repr (I : Inv X pins σ H s) : ∀ (d : PyData) (v : V) (u : Value), Dq H v d → RelV v u → d.showable = true → d.shown.length ≤ sizeLine → ∃ bs, ReadAtMost s.heap d.depth bs ∧ ReprK X.prog X.w bs s.heap d.depth u d.shown
  | .list ds, v, u, h, r, w, z => by
    obtain ⟨as, rd, _⟩ := Dq.reads I (.list ds) v u h r
    cases h with
    | lst q ha =>
      cases r
      obtain ⟨_, its, n, rv, ho⟩ := I.hok _ _ q
      have z : (listText (PyData.shownAll ds)).length ≤ sizeLine := by simpa only [PyData.shown] using z
      obtain ⟨bs, h1, h2⟩ := DqAll.repr I ds _ its ha rv (by simpa [PyData.showable] using w) fun t ht => Nat.le_trans (listText_mem_le ht) z
      have out := not_mem_of_deeper rd (n := PyData.depthAll ds) (Nat.lt_succ_self _) h1
      refine ⟨_ :: bs, ReadAtMost.cons rd (Nat.le_succ (PyData.depthAll ds)) h1, ?_⟩
      rw [PyData.depth, PyData.shown]
      cases its with
      | nil =>
        cases ds with
        | nil =>
          rw [PyData.shownAll, listText_nil]
          exact ReprK.listEmpty ho rfl rfl
        | cons d ds => cases h2
      | cons x l => exact ReprK.list ho rfl rfl out (h2.length_eq.trans (by simp)) fun i y e => h2.item i y (by simpa using e)
  | .tuple ds, v, u, h, r, w, z => by
    obtain ⟨as, rd, _⟩ := Dq.reads I (.tuple ds) v u h r
    cases h with
    | tup q ha =>
      cases r
      obtain ⟨_, its, rv, o, o1, o2, n, o3⟩ := I.hok _ _ q
      have z : (tupleText (PyData.shownAll ds)).length ≤ sizeLine := by simpa only [PyData.shown] using z
      obtain ⟨bs, h1, h2⟩ := DqAll.repr I ds _ its ha rv (by simpa [PyData.showable] using w) fun t ht => Nat.le_trans (tupleText_mem_le ht) z
      refine ⟨_ :: bs, ReadAtMost.cons rd (Nat.le_succ (PyData.depthAll ds)) h1, ?_⟩
      rw [PyData.depth, PyData.shown]
      exact ReprK.tuple o1 o2 o3 (not_mem_of_deeper rd (n := PyData.depthAll ds) (Nat.lt_succ_self _) h1) h2
  | .none, v, u, h, r, w, z => let ⟨_, rd, _⟩ := Dq.reads I _ v u h r; ReprK.of_reads rd w (fun x => by cases x) z
  | .bool _, v, u, h, r, w, z => let ⟨_, rd, _⟩ := Dq.reads I _ v u h r; ReprK.of_reads rd w (fun x => by cases x) z
  | .int _, v, u, h, r, w, z => let ⟨_, rd, _⟩ := Dq.reads I _ v u h r; ReprK.of_reads rd w (fun x => by cases x) z
  | .str _, v, u, h, r, w, z => let ⟨_, rd, _⟩ := Dq.reads I _ v u h r; ReprK.of_reads rd w (fun x => by cases x) z
  | .dict _, v, u, h, r, w, z => let ⟨_, rd, sm⟩ := Dq.reads I _ v u h r; ReprK.of_reads rd w (fun _ => sm rfl) z
theorem DqAll.repr (I : Inv X pins σ H s) : ∀ (ds : List PyData) (vs : List V) (us : List Value), DqAll H vs ds → Vals vs us → PyData.showableAll ds = true → (∀ t ∈ PyData.shownAll ds, t.length ≤ sizeLine) →
    ∃ bs, ReadAtMost s.heap (PyData.depthAll ds) bs ∧ ReprAllK X.prog X.w bs s.heap (PyData.depthAll ds) us (PyData.shownAll ds)
  | [], _, _, h, r, _, _ => by
    cases h
    cases r
    exact ⟨[], (fun _ x => nomatch x), ReprAllK.nil⟩
  | d :: ds, _, _, h, r, w, z => by
    cases h with
    | cons h1 h2 =>
      cases r with
      | cons r1 r2 =>
        have w' := Bool.and_eq_true_iff.mp (show (d.showable && PyData.showableAll ds) = true from w)
        obtain ⟨b1, k1, j1⟩ := Dq.repr I d _ _ h1 r1 w'.1 (z _ (.head _))
        obtain ⟨b2, k2, j2⟩ := DqAll.repr I ds _ _ h2 r2 w'.2 fun t ht => z t (.tail _ ht)
        refine ⟨b1 ++ b2, most_two k1 k2, .cons ((j1.more fun b hb => ?_).level_le (Nat.le_max_left _ _)) (j2.more_le (fun b hb => ?_) (Nat.le_max_right _ _))⟩
        · exact List.mem_append_left b2 hb
        · exact List.mem_append_right b1 hb
end
end
/-- what the text of data needs -/
structure Seen (d : PyData) : Prop where
  w : d.showable = true
  z : d.shown.length ≤ 4000000
  p : d.depth ≤ 20
/-- repr of a list with items -/
def rRepL : List V → Hp → VK → Prop := fun xs H Q => ∃ (q : Addr) (v : V) (vs : List V) (d : PyData) (ds : List PyData), xs = [.ref q] ∧ H q = some (.lst (v :: vs)) ∧ DqAll H (v :: vs) (d :: ds) ∧ Seen (.list (d :: ds)) ∧ Q (.str (PyData.list (d :: ds)).shown) H
theorem call_repL {X : Cx} (hG : X.A.guards = some []) (hu : X.A.units + 64 < cLine) : CallR X (.builtin "repr") rRepL := by
  intro pins s σ H xs us Q I r h
  obtain ⟨q, v, vs, d, ds, rfl, hq, hd, S, k⟩ := h
  obtain ⟨u, rfl, ru⟩ := vals1 r
  cases (show u = Value.ref q from ru)
  obtain ⟨as, rd, _⟩ := Dq.reads I (.list (d :: ds)) (.ref q) (.ref q) (.lst hq hd) rfl
  obtain ⟨_, its, n, rv, ho⟩ := I.hok _ _ hq
  cases rv with
  | cons r1 rv =>
    rename_i u1 us1
    have zz : (PyData.list (d :: ds)).shown.length ≤ sizeLine := Nat.le_trans S.z (by rw [sizeLine_eq]; omega)
    have z : (listText (PyData.shownAll (d :: ds))).length ≤ sizeLine := by simpa only [PyData.shown] using zz
    obtain ⟨bs, h1, h2⟩ := DqAll.repr I (d :: ds) _ (u1 :: us1) hd (.cons r1 rv) (by simpa [PyData.showable] using S.w) fun t ht => Nat.le_trans (listText_mem_le ht) z
    have out := not_mem_of_deeper rd (n := PyData.depthAll (d :: ds)) (Nat.lt_succ_self _) h1
    have dp : PyData.depthAll (d :: ds) + 1 ≤ 20 := S.p
    refine call_repr_slot (T := "list") (idr := "list.__repr__") (by omega) ⟨_, ho, rfl⟩ F.slot_list_repr.toG ?_
    refine call_list_reprK (ts := PyData.shownAll (d :: ds)) (d := PyData.depthAll (d :: ds)) ho rfl rfl out (h2.length_eq.trans (by simp)) (fun i y e => h2.item i y (by simpa using e)) (g := []) hG (fun b _ => Clear.nil b) (by show X.A.units + 1 + (PyData.depthAll (d :: ds) + 1) < cLine; omega) (fun b o e => e) (fun h' u tk hk => ⟨_, _, rfl, .str _, H, I.kept hk, ⟨u, by simp only [PyData.shown]⟩, k⟩) z
end KL
set_option Elab.async false
set_option linter.all false
set_option maxRecDepth 100000
set_option maxHeartbeats 4000000
namespace KL
open PySem L2 PySem.KX PySem.Spec PyProof.Rows
/-- C(..), where __init__ may raise: what is wished of that may hang on the slots -/
def tMkS (C : Addr) (sp : Sp) (E : L2.St → XK) (g : List V → List V) (t : TA) : TE := fun σ H Q => t σ H fun vs H1 => ∀ x dx, H1 x = none → H1 dx = none → dx ≠ x → sp (.ref x :: g vs) (upd (upd H1 dx (.own x)) x (.ins C dx [])) (fun v H2 => v = .non ∧ Q (.ref x) H2) (E σ)
/-- C(k = v, ..), the keywords in the other order -/
def tMkKS (C : Addr) (n : Nat) (sp : Sp) (E : L2.St → XK) (t : TA) : TE := fun σ H Q => t σ H fun zs H1 => zs.length = n ∧ ∀ x dx, H1 x = none → H1 dx = none → dx ≠ x → sp (.ref x :: zs.reverse) (upd (upd H1 dx (.own x)) x (.ins C dx [])) (fun v H2 => v = .non ∧ Q (.ref x) H2) (E σ)
theorem vals_rev : ∀ {vs : List V} {us : List Value}, Vals vs us → Vals vs.reverse us.reverse
  | [], _, h => by
    cases h
    exact .nil
  | v :: vs, _, h => by
    cases h with
    | cons r rs =>
      rw [List.reverse_cons, List.reverse_cons]
      exact (vals_rev rs).append (.cons r .nil)
section
variable {X : Cx} {CX : CXT} {k : Nat} {f C : Addr} {fd : FuncData} {ps ks : List Str} {sp : Sp} {E : XK} {x : Str} {p pos : Pos} {e : Expr} {es : List Expr} {kws : List Keyword} {t : TA}
theorem run_mkS {pins : List (Addr × Obj)} {σ : L2.St} {H : Hp} {s : Shared} {Q : VK} {us bs : List Value} {vs : List V} {kw : List (Str × Value)} (M : Mk X.K C f) (F : FnOk X.prog X.w X.K X.mg X.base CX k f fd ps sp) (hr : Room (k + 1) X.A)
    (hb : ∀ (s2 : Shared) (a : Addr), X.K.In s2.heap → BindsTo s2 fd ⟨.ref a :: us, kw⟩ (ps.zip (.ref a :: bs))) (hx : PassesAt CX X σ E) (I : Inv X pins σ H s) (r : Vals vs bs)
    (h : ∀ x dx, H x = none → H dx = none → dx ≠ x → sp (.ref x :: vs) (upd (upd H dx (.own x)) x (.ins C dx [])) (fun v H2 => v = .non ∧ Q (.ref x) H2) E) : wpAny (model X.prog X.w) X.A (call (.ref C) us kw) (EP X pins σ Q) X.xe s := by
  have I2 := Inv.made (C := C) I
  have q := h (s.heap.objs.size + 1) s.heap.objs.size (I.hok.fresh (Nat.le_succ _)) (I.hok.fresh (Nat.le_refl _)) (Nat.ne_of_lt (Nat.lt_succ_self _))
  refine wpAny_call (make_map (f := f) I.kIn M.makes M.init (beq_iff_eq.mp M.fn) (codeAny_mono (F.run _ X.stack _ _ _ _ _ _ E (hr.make C us kw) (I2.env0.make C us kw) (hb _ _ I2.kIn) (show Vals (V.ref (s.heap.objs.size + 1) :: vs) (Value.ref (s.heap.objs.size + 1) :: bs) from .cons rfl r) q) fun res s2 y => ?_))
  match res, y with
  | .error er, y => exact hx pins _ _ er s2 I2 y
  | .ok (.ret u), y =>
    obtain ⟨v, H3, I3, rv, ev, q3⟩ := I2.after y
    subst ev
    exact ⟨rv, V.ref (s.heap.objs.size + 1), H3, I3, rfl, q3⟩
  | .ok .next, y => exact False.elim y
  | .ok .brk, y => exact False.elim y
  | .ok .cont, y => exact False.elim y
theorem pe_mkS {E : L2.St → XK} (M : Mk X.K C f) (F : FnOk X.prog X.w X.K X.mg X.base CX k f fd ps sp) (hr : Room (k + 1) X.A) (hg : Gl X x) (hm : X.mg x = some (.ref C)) (hb : L2.Binds X.K fd ps []) (hx : ∀ σ, PassesAt CX X σ (E σ)) (ha : PA X (e :: es) t)
    (hdb : (x == ("__debug__" : Str)) = false := by decide) (he : starEach (e :: es) X.env = (false, eval e X.env) :: starEach es X.env := by rfl) (hpl : (backTo pos (starEach es X.env)).any (·.1) = false := by rfl) :
    PE X (.Call (.Name x p) (e :: es) [] pos) (tMkS C sp E id t) := by
  refine ⟨fun pins s σ H Q I h => wpAny_Call_Name_kw (ld_glob I hg hm ?_ hdb)⟩
  refine PySem.W.callWith_K (h₀ := X.base) I.ok.mod.kin M.kp (thn (ha.run pos pins s σ H _ I h) fun us s1 ⟨vs, H1, I1, r, q⟩ => ⟨I1.kIn, ?_⟩) he hpl
  have ln : us.length + 1 = ps.length := by
    have z := F.len _ _ _ _ (q (s1.heap.objs.size + 1) s1.heap.objs.size (I1.hok.fresh (Nat.le_succ _)) (I1.hok.fresh (Nat.le_refl _)) (Nat.ne_of_lt (Nat.lt_succ_self _)))
    rw [← z, ← r.length]
    rfl
  refine run_mkS (bs := us) M F hr (fun s2 a K2 => ?_) (hx σ) I1 r q
  have b := hb s2 (.ref a :: us) K2 (by rw [List.append_nil]; exact ln)
  rwa [List.append_nil] at b
theorem pe_mkKS {E : L2.St → XK} (M : Mk X.K C f) (F : FnOk X.prog X.w X.K X.mg X.base CX k f fd ps sp) (hr : Room (k + 1) X.A) (hg : Gl X x) (hm : X.mg x = some (.ref C))
    (hb : ∀ (s2 : Shared) (a : Addr) (ws : List Value), X.K.In s2.heap → ws.length = ks.length → BindsTo s2 fd ⟨[.ref a], ks.zip ws⟩ (ps.zip (.ref a :: ws.reverse))) (hx : ∀ σ, PassesAt CX X σ (E σ)) (hkw : PK X kws t)
    (hall : (backToKw pos (keywordEach kws X.env)).all (·.1.isSome) = true := by rfl) (hks : (backToKw pos (keywordEach kws X.env)).filterMap (·.1) = ks := by rfl) (hdb : (x == ("__debug__" : Str)) = false := by decide)
    (hpl : ((backTo pos (starEach [] X.env)).any (·.1) || (backToKw pos (keywordEach kws X.env)).any (·.1.isNone)) = false := by rfl) : PE X (.Call (.Name x p) [] kws pos) (tMkKS C ks.length sp E t) := by
  refine ⟨fun pins s σ H Q I hq => wpAny_Call_Name_kw (ld_glob I hg hm ?_ hdb)⟩
  refine PySem.W.callWith_KW0 (h₀ := X.base) I.ok.mod.kin M.kp hall (thn (hkw.run pos pins s σ H _ I hq) fun ws s2 ⟨zs, H2, I2, rz, lz, q⟩ => ⟨I2.kIn, ?_⟩) hpl
  rw [hks]
  exact run_mkS (us := []) M F hr (fun s3 a K3 => hb s3 a ws K3 (rz.length.symm.trans lz)) (hx σ) I2 (vals_rev rz) q
end
end KL
set_option Elab.async false
set_option linter.all false
set_option maxRecDepth 100000
set_option maxHeartbeats 4000000
namespace KL
open PySem L2 PySem.Spec PyProof.Rows
/-! ### o.m(k=v) -/
def tMthK (C : Addr) (m : Str) (sp : Sp) (gV : List V → List V → List V) (E : XK) (ta : TE) (tk : TA) : TE := fun σ H Q => ta σ H fun x H1 => ∃ a dx fs, x = .ref a ∧ H1 a = some (.ins C dx fs) ∧ fs.lookup m = none ∧ tk σ H1 fun zs H2 => sp (gV [x] zs) H2 Q E
theorem pe_methK0 {X : Cx} {CX : CXT} {k : Nat} {f C : Addr} {fd : FuncData} {ps ks : List Str} {sp : Sp} {E : XK} {o : Expr} {m : Str} {apos pos : Pos} {kws : List Keyword} {ta : TE} {tk : TA} {g : List Value → List Value → List Value} {gV : List V → List V → List V} {pl : Sem Bool}
    (he : PE X o ta) (c : Cls X.K C) (hm : Meth X.K C m f) (F : FnOk X.prog X.w X.K X.mg X.base CX k f fd ps sp) (hr : Room k X.A) (hb : KBinds X.K fd ps ks g gV) (hx : Passes CX X E) (hkw : PK X kws tk)
    (hall : (backToKw pos (keywordEach kws X.env)).all (·.1.isSome) = true := by rfl) (hks : (backToKw pos (keywordEach kws X.env)).filterMap (·.1) = ks := by rfl)
    (hpl : ((backTo pos (starEach [] X.env)).any (·.1) || (backToKw pos (keywordEach kws X.env)).any (·.1.isNone)) = false := by rfl)
    (ht : eval (.Call (.Attribute o m apos) [] kws pos) X.env = (do
      let ov ← eval o X.env
      standAt apos.atName
      let (f, first) ← holding [ov] (getMethod ov m pl)
      callWith pos f first (backTo pos (starEach [] X.env)) (backToKw pos (keywordEach kws X.env))) := by rfl) :
    PE X (.Call (.Attribute o m apos) [] kws pos) (tMthK C m sp gV E ta tk) := by
  refine ⟨fun pins s σ H Q I h => ?_⟩
  refine PySem.W.methodCall_KW (pl := pl) (thn (he.run pins s σ H _ I h) fun u s1 ⟨x, H1, I1, rx, a, dx, fs, ex, ea, l, q⟩ => ?_) ht
  subst ex
  obtain rfl : u = Value.ref a := rx
  refine getmeth_ok I1 ea c hm l ?_
  refine PySem.W.callWith_KW0 (first := [.ref a]) (h₀ := X.base) I.ok.mod.kin hm.kp hall (thn (hkw.run pos pins s1 σ H1 _ I1 q) fun ws s2 ⟨zs, H2, I2, rz, q2⟩ => ⟨I2.kIn, ?_⟩) hpl
  rw [hks]
  exact run_fnk (us := [.ref a]) (vs := [.ref a]) F hr hb hx I2 (.cons rfl .nil) rz q2
/-- repr of a tuple -/
def rRepT : List V → Hp → VK → Prop := fun xs H Q => ∃ (q : Addr) (vs : List V) (ds : List PyData), xs = [.ref q] ∧ H q = some (.tup vs) ∧ DqAll H vs ds ∧ Seen (.tuple ds) ∧ Q (.str (PyData.tuple ds).shown) H
theorem call_repT {X : Cx} (hG : X.A.guards = some []) (hu : X.A.units + 64 < cLine) : CallR X (.builtin "repr") rRepT := by
  intro pins s σ H xs us Q I r h
  obtain ⟨q, vs, ds, rfl, hq, hd, S, k⟩ := h
  obtain ⟨u, rfl, ru⟩ := vals1 r
  cases (show u = Value.ref q from ru)
  obtain ⟨as, rd, _⟩ := Dq.reads I (.tuple ds) (.ref q) (.ref q) (.tup hq hd) rfl
  obtain ⟨_, its, rv, o, o1, o2, n, o3⟩ := I.hok _ _ hq
  have zz : (PyData.tuple ds).shown.length ≤ sizeLine := Nat.le_trans S.z (by rw [sizeLine_eq]; omega)
  have z : (tupleText (PyData.shownAll ds)).length ≤ sizeLine := by simpa only [PyData.shown] using zz
  obtain ⟨bs, h1, h2⟩ := DqAll.repr I ds _ its hd rv (by simpa [PyData.showable] using S.w) fun t ht => Nat.le_trans (tupleText_mem_le ht) z
  have out := not_mem_of_deeper rd (n := PyData.depthAll ds) (Nat.lt_succ_self _) h1
  have dp : PyData.depthAll ds + 1 ≤ 20 := S.p
  refine call_repr_slot (T := "tuple") (idr := "tuple.__repr__") (by omega) ⟨_, o1, o2⟩ F.slot_tuple_repr ?_
  exact call_tuple_reprK (ts := PyData.shownAll ds) (d := PyData.depthAll ds) o1 o2 o3 out h2 (g := []) hG (fun b _ => Clear.nil b) (by show X.A.units + 1 + (PyData.depthAll ds + 1) < cLine; omega) (fun b o e => e) (fun h' u tk hk => ⟨_, _, rfl, .str _, H, I.kept hk, ⟨u, by simp only [PyData.shown]⟩, k⟩) z
end KL
set_option Elab.async false
set_option linter.all false
set_option maxRecDepth 100000
set_option maxHeartbeats 2000000
namespace KL
open PySem L2 PySem.Spec PyProof.Rows
mutual
/-- how long the text of data is at most -/
def wt : PyData → Nat
  | .none => 4
  | .bool _ => 5
  | .int i => i.natAbs.log2 + 2
  | .str x => 10 * x.length + 2
  | .list ds => wtAll ds + 2
  | .tuple ds => wtAll ds + 3
  | .dict kvs => (PyData.dict kvs).shown.length
def wtAll : List PyData → Nat
  | [] => 0
  | d :: r => wt d + 2 + wtAll r
end
mutual
/-- how wide data is at its widest -/
def wd : PyData → Nat
  | .none => 0
  | .bool _ => 0
  | .int i => i.natAbs.log2
  | .str x => x.length
  | .list ds => max ds.length (wdAll ds)
  | .tuple ds => max ds.length (wdAll ds)
  | .dict kvs => if kvs = [] then 0 else 2000
def wdAll : List PyData → Nat
  | [] => 0
  | d :: r => max (wd d) (wdAll r)
end
def txS (x : Str) : Bool := x.cps.toList.all fun c => decide (c < 128)
mutual
/-- plain signs alone -/
def txD : PyData → Bool
  | .str x => txS x
  | .list ds => txAll ds
  | .tuple ds => txAll ds
  | _ => true
def txAll : List PyData → Bool
  | [] => true
  | d :: r => txD d && txAll r
end
theorem list_len (ts : List Str) : (listText ts).length ≤ piled ts + 2 := by
  cases ts with
  | nil => decide +kernel
  | cons t r =>
    have h := textFrom_length_pos r 1 (("[" : Str) ++ (if (0 : Nat) > 0 then ", " else "" : String) ++ t) Nat.one_pos
    have e : (("[" : Str) ++ (if (0 : Nat) > 0 then ", " else "" : String) ++ t).length = 1 + t.length := by
      rw [strLen_append, strLen_append]
      rfl
    have x : (listText (t :: r)).length = (textFrom 1 (("[" : Str) ++ (if (0 : Nat) > 0 then ", " else "" : String) ++ t) r).length + 1 := by
      show (textFrom 0 "[" (t :: r) ++ "]").length = _
      rw [strLen_append]
      rfl
    rw [x, h, e, piled_cons]
    omega
theorem tup_tlen (ts : List Str) : (tupleText ts).length ≤ piled ts + 3 := by
  unfold tupleText
  rw [strLen_append, strLen_append]
  have a : (("(" : Str)).length = 1 := rfl
  have b : ((if (ts.length == 1) = true then ",)" else ")" : String) : Str).length ≤ 2 := by
    split
    · decide +kernel
    · decide +kernel
  have c : (Str.join ", " ts).length ≤ piled ts := by
    cases ts with
    | nil => decide +kernel
    | cons t r =>
      have := join_length_add (t :: r) (by simp)
      omega
  omega
mutual
theorem shown_wt : ∀ (d : PyData), txD d = true → d.shown.length ≤ wt d
  | .none, _ => by decide +kernel
  | .bool b, _ => by cases b <;> decide +kernel
  | .int i, _ => by
    have e := int_text_length_le (a := i) (k := i.natAbs.log2 + 1) (Nat.succ_pos _) (Nat.lt_succ_self _)
    rw [PyData.shown]
    show (Str.ofString (toString i)).length ≤ i.natAbs.log2 + 2
    rw [PySem.ofString_length]
    exact e
  | .str x, h => by
    rw [PyData.shown]
    refine StrLaws.reprText_len x fun c hc => ?_
    have := of_decide_eq_true (List.all_eq_true.mp (show x.cps.toList.all (fun c => decide (c < 128)) = true from h) c hc)
    exact Nat.lt_trans this (by decide)
  | .list ds, h => by
    rw [PyData.shown]
    exact Nat.le_trans (list_len _) (Nat.add_le_add_right (shown_all ds h) 2)
  | .tuple ds, h => by
    rw [PyData.shown]
    exact Nat.le_trans (tup_tlen _) (Nat.add_le_add_right (shown_all ds h) 3)
  | .dict kvs, _ => Nat.le_refl _
theorem shown_all : ∀ (ds : List PyData), txAll ds = true → piled (PyData.shownAll ds) ≤ wtAll ds
  | [], _ => Nat.le_refl _
  | d :: ds, h => by
    have h' := Bool.and_eq_true_iff.mp (show (txD d && txAll ds) = true from h)
    rw [PyData.shownAll, piled_cons]
    have q1 := shown_wt d h'.1
    have q2 := shown_all ds h'.2
    show _ ≤ wt d + 2 + wtAll ds
    omega
end
mutual
theorem sm_wd : ∀ (d : PyData), wd d ≤ 1000 → smB d = true ∧ d.showable = true
  | .none, _ => ⟨rfl, rfl⟩
  | .bool _, _ => ⟨rfl, rfl⟩
  | .int i, h => by
    have h : i.natAbs.log2 ≤ 1000 := h
    exact ⟨decide_eq_true (by omega), decide_eq_true (by omega)⟩
  | .str x, h => ⟨decide_eq_true h, rfl⟩
  | .list ds, h => by
    have h : max ds.length (wdAll ds) ≤ 1000 := h
    obtain ⟨q1, q2⟩ := sm_wdAll ds (by omega)
    refine ⟨?_, q2⟩
    show (decide (ds.length ≤ 1000) && smAll ds) = true
    rw [q1, decide_eq_true (by omega)]
    rfl
  | .tuple ds, h => by
    have h : max ds.length (wdAll ds) ≤ 1000 := h
    obtain ⟨q1, q2⟩ := sm_wdAll ds (by omega)
    refine ⟨?_, q2⟩
    show (decide (ds.length ≤ 1000) && smAll ds) = true
    rw [q1, decide_eq_true (by omega)]
    rfl
  | .dict kvs, h => by
    have h : (if kvs = [] then 0 else 2000) ≤ 1000 := h
    by_cases e : kvs = []
    · subst e
      exact ⟨rfl, rfl⟩
    · rw [if_neg e] at h
      omega
theorem sm_wdAll : ∀ (ds : List PyData), wdAll ds ≤ 1000 → smAll ds = true ∧ PyData.showableAll ds = true
  | [], _ => ⟨rfl, rfl⟩
  | d :: ds, h => by
    have h : max (wd d) (wdAll ds) ≤ 1000 := h
    obtain ⟨a1, a2⟩ := sm_wd d (by omega)
    obtain ⟨b1, b2⟩ := sm_wdAll ds (by omega)
    refine ⟨?_, ?_⟩
    · show (smB d && smAll ds) = true
      rw [a1, b1]
      rfl
    · show (d.showable && PyData.showableAll ds) = true
      rw [a2, b2]
      rfl
end
/-- data of a size -/
structure Gd (w p W : Nat) (d : PyData) : Prop where
  wd : wd d ≤ w
  dp : d.depth ≤ p
  wt : wt d ≤ W
  tx : txD d = true
theorem Gd.mono {w p W w' p' W' : Nat} {d : PyData} (h : Gd w p W d) (h1 : w ≤ w') (h2 : p ≤ p') (h3 : W ≤ W') : Gd w' p' W' d := ⟨Nat.le_trans h.wd h1, Nat.le_trans h.dp h2, Nat.le_trans h.wt h3, h.tx⟩
end KL
set_option Elab.async false
set_option linter.all false
set_option maxRecDepth 100000
set_option maxHeartbeats 4000000
namespace KL
open PySem L2 PySem.KX PySem.Spec PyProof.Rows
def inClass (st : Stmt) (i : Nat) : Stmt := match st with
  | .ClassDef (body := b) .. => b.getD i (.Pass ⟨0, 0, 0, 0⟩)
  | _ => .Pass ⟨0, 0, 0, 0⟩
/-- a suite that nothing comes to -/
theorem pss_dead {X : Cx} {st : List Stmt} : PSs X st (fun _ _ _ => False) := ⟨fun _ _ _ _ _ _ h => h.elim⟩
/-- a def that may raise -/
theorem fnX {P : Program} {w : World} {K : PySem.W.Frag} {mg : Str → Option Value} {base : Heap} {x qual : Str} {st : Stmt} {f : Addr} {fd : FuncData} {N ps : List Str} {k : Nat} {sp : Sp} (F : Fun K x qual st f fd) (S : FnScope N ps (defScope st)) (len : ∀ vs H Q E, sp vs H Q E → vs.length = ps.length)
    (hbody : ∀ (cdv : Value) (A : Around) (outer : List Env) (s : Shared) (H : Hp) (vs : List V) (Q : VK) (E : XK), Room k (A.deeper (envOfC qual (defScope st) s.heap.objs.size f cdv)) → sp vs H Q E →
      Takes (cxOf (L2.CX P w) P w K mg base N qual (defScope st) f cdv A outer s H E) (fun cls d _ H' => E cls d H') →
      PassesOwn (model P w) (A.deeper (envOfC qual (defScope st) s.heap.objs.size f cdv)) (envOfC qual (defScope st) s.heap.objs.size f cdv) (cxOf (L2.CX P w) P w K mg base N qual (defScope st) f cdv A outer s H E).xe →
      ∃ t, PSs (cxOf (L2.CX P w) P w K mg base N qual (defScope st) f cdv A outer s H E) (defBody st) t ∧ t { nx := fun _ H' => Q .non H', rt := Q } (start N vs) H) : FnOk P w K mg base (L2.CX P w) (k + 1) f fd ps sp := by
  obtain ⟨oc, od, kV, doc, pm, an, cdv, ct, osl, rfl, lk, hcd⟩ := F.ex
  exact fn_of lk hcd S len fun A outer s H vs Q E hr hs => hbody cdv A outer s H vs Q E hr hs (takes_of rfl rfl rfl rfl) (passes_of rfl)
end KL
set_option Elab.async false
set_option linter.all false
set_option maxRecDepth 100000
set_option maxHeartbeats 4000000
namespace KL
open PySem L2 PySem.Spec PyProof.Rows
/-! ### == and != of an instance with an own __eq__, the other thing anything -/
section
variable {X : Cx} {pins : List (Addr × Obj)} {σ : L2.St} {H : Hp} {s : Shared}
theorem ty_looks {y : V} {u t : Value} (I : Inv X pins σ H s) (ry : RelV y u) (ty : TyOf X.K H y t) : PySem.W.Looks (model X.prog X.w) s.heap (typeOf u) t := by
  have at_ : ∀ {a : Addr} {o : Obj} {T : String}, s.heap.get? a = some o → o.cls = .type T → PySem.W.Looks (model X.prog X.w) s.heap (typeOf (.ref a)) (.type T) := fun ho hc A Q E s' k q => wpAny_typeOf ⟨_, k _ _ ho, hc⟩ q
  cases ty with
  | non => cases ry; exact .of_pure rfl
  | bl b => cases ry; exact .of_pure rfl
  | int i => obtain ⟨tk, rfl⟩ := ry; exact .of_pure rfl
  | str x => obtain ⟨tk, rfl⟩ := ry; exact .of_pure rfl
  | flt x => obtain ⟨tk, rfl⟩ := ry; exact .of_pure rfl
  | lst e =>
    cases ry
    obtain ⟨_, _, n, _, h1⟩ := I.hok _ _ e
    exact at_ h1 rfl
  | frz e =>
    cases ry
    obtain ⟨_, _, _, n, _, h1⟩ := I.hok _ _ e
    exact at_ h1 rfl
  | tup e =>
    cases ry
    obtain ⟨_, _, _, o, h1, h2, _⟩ := I.hok _ _ e
    exact at_ h1 h2
  | dK e =>
    cases ry
    obtain ⟨_, _, vs, _, o, es, ep, h1, h2, _⟩ := I.hok _ _ e
    exact at_ h1 h2.1
  | dT e =>
    cases ry
    obtain ⟨_, _, xs, _, o, es, ep, h1, h2, _⟩ := I.hok _ _ e
    exact at_ h1 h2.1
  | ins e _ _ _ _ _ =>
    cases ry
    obtain ⟨mA, O, _⟩ := ins_get I.hok e
    obtain ⟨od, J, _⟩ := O.look
    exact J.type
/-- none of these types is below a class of the text -/
theorem not_below {K : PySem.W.Frag} {C : Addr} {T : String} (h : T = "NoneType" ∨ T = "bool" ∨ T = "int" ∨ T = "str" ∨ T = "list" ∨ T = "tuple" ∨ T = "dict") : PySem.W.subIn K (.type T) (.ref C) = some false := by
  have go : ∀ {l : List Value}, fastBuiltinMro T = some l → l.contains (Value.ref C) = false → PySem.W.subIn K (.type T) (.ref C) = some false := fun {l} e n => by
    show (fastBuiltinMro T).map (·.contains (.ref C)) = some false
    rw [e, Option.map_some, n]
  rcases h with rfl | rfl | rfl | rfl | rfl | rfl | rfl
  · exact go (l := [.type "NoneType", .type "object"]) (by decide +kernel) (by simp)
  · exact go (l := [.type "bool", .type "int", .type "object"]) (by decide +kernel) (by simp)
  · exact go (l := [.type "int", .type "object"]) (by decide +kernel) (by simp)
  · exact go (l := [.type "str", .type "object"]) (by decide +kernel) (by simp)
  · exact go (l := [.type "list", .type "object"]) (by decide +kernel) (by simp)
  · exact go (l := [.type "tuple", .type "object"]) (by decide +kernel) (by simp)
  · exact go (l := [.type "dict", .type "object"]) (by decide +kernel) (by simp)
/-- the other thing is of such a type, or an instance of the same class -/
def Other (K : PySem.W.Frag) (C : Addr) (H : Hp) (y : V) : Prop := ∃ t, TyOf K H y t ∧ (t = .ref C ∨ ∃ T, t = .type T ∧ (T = "NoneType" ∨ T = "bool" ∨ T = "int" ∨ T = "str" ∨ T = "list" ∨ T = "tuple" ∨ T = "dict"))
theorem not_first {K : PySem.W.Frag} {C : Addr} {t : Value} (h : t = .ref C ∨ ∃ T, t = .type T ∧ (T = "NoneType" ∨ T = "bool" ∨ T = "int" ∨ T = "str" ∨ T = "list" ∨ T = "tuple" ∨ T = "dict")) : PySem.W.notFirst K C t = true := by
  unfold PySem.W.notFirst
  rcases h with rfl | ⟨T, rfl, h⟩
  · simp
  · rw [not_below h]
    simp
variable {CX : CXT} {n : Nat} {C f : Addr} {fd : FuncData} {ps : List Str} {sp : Sp} {E : XK}
theorem own_call (F : FnOk X.prog X.w X.K X.mg X.base CX n f fd ps sp) (hb : L2.Binds X.K fd ps []) (hx : Passes CX X E) {A : Around} (sb : Sub X n A) (I : Inv X pins σ H s) {us : List Value} {vs : List V} {Q : VK} (r : Vals vs us) (h : sp vs H Q E) :
    wpAny (model X.prog X.w) A (call (.ref f) us) (EP X pins σ Q) X.xe s := by
  have e0 : Env0 X.prog X.w X.K X.mg X.base A X.stack s H := by
    have e := I.env0
    exact ⟨by rw [sb.fr]; exact e.frames, e.mod, e.bs, e.bsz, e.funs, e.frf, e.hok, e.bare⟩
  have hl := F.len _ _ _ _ h
  have b := hb s us I.kIn (by rw [List.append_nil, ← hl]; exact r.length.symm)
  rw [List.append_nil] at b
  refine wpAny_call (codeAny_mono (F.run A X.stack s H ⟨us, []⟩ us vs _ E sb.room e0 b r h) fun r s' hq => ?_)
  cases r with
  | error e => exact hx pins σ H s e s' I hq
  | ok fl =>
    cases fl with
    | ret w => exact I.after hq
    | next => exact False.elim hq
    | brk => exact False.elim hq
    | cont => exact False.elim hq
/-- what == and != ask -/
def rOwn (neg : Bool) (K : PySem.W.Frag) (C : Addr) (sp : Sp) (E : XK) : R2 := fun x y H Q => ∃ a dx fs, x = .ref a ∧ H a = some (.ins C dx fs) ∧ Other K C H y ∧ sp [.ref a, y] H (fun v H' => ∃ b, v = .bl b ∧ Q (.bl (if neg = true then !b else b)) H') E
theorem op_eqOwn (F : FnOk X.prog X.w X.K X.mg X.base CX n f fd ps sp) (hs : PySem.W.findIn X.K (.ref C) "__eq__" = some (some (.ref f))) (hf : PySem.W.isFn X.K (.ref f) = true) (hb : L2.Binds X.K fd ps []) (hx : Passes CX X E) (hr : Room n X.A) : OpR X (compareOp .Eq) (rOwn false X.K C sp E) := by
  intro pins s σ H x y v u Q I rx ry h
  obtain ⟨a, dx, fs, rfl, ha, ⟨t, ty, ht⟩, h⟩ := h
  cases rx
  obtain ⟨mA, J, _⟩ := ins_get I.hok ha
  obtain ⟨od, J, _⟩ := J.look
  obtain ⟨m, hF⟩ := I.fr
  show wpAny (model X.prog X.w) X.A (richCompare .Eq (.ref a) u) (EP X pins σ Q) X.xe s
  refine PySem.W.cmp_K (op := .Eq) (tb := t) hr.units0 hF I.ok.mod.kin J (ty_looks I ry ty) (not_first ht) hs hf (wpAny_mono (own_call F hb hx (A := X.A) ⟨hr, rfl⟩ I (us := [.ref a, u]) (vs := [V.ref a, y]) (.cons (show RelV (V.ref a) (Value.ref a) from rfl) (.cons ry .nil)) h) (fun r s' z => ?_) fun _ _ e => e)
  obtain ⟨z, H', I', rz, b, rfl, q⟩ := z
  cases rz
  exact ⟨.bl b, H', I', rfl, q⟩
end
end KL
set_option Elab.async false
set_option linter.all false
set_option maxRecDepth 100000
set_option maxHeartbeats 4000000
namespace KL
open PySem L2 PySem.Spec PyProof.Rows
section
variable {prog : Program} {w : World} {A : Around} {E : Value → Shared → Prop} {s : Shared} {K : PySem.W.Frag} {x C L f : Addr} {h₀ : Heap} {m : Str → Option Value} {ox : Obj} {od : Option Obj} {b tb : Value}
theorem ne_entry (X : K.In s.heap) (I : PySem.W.InstAt s.heap x ox C od) (he : PySem.W.findIn K (.ref C) "__eq__" = some (some (.ref f))) (hf : PySem.W.isFn K (.ref f) = true) (hu : A.units < cLine) {Q : Fin → Shared → Prop}
    (h : wpAny (model prog w) A (call (.ref f) [.ref x, b]) (fun v s' => ∃ c, v = .bool c ∧ Q (.done (.ret (.bool (!c)))) s') E s) :
    wpAny (model prog w) A (Builtin.«object.__ne__» ⟨[.ref x, b], []⟩) Q E s := by
  unfold Builtin.«object.__ne__»
  repeat (first
    | with_reducible refine wpAny_cRoomFor hu ?_
    | (refine wpAny_bind (m := callSpecialIfBound? (.ref x) (Str.ofString "__eq__") [b])
        (PySem.W.ifBound_K X I he hf (wpAny_mono h (fun r s' hr => by
          obtain ⟨c, rfl, hq⟩ := hr
          repeat (first | exact hq | exact wpAny_pure hq | exact wpAny_truthy_bool hq | (refine wpAny_bind (m := truthy (.bool _)) (wpAny_truthy_bool ?_)) | wp_step)) fun _ _ e => e)))
    | wp_step)
theorem ne_bound {args : List Value} {Q : Option Value → Shared → Prop} (X : K.In s.heap) (I : PySem.W.InstAt s.heap x ox C od) (hs : PySem.W.findIn K (.ref C) "__ne__" = some (some (.builtin "object.__ne__")))
    (h : wpAny (model prog w) A (call (.builtin "object.__ne__") (.ref x :: args)) (fun v => Q (some v)) E s) : wpAny (model prog w) A (callSpecialIfBound? (.ref x) "__ne__" args) Q E s := by
  simp only [callSpecialIfBound?, bindSpecialIfBound?]
  refine wpAny_holding (wpAny_bind (wpAny_bind (wpAny_bind (I.type.here ((PySem.W.looks_findIn X hs).here ?_)))))
  refine wpAny_bind (wpAny_askSetting (wpAny_ite ?_))
  have fin : wpAny (model prog w) A (call (.builtin "object.__ne__") ([.ref x] ++ args) >>= fun v => pure (some v)) Q E s := wpAny_bind (wpAny_mono h (fun v s' h' => wpAny_pure h') fun _ _ h' => h')
  split
  · exact wpAny_bind (wpAny_of_eq (F.cmp_object.ne.bind _) (wpAny_pure (by exact fin)))
  · exact wpAny_tryCatch (wpAny_bind (wpAny_of_eq (F.cmp_object.ne.bind _) (wpAny_pure (by exact fin))))
theorem cmp_neK {Q : Value → Shared → Prop} (hu : A.units + 1 < cLine) (F : PyProof.Rows.Fr h₀ L s.heap m) (X₀ : K.In h₀) (I : PySem.W.InstAt s.heap x ox C od) (hb : PySem.W.Looks (model prog w) s.heap (typeOf b) tb) (hn : PySem.W.notFirst K C tb = true)
    (hs : PySem.W.findIn K (.ref C) "__ne__" = some (some (.builtin "object.__ne__"))) (hm : PySem.W.mroIn K C (.type "object") = some true)
    (he : PySem.W.findIn K (.ref C) "__eq__" = some (some (.ref f))) (hf : PySem.W.isFn K (.ref f) = true)
    (h : wpAny (model prog w) A.in1 (call (.ref f) [.ref x, b]) (fun v s' => ∃ c, v = .bool c ∧ Q (.bool (!c)) s') E s) : wpAny (model prog w) A (richCompare .NotEq (.ref x) b) Q E s := by
  have X := X₀.keeps F.keep
  have one : wpAny (model prog w) A (tryCompare (.ref x) "__ne__" b) (fun r s' => ∃ v, r = some v ∧ Q v s') E s := by
    unfold tryCompare
    refine wpAny_bind (ne_bound X I hs (wpAny_call (codeAny_call_builtin PySem.F.cmp_object.ne.plain PySem.F.cmpEntry_ne (PySem.W.check_slot PySem.F.cmpKind_ne PySem.F.cmpSplit_ne (I.type.andThen (PySem.W.looks_mroIn X hm)) (PySem.F.cmpArgs_ne _ _)
      (ne_entry (A := A.in1) X I he hf hu (wpAny_mono h (fun v s' hv => ?_) fun _ _ e => e))))))
    obtain ⟨c, rfl, hq⟩ := hv
    exact ⟨c, rfl, wpAny_pure ⟨_, rfl, hq⟩⟩
  unfold richCompare
  simp only [oneThing_ref]
  refine wpAny_holding (wpAny_bind (wpAny_cRoomFor (Nat.lt_of_succ_lt hu) ?_))
  rw [cmpInfo_NotEq]
  dsimp only
  refine wpAny_bind (I.type.here (wpAny_bind (hb.here ?_)))
  split
  · rename_i q
    have e : PySem.W.subIn K tb (.ref C) = some false := by
      rcases Bool.or_eq_true_iff.mp hn with e | e
      · rw [beq_iff_eq.mp e] at q; simp at q
      · exact beq_iff_eq.mp e
    refine wpAny_bind ((PySem.W.looks_subIn X e).here ?_)
    simp only [Bool.false_eq_true, if_false]
    refine wpAny_bind (wpAny_mono one (fun r s' z => ?_) fun _ _ e => e)
    obtain ⟨v, rfl, hq⟩ := z
    exact wpAny_pure hq
  · refine wpAny_bind (wpAny_pure ?_)
    simp only [Bool.false_eq_true, if_false]
    refine wpAny_bind (wpAny_mono one (fun r s' z => ?_) fun _ _ e => e)
    obtain ⟨v, rfl, hq⟩ := z
    exact wpAny_pure hq
end
section
variable {X : Cx} {pins : List (Addr × Obj)} {σ : L2.St} {H : Hp} {s : Shared} {CX : CXT} {n : Nat} {C f : Addr} {fd : FuncData} {ps : List Str} {sp : Sp} {E : XK}
theorem op_neOwn (F : FnOk X.prog X.w X.K X.mg X.base CX n f fd ps sp) (hs : PySem.W.findIn X.K (.ref C) "__eq__" = some (some (.ref f))) (hf : PySem.W.isFn X.K (.ref f) = true) (hb : L2.Binds X.K fd ps []) (hx : Passes CX X E)
    (hne : PySem.W.findIn X.K (.ref C) "__ne__" = some (some (.builtin "object.__ne__"))) (hm : PySem.W.mroIn X.K C (.type "object") = some true) (hr : Room (n + 1) X.A) : OpR X (compareOp .NotEq) (rOwn true X.K C sp E) := by
  intro pins s σ H x y v u Q I rx ry h
  obtain ⟨a, dx, fs, rfl, ha, ⟨t, ty, ht⟩, h⟩ := h
  cases rx
  obtain ⟨mA, J, _⟩ := ins_get I.hok ha
  obtain ⟨od, J, _⟩ := J.look
  obtain ⟨m, hF⟩ := I.fr
  show wpAny (model X.prog X.w) X.A (richCompare .NotEq (.ref a) u) (EP X pins σ Q) X.xe s
  have hu : X.A.units + 1 < cLine := by
    have := hr.un
    omega
  refine cmp_neK (tb := t) hu hF I.ok.mod.kin J (ty_looks I ry ty) (not_first ht) hne hm hs hf (wpAny_mono (own_call F hb hx (A := X.A.in1) ⟨hr.in1, rfl⟩ I (us := [.ref a, u]) (vs := [V.ref a, y]) (.cons (show RelV (V.ref a) (Value.ref a) from rfl) (.cons ry .nil)) h) (fun r s' z => ?_) fun _ _ e => e)
  obtain ⟨z, H', I', rz, b, rfl, q⟩ := z
  cases rz
  exact ⟨b, rfl, .bl (!b), H', I', rfl, q⟩
end
end KL
set_option Elab.async false
set_option linter.all false
set_option maxRecDepth 100000
set_option maxHeartbeats 4000000
namespace KL
open PySem L2 PySem.KX PySem.Spec PyProof.Rows
/-- what the class is asked -/
structure TxtQ (K : PySem.W.Frag) (C : Addr) : Prop where
  i : C8.InsC K C
  k : ((PySem.W.clsIn K C).isSome && (PySem.W.typeIn K (.ref C) == some (.type "type"))) = true
mutual
theorem dp_laid {K : PySem.W.Frag} {H : Hp} : ∀ (d : PyData) (v : V), d.canLay0 = true → Dq H v d → Dp K H v d
  | .none, _, _, h => by
    cases h
    exact .non
  | .bool _, _, _, h => by
    cases h
    exact .bl _
  | .int _, _, _, h => by
    cases h
    exact .int _
  | .str _, _, _, h => by
    cases h
    exact .str _
  | .list ds, _, z, h => by
    cases h with
    | lst e q => exact .lst (SqL.of e) (dpAll_laid ds _ z q)
  | .tuple ds, _, z, h => by
    cases h with
    | tup e q => exact .tup (SqT.of e) (dpAll_laid ds _ z q)
  | .dict _, _, z, _ => by cases z
theorem dpAll_laid {K : PySem.W.Frag} {H : Hp} : ∀ (ds : List PyData) (vs : List V), PyData.canLayAll0 ds = true → DqAll H vs ds → DpAll K H vs ds
  | [], _, _, h => by
    cases h
    exact .nil
  | d :: ds, _, z, h => by
    have z := Bool.and_eq_true_iff.mp (show (d.canLay0 && PyData.canLayAll0 ds) = true from z)
    cases h with
    | cons q r => exact .cons (dp_laid d _ z.1 q) (dpAll_laid ds _ z.2 r)
end
theorem dp_shaped {K : PySem.W.Frag} {H : Hp} {d : PyData} {v : V} (z : SeqAt.shaped d = true) (h : Dq H v d) : Dp K H v d := dp_laid d v (Bool.and_eq_true_iff.mp z).1 h
theorem ty_data {K : PySem.W.Frag} {H : Hp} {v : V} {d : PyData} (h : Dq H v d) : TyOf K H v (.type (tyName d)) := by
  cases h with
  | non => exact .non
  | bl b => exact .bl b
  | int i => exact .int i
  | str x => exact .str x
  | lst e _ => exact .lst e
  | tup e _ => exact .tup e
  | dct0 e => exact .dK e
  | dct1 e => exact .dK e
theorem ty_names (d : PyData) : tyName d = "NoneType" ∨ tyName d = "bool" ∨ tyName d = "int" ∨ tyName d = "str" ∨ tyName d = "list" ∨ tyName d = "tuple" ∨ tyName d = "dict" := by cases d <;> simp [tyName]
theorem other_data {K : PySem.W.Frag} {C : Addr} {H : Hp} {v : V} {d : PyData} (h : Dq H v d) : Other K C H v := ⟨_, ty_data h, .inr ⟨_, rfl, ty_names d⟩⟩
theorem ty_ins {K : PySem.W.Frag} {C a dx : Addr} {H : Hp} {fs : List (Str × V)} (i : C8.InsC K C) (h : H a = some (.ins C dx fs)) : TyOf K H (.ref a) (.ref C) := .ins h i.cl i.ha i.hn i.htk i.hm
theorem other_ins {K : PySem.W.Frag} {C a dx : Addr} {H : Hp} {fs : List (Str × V)} (i : C8.InsC K C) (h : H a = some (.ins C dx fs)) : Other K C H (.ref a) := ⟨_, ty_ins i h, .inl rfl⟩
theorem kit_other {K : PySem.W.Frag} {C : Addr} (T : TxtQ K C) (d : PyData) : PySem.W.kitOne K (.type (tyName d)) (.ref C) = some false := by
  have h : PySem.W.kitCls K (.type (tyName d)) (.ref C) = some false := by
    show (if _ = true then PySem.W.subIn K (.type (tyName d)) (.ref C) else none) = some false
    rw [if_pos T.k]
    exact not_below (ty_names d)
  unfold PySem.W.kitOne
  rw [if_neg (by simp)]
  exact h
section
variable {X : Cx} {CX : CXT} {n : Nat} {C f : Addr} {fd : FuncData} {ps : List Str} {sp : Sp} {E : XK}
/-- len of an instance with an own __len__ -/
theorem cr_lenOwn (F : FnOk X.prog X.w X.K X.mg X.base CX n f fd ps sp) (hs : PySem.W.findIn X.K (.ref C) "__len__" = some (some (.ref f))) (hf : PySem.W.isFn X.K (.ref f) = true) (hb : L2.Binds X.K fd ps []) (hx : Passes CX X E) (hr : Room (n + 1) X.A) :
    CallR X (.builtin "len") (fun vs H Q => ∃ a dx fs, vs = [V.ref a] ∧ H a = some (.ins C dx fs) ∧ sp [.ref a] H (fun v H' => ∃ m : Int, v = .int m ∧ 0 ≤ m ∧ m < 1000000 ∧ Q (.int m) H') E) := by
  intro pins s σ H xs us Q I r h
  obtain ⟨a, dx, fs, rfl, ha, h⟩ := h
  obtain ⟨u, rfl, ru⟩ := vals1 r
  cases ru
  obtain ⟨mA, J, _⟩ := ins_get I.hok ha
  obtain ⟨od, J, _⟩ := J.look
  obtain ⟨m, hF⟩ := I.fr
  refine PySem.W.len_K hF I.ok.mod.kin J hs hf (wpAny_mono (own_call F hb hx (A := X.A.in1) ⟨hr.in1, rfl⟩ I (us := [.ref a]) (vs := [V.ref a]) (.cons (show RelV (V.ref a) (Value.ref a) from rfl) .nil) h) (fun r s' z => ?_) fun _ _ e => e)
  obtain ⟨z, H', I', rz, k, rfl, h0, h1, q⟩ := z
  obtain ⟨t, rfl⟩ := rz
  exact ⟨⟨h0, by omega⟩, .int k, H', I'.tok _, ⟨_, rfl⟩, q⟩
end
end KL
set_option Elab.async false
set_option linter.all false
set_option maxRecDepth 100000
set_option maxHeartbeats 2000000
namespace KL
open PySem L2 PySem.KX PySem.Spec PyProof.Rows
/-- a list beside the empty one -/
def rNil (neg : Bool) : R2 := fun x y H Q => ∃ a b xs, x = .ref a ∧ y = .ref b ∧ H a = some (.lst xs) ∧ H b = some (.lst []) ∧ Q (.bl (if neg = true then !xs.isEmpty else xs.isEmpty)) H
theorem same_size {xs : List V} {its : List Value} (r : Vals xs its) : (its.toArray.size != 0) = !xs.isEmpty := by
  cases r with
  | nil => rfl
  | cons _ _ => simp
section
variable {X : Cx}
theorem op_eqNil (hu : X.A.units + 64 < cLine) : OpR X (compareOp .Eq) (rNil false) := by
  intro pins s σ H x y v u Q I rx ry h
  obtain ⟨a, b, xs, rfl, rfl, ha, hb, q⟩ := h
  cases (show v = Value.ref a from rx)
  cases (show u = Value.ref b from ry)
  obtain ⟨_, its, n, rv, ho⟩ := I.hok _ _ ha
  obtain ⟨_, it2, n2, rv2, ho2⟩ := I.hok _ _ hb
  cases rv2
  have hz := same_size rv
  cases e : xs.isEmpty with
  | true =>
    rw [e] at hz q
    have z : its.toArray.size = 0 := by simpa using hz
    refine SeqAt.RcAt.lists (e := fun _ => true) ⟨_, ho, rfl, n, rfl⟩ ⟨_, ho2, rfl, n2, rfl⟩ z (by omega) (fun j j1 _ => absurd j1 (by rw [z]; exact Nat.not_lt_zero _)) _ _ _ _ ⟨.bl true, H, I, ?_, q⟩
    rw [z]
    rfl
  | false =>
    rw [e] at hz q
    exact SeqAt.RcAt.lists_lengths ⟨_, ho, rfl, n, rfl⟩ ⟨_, ho2, rfl, n2, rfl⟩ hz (by omega) _ _ _ _ ⟨.bl false, H, I, rfl, q⟩
theorem op_neNil (hu : X.A.units + 64 < cLine) : OpR X (compareOp .NotEq) (rNil true) := by
  intro pins s σ H x y v u Q I rx ry h
  obtain ⟨a, b, xs, rfl, rfl, ha, hb, q⟩ := h
  cases (show v = Value.ref a from rx)
  cases (show u = Value.ref b from ry)
  obtain ⟨_, its, n, rv, ho⟩ := I.hok _ _ ha
  obtain ⟨_, it2, n2, rv2, ho2⟩ := I.hok _ _ hb
  cases rv2
  have hz := same_size rv
  cases e : xs.isEmpty with
  | true =>
    rw [e] at hz q
    have z : its.toArray.size = 0 := by simpa using hz
    refine SeqAt.RcNeAt.lists (e := fun _ => true) ⟨_, ho, rfl, n, rfl⟩ ⟨_, ho2, rfl, n2, rfl⟩ z (by omega) (fun j j1 _ => absurd j1 (by rw [z]; exact Nat.not_lt_zero _)) _ _ _ _ ⟨.bl false, H, I, ?_, q⟩
    rw [z]
    rfl
  | false =>
    rw [e] at hz q
    exact SeqAt.RcNeAt.lists_lengths ⟨_, ho, rfl, n, rfl⟩ ⟨_, ho2, rfl, n2, rfl⟩ hz (by omega) _ _ _ _ ⟨.bl true, H, I, rfl, q⟩
end
/-- a list of those that are wrong: empty just if all so far are right -/
def Odds (H0 : Hp) (D : Addr) (ok : Bool) (n : Nat) (H : Hp) : Prop := Same H0 H ∧ ∃ ys, H D = some (.lst ys) ∧ ys.isEmpty = ok ∧ ys.length ≤ n
theorem Odds.start {H0 : Hp} {D : Addr} (nD : H0 D = none) : Odds H0 D true 0 (upd H0 D (.lst [])) := ⟨same_new nD, [], upd_same, rfl, Nat.le_refl _⟩
theorem Odds.skip {H0 H H' : Hp} {D : Addr} {ok : Bool} {n : Nat} (M : Odds H0 D ok n H) (S : Same H H') : Odds H0 D ok (n + 1) H' := by
  obtain ⟨S0, ys, h1, h2, h3⟩ := M
  exact ⟨S0.trans S, ys, S _ _ h1, h2, Nat.le_succ_of_le h3⟩
theorem Odds.put {H0 H H' : Hp} {D : Addr} {ok : Bool} {n : Nat} (M : Odds H0 D ok n H) (nD : H0 D = none) (S : Same H H') (y : V) (hn : n < 1000) : ∃ acc, H' D = some (.lst acc) ∧ acc.length < sizeLine ∧ Odds H0 D false (n + 1) (upd H' D (.lst (acc ++ [y]))) := by
  obtain ⟨S0, ys, h1, h2, h3⟩ := M
  refine ⟨ys, S _ _ h1, by rw [sizeLine_eq]; omega, fun b o e => ?_, _, upd_same, by simp, by simp; omega⟩
  have bD : b ≠ D := fun z => by
    rw [z, nD] at e
    cases e
  rw [upd_ne bD]
  exact S _ _ (S0 _ _ e)
/-! ### integers -/
end KL
set_option Elab.async false
set_option linter.all false
set_option maxRecDepth 100000
set_option maxHeartbeats 4000000
namespace KL
open PySem L2 PySem.Spec PyProof.Rows
/-! ### sorted(s), s a set of ints that a list was put into -/
def rSortN (P : Program) (w : World) : List V → Hp → VK → Prop := fun vs H Q => ∃ (a : Addr) (ss : List Int), vs = [V.ref a] ∧ H a = some (KsO P w a (ss.map Sum.inl)) ∧
  ∀ (ys : List Int) (p : Addr), ys.Perm ss → ys.Nodup → ys.Pairwise (fun x y => x ≤ y) → H p = none → Q (.ref p) (upd H p (.lst (ys.map V.int)))
def IntE (u : Value) (x : Int) : Prop := ∃ t, u = .int x t
theorem ints_each : ∀ {l : List (Int × Value)} {ss : List Int} {P : Program} {w : World}, Paired (KeyE P w) l (ss.map Sum.inl) → Paired IntE (l.map (·.2)) ss
  | _, [], _, _, h => by
    cases h
    exact .nil
  | _, x :: ss, _, _, h => by
    cases h with
    | cons h1 h2 => exact .cons h1.1 (ints_each h2)
theorem each_int {h : Heap} {a : Addr} : ∀ {us : List Value} {ss : List Int}, Paired IntE us ss → PySem.W.EachIs IntE us ss ∧ PySem.W.EachIs (fun v b => ∃ as, Reads h v (PyData.int b) as ∧ a ∉ as) us ss
  | _, _, .nil => ⟨.nil, .nil⟩
  | _, _, .cons h t => by
    obtain ⟨q1, q2⟩ := each_int t
    obtain ⟨tk, rfl⟩ := h
    exact ⟨.cons ⟨tk, rfl⟩ q1, .cons ⟨[], .int _ _, fun z => nomatch z⟩ q2⟩
theorem vals_ints' : ∀ {us : List Value} {ss : List Int}, PySem.W.EachIs IntE us ss → Vals (ss.map V.int) us
  | _, _, .nil => .nil
  | _, _, .cons h t => .cons h (vals_ints' t)
theorem int_le_total (x y : Int) : (decide (x ≤ y) || decide (y ≤ x)) = true := by
  rcases Int.le_total x y with h | h
  · rw [decide_eq_true h]
    rfl
  · rw [decide_eq_true h, Bool.or_true]
theorem dataLe_int' : PySem.W.dataLe false PyData.int = fun (a b : Int) => decide (a ≤ b) := by
  funext a b
  show (!PyProof.Rows.lexLt itemOrd [Sum.inl b] [Sum.inl a]) = _
  have e : PyProof.Rows.lexLt itemOrd [Sum.inl b] [Sum.inl a] = decide (b < a) := by
    simp [PyProof.Rows.lexLt, itemLt]
  rw [e]
  by_cases h : b < a
  · rw [decide_eq_true h, decide_eq_false (by omega)]
    rfl
  · rw [decide_eq_false h, decide_eq_true (by omega)]
    rfl
section
variable {X : Cx}
theorem cr_sortN (hc : X.calm = true) (hu : X.A.units + 64 < cLine) : CallR X (.builtin "sorted") (rSortN X.prog X.w) := by
  intro pins s σ H vs us Q I r h
  obtain ⟨a, ss, rfl, ha, q⟩ := h
  have R : SetKs X.prog X.w s.heap a (ss.map Sum.inl) := (I.hok a _ ha).1
  rw [Vals.ref1 r]
  obtain ⟨⟨o, es, ep, t, ho, hx, hd, pr, hb, hf, hr, hl⟩, nd⟩ := R
  have nds : ss.Nodup := by
    have := nd
    unfold List.Nodup at this ⊢
    rw [List.pairwise_map] at this
    exact this.imp fun h e => h (by rw [e])
  refine Calls.call_function_entry kind_sorted plain_sorted entry_sorted (args_sorted1 _) ?_
  unfold Builtin.«sorted»
  refine wpAny_bind (m := checkCount "sorted" 1 1 _) (wpAny_pure ?_)
  refine wpAny_bind (collect_set (A := X.A.in1) (I.ok.hd hc) ⟨o, ho, hx.1, hd⟩ hf hb hr hl fun s1 out k1 z1 g1 o1 pm => ?_)
  obtain ⟨ms, pms, prm⟩ := paired_perm pm (ints_each pr)
  have lo : out.length = ms.length := Paired.length prm
  have lm : ms.length = es.size := by
    rw [pms.length_eq, ← Array.length_toList, Paired.length pr, List.length_map]
  have lz : out.length ≤ sizeLine := by
    rw [lo, lm]
    exact fits_of_scanBound hb
  refine wpAny_bind (wpAny_newList ?_ lz)
  have hoL : (s1.heap.push (seqObj "list" out.toArray 0)).get? s1.heap.objs.size = some (seqObj "list" out.toArray 0) := Heap.get?_push_size _ rfl
  obtain ⟨e1, e2⟩ := each_int (h := s1.heap.push (seqObj "list" out.toArray 0)) (a := s1.heap.objs.size) prm
  have al : PySem.W.AllAlike (ms.map PyData.int) := PySem.W.AllAlike.of fun _ _ => rfl
  have so : PySem.W.Sortable (ms.map PyData.int) := PySem.W.Sortable.others fun _ => ⟨fun z => (nomatch z), fun _ z => nomatch z⟩
  refine wpAny_bind (wpAny_holding (PySem.W.list_sort_data hoL e1 e2 al so (by rw [← lo]; exact lz) (fun b _ => (by show X.A.units + 1 + 1 + 0 < cLine; omega)) fun srt ls es' => ?_))
  have vv := vals_ints' es'
  rw [dataLe_int'] at vv
  have pmm : (ms.mergeSort fun a b => decide (a ≤ b)).Perm ms := List.mergeSort_perm _ _
  have pw := List.pairwise_mergeSort (le := fun (a b : Int) => decide (a ≤ b)) (fun x y z h1 h2 => decide_eq_true (Int.le_trans (of_decide_eq_true h1) (of_decide_eq_true h2))) (fun x y => int_le_total x y) ms
  obtain ⟨c, hcc⟩ := sortedHeap_at (vs := out) (out := srt.toArray) hoL
  have len : ((ms.mergeSort fun a b => decide (a ≤ b)).map V.int).length ≤ sizeLine := by
    rw [List.length_map, pmm.length_eq, ← lo]
    exact lz
  have keep : ∀ b u, s.heap.get? b = some u → (sortedHeap (s1.heap.push (seqObj "list" out.toArray 0)) s1.heap.objs.size out srt.toArray).get? b = some u := fun b u e => by
    have e1 := k1 b u e
    have lt := Heap.lt_size e1
    rw [sortedHeap_old (Nat.ne_of_lt lt) (by rw [size_push']; exact Nat.lt_succ_of_lt lt)]
    exact Heap.get?_push_of_some _ e1
  have hn : H s1.heap.objs.size = none := I.hok.fresh z1
  have J : Inv X pins σ (upd H s1.heap.objs.size (.lst ((ms.mergeSort fun a b => decide (a ≤ b)).map V.int))) { s with heap := sortedHeap (s1.heap.push (seqObj "list" out.toArray 0)) s1.heap.objs.size out srt.toArray, gens := s1.gens, drawn := s1.drawn, toks := s1.toks } :=
    I.call (ch := []) (Un.laid keep z1 hn) (I.hok.laid keep z1 ⟨len, srt, c, vv, hcc⟩) (by rw [g1]; exact I.bare) (fun _ z => nomatch z)
  have es1 : ({ s1 with heap := sortedHeap (s1.heap.push (seqObj "list" out.toArray 0)) s1.heap.objs.size out srt.toArray } : Shared) = { s with heap := sortedHeap (s1.heap.push (seqObj "list" out.toArray 0)) s1.heap.objs.size out srt.toArray, gens := s1.gens, drawn := s1.drawn, toks := s1.toks } := by
    cases s1
    cases s
    cases o1
    rfl
  refine wpAny_pure ⟨_, rfl, ?_⟩
  rw [es1]
  exact ⟨.ref _, _, J, rfl, q _ _ (pmm.trans pms) ((pmm.trans pms).nodup_iff.mpr nds) (pw.imp fun h => of_decide_eq_true h) hn⟩
end
end KL
set_option Elab.async false
set_option linter.all false
set_option maxRecDepth 100000
set_option maxHeartbeats 4000000
namespace KL
open PySem L2 PySem.Spec PyProof.Rows
mutual
def plainD : PyData → Bool
  | .int _ => true
  | .str _ => true
  | .tuple ds => plainAll ds
  | _ => false
def plainAll : List PyData → Bool
  | [] => true
  | d :: r => plainD d && plainAll r
end
mutual
theorem plain_eq : ∀ (x y : PyData), plainD x = true → plainD y = true → PyData.eqv x y = true → x = y
  | .int i, y, _, hy, h => by
    cases y with
    | int j => rw [eq_of_beq (show (i == j) = true from by simpa [PyData.eqv] using h)]
    | str _ => simp [PyData.eqv] at h
    | tuple _ => simp [PyData.eqv] at h
    | _ => simp [plainD] at hy
  | .str a, y, _, hy, h => by
    cases y with
    | str b => rw [eq_of_beq (show (a == b) = true from by simpa [PyData.eqv] using h)]
    | int _ => simp [PyData.eqv] at h
    | tuple _ => simp [PyData.eqv] at h
    | _ => simp [plainD] at hy
  | .tuple xs, y, hx, hy, h => by
    cases y with
    | tuple ys => rw [plain_all_eq xs ys (by simpa [plainD] using hx) (by simpa [plainD] using hy) (by simpa [PyData.eqv] using h)]
    | int _ => simp [PyData.eqv] at h
    | str _ => simp [PyData.eqv] at h
    | _ => simp [plainD] at hy
  | .none, _, hx, _, _ => by simp [plainD] at hx
  | .bool _, _, hx, _, _ => by simp [plainD] at hx
  | .list _, _, hx, _, _ => by simp [plainD] at hx
  | .dict _, _, hx, _, _ => by simp [plainD] at hx
theorem plain_all_eq : ∀ (xs ys : List PyData), plainAll xs = true → plainAll ys = true → PyData.eqvAll xs ys = true → xs = ys
  | [], [], _, _, _ => rfl
  | [], _ :: _, _, _, h => by simp [PyData.eqvAll] at h
  | _ :: _, [], _, _, h => by simp [PyData.eqvAll] at h
  | x :: xs, y :: ys, hx, hy, h => by
    have hx := Bool.and_eq_true_iff.mp (show (plainD x && plainAll xs) = true from by simpa [plainAll] using hx)
    have hy := Bool.and_eq_true_iff.mp (show (plainD y && plainAll ys) = true from by simpa [plainAll] using hy)
    have h := Bool.and_eq_true_iff.mp (show (PyData.eqv x y && PyData.eqvAll xs ys) = true from by simpa [PyData.eqvAll] using h)
    rw [plain_eq x y hx.1 hy.1 h.1, plain_all_eq xs ys hx.2 hy.2 h.2]
end
mutual
theorem plain_refl : ∀ (x : PyData), plainD x = true → PyData.eqv x x = true
  | .int i, _ => by simp [PyData.eqv]
  | .str a, _ => by simp [PyData.eqv]
  | .tuple xs, h => by
    rw [PyData.eqv]
    exact plain_all_refl xs (by simpa [plainD] using h)
  | .none, h => by simp [plainD] at h
  | .bool _, h => by simp [plainD] at h
  | .list _, h => by simp [plainD] at h
  | .dict _, h => by simp [plainD] at h
theorem plain_all_refl : ∀ (xs : List PyData), plainAll xs = true → PyData.eqvAll xs xs = true
  | [], _ => by simp [PyData.eqvAll]
  | x :: xs, h => by
    have h := Bool.and_eq_true_iff.mp (show (plainD x && plainAll xs) = true from by simpa [plainAll] using h)
    rw [PyData.eqvAll, plain_refl x h.1, plain_all_refl xs h.2]
    rfl
end
/-! ### rising: equal to what is left of it, sorted, when none stands twice -/
structure Ranked (β : Type) where
  enc : β → PyData
  inj : ∀ a b, enc a = enc b → a = b
  plain : ∀ a, plainD (enc a) = true
  lt : ∀ a b, ltD (enc a) (enc b) = !leD (enc b) (enc a)
  anti : ∀ a b, leD (enc a) (enc b) = true → leD (enc b) (enc a) = true → a = b
section
variable {β : Type} (R : Ranked β)
theorem leD_total : PySem.W.TotalLe leD := PySem.W.sortLe_total (listOrd itemOrd) false fun b => PySem.W.keyToks (id b)
def Ranked.up : List β → Bool
  | a :: b :: l => ltD (R.enc a) (R.enc b) && Ranked.up (b :: l)
  | _ => true
theorem asc_cons (a b : PyData) (l : List PyData) : ascD (a :: b :: l) = (ltD a b && ascD (b :: l)) := by
  unfold ascD ascTo
  show ((List.range (l.length + 1)).map _).all id = _
  rw [List.range_succ_eq_map, List.map_cons, List.all_cons, List.map_map]
  rfl
theorem Ranked.up_eq : ∀ l : List β, ascD (l.map R.enc) = R.up l
  | [] => rfl
  | [_] => rfl
  | a :: b :: l => by
    rw [List.map_cons, List.map_cons, asc_cons, ← List.map_cons, Ranked.up_eq (b :: l)]
    rfl
theorem Ranked.lt_le {a b : β} (h : ltD (R.enc a) (R.enc b) = true) : leD (R.enc a) (R.enc b) = true := by
  rw [R.lt] at h
  rcases leD_total.total (R.enc a) (R.enc b) with z | z
  · exact z
  · rw [z] at h
    cases h
theorem Ranked.lt_trans {a b c : β} (h : ltD (R.enc a) (R.enc b) = true) (k : ltD (R.enc b) (R.enc c) = true) : ltD (R.enc a) (R.enc c) = true := by
  rw [R.lt]
  cases z : leD (R.enc c) (R.enc a) with
  | false => rfl
  | true =>
    have := leD_total.trans _ _ _ z (R.lt_le h)
    rw [R.lt, this] at k
    cases k
theorem Ranked.lt_ne {a b : β} (h : ltD (R.enc a) (R.enc b) = true) : a ≠ b := fun e => by
  subst e
  have := R.lt_le h
  rw [R.lt, this] at h
  cases h
theorem Ranked.up_pair : ∀ {l : List β}, R.up l = true → l.Pairwise fun a b => ltD (R.enc a) (R.enc b) = true
  | [], _ => .nil
  | [a], _ => List.pairwise_singleton _ _
  | a :: b :: l, h => by
    have h := Bool.and_eq_true_iff.mp (show (ltD (R.enc a) (R.enc b) && R.up (b :: l)) = true from h)
    have q := Ranked.up_pair h.2
    refine List.pairwise_cons.mpr ⟨fun x hx => ?_, q⟩
    rcases List.mem_cons.mp hx with rfl | hx
    · exact h.1
    · exact R.lt_trans h.1 ((List.pairwise_cons.mp q).1 x hx)
theorem Ranked.pair_up : ∀ {l : List β}, l.Pairwise (fun a b => ltD (R.enc a) (R.enc b) = true) → R.up l = true
  | [], _ => rfl
  | [_], _ => rfl
  | a :: b :: l, h => by
    obtain ⟨h1, h2⟩ := List.pairwise_cons.mp h
    show (ltD (R.enc a) (R.enc b) && R.up (b :: l)) = true
    rw [h1 b (.head _), Ranked.pair_up h2]
    rfl
theorem Ranked.map_inj : ∀ {a b : List β}, a.map R.enc = b.map R.enc → a = b
  | [], [], _ => rfl
  | [], _ :: _, h => by cases h
  | _ :: _, [], h => by cases h
  | x :: a, y :: b, h => by
    have h1 := List.cons.inj (show R.enc x :: a.map R.enc = R.enc y :: b.map R.enc from h)
    rw [R.inj _ _ h1.1, Ranked.map_inj h1.2]
theorem Ranked.plains : ∀ l : List β, plainAll (l.map R.enc) = true
  | [] => rfl
  | x :: l => by
    show (plainD (R.enc x) && plainAll (l.map R.enc)) = true
    rw [R.plain, Ranked.plains l]
    rfl
/-- ks is what sorted gives of its set just if it rises -/
theorem Ranked.rises {ks S : List β} (nd : S.Nodup) (mem : ∀ x, x ∈ S ↔ x ∈ ks) (srt : S.Pairwise fun a b => leD (R.enc a) (R.enc b) = true) : PyData.eqvAll (ks.map R.enc) (S.map R.enc) = ascD (ks.map R.enc) := by
  rw [R.up_eq]
  cases z : R.up ks with
  | true =>
    have p := R.up_pair z
    have nk : ks.Nodup := p.imp fun h => R.lt_ne h
    have pk : ks.Pairwise fun a b => leD (R.enc a) (R.enc b) = true := p.imp fun h => R.lt_le h
    have perm : ks.Perm S := (List.perm_ext_iff_of_nodup nk nd).mpr fun x => (mem x).symm
    have e : ks = S := List.Perm.eq_of_pairwise (le := fun a b => leD (R.enc a) (R.enc b) = true) (fun a b _ _ => R.anti a b) pk srt perm
    rw [← e]
    exact plain_all_refl _ (R.plains ks)
  | false =>
    cases y : PyData.eqvAll (ks.map R.enc) (S.map R.enc) with
    | false => rfl
    | true =>
      have e := R.map_inj (plain_all_eq _ _ (R.plains ks) (R.plains S) y)
      subst e
      have : R.up ks = true := R.pair_up (srt.imp₂ (fun {a b} (h : leD (R.enc a) (R.enc b) = true) (n : a ≠ b) => by
        rw [R.lt]
        cases z : leD (R.enc b) (R.enc a) with
        | false => rfl
        | true => exact absurd (R.anti a b h z) n) nd)
      rw [this] at z
      cases z
end
end KL
set_option Elab.async false
set_option linter.all false
set_option maxRecDepth 100000
set_option maxHeartbeats 2000000
namespace KL
open PySem L2
/-! ### the deck -/
def dk (l : Addr) (m t : Int) : List (Key × V) := [(Sum.inr "left", V.ref l), (Sum.inr "mixed", V.int m), (Sum.inr "draws", V.int t)]
theorem dk_cells (l : Addr) (m t : Int) : valV (dk l m t) (Sum.inr "left") = some (V.ref l) := by rfl
theorem dk_mixed (l : Addr) (m t : Int) : valV (dk l m t) (Sum.inr "mixed") = some (V.int m) := by rfl
theorem dk_turn (l : Addr) (m t : Int) : valV (dk l m t) (Sum.inr "draws") = some (V.int t) := by rfl
theorem dk_put (l : Addr) (m t u : Int) : putK (dk l m t) (Sum.inr "draws") (V.int u) = dk l m u := by rfl
/-- H0 is what stays in H: neither the deck nor its list -/
structure DeckAt (H0 H : Hp) (p l : Addr) (t : Int) : Prop where
  s : Same H0 H
  p0 : H0 p = none
  l0 : H0 l = none
  d : ∃ (ns : List Int) (m : Int), H p = some (.dK (dk l m t)) ∧ H l = some (.lst (ns.map V.int)) ∧ ns.length ≤ 63 ∧ 0 ≤ m ∧ m < 2147483629
theorem DeckAt.notP {H0 H : Hp} {p l a : Addr} {t : Int} (D : DeckAt H0 H p l t) (n : H a = none) : a ≠ p ∧ a ≠ l := by
  obtain ⟨ns, m, hp, hl, _⟩ := D.d
  refine ⟨?_, ?_⟩
  · rintro rfl
    rw [hp] at n
    cases n
  · rintro rfl
    rw [hl] at n
    cases n
theorem DeckAt.ne {H0 H : Hp} {p l : Addr} {t : Int} (D : DeckAt H0 H p l t) : l ≠ p := by
  obtain ⟨ns, m, hp, hl, _⟩ := D.d
  exact ne_of hl hp (by intro q; cases q)
/-- something new, that stays -/
theorem DeckAt.new {H0 H : Hp} {p l a : Addr} {t : Int} {o : HO} (D : DeckAt H0 H p l t) (n : H a = none) : DeckAt (upd H0 a o) (upd H a o) p l t := by
  obtain ⟨ap, al⟩ := D.notP n
  obtain ⟨ns, m, hp, hl, r⟩ := D.d
  refine ⟨fun b u e => ?_, ?_, ?_, ns, m, ?_, ?_, r⟩
  · by_cases z : b = a
    · subst z
      rw [upd_same] at e ⊢
      exact e
    · rw [upd_ne z] at e ⊢
      exact D.s _ _ e
  · rw [upd_ne ap.symm]
    exact D.p0
  · rw [upd_ne al.symm]
    exact D.l0
  · rw [upd_ne ap.symm]
    exact hp
  · rw [upd_ne al.symm]
    exact hl
/-- something that does not stay: new, or changed -/
theorem DeckAt.put {H0 H : Hp} {p l a : Addr} {t : Int} {o : HO} (D : DeckAt H0 H p l t) (ap : a ≠ p) (al : a ≠ l) (n : H0 a = none) : DeckAt H0 (upd H a o) p l t := by
  obtain ⟨ns, m, hp, hl, r⟩ := D.d
  refine ⟨fun b u e => ?_, D.p0, D.l0, ns, m, ?_, ?_, r⟩
  · rw [upd_ne (ne_of_none e n)]
    exact D.s _ _ e
  · rw [upd_ne ap.symm]
    exact hp
  · rw [upd_ne al.symm]
    exact hl
theorem DeckAt.put0 {H0 H : Hp} {p l a : Addr} {t : Int} {o : HO} (D : DeckAt H0 H p l t) (n : H a = none) : DeckAt H0 (upd H a o) p l t :=
  D.put (D.notP n).1 (D.notP n).2 (D.s.free n)
/-- something that stood and stays from now on -/
theorem DeckAt.keep {H0 H : Hp} {p l a : Addr} {t : Int} {o : HO} (D : DeckAt H0 H p l t) (ap : a ≠ p) (al : a ≠ l) (h : H a = some o) : DeckAt (upd H0 a o) H p l t := by
  refine ⟨fun b u e => ?_, ?_, ?_, D.d⟩
  · by_cases z : b = a
    · subst z
      rw [upd_same] at e
      rw [h]
      exact e
    · rw [upd_ne z] at e
      exact D.s _ _ e
  · rw [upd_ne ap.symm]
    exact D.p0
  · rw [upd_ne al.symm]
    exact D.l0
theorem DeckAt.less {H0 H1 H : Hp} {p l : Addr} {t : Int} (D : DeckAt H1 H p l t) (S : Same H0 H1) : DeckAt H0 H p l t :=
  ⟨S.trans D.s, S.free D.p0, S.free D.l0, D.d⟩
/-- from a state (kept H0, heap H, turn t) to another one, by at most n draws -/
structure Go (p l : Addr) (H0 H : Hp) (t : Int) (H1 H' : Hp) (t' : Int) (n : Int) : Prop where
  s : Same H0 H1
  d : DeckAt H1 H' p l t'
  f : ∀ b o, b ≠ p → b ≠ l → H b = some o → H' b = some o
  o : ∀ b, H0 b = none → H b ≠ none → H1 b = none
  t0 : t ≤ t'
  t1 : t' ≤ t + n
theorem Go.refl {p l : Addr} {H0 H : Hp} {t : Int} (D : DeckAt H0 H p l t) : Go p l H0 H t H0 H t 0 := ⟨Same.refl _, D, fun _ _ _ _ e => e, fun _ e _ => e, by omega, by omega⟩
theorem Go.trans {p l : Addr} {H0 H H1 H' H2 H'' : Hp} {t t' t'' n n' : Int} (a : Go p l H0 H t H1 H' t' n) (b : Go p l H1 H' t' H2 H'' t'' n') : Go p l H0 H t H2 H'' t'' (n + n') := by
  refine ⟨a.s.trans b.s, b.d, fun c o cp cl e => b.f _ _ cp cl (a.f _ _ cp cl e), fun c e h => ?_, Int.le_trans a.t0 b.t0, ?_⟩
  · have h1 := a.o c e h
    by_cases cp : c = p
    · subst cp
      exact b.d.p0
    by_cases cl : c = l
    · subst cl
      exact b.d.l0
    cases z : H c with
    | none => exact absurd z h
    | some o => exact b.o c h1 (by rw [a.f c o cp cl z]; simp)
  · have := a.t1
    have := b.t1
    omega
theorem Go.more {p l : Addr} {H0 H H1 H' : Hp} {t t' n n' : Int} (a : Go p l H0 H t H1 H' t' n) (h : n ≤ n') : Go p l H0 H t H1 H' t' n' :=
  ⟨a.s, a.d, a.f, a.o, a.t0, Int.le_trans a.t1 (by omega)⟩
/-- something new that stays -/
theorem Go.new {p l a : Addr} {H0 H H1 H' : Hp} {t t' n : Int} {o : HO} (g : Go p l H0 H t H1 H' t' n) (na : H' a = none) : Go p l H0 H t (upd H1 a o) (upd H' a o) t' n := by
  have n1 : H1 a = none := g.d.s.free na
  refine ⟨fun b u e => ?_, g.d.new na, fun b u bp bl e => ?_, fun b e h => ?_, g.t0, g.t1⟩
  · have e1 := g.s _ _ e
    rw [upd_ne (ne_of_none e1 n1)]
    exact e1
  · have e1 := g.f _ _ bp bl e
    rw [upd_ne (ne_of_none e1 na)]
    exact e1
  · have e1 := g.o b e h
    by_cases z : b = a
    · subst z
      exfalso
      obtain ⟨bp, bl⟩ := g.d.notP na
      cases y : H b with
      | none => exact h y
      | some u =>
        have := g.f _ _ bp bl y
        rw [na] at this
        cases this
    · rw [upd_ne z]
      exact e1
/-- something new that does not stay as it is -/
theorem Go.put0 {p l a : Addr} {H0 H H1 H' : Hp} {t t' n : Int} {o : HO} (g : Go p l H0 H t H1 H' t' n) (na : H' a = none) : Go p l H0 H t H1 (upd H' a o) t' n :=
  ⟨g.s, g.d.put0 na, fun b u bp bl e => by
    have e1 := g.f _ _ bp bl e
    rw [upd_ne (ne_of_none e1 na)]
    exact e1, g.o, g.t0, g.t1⟩
/-- something of one's own that is changed -/
theorem Go.put {p l a : Addr} {H0 H H1 H' : Hp} {t t' n : Int} {o : HO} (g : Go p l H0 H t H1 H' t' n) (na : H a = none) (ap : a ≠ p) (al : a ≠ l) (n1 : H1 a = none) : Go p l H0 H t H1 (upd H' a o) t' n :=
  ⟨g.s, g.d.put ap al n1, fun b u bp bl e => by
    rw [upd_ne (ne_of_none e na)]
    exact g.f _ _ bp bl e, g.o, g.t0, g.t1⟩
/-- something of one's own that stays from now on -/
theorem Go.keep {p l a : Addr} {H0 H H1 H' : Hp} {t t' n : Int} {o : HO} (g : Go p l H0 H t H1 H' t' n) (na : H a = none) (ap : a ≠ p) (al : a ≠ l) (h : H' a = some o) (h1 : H1 a = none) : Go p l H0 H t (upd H1 a o) H' t' n :=
  ⟨fun b u e => by
    have e1 := g.s _ _ e
    rw [upd_ne (ne_of_none e1 h1)]
    exact e1, g.d.keep ap al h, g.f, fun b e hb => by
    rw [upd_ne (show b ≠ a from fun z => hb (by rw [z]; exact na))]
    exact g.o b e hb, g.t0, g.t1⟩
theorem Go.own {p l a : Addr} {H0 H H1 H' : Hp} {t t' n : Int} {o : HO} (g : Go p l H0 H t H1 H' t' n) (D : DeckAt H0 H p l t) (h : H a = some o) (n0 : H0 a = none) (ap : a ≠ p) (al : a ≠ l) : H' a = some o ∧ H1 a = none :=
  ⟨g.f _ _ ap al h, g.o _ n0 (by rw [h]; simp)⟩
def spDeck (K : PySem.W.Frag) : Sp := fun vs H Q _ => ∃ (a : Addr) (ns : List Int), vs = [.ref a] ∧ SqL K H a (ns.map V.int) ∧ ns.length ≤ 63 ∧ ∀ H' p l, DeckAt H H' p l 0 → Q (.ref p) H'
def spDrawS : Sp := fun vs H Q _ => ∃ (H0 : Hp) (p l : Addr) (t b : Int), vs = [.ref p, .int b] ∧ DeckAt H0 H p l t ∧ 0 ≤ t ∧ t < 1048576 ∧ 0 < b ∧ b < 1048576 ∧ ∀ H' r, DeckAt H0 H' p l (t + 1) → 0 ≤ r → r < b → Q (.int r) H'
def spDraw : Sp := fun vs H Q _ => ∃ (H0 : Hp) (p l : Addr) (t b : Int), vs = [.ref p, .int b] ∧ DeckAt H0 H p l t ∧ 0 ≤ t ∧ t < 1048576 ∧ 0 < b ∧ b < 1048576 ∧ ∀ H' r, Go p l H0 H t H0 H' (t + 1) 1 → 0 ≤ r → r < b → Q (.int r) H'
theorem draw_go {vs : List V} {H : Hp} {Q : VK} {E : XK} (h : spDraw vs H Q E) : spDrawS vs H Q E := by
  obtain ⟨H0, p, l, t, b, rfl, D, t0, t1, b0, b1, k⟩ := h
  refine ⟨fun c => if c = p ∨ c = l then none else H c, p, l, t, b, rfl, ⟨fun c o e => ?_, if_pos (.inl rfl), if_pos (.inr rfl), D.d⟩, t0, t1, b0, b1, fun H' r D' r0 rb => k H' r ?_ r0 rb⟩
  · have e : (if c = p ∨ c = l then none else H c) = some o := e
    by_cases z : c = p ∨ c = l
    · rw [if_pos z] at e
      cases e
    · rw [if_neg z] at e
      exact e
  · have f : ∀ c o, c ≠ p → c ≠ l → H c = some o → H' c = some o := fun c o cp cl e => D'.s _ _ (by
      show (if c = p ∨ c = l then none else H c) = some o
      rw [if_neg (by rintro (z | z); exact cp z; exact cl z), e])
    refine ⟨Same.refl _, ⟨fun c o e => ?_, D.p0, D.l0, D'.d⟩, f, fun _ e _ => e, by omega, by omega⟩
    refine f c o ?_ ?_ (D.s _ _ e)
    · rintro rfl
      rw [D.p0] at e
      cases e
    · rintro rfl
      rw [D.l0] at e
      cases e
end KL
set_option Elab.async false
set_option linter.all false
set_option maxRecDepth 100000
set_option maxHeartbeats 4000000
namespace KL
open PySem L2
abbrev lDeck : Stmt := top 24
abbrev lDraw : Stmt := top 25
structure TxtD (mg : Str → Option Value) : Prop where
  list : mg "list" = none
  int : mg "int" = none
  len : mg "len" = none
section
variable {P : Program} {w : World} {K : PySem.W.Frag} {mg : Str → Option Value} {base : Heap}
theorem scDeck : FnScope ["_law_script", "_law_mixed", "_law_cell"] ["_law_script"] (defScope lDeck) := ⟨rfl, rfl, rfl, by decide +kernel, rfl, by decide +kernel, by decide +kernel⟩
theorem cut_ints (ns : List Int) (lo hi : Option Int) : ∃ ms : List Int, cutV (ns.map V.int) lo hi = ms.map V.int ∧ ms.length ≤ ns.length :=
  ⟨(ns.drop (HT.sIx (ns.map V.int).length 0 lo)).take (HT.sIx (ns.map V.int).length (ns.map V.int).length hi - HT.sIx (ns.map V.int).length 0 lo), by unfold cutV; rw [List.map_take, List.map_drop], by rw [List.length_take, List.length_drop]; omega⟩
theorem ok_deck {f : Addr} {fd : FuncData} (F : Fun K "_law_deck" "_law_deck" lDeck f fd) (T : TxtD mg) : FnOk P w K mg base CX0 1 f fd ["_law_script"] (spDeck K) := by
  refine F.ok scDeck (fun vs H Q E h => ?_) (fun cdv A outer s H vs Q E hr h => ?_)
  · obtain ⟨a, ns, rfl, _⟩ := h
    rfl
  · obtain ⟨a, ns, rfl, hS, hlen, k⟩ := h
    refine ⟨_, pss_cons (ps_set (i := 1) scDeck.nd rfl (.inl rfl) pe_int)
      (pss_cons (ps_for PassesOwn.never rfl (pi_list (pe_slice sl_list (pv 0) po_none (po_some pe_int))) (pg_name (i := 2) scDeck.nd rfl (.inl rfl))
        (pss_one (ps_set (i := 1) scDeck.nd rfl (.inl rfl) (pe_op op_mod (pe_callTy call_int1 (by rfl) T.int (by decide +kernel) (pa_cons (pe_op op_add (pe_op op_add (pe_op op_mul (pv 1) pe_int) (pe_op op_mod (pe_callTy call_int1 (by rfl) T.int (by decide +kernel) (pa_cons (pv 2) pa_nil)) pe_int)) pe_int) pa_nil)) pe_int))))
      (pss_one (ps_ret (pe_disp (pps_cons pe_str (pe_revL (pe_callTy call_list_of (by rfl) T.list (by decide +kernel) (pa_cons (pe_slice sl_list (pv 0) po_none (po_some pe_int)) pa_nil))) (pps_cons pe_str (pv 1) (pps_cons pe_str pe_int pps_nil))) (by rfl) (by rfl) (fun z => by cases z) (by decide))))), ?_⟩
    obtain ⟨ms, ems, hms⟩ := cut_ints ns none (some 63)
    refine ⟨_, rfl, _, rfl, a, _, rfl, hS, fun p0 hp0 => ?_⟩
    have S0 := same_new (o := HO.lst (cutV (List.map V.int ns) none (some 63))) hp0
    have h0 : upd H p0 (HO.lst (cutV (List.map V.int ns) none (some 63))) p0 = some (HO.lst (ms.map V.int)) := by rw [upd_same, ems]
    revert S0 h0
    generalize upd H p0 (HO.lst (cutV (List.map V.int ns) none (some 63))) = H0
    intro S0 h0
    refine ⟨p0, rfl, ⟨_, SqL.of h0⟩, for_list (K := K) (a := p0) (xs := ms.map V.int) (fun i σ H' => H' = H0 ∧ ∃ (m : Int) (v : Option V), σ = [some (.ref a), some (.int m), v] ∧ 0 ≤ m ∧ m < 2147483629)
      ⟨rfl, 10863040, none, rfl, by decide, by decide⟩ (fun i σ H' _ ⟨e, _⟩ => e ▸ SqL.of h0) ?_ ?_⟩
    · rintro i y σ H' hi ⟨rfl, m, v, rfl, m0, m1⟩
      obtain ⟨u, rfl⟩ : ∃ u, y = V.int u := by
        rw [List.getElem?_map] at hi
        cases e : ms[i]? with
        | none =>
          rw [e] at hi
          cases hi
        | some u =>
          rw [e] at hi
          exact ⟨u, (Option.some.inj hi).symm⟩
      refine ⟨_, rfl, _, _, rfl, rfl, .inl ⟨by omega, by omega⟩, ?_⟩
      refine ⟨_, rfl, .inl ⟨_, rfl, ?_⟩⟩
      refine ⟨_, _, rfl, rfl, (by show (0 : Int) < 2147483629; decide), ?_⟩
      refine ⟨_, _, rfl, rfl, _, _, rfl, rfl, .inl ⟨_, rfl, ?_⟩⟩
      refine ⟨_, _, rfl, rfl, (by show (0 : Int) < 2147483587; decide), ?_⟩
      exact ⟨rfl, _, _, rfl, Int.emod_nonneg _ (by decide), Int.lt_trans (Int.emod_lt_of_pos _ (b := 2147483587) (by decide)) (by decide)⟩
    · rintro σ H' ⟨rfl, m, v, rfl, m0, m1⟩
      intro p hp
      refine ⟨_, rfl, _, rfl, a, _, rfl, Same.seq (S0.trans (same_new hp)) hS, fun p1 hp1 => ?_⟩
      have np1 : p1 ≠ p := fun z => by
        rw [z, upd_same] at hp1
        cases hp1
      have hp1' : H' p1 = none := by
        rw [upd_ne np1] at hp1
        exact hp1
      refine ⟨p1, ms.map V.int, rfl, .inl (SqL.of (by rw [upd_same]; exact congrArg some (congrArg HO.lst ems))), fun l hl => ?_⟩
      have nl1 : l ≠ p1 := fun z => by
        rw [z, upd_same] at hl
        cases hl
      have hl1 := hl
      rw [upd_ne nl1] at hl1
      have nlp : l ≠ p := fun z => by
        rw [z, upd_same] at hl1
        cases hl1
      have hl' : H' l = none := by
        rw [upd_ne nlp] at hl1
        exact hl1
      refine ⟨l, _, rfl, SqL.of upd_same, fun q hq => ?_⟩
      have nql : q ≠ l := fun z => by
        rw [z, upd_same] at hq
        cases hq
      have hq1 := hq
      rw [upd_ne nql] at hq1
      have nq1 : q ≠ p1 := fun z => by
        rw [z, upd_same] at hq1
        cases hq1
      have hq2 := hq1
      rw [upd_ne nq1] at hq2
      have nqp : q ≠ p := fun z => by
        rw [z, upd_same] at hq2
        cases hq2
      have hq' : H' q = none := by
        rw [upd_ne nqp] at hq2
        exact hq2
      have e1 : ∀ (x : HO), (upd (upd (upd (upd H' p (.dK [])) p1 (.lst (cutV (ns.map V.int) none (some 63)))) l (.lst (ms.map V.int))) q x) p = some (.dK []) := fun x => by
        rw [upd_ne nqp.symm, upd_ne nlp.symm, upd_ne np1.symm, upd_same]
      refine ⟨_, rfl, e1 _, [(Sum.inr "left", V.ref q), (Sum.inr "mixed", V.int m), (Sum.inr "draws", V.int 0)], rfl, (by show 3 ≤ 15; decide), k _ _ _ ⟨fun b o e => ?_, S0.free hp, S0.free hq', ms.reverse, m, upd_same, ?_, ?_, m0, m1⟩⟩
      · have e1 := S0 b o e
        rw [upd_ne (ne_of_none e1 hp), upd_ne (ne_of_none e1 hq'), upd_ne (ne_of_none e1 hl'), upd_ne (ne_of_none e1 hp1'), upd_ne (ne_of_none e1 hp)]
        exact e1
      · rw [upd_ne nqp, upd_same, List.map_reverse]
      · rw [List.length_reverse]
        exact Nat.le_trans hms hlen
end
theorem dg_cells {H : Hp} {p l : Addr} {m t : Int} (h : H p = some (.dK (dk l m t))) : DGet H p (.str "left") (some (.ref l)) := DGet.k (k := Sum.inr "left") h
theorem dg_mixed {H : Hp} {p l : Addr} {m t : Int} (h : H p = some (.dK (dk l m t))) : DGet H p (.str "mixed") (some (.int m)) := DGet.k (k := Sum.inr "mixed") h
theorem dg_turn {H : Hp} {p l : Addr} {m t : Int} (h : H p = some (.dK (dk l m t))) : DGet H p (.str "draws") (some (.int t)) := DGet.k (k := Sum.inr "draws") h
theorem dp_turn {H : Hp} {p l : Addr} {m t u : Int} (h : H p = some (.dK (dk l m t))) : DPut H p (.str "draws") (.int u) (upd H p (.dK (dk l m u))) := DPut.k (k := Sum.inr "draws") h (by show 3 < sizeLine; decide)
theorem dp_ints {K : PySem.W.Frag} {H : Hp} : ∀ ns : List Int, DpAll K H (ns.map V.int) (ns.map PyData.int)
  | [] => .nil
  | n :: r => .cons (.int n) (dp_ints r)
theorem lay_ints : ∀ ns : List Int, PyData.canLayAll0 (ns.map PyData.int) = true
  | [] => rfl
  | n :: r => by
    show (true && PyData.canLayAll0 (r.map PyData.int)) = true
    rw [lay_ints r]
    rfl
theorem depth_ints : ∀ ns : List Int, PyData.depthAll (ns.map PyData.int) = 0
  | [] => rfl
  | n :: r => by
    show max 0 (PyData.depthAll (r.map PyData.int)) = 0
    rw [depth_ints r]
    rfl
theorem shaped_ints (ns : List Int) : SeqAt.shaped (PyData.list (ns.map PyData.int)) = true := by
  show (PyData.canLayAll0 (ns.map PyData.int) && decide (PyData.depthAll (ns.map PyData.int) + 1 ≤ 64)) = true
  rw [lay_ints, depth_ints]
  rfl
section
variable {P : Program} {w : World} {K : PySem.W.Frag} {mg : Str → Option Value} {base : Heap}
abbrev nDraw : List Str := ["_law_deck_here", "_law_below", "_law_figure", "_law_cell"]
theorem scDraw : FnScope nDraw ["_law_deck_here", "_law_below"] (defScope lDraw) := ⟨rfl, rfl, rfl, by decide +kernel, rfl, by decide +kernel, by decide +kernel⟩
theorem ok_drawS {f : Addr} {fd : FuncData} (F : Fun K "_law_draw" "_law_draw" lDraw f fd) (T : TxtD mg) : FnOk P w K mg base CX0 1 f fd ["_law_deck_here", "_law_below"] spDrawS := by
  refine F.ok scDraw (fun vs H Q E h => ?_) (fun cdv A outer s H vs Q E hr h => ?_)
  · obtain ⟨H0, p, l, t, b, rfl, _⟩ := h
    rfl
  · obtain ⟨H0, p, l, t, b, rfl, ⟨s0, p0, l0, ns, m, hp, hl, hlen, m0, m1⟩, t0, t1, b0, b1, k⟩ := h
    have hu := hu_of hr
    have nlp : l ≠ p := ne_of hl hp (by intro q; cases q)
    refine ⟨_, pss_cons (ps_dput hu (pv 0) pe_str (pe_op op_add (pe_dget hu (pv 0) pe_str (fun _ _ => rfl)) pe_int) rfl)
      (pss_cons (ps_set (i := 2) scDraw.nd rfl (.inl rfl) (pe_op op_add (pe_dget hu (pv 0) pe_str (fun _ _ => rfl)) (pe_op op_mul pe_int (pe_dget hu (pv 0) pe_str (fun _ _ => rfl)))))
      (C8.pss_cut (ps_if (pt_cmpR (op_neD hr.units) (pe_dget hu (pv 0) pe_str (fun _ _ => rfl)) (pe_lst pa_nil) (nomark _))
        (pss_cons (ps_set (i := 3) scDraw.nd rfl (.inl rfl) (pe_bm0 PySem.F.plainAttrs_list PySem.F.slot_list_pop PySem.F.type_list_pop mt_pop (pe_dget hu (pv 0) pe_str (fun _ _ => rfl))))
        (pss_cons (ps_if (pt_cmpR op_ge (pv 3) (pe_op op_pow pe_int pe_int) (nomark _))
          (pss_cons (ps_expr (pe_bm PySem.F.plainAttrs_list PySem.F.slot_list_append PySem.F.type_list_append mt_append (pe_dget hu (pv 0) pe_str (fun _ _ => rfl)) (pa_cons (pe_op op_fdiv (pv 3) (pv 1)) pa_nil)))
          (pss_one (ps_ret (pe_op op_mod (pe_callTy call_int1 (by rfl) T.int (by decide +kernel) (pa_cons (pv 3) pa_nil)) (pv 1))))) pss_nil)
        (pss_one (ps_set (i := 2) scDraw.nd rfl (.inl rfl) (pe_op op_add (pv 2) (pe_op op_mod (pe_callTy call_int1 (by rfl) T.int (by decide +kernel) (pa_cons (pv 3) pa_nil)) pe_int)))))) pss_nil)
      (pss_cons (ps_set (i := 2) scDraw.nd rfl (.inl rfl) (pe_op op_mod (pe_callTy call_int1 (by rfl) T.int (by decide +kernel) (pa_cons (pe_op op_add (pe_op op_mul (pv 2) pe_int) pe_int) pa_nil)) pe_int))
      (pss_cons (ps_set (i := 2) scDraw.nd rfl (.inl rfl) (pe_op op_mod (pe_callTy call_int1 (by rfl) T.int (by decide +kernel) (pa_cons (pe_op op_add (pe_op op_add (pe_op op_mul (pv 2) (pv 2)) (pe_op op_mul pe_int (pe_dget hu (pv 0) pe_str (fun _ _ => rfl)))) pe_int) pa_nil)) pe_int))
      (pss_one (ps_ret (pe_op op_mod (pe_op op_fdiv (pe_op op_mod (pe_callTy call_int1 (by rfl) T.int (by decide +kernel) (pa_cons (pe_op op_mul (pv 2) pe_int) pa_nil)) pe_int) pe_int) (pv 1)))))))), ?_⟩
    refine ⟨_, rfl, p, _, rfl, dg_turn hp, _, _, rfl, rfl, _, rfl, p, _, rfl, dp_turn hp, ?_⟩
    have hp1 : (upd H p (.dK (dk l m (t + 1)))) p = some (.dK (dk l m (t + 1))) := upd_same
    have hl1 : (upd H p (.dK (dk l m (t + 1)))) l = some (.lst (ns.map V.int)) := by rw [upd_ne nlp]; exact hl
    have s1 : Same H0 (upd H p (.dK (dk l m (t + 1)))) := fun b o e => by
      rw [upd_ne (ne_of_none e p0)]
      exact s0 b o e
    clear hp hl s0
    revert hp1 hl1 s1
    generalize upd H p (.dK (dk l m (t + 1))) = H1
    intro hp hl s0
    refine ⟨_, rfl, p, _, rfl, dg_mixed hp, _, rfl, p, _, rfl, dg_turn hp, _, _, rfl, rfl, .inr ⟨by omega, by omega⟩, _, _, rfl, rfl, ?_⟩
    have f0 : 0 ≤ m + 60681 * (t + 1) := by omega
    have f1 : m + 60681 * (t + 1) < 80000000000 := by omega
    revert f0 f1
    dsimp only
    generalize m + 60681 * (t + 1) = M
    intro f0 f1
    refine ⟨fun σ H3 => ∃ (M : Int) (o : Option V) (ms : List Int), σ = [some (.ref p), some (.int b), some (.int M), o] ∧ 0 ≤ M ∧ M < 90000000000 ∧ H3 p = some (.dK (dk l m (t + 1))) ∧ H3 l = some (.lst (ms.map V.int)) ∧ ms.length ≤ 63 ∧ Same H0 H3, ?_, ?_⟩
    rotate_left
    · rintro σ H3 ⟨M, o, ms, rfl, f0, f1, hp, hl, hlen, s0⟩
      refine ⟨_, rfl, _, _, rfl, rfl, .inl ⟨by omega, by omega⟩, _, _, rfl, rfl, .inl ⟨_, rfl, _, _, rfl, rfl, (by show (0 : Int) < 2147483647; decide), ?_⟩⟩
      generalize M * 40692 + 191 = M1
      have c0 := Int.emod_nonneg M1 (b := 2147483647) (by decide)
      have c1 := Int.emod_lt_of_pos M1 (b := 2147483647) (by decide)
      revert c0 c1
      generalize M1 % 2147483647 = M2
      intro c0 c1
      refine ⟨_, rfl, _, rfl, _, _, rfl, rfl, .inl ⟨by omega, by omega⟩, _, rfl, p, _, rfl, dg_turn hp, _, _, rfl, rfl, .inl ⟨by decide, by decide⟩, _, _, rfl, rfl, _, _, rfl, rfl, .inl ⟨_, rfl, _, _, rfl, rfl, (by show (0 : Int) < 2147483563; decide), ?_⟩⟩
      refine ⟨_, rfl, _, _, rfl, rfl, .inr ⟨by decide, by decide⟩, .inl ⟨_, rfl, _, _, rfl, rfl, (by show (0 : Int) < 2147483549; decide), _, _, rfl, rfl, ⟨by decide, by decide⟩, _, rfl, _, _, rfl, rfl, b0, ?_⟩⟩
      exact k _ _ ⟨s0, p0, l0, ms, m, hp, hl, hlen, m0, m1⟩ (Int.emod_nonneg _ (by omega)) (Int.emod_lt_of_pos _ b0)
    refine ⟨_, rfl, p, _, rfl, dg_cells hp, Nat.zero_le _, fun q hq => ?_⟩
    have hp1 : (upd H1 q (.lst [])) p = some (.dK (dk l m (t + 1))) := by rw [upd_ne (ne_of_none hp hq)]; exact hp
    have hl1 : (upd H1 q (.lst [])) l = some (.lst (ns.map V.int)) := by rw [upd_ne (ne_of_none hl hq)]; exact hl
    have hq1 : (upd H1 q (.lst [])) q = some (.lst []) := upd_same
    have s1 : Same H0 (upd H1 q (.lst [])) := fun b o e => by
      have e1 := s0 b o e
      rw [upd_ne (ne_of_none e1 hq)]
      exact e1
    clear hp hl s0 hq
    revert hp1 hl1 s1 hq1
    generalize upd H1 q (.lst []) = H2
    intro hp hl hq s0
    refine ⟨.list (ns.map .int), .list [], .lst (SqL.of hl) (dp_ints ns), .lst (SqL.of hq) .nil, shaped_ints ns, by decide, _, rfl, ?_⟩
    revert hl
    rcases ns with _ | ⟨n0, nr⟩
    · intro hl
      refine iteF ?_
      exact ⟨M, _, [], rfl, f0, by omega, hp, hl, by simp, s0⟩
    · intro hl
      refine iteT ?_
      have hne : n0 :: nr ≠ [] := fun z => by cases z
      have elast : (List.map V.int (n0 :: nr))[(List.map V.int (n0 :: nr)).length - 1]? = some (V.int ((n0 :: nr).getLast hne)) := by
        rw [List.getElem?_map, List.length_map, ← List.getLast?_eq_getElem?, List.getLast?_eq_some_getLast hne]
        rfl
      refine ⟨_, rfl, p, _, rfl, dg_cells hp, .inl ⟨rfl, _, SqL.of hl⟩, l, _, _, rfl, rfl, hl, elast, ?_⟩
      have edrop : (List.map V.int (n0 :: nr)).dropLast = ((n0 :: nr).dropLast).map V.int := by
        rw [List.map_dropLast]
      have hd63 : (n0 :: nr).dropLast.length + 1 ≤ 63 := by
        rw [List.length_dropLast]
        have : 1 ≤ (n0 :: nr).length := by simp
        omega
      rw [edrop]
      generalize (n0 :: nr).getLast hne = c
      have hp1 : (upd H2 l (.lst (((n0 :: nr).dropLast).map V.int))) p = some (.dK (dk l m (t + 1))) := by rw [upd_ne nlp.symm]; exact hp
      have hl1 : (upd H2 l (.lst (((n0 :: nr).dropLast).map V.int))) l = some (.lst (((n0 :: nr).dropLast).map V.int)) := upd_same
      have s1 : Same H0 (upd H2 l (.lst (((n0 :: nr).dropLast).map V.int))) := fun b o e => by
        rw [upd_ne (ne_of_none e l0)]
        exact s0 b o e
      clear hp hl s0 hq
      revert hp1 hl1 s1 hd63
      generalize upd H2 l (.lst (((n0 :: nr).dropLast).map V.int)) = H3
      generalize (n0 :: nr).dropLast = ns
      intro hlen hp hl s0
      refine ⟨_, rfl, _, _, rfl, rfl, ⟨by decide, by decide, by decide⟩, _, _, rfl, rfl, _, rfl, ?_⟩
      refine ite2 (fun _ => ?_) (fun _ => ?_)
      · refine ⟨_, rfl, p, _, rfl, dg_cells hp, .inl ⟨rfl, _, SqL.of hl⟩, _, rfl, _, rfl, _, _, rfl, rfl, ⟨b0, by omega⟩, l, _, _, rfl, rfl, hl, ?_, ?_⟩
        · rw [List.length_map]
          exact Nat.lt_of_le_of_lt (Nat.le_of_succ_le hlen) (by decide)
        · refine ⟨_, rfl, .inl ⟨_, rfl, _, rfl, _, _, rfl, rfl, b0, ?_⟩⟩
          refine k _ _ ⟨fun b o e => ?_, p0, l0, ns ++ [c / b], m, ?_, ?_, ?_, m0, m1⟩ (Int.emod_nonneg _ (by omega)) (Int.emod_lt_of_pos _ b0)
          · rw [upd_ne (ne_of_none e l0)]
            exact s0 b o e
          · rw [upd_ne nlp.symm]
            exact hp
          · rw [upd_same, List.map_append]
            rfl
          · rw [List.length_append]
            exact hlen
      · refine ⟨_, rfl, _, rfl, .inl ⟨_, rfl, _, _, rfl, rfl, (by show (0 : Int) < 2147483579; decide), _, _, rfl, rfl, ?_⟩⟩
        have c0 := Int.emod_nonneg c (b := 2147483579) (by decide)
        have c1 := Int.emod_lt_of_pos c (b := 2147483579) (by decide)
        exact ⟨_, _, ns, rfl, by omega, by omega, hp, hl, by omega, s0⟩
theorem ok_draw {f : Addr} {fd : FuncData} (F : Fun K "_law_draw" "_law_draw" lDraw f fd) (T : TxtD mg) : FnOk P w K mg base CX0 1 f fd ["_law_deck_here", "_law_below"] spDraw :=
  (ok_drawS F T).imp fun _ _ _ _ => draw_go
end
end KL
set_option Elab.async false
set_option linter.all false
set_option maxRecDepth 100000
set_option maxHeartbeats 4000000
namespace KL
open PySem L2 PySem.Spec PyProof.Rows
/-- once: the tuple itself -/
theorem tuple_once (l : Addr) (its : Array Value) (n : Nat) (dd : Option Addr) (sl : Array (Option Value)) (x : Int) (u : Tok) (c0 : (decide (x < -(2 ^ 63)) || decide (x ≥ 2 ^ 63)) = false) (c1 : (its.isEmpty || x == 1) = true) :
    Meets (Builtin.«tuple.__mul__» ⟨[.ref l, .int x u], []⟩) (fun _ R s => s.heap.get? l = some ⟨.type "tuple", dd, .seq its n, sl⟩ ∧ R (.ok (.ret (.ref l))) s) :=
  .of_wp fun prog w A R s hh => by
    obtain ⟨hp, g, d, tk, os⟩ := s
    obtain ⟨hl, hh⟩ := hh
    have f1 := AutoSeq1.idx_int
    wp_walk using wpAny_loadPart' hl
    repeat (first
      | (refine wpAny_ite_false (decide_eq_false (by rw [c0]; exact Bool.false_ne_true)) ?_; wp_walk using wpAny_loadPart' hl)
      | (refine wpAny_ite_true (decide_eq_true c1) ?_; wp_walk using wpAny_loadPart' hl))
    exact ⟨_, rfl, hh⟩
def rRepU (K : PySem.W.Frag) : R2 := fun x y H Q => ∃ l k xs, x = .ref l ∧ y = .int k ∧ SqT K H l xs ∧ xs ≠ [] ∧ 1 ≤ k ∧ k ≤ 1000 ∧ xs.length ≤ 1000 ∧ (k = 1 → Q (.ref l) H) ∧ (k ≠ 1 → ∀ p, H p = none → Q (.ref p) (upd H p (.tup (List.replicate k.toNat xs).flatten)))
theorem op_repU {X : Cx} : OpR X (binaryOp .Mult) (rRepU X.K) := by
  intro pins s σ H x y v u Q I rx ry h
  obtain ⟨l, k, xs, rfl, rfl, hT, hne, h1, h2, hz, q1, q2⟩ := h
  by_cases e : k = 1
  · subst e
    cases rx
    obtain ⟨t, rfl⟩ := ry
    obtain ⟨its, r, ⟨⟨cls, dd, data, sl⟩, ho, hc, n, hd⟩, hs⟩ := I.tuple hT
    simp only at hc hd
    subst hc hd
    refine wpAny_binaryOp_repeat_ref (T := "tuple") (U := "int") (by decide) ⟨_, ho, rfl⟩ (fun s' => typeIs_int s' 1 t) noFill_tuple_mul F.fills_int_mul F.slot_int_rmul repeat_tuple F.slot_int_index.lookup ?_
    refine call_meets F.slot_int_rmul (typeIs_int s 1 t) F.entry_int_rmul (F.args_int_rmul_2 _ _) (int_rmul_tuple 1 t l its.toArray n dd sl) ⟨ho, rfl, ⟨_, ho, rfl⟩, ?_⟩
    refine call_meets F.slot_tuple_mul ⟨_, ho, rfl⟩ F.entry_tuple_mul (F.args_tuple_mul_2 _ _) (tuple_once l its.toArray n dd sl 1 t (by decide) (by simp)) ⟨ho, ?_⟩
    exact ⟨.ref l, H, I, rfl, q1 rfl⟩
  · exact op_repT pins s σ H _ _ v u Q I rx ry ⟨l, k, xs, rfl, rfl, hT, hne, by omega, h2, hz, q2 e⟩
end KL
set_option Elab.async false
set_option linter.all false
set_option maxRecDepth 100000
set_option maxHeartbeats 4000000
namespace KL
open PySem L2
abbrev lPick : Stmt := top 26
/-- an object of one's own, that changes -/
structure Own (p l a : Addr) (Hb H0 H : Hp) (o : HO) : Prop where
  b : Hb a = none
  ap : a ≠ p
  al : a ≠ l
  n : H0 a = none
  h : H a = some o
section
variable {p l a b : Addr} {Hs Hb H0 H H1 H' : Hp} {t t' t'' n c : Int} {o o' ob : HO}
theorem Own.start (g : Go p l Hs Hb t H0 H t' n) (na : H a = none) : Own p l a Hb H0 (upd H a o) o := by
  obtain ⟨ap, al⟩ := g.d.notP na
  refine ⟨?_, ap, al, g.d.s.free na, upd_same⟩
  cases z : Hb a with
  | none => rfl
  | some u =>
    have := g.f _ _ ap al z
    rw [na] at this
    cases this
theorem Own.go (w : Own p l a Hb H0 H o) (g : Go p l H0 H t H1 H' t' c) : Own p l a Hb H1 H' o :=
  ⟨w.b, w.ap, w.al, g.o _ w.n (by rw [w.h]; simp), g.f _ _ w.ap w.al w.h⟩
theorem Own.upd (w : Own p l a Hb H0 H o) (ne : a ≠ b) : Own p l a Hb H0 (upd H b o') o :=
  ⟨w.b, w.ap, w.al, w.n, by rw [upd_ne ne]; exact w.h⟩
theorem Own.ne (w : Own p l a Hb H0 H o) (nb : H b = none) : a ≠ b := fun z => by
  subst z
  rw [w.h] at nb
  cases nb
theorem Own.put (w : Own p l a Hb H0 H o) (nb : H b = none) : Own p l a Hb H0 (L2.upd H b o') o := w.upd (w.ne nb)
theorem Own.new (w : Own p l a Hb H0 H o) (nb : H b = none) : Own p l a Hb (L2.upd H0 b ob) (L2.upd H b ob) o :=
  ⟨w.b, w.ap, w.al, by rw [upd_ne (w.ne nb)]; exact w.n, by rw [upd_ne (w.ne nb)]; exact w.h⟩
theorem Own.set (w : Own p l a Hb H0 H o) : Own p l a Hb H0 (L2.upd H a o') o' := ⟨w.b, w.ap, w.al, w.n, upd_same⟩
theorem Own.freeze (w : Own p l a Hb H0 H o) (ne : a ≠ b) : Own p l a Hb (L2.upd H0 b ob) H o := ⟨w.b, w.ap, w.al, by rw [upd_ne ne]; exact w.n, w.h⟩
theorem Go.setO (g : Go p l Hs Hb t H0 H t' n) (w : Own p l a Hb H0 H o) : Go p l Hs Hb t H0 (L2.upd H a o') t' n := g.put w.b w.ap w.al w.n
theorem Go.keepO (g : Go p l Hs Hb t H0 H t' n) (w : Own p l a Hb H0 H o) : Go p l Hs Hb t (L2.upd H0 a o) H t' n := g.keep w.b w.ap w.al w.h w.n
end
/-- a list that is being made, behind i turns of at most c draws -/
def Making (p l D : Addr) (Hs Hb : Hp) (t c : Int) (P : Nat → List PyData → Prop) (i : Nat) (H : Hp) : Prop :=
  ∃ H0 t' ys ds, Go p l Hs Hb t H0 H t' ((i : Int) * c) ∧ Own p l D Hb H0 H (.lst ys) ∧ DqAll H0 ys ds ∧ P i ds
theorem dq_len {H : Hp} {ys : List V} {ds : List PyData} (q : DqAll H ys ds) : ys.length = ds.length := q.len
section
variable {p l D : Addr} {Hs Hb H0 H H1 H' : Hp} {t t' t'' n c : Int} {P : Nat → List PyData → Prop} {i : Nat} {ys : List V} {ds : List PyData}
theorem Making.start (dk : DeckAt Hs Hb p l t) (nD : Hb D = none) (h : P 0 []) : Making p l D Hs Hb t c P 0 (upd Hb D (.lst [])) :=
  ⟨Hs, t, [], [], ((Go.refl dk).put0 nD).more (by omega), Own.start (Go.refl dk) nD, .nil, h⟩
theorem Making.turn (g : Go p l Hs Hb t H0 H t' ((i : Int) * c)) (w : Own p l D Hb H0 H (.lst ys)) (q : DqAll H0 ys ds) (g2 : Go p l H0 H t' H1 H' t'' c) {v : V} {d : PyData} (hd : Dq H1 v d) (hn : ds.length < 1000) (hp : P (i + 1) (ds ++ [d])) :
    ∃ acc, H' D = some (.lst acc) ∧ acc.length < sizeLine ∧ Making p l D Hs Hb t c P (i + 1) (upd H' D (.lst (acc ++ [v]))) := by
  have w2 := w.go g2
  refine ⟨ys, w2.h, by rw [dq_len q, sizeLine_eq]; omega, H1, t'', ys ++ [v], ds ++ [d], ?_, w2.set, (DqAll.same g2.s _ _ q).snoc hd, hp⟩
  refine ((g.trans g2).more ?_).setO w2
  rw [Int.natCast_add, Int.add_mul]
  omega
theorem Making.skip (g : Go p l Hs Hb t H0 H t' ((i : Int) * c)) (w : Own p l D Hb H0 H (.lst ys)) (q : DqAll H0 ys ds) (g2 : Go p l H0 H t' H1 H' t'' c) (hp : P (i + 1) ds) : Making p l D Hs Hb t c P (i + 1) H' := by
  refine ⟨H1, t'', ys, ds, (g.trans g2).more ?_, w.go g2, DqAll.same g2.s _ _ q, hp⟩
  rw [Int.natCast_add, Int.add_mul]
  omega
theorem dq_new {H : Hp} {q : Addr} {ys : List V} {ds : List PyData} (nq : H q = none) (h : DqAll H ys ds) : Dq (upd H q (.tup ys)) (.ref q) (.tuple ds) := .tup upd_same (DqAll.same (same_new nq) _ _ h)
end
/-- what a def hands back that draws at most n times -/
def Gives (p l : Addr) (H0 H : Hp) (t n : Int) (G : PyData → Prop) (Q : VK) : Prop := ∀ H1 H' t' v d, Go p l H0 H t H1 H' t' n → Dq H1 v d → G d → Q v H'
theorem Gives.of {p l : Addr} {Hs Hb H0 H : Hp} {t t' n m k : Int} {G : PyData → Prop} {Q : VK} (h : Gives p l Hs Hb t k G Q) (g : Go p l Hs Hb t H0 H t' n) (e : n + m ≤ k) : Gives p l H0 H t' m G Q :=
  fun _ _ _ _ _ g2 hd hG => h _ _ _ _ _ ((g.trans g2).more e) hd hG
def spPick : Sp := fun vs H Q _ => ∃ (H0 : Hp) (p l : Addr) (t : Int) (a : Addr) (xs : List V), vs = [.ref p, .ref a] ∧ DeckAt H0 H p l t ∧ 0 ≤ t ∧ t < 1048576 ∧ H a = some (.lst xs) ∧ a ≠ p ∧ a ≠ l ∧ 0 < xs.length ∧ xs.length < 1000 ∧ ∀ H' (i : Nat) v, Go p l H0 H t H0 H' (t + 1) 1 → xs[i]? = some v → Q v H'
section
variable {P : Program} {w : World} {K : PySem.W.Frag} {mg : Str → Option Value} {base : Heap}
theorem scPick : FnScope ["_law_deck_here", "_law_some"] ["_law_deck_here", "_law_some"] (defScope lPick) := ⟨rfl, rfl, rfl, by decide +kernel, rfl, by decide +kernel, by decide +kernel⟩
theorem ok_pick {f g : Addr} {fd gd : FuncData} (F : Fun K "_law_pick" "_law_pick" lPick f fd) (T : TxtD mg) (G : FnOk P w K mg base CX0 1 g gd ["_law_deck_here", "_law_below"] spDraw) (c : Cal K mg "_law_draw" g gd ["_law_deck_here", "_law_below"]) :
    FnOk P w K mg base CX0 2 f fd ["_law_deck_here", "_law_some"] spPick := by
  refine F.ok scPick (fun vs H Q E h => ?_) (fun cdv A outer s H vs Q E hr h => ?_)
  · obtain ⟨H0, p, l, t, a, xs, rfl, _⟩ := h
    rfl
  · obtain ⟨H0, p, l, t, a, xs, rfl, D, t0, t1, ha, ap, al, hx0, hx1, k⟩ := h
    refine ⟨_, pss_one (ps_ret (pe_ix ix_list (pv 1) (pe_call G hr rfl c.m c.k c.b .nil pass0 (pa_cons (pv 0) (pa_cons (pe_callB call_len_seq (by rfl) T.len PySem.boot_len (pa_cons (pv 1) pa_nil)) pa_nil))) (fun _ _ => rfl))), ?_⟩
    refine ⟨_, rfl, _, rfl, _, rfl, a, xs, rfl, .inl (SqL.of ha), H0, p, l, t, _, rfl, D, t0, t1, by omega, by omega, fun H' r g r0 rb => ?_⟩
    obtain ⟨j, rfl⟩ := Int.eq_ofNat_of_zero_le r0
    have hj : j < xs.length := by omega
    exact ⟨a, xs, _, xs[j], rfl, rfl, SqL.of (g.f _ _ ap al ha), atI_nat (List.getElem?_eq_getElem hj), k H' j _ g (List.getElem?_eq_getElem hj)⟩
end
end KL
set_option Elab.async false
set_option linter.all false
set_option maxRecDepth 100000
set_option maxHeartbeats 2000000
namespace KL
open PySem L2 PySem.Spec PyProof.Rows
abbrev sIsPeople : Stmt := top 12
abbrev sIsPair : Stmt := top 19
abbrev sArePairs : Stmt := top 20
/-! ### people, pairs -/
def mateD (n : Int) : PyData → Bool
  | .tuple [.int a, .int b] => betD 0 (n - 1) (.int a) && (betD 0 (n - 1) (.int b) && !decide (V.int a = V.int b))
  | _ => false
def matesD (n : Int) (d : PyData) : Bool := isTupD d && (allD (mateD n) d && ascD (itemsD d))
def spTestP (f : Int → PyData → Bool) : Sp := fun vs H Q _ => ∃ (v : V) (d : PyData) (n : Int), vs = [.int n, v] ∧ Dq H v d ∧ smB d = true ∧ ∀ H', Same H H' → Q (.bl (f n d)) H'
/-- a pair as data -/
def prD (p : Int × Int) : PyData := .tuple [.int p.1, .int p.2]
theorem two_of {ds : List PyData} (h1 : (2 : Int) ≤ (ds.length : Int)) (h2 : (ds.length : Int) ≤ 2) : ∃ a b, ds = [a, b] := by
  match ds, h1, h2 with
  | [a, b], _, _ => exact ⟨a, b, rfl⟩
  | [], h, _ => simp at h
  | [_], h, _ => simp at h
  | _ :: _ :: _ :: _, _, h =>
    simp at h
    omega
theorem mate_of {n : Int} {d : PyData} (h : mateD n d = true) : ∃ p : Int × Int, d = prD p ∧ 0 ≤ p.1 ∧ p.1 < n ∧ 0 ≤ p.2 ∧ p.2 < n ∧ p.1 ≠ p.2 := by
  unfold mateD at h
  split at h
  · rename_i a b
    simp only [Bool.and_eq_true] at h
    obtain ⟨h1, h2, h3⟩ := h
    have h1 := Bool.and_eq_true_iff.mp (show (decide ((0 : Int) ≤ a) && decide (a ≤ n - 1)) = true from h1)
    have h2 := Bool.and_eq_true_iff.mp (show (decide ((0 : Int) ≤ b) && decide (b ≤ n - 1)) = true from h2)
    simp only [decide_eq_true_eq] at h1 h2
    refine ⟨(a, b), rfl, h1.1, by show a < n; omega, h2.1, by show b < n; omega, fun e => ?_⟩
    have e : a = b := e
    subst e
    simp at h3
  · cases h
theorem mates_of {n : Int} : ∀ {ds : List PyData}, ds.all (mateD n) = true → ∃ ps : List (Int × Int), ds = ps.map prD ∧ ∀ p ∈ ps, 0 ≤ p.1 ∧ p.1 < n ∧ 0 ≤ p.2 ∧ p.2 < n ∧ p.1 ≠ p.2
  | [], _ => ⟨[], rfl, fun _ h => nomatch h⟩
  | d :: ds, h => by
    have h := Bool.and_eq_true_iff.mp (show (mateD n d && ds.all (mateD n)) = true from h)
    obtain ⟨p, rfl, hp⟩ := mate_of h.1
    obtain ⟨ps, rfl, hs⟩ := mates_of h.2
    refine ⟨p :: ps, rfl, fun q hq => ?_⟩
    rcases List.mem_cons.mp hq with rfl | hq
    · exact hp
    · exact hs q hq
theorem lay_prs : ∀ ps : List (Int × Int), PyData.canLayAll0 (ps.map prD) = true ∧ PyData.depthAll (ps.map prD) ≤ 1
  | [] => ⟨rfl, Nat.zero_le _⟩
  | p :: ps => by
    obtain ⟨a, b⟩ := lay_prs ps
    refine ⟨?_, ?_⟩
    · show (true && PyData.canLayAll0 (ps.map prD)) = true
      rw [a]
      rfl
    · show max 1 (PyData.depthAll (ps.map prD)) ≤ 1
      omega
theorem cmp_prs (ps : List (Int × Int)) (i : Nat) (hi : i + 1 < (ps.map prD).length) : cmpD ((ps.map prD).getD i .none) ((ps.map prD).getD (i + 1) .none) = true := by
  rw [List.length_map] at hi
  have g : ∀ j, j < ps.length → ∃ p, (ps.map prD).getD j .none = prD p := fun j hj => by
    rw [List.getD_eq_getElem?_getD, List.getElem?_map, List.getElem?_eq_getElem hj]
    exact ⟨_, rfl⟩
  obtain ⟨p, e1⟩ := g i (by omega)
  obtain ⟨q, e2⟩ := g (i + 1) hi
  rw [e1, e2]
  rfl
section
variable {P : Program} {w : World} {K : PySem.W.Frag} {mg : Str → Option Value} {base : Heap}
theorem scPeople : FnScope ["thing"] ["thing"] (defScope sIsPeople) := ⟨rfl, rfl, rfl, by decide +kernel, rfl, by decide +kernel, by decide +kernel⟩
theorem ok_people {f g : Addr} {fd gd : FuncData} (F : Fun K "is_people" "is_people" sIsPeople f fd) (M : ∃ t, mg "MOST_PEOPLE" = some (.int 3 t)) (G : FnOk P w K mg base CX0 2 g gd ["thing", "low", "high"] (spTest2 betD)) (c : Cal K mg "is_between" g gd ["thing", "low", "high"]) : FnOk P w K mg base CX0 3 f fd ["thing"] (spTest (betD 1 3)) := by
  obtain ⟨t, hm⟩ := M
  refine F.ok scPeople (fun vs H Q E h => ?_) (fun cdv A outer s H vs Q E hr h => ?_)
  · obtain ⟨v, d, rfl, _⟩ := h
    rfl
  · obtain ⟨v, d, rfl, hd, sm, k⟩ := h
    refine ⟨_, pss_one (ps_ret (pe_call G hr (by rfl) c.m c.k c.b .nil pass0 (pa_cons (pv 0) (pa_cons pe_int (pa_cons (pe_glob (v := .int 3) (by rfl) hm ⟨_, rfl⟩) pa_nil))))), ?_⟩
    exact ⟨_, rfl, v, d, 1, 3, rfl, hd, sm, k⟩
theorem scPair : FnScope ["people", "thing", "item"] ["people", "thing"] (defScope sIsPair) := ⟨rfl, rfl, rfl, by decide +kernel, rfl, by decide +kernel, by decide +kernel⟩
theorem ok_pair {f g1 g2 : Addr} {fd gd1 gd2 : FuncData} (F : Fun K "is_pair" "is_pair" sIsPair f fd) (T : TxtB mg) (G1 : FnOk P w K mg base CX0 1 g1 gd1 ["thing", "low", "high"] (spTest2 tupD)) (c1 : Cal K mg "is_tuple_of" g1 gd1 ["thing", "low", "high"])
    (G2 : FnOk P w K mg base CX0 2 g2 gd2 ["thing", "low", "high"] (spTest2 betD)) (c2 : Cal K mg "is_between" g2 gd2 ["thing", "low", "high"]) : FnOk P w K mg base CX0 3 f fd ["people", "thing"] (spTestP mateD) := by
  refine F.ok scPair (fun vs H Q E h => ?_) (fun cdv A outer s H vs Q E hr h => ?_)
  · obtain ⟨v, d, n, rfl, _⟩ := h
    rfl
  · obtain ⟨v, d, n, rfl, hd, sm, k⟩ := h
    have hr1 : Room 1 _ := hr.mono (by decide)
    refine ⟨_, pss_cons (ps_if (PW.pt (pw_or (pt_not (pt_val (pe_call G1 hr1 (by rfl) c1.m c1.k c1.b .nil pass0 (pa_cons (pv 1) (pa_cons pe_int (pa_cons pe_int pa_nil))))))
        (pw_or1 (pt_not (pt_val (pe_callB (cr_all rfl) (by rfl) T.all (by decide +kernel) (pa_cons (pe_lc (own := [("item", 2)]) (g := gName 2) (tt := tYes) rfl scPair.nd (pi_tup (pv 1)) (blkOk_by (N := ["people", "thing", "item"]) (sc := defScope sIsPair) (by decide +kernel)) (fun _ _ _ _ _ => pg_name (i := 2) scPair.nd rfl (.inl rfl)) (fun _ _ _ _ _ => pts_nil)
          (fun _ _ _ _ _ => pe_call G2 hr (by rfl) c2.m c2.k c2.b .nil pass0 (pa_cons (pv 2) (pa_cons pe_int (pa_cons (pe_op op_sub (pv 0) pe_int) pa_nil))))) pa_nil))))))) (pss_one (ps_ret pe_bl)) pss_nil)
      (pss_one (ps_ret (pe_cmpR op_ne (pe_ix (r := rIxT K) ix_tup (pv 1) pe_int (fun _ _ => rfl)) (pe_ix (r := rIxT K) ix_tup (pv 1) pe_int (fun _ _ => rfl)) (nomark _)))), ?_⟩
    refine ⟨_, rfl, v, d, 2, 2, rfl, hd, sm, fun H1 S1 => ⟨_, rfl, ?_⟩⟩
    rcases bool_ft (tupD 2 2 d) with b0 | b0
    · refine iteYes (by rw [b0]; rfl) (iteT ?_)
      have q := k H1 S1
      have e : mateD n d = false := by
        unfold mateD
        split
        · cases b0
        · rfl
      rw [e] at q
      exact q
    refine iteNo (by rw [b0]; rfl) ?_
    obtain ⟨ds, rfl, l1, l2⟩ := tup_of b0
    obtain ⟨x, y, rfl⟩ := two_of l1 l2
    cases hd with
    | @tup b ys _ e hda =>
      refine ⟨_, rfl, b, rfl, ⟨_, SqT.of (S1 _ _ e)⟩, fun D nD => ?_⟩
      refine lc_tup (K := K) (a := b) (xs := ys) (fun i H2 => MadeTo H1 D (((([x, y] : List PyData).take i).map (betD 0 (n - 1))).map V.bl) H2) ⟨same_new nD, upd_same⟩ (fun i H2 _ M => SqT.of (M.1 _ _ (S1 _ _ e))) ?_ ?_
      · rintro i z H2 hz M
        obtain ⟨d', hd', hq⟩ := DqAll.at hda hz
        exact ⟨rfl, _, rfl, _, rfl, _, _, rfl, rfl, z, d', 0, n - 1, rfl, Dq.same (S1.trans M.1) d' z hq, sm_at (sm_all sm) hd', fun H3 S3 => M.turn nD S3 (sm_len sm) hd'⟩
      · rintro H2 M
        rw [hda.len, List.take_length] at M
        have S2 := S1.trans M.1
        refine ⟨D, _, rfl, SqL.of M.2, _, rfl, ?_⟩
        rw [allD_map]
        have q := k H2 S2
        rcases bool_ft (allD (betD 0 (n - 1)) (.tuple [x, y])) with a1 | a1
        · refine iteYes (by rw [a1]; rfl) ?_
          have e : mateD n (.tuple [x, y]) = false := by
            unfold mateD
            split
            · rename_i a b eq
              cases eq
              have a1 : (betD 0 (n - 1) (.int a) && (betD 0 (n - 1) (.int b) && true)) = false := a1
              rw [Bool.and_true] at a1
              rw [← Bool.and_assoc, a1]
              rfl
            · rfl
          rw [e] at q
          exact q
        · refine iteNo (by rw [a1]; rfl) ?_
          have a1 := Bool.and_eq_true_iff.mp (show (betD 0 (n - 1) x && (betD 0 (n - 1) y && true)) = true from a1)
          have a2 := (Bool.and_eq_true_iff.mp a1.2).1
          obtain ⟨i, rfl, _⟩ := bet_of a1.1
          obtain ⟨j, rfl, _⟩ := bet_of a2
          cases hda with
          | cons h1 hda =>
          cases hda with
          | cons h2 hda =>
          cases hda
          cases h1
          cases h2
          refine ⟨_, rfl, b, _, _, .int i, rfl, rfl, SqT.of (S2 _ _ e), rfl, _, rfl, b, _, _, .int j, rfl, rfl, SqT.of (S2 _ _ e), rfl, rfl, ?_⟩
          have e : mateD n (.tuple [.int i, .int j]) = !decide (V.int i = V.int j) := by
            show (betD 0 (n - 1) (.int i) && (betD 0 (n - 1) (.int j) && !decide (V.int i = V.int j))) = _
            rw [a1.1, a2]
            rfl
          rw [e] at q
          exact q
theorem scPairs : FnScope ["people", "thing", "item"] ["people", "thing"] (defScope sArePairs) := ⟨rfl, rfl, rfl, by decide +kernel, rfl, by decide +kernel, by decide +kernel⟩
theorem ok_pairs {f g1 g2 : Addr} {fd gd1 gd2 : FuncData} (F : Fun K "are_pairs" "are_pairs" sArePairs f fd) (T : TxtB mg) (G1 : FnOk P w K mg base CX0 3 g1 gd1 ["people", "thing"] (spTestP mateD)) (c1 : Cal K mg "is_pair" g1 gd1 ["people", "thing"])
    (G2 : FnOk P w K mg base CX0 1 g2 gd2 ["items"] spAsc) (c2 : Cal K mg "is_ascending" g2 gd2 ["items"]) : FnOk P w K mg base CX0 4 f fd ["people", "thing"] (spTestP matesD) := by
  refine F.ok scPairs (fun vs H Q E h => ?_) (fun cdv A outer s H vs Q E hr h => ?_)
  · obtain ⟨v, d, n, rfl, _⟩ := h
    rfl
  · obtain ⟨v, d, n, rfl, hd, sm, k⟩ := h
    have hr1 : Room 1 _ := hr.mono (by decide)
    refine ⟨_, pss_one (ps_ret (pe_and (pe_callB call_isD (by rfl) T.isi (by decide +kernel) (pa_cons (pv 1) (pa_cons (pe_bltn (v := .ty "tuple") (by rfl) T.tuple (by decide +kernel) rfl) pa_nil)))
      (pe_and (pe_callB (cr_all rfl) (by rfl) T.all (by decide +kernel) (pa_cons (pe_lc (own := [("item", 2)]) (g := gName 2) (tt := tYes) rfl scPairs.nd (pi_tup (pv 1)) (blkOk_by (N := ["people", "thing", "item"]) (sc := defScope sArePairs) (by decide +kernel)) (fun _ _ _ _ _ => pg_name (i := 2) scPairs.nd rfl (.inl rfl)) (fun _ _ _ _ _ => pts_nil)
          (fun _ _ _ _ _ => pe_call G1 hr (by rfl) c1.m c1.k c1.b .nil pass0 (pa_cons (pv 0) (pa_cons (pv 2) pa_nil)))) pa_nil))
      (pe_one (pe_call G2 hr1 (by rfl) c2.m c2.k c2.b .nil pass0 (pa_cons (pv 1) pa_nil)))))), ?_⟩
    refine ⟨_, rfl, v, d, "tuple", rfl, by decide, hd, _, rfl, ?_⟩
    have q := k H (Same.refl H)
    cases hd with
    | @tup b xs ds e hda =>
      refine iteYes rfl ⟨_, rfl, b, rfl, ⟨_, SqT.of e⟩, fun D nD => ?_⟩
      refine lc_tup (K := K) (a := b) (xs := xs) (fun i H2 => MadeTo H D (((ds.take i).map (mateD n)).map V.bl) H2) ⟨same_new nD, upd_same⟩ (fun i H2 _ M => SqT.of (M.1 _ _ e)) ?_ ?_
      · rintro i x H2 hx M
        obtain ⟨d', hd', hq⟩ := DqAll.at hda hx
        exact ⟨rfl, _, rfl, _, rfl, x, d', n, rfl, Dq.same M.1 d' x hq, sm_at (sm_all sm) hd', fun H3 S3 => M.turn nD S3 (sm_len sm) hd'⟩
      · rintro H2 M
        rw [hda.len, List.take_length] at M
        have S2 := M.1
        refine ⟨D, _, rfl, SqL.of M.2, _, rfl, ?_⟩
        rw [allD_map]
        rcases bool_ft (allD (mateD n) (.tuple ds)) with a1 | a1
        · refine iteNo a1 ?_
          have q := k H2 S2
          have e : matesD n (.tuple ds) = false := by simp only [matesD, isTupD, a1, Bool.true_and, Bool.false_and]
          rw [e] at q
          exact q
        · refine iteYes a1 ?_
          obtain ⟨ps, rfl, _⟩ := mates_of (show ds.all (mateD n) = true from a1)
          obtain ⟨z1, z2⟩ := lay_prs ps
          refine ⟨_, rfl, b, xs, _, rfl, .inr (S2 _ _ e), DqAll.same S2 _ _ hda, sm_len sm, z1, by omega, cmp_prs ps, fun H3 S3 => ?_⟩
          have q := k H3 (S2.trans S3)
          have e : matesD n (.tuple (ps.map prD)) = ascD (ps.map prD) := by
            show (true && (allD (mateD n) (.tuple (ps.map prD)) && ascD (ps.map prD))) = _
            rw [a1]
            rfl
          rw [e] at q
          exact q
    | _ => exact iteNo rfl q
end
end KL
set_option Elab.async false
set_option linter.all false
set_option maxRecDepth 100000
set_option maxHeartbeats 4000000
namespace KL
open PySem L2 PySem.KX PySem.Spec PyProof.Rows HT
theorem depth_mem : ∀ {ds : List PyData} {d : PyData}, d ∈ ds → d.depth ≤ PyData.depthAll ds
  | x :: ds, d, h => by
    show d.depth ≤ max x.depth (PyData.depthAll ds)
    rcases List.mem_cons.mp h with rfl | h
    · exact Nat.le_max_left _ _
    · exact Nat.le_trans (depth_mem h) (Nat.le_max_right _ _)
/-- some data, each of a size -/
def Many (n w p W : Nat) (ds : List PyData) : Prop := ds.length ≤ n ∧ ∀ d ∈ ds, Gd w p W d
theorem Many.nil {w p W : Nat} : Many 0 w p W [] := ⟨Nat.le_refl _, fun _ h => nomatch h⟩
theorem Many.snoc {n w p W : Nat} {ds : List PyData} {d : PyData} (h : Many n w p W ds) (g : Gd w p W d) : Many (n + 1) w p W (ds ++ [d]) := by
  refine ⟨by have := h.1; simp; omega, fun x hx => ?_⟩
  rcases List.mem_append.mp hx with z | z
  · exact h.2 x z
  · rw [List.mem_singleton.mp z]
    exact g
theorem Many.more {n m w p W : Nat} {ds : List PyData} (h : Many n w p W ds) (e : n ≤ m) : Many m w p W ds := ⟨Nat.le_trans h.1 e, h.2⟩
theorem Many.cons {n w p W : Nat} {ds : List PyData} {d : PyData} (g : Gd w p W d) (h : Many n w p W ds) : Many (n + 1) w p W (d :: ds) := by
  refine ⟨by have := h.1; simp; omega, fun x hx => ?_⟩
  rcases List.mem_cons.mp hx with rfl | z
  · exact g
  · exact h.2 x z
theorem wdAll_le {n w p W : Nat} : ∀ {ds : List PyData}, Many n w p W ds → wdAll ds ≤ w
  | [], _ => Nat.zero_le _
  | d :: r, h => Nat.max_le.mpr ⟨(h.2 d (.head _)).wd, wdAll_le (n := n) ⟨Nat.le_trans (Nat.le_succ _) h.1, fun x hx => h.2 x (.tail _ hx)⟩⟩
theorem dpAll_le {n w p W : Nat} : ∀ {ds : List PyData}, Many n w p W ds → PyData.depthAll ds ≤ p
  | [], _ => Nat.zero_le _
  | d :: r, h => Nat.max_le.mpr ⟨(h.2 d (.head _)).dp, dpAll_le (n := n) ⟨Nat.le_trans (Nat.le_succ _) h.1, fun x hx => h.2 x (.tail _ hx)⟩⟩
theorem txAll_of {n w p W : Nat} : ∀ {ds : List PyData}, Many n w p W ds → txAll ds = true
  | [], _ => rfl
  | d :: r, h => by
    show (txD d && txAll r) = true
    rw [(h.2 d (.head _)).tx, txAll_of (n := n) ⟨Nat.le_trans (Nat.le_succ _) h.1, fun x hx => h.2 x (.tail _ hx)⟩]
    rfl
theorem wtAll_le {w p W : Nat} : ∀ {ds : List PyData} (n : Nat), Many n w p W ds → wtAll ds ≤ n * (W + 2)
  | [], _, _ => Nat.zero_le _
  | d :: r, 0, h => absurd h.1 (by simp)
  | d :: r, n + 1, h => by
    have h1 := (h.2 d (.head _)).wt
    have h2 := wtAll_le n (ds := r) ⟨by have := h.1; simp at this; exact this, fun x hx => h.2 x (.tail _ hx)⟩
    show wt d + 2 + wtAll r ≤ (n + 1) * (W + 2)
    rw [Nat.succ_mul]
    omega
theorem Many.tup {n w p W : Nat} {ds : List PyData} (h : Many n w p W ds) : Gd (max w n) (p + 1) (n * (W + 2) + 3) (.tuple ds) := by
  refine ⟨?_, Nat.succ_le_succ (dpAll_le h), Nat.add_le_add_right (wtAll_le n h) 3, txAll_of h⟩
  exact Nat.max_le.mpr ⟨Nat.le_trans h.1 (Nat.le_max_right _ _), Nat.le_trans (wdAll_le h) (Nat.le_max_left _ _)⟩

theorem rev_bounds (n : Nat) : Builtin.Slice.sliceAdjust none none (-1) (n : Int) = ((n : Int) - 1, -1) := by
  have h : (-1 : Int) < 0 := by decide
  unfold Builtin.Slice.sliceAdjust
  simp only [h, if_true]
theorem rev_count (n : Nat) : Builtin.Slice.slicePlaces ((n : Int) - 1) (-1) (-1) = n := by
  have h : ¬ ((-1 : Int) > 0) := by decide
  unfold Builtin.Slice.slicePlaces
  simp only [h, if_false, Int.neg_neg, Int.ediv_one]
  split <;> omega
theorem rev_pick (xs : Array Value) : ((List.range xs.size).filterMap fun (k : Nat) => xs[((xs.size : Int) - 1 + (k : Int) * (-1)).toNat]?).toArray = xs.toList.reverse.toArray := by
  congr 1
  have e : ∀ (m : Nat), m ≤ xs.size → (List.range m).filterMap (fun (k : Nat) => xs[((xs.size : Int) - 1 + (k : Int) * (-1)).toNat]?) = xs.toList.reverse.take m := by
    intro m
    induction m with
    | zero => intro _; rfl
    | succ m ih =>
      intro hm
      rw [List.range_succ, List.filterMap_append, ih (by omega), List.take_add_one]
      congr 1
      have i1 : ((xs.size : Int) - 1 + ((m : Nat) : Int) * (-1)).toNat = xs.size - 1 - m := by omega
      have i2 : xs.toList.reverse[m]? = xs[xs.size - 1 - m]? := by
        rw [List.getElem?_reverse (by simp; omega)]
        simp
      rw [i2]
      show List.filterMap _ [m] = _
      rw [List.filterMap_cons, i1]
      cases z : xs[xs.size - 1 - m]? <;> rfl
  have := e xs.size (Nat.le_refl _)
  rw [this, List.take_of_length_le (by simp)]
section
variable {prog : Program} {w : World} {A : Around} {E : Value → Shared → Prop} {s : Shared}
theorem tup_rev {t sl : Addr} {items : Array Value} {u : Tok} {Q : Value → Shared → Prop} (ht : IsTup s.heap t items) (hs : s.heap.IsSliceOf sl .none .none (.int (-1) u))
    (h : Q (.ref s.heap.objs.size) { s with heap := s.heap.push { cls := .type "tuple", data := .seq items.toList.reverse.toArray } }) (hz : items.size ≤ sizeLine) : wpAny (model prog w) A (getItem (.ref t) (.ref sl)) Q E s := by
  have ok : sizeOk (.seq items.toList.reverse.toArray) := by
    show items.toList.reverse.toArray.size ≤ sizeLine
    rw [List.size_toArray, List.length_reverse, Array.length_toList]
    exact hz
  obtain ⟨os, h1, h2, h3⟩ := id hs
  have tS : s.TypeIs (.ref sl) "slice" := ⟨os, h1, h2⟩
  unfold getItem
  try with_reducible refine wpAny_holding ?_
  first | refine wpAny_bind (wpAny_pure ?_) | skip
  refine wpAny_bind (wpAny_sequenceKey ht.typeIs (by decide) ?_)
  refine wpAny_bind (wpAny_callSpecial?_slot (name := Str.ofString "__getitem__") ht.typeIs slot_tuple_getitem (wpAny_call_entry slot_tuple_getitem ht.typeIs entry_tuple_getitem ?_ (args_tuple_getitem _ _)))
  refine wpAny_bind (m := Builtin.Tuple.tupleItemsOf (.ref t)) (tupleItemsOf_ ht (wpAny_bind (wpAny_typeOf tS ?_)))
  rw [if_pos (by decide)]
  refine wpAny_bind (m := Builtin.Slice.sliceApplied (.ref sl) (pure (items.size : Int))) ?_
  unfold Builtin.Slice.sliceApplied Builtin.Slice.sliceFields
  refine wpAny_bind (wpAny_bind (wpAny_field h1 h3 (x := Value.none) rfl (wpAny_bind (wpAny_field h1 h3 (x := Value.none) rfl (wpAny_bind (wpAny_field h1 h3 (x := .int (-1) u) rfl (wpAny_pure ?_)))))))
  refine wpAny_bind (slicePart_int ?_)
  show wpAny _ _ (if ((-1 : Int) == 0) = true then _ else _) _ _ s
  rw [if_neg (by decide)]
  refine wpAny_bind (slicePart_none (wpAny_bind (slicePart_none (wpAny_bind (wpAny_pure ?_)))))
  show wpAny _ _ (match Builtin.Slice.sliceAdjust none none (-1) (items.size : Int) with | (a, b) => pure (a, (-1 : Int), Builtin.Slice.slicePlaces a b (-1))) _ _ s
  rw [rev_bounds]
  show wpAny _ _ (pure ((items.size : Int) - 1, (-1 : Int), Builtin.Slice.slicePlaces ((items.size : Int) - 1) (-1) (-1))) _ _ s
  rw [rev_count]
  refine wpAny_pure ?_
  show wpAny _ _ (if (((items.size : Int) - 1 == 0) && ((-1 : Int) == 1) && (items.size == items.size)) = true then _ else _) _ _ s
  rw [if_neg (by simp), rev_pick]
  first
    | exact wpAny_bind (m := Builtin.Tuple.tupleExact _) (wpAny_newObj_type (wpAny_pure ⟨_, rfl, wpAny_pure h⟩) ok)
    | exact wpAny_bind (m := Builtin.Tuple.tupleExact _) (wpAny_newObj_type (wpAny_bind (wpAny_pure (wpAny_pure ⟨_, rfl, wpAny_pure h⟩))) ok)
    | exact wpAny_bind (wpAny_bind (m := Builtin.Tuple.tupleExact _) (wpAny_newObj_type (wpAny_pure (wpAny_pure ⟨_, rfl, wpAny_pure h⟩)) ok))
    | exact wpAny_bind (wpAny_bind (m := Builtin.Tuple.tupleExact _) (wpAny_newObj_type (wpAny_pure ⟨_, rfl, wpAny_pure h⟩) ok))
end
def tRevT (K : PySem.W.Frag) (te : TE) : TE := fun σ H Q => te σ H fun x H1 => ∃ a xs, x = .ref a ∧ SqT K H1 a xs ∧ ∀ p, H1 p = none → Q (.ref p) (upd H1 p (.tup xs.reverse))
section
variable {X : Cx}
theorem pe_revT {e : Expr} {te : TE} {k : Nat} {p1 p2 p3 pos : Pos} (he : PE X e te) : PE X (.Subscript e (.Slice none none (some (.UnaryOp .USub (.Constant (.int 1) k p1) p2)) p3) pos) (tRevT X.K te) := by
  refine ⟨fun pins s σ H Q I h => ?_⟩
  refine Subscript_ (thn (he.run pins s σ H _ I h) fun v s1 ⟨x, H1, I1, r1, a, xs, ex, hx, q⟩ => ?_)
  subst ex
  cases r1
  have st : PO X (some (.UnaryOp .USub (.Constant (.int 1) k p1) p2)) (tPart (tUn (rU fun i => .int (-i)) (tC (.int 1)))) := po_some (pe_un un_neg pe_int)
  refine wpAny_Slice (thn (po_none.run pins s1 σ H1 (fun o H2 => o = none ∧ H2 = H1) I1 ⟨rfl, rfl⟩) fun vl s2 ⟨l, H2, I2, pl, el, e2⟩ => ?_)
  subst el e2
  refine thn (po_none.run pins s2 σ H2 (fun o H3 => o = none ∧ H3 = H2) I2 ⟨rfl, rfl⟩) fun vu s3 ⟨u, H3, I3, pu, eu, e3⟩ => ?_
  subst eu e3
  refine thn (st.run pins s3 σ H3 (fun o H4 => o = some (-1) ∧ H4 = H3) I3 ⟨1, rfl, -1, rfl, rfl, rfl⟩) fun vs s4 ⟨o, H4, I4, ps, eo, e4⟩ => ?_
  subst eo e4
  have I5 : Inv X pins σ H4 { s4 with heap := s4.heap.push ⟨.type "slice", none, .fields #[vl, vu, vs], #[]⟩ } := I4.kept (t' := s4.toks) fun b ob q => Heap.get?_push_of_some _ q
  cases pl
  cases pu
  cases ps with
  | int i tk =>
    obtain ⟨its, r, ht, hz⟩ := I5.tuple hx
    have hl := r.length
    refine tail_any (ops := [.ref a, .ref s4.heap.objs.size]) ht.typeIs (slot_tuple_getitem.lookup) ?_ (by with_unfolding_all rfl)
    refine tup_rev ht (Heap.IsSliceOf.new _ .none .none (.int (-1) tk)) ?_ (by rw [List.size_toArray]; omega)
    refine ⟨.ref _, _, I5.laid (t' := s4.toks) (o := .tup xs.reverse) (fun b ob q => Heap.get?_push_of_some _ q) (Nat.le_refl _) ?_, rfl, q _ (I5.hok.fresh (Nat.le_refl _))⟩
    exact ⟨by rw [List.length_reverse]; exact hz, _, r.reverse, IsTup.new _ _⟩
/-- an int or a bool, and a number -/
def numB : V → Option Int
  | .int i => some i
  | .bl b => some (if b = true then 1 else 0)
  | _ => none
def rNumB (g : Int → Int → Int) : R2 := fun x y H Q => ∃ i j, numB x = some i ∧ y = .int j ∧ Q (.int (g i j)) H
theorem op_addB : OpR X (binaryOp .Add) (rNumB fun i j => i + j) := by
  intro pins s σ H x y v u Q I rx ry h
  obtain ⟨i, j, hx, rfl, q⟩ := h
  cases x with
  | int i' =>
    cases hx
    exact op_add pins s σ H _ _ v u Q I rx ry ⟨_, _, rfl, rfl, q⟩
  | bl b =>
    cases hx
    obtain ⟨t, rfl⟩ := ry
    cases rx
    exact PySem.IntBool.add_bool_int ⟨.int _, H, I.tok _, ⟨_, rfl⟩, q⟩
  | _ => cases hx
theorem op_subB : OpR X (binaryOp .Sub) (rNumB fun i j => i - j) := by
  intro pins s σ H x y v u Q I rx ry h
  obtain ⟨i, j, hx, rfl, q⟩ := h
  cases x with
  | int i' =>
    cases hx
    exact op_sub pins s σ H _ _ v u Q I rx ry ⟨_, _, rfl, rfl, q⟩
  | bl b =>
    cases hx
    obtain ⟨t, rfl⟩ := ry
    cases rx
    exact PySem.IntBool.sub_bool_int ⟨.int _, H, I.tok _, ⟨_, rfl⟩, q⟩
  | _ => cases hx
def rEqB : R2 := fun x y H Q => ∃ i j, numB x = some i ∧ y = .int j ∧ ∀ b, Q (.bl b) H
theorem op_eqB : OpR X (compareOp .Eq) rEqB := by
  intro pins s σ H x y v u Q I rx ry h
  obtain ⟨i, j, hx, rfl, q⟩ := h
  cases x with
  | int i' => exact op_eq pins s σ H _ _ v u Q I rx ry ⟨rfl, q _⟩
  | bl b =>
    obtain ⟨t, rfl⟩ := ry
    cases rx
    exact SeqAt.RcAt.bool_int b j t _ _ _ _ ⟨.bl _, H, I, rfl, q _⟩
  | _ => cases hx
/-- str of an int or a bool -/
def rStrB : List V → Hp → VK → Prop := fun xs H Q => (∃ i, xs = [.int i] ∧ i.natAbs.log2 < 1920 ∧ Q (.str (toString i)) H) ∨ ∃ b, xs = [.bl b] ∧ Q (.str (if b = true then "True" else "False" : String)) H
theorem call_strB : CallR X (.type "str") rStrB := by
  intro pins s σ H xs us Q I r h
  rcases h with ⟨i, rfl, z, q⟩ | ⟨b, rfl, q⟩
  · exact call_str_int pins s σ H _ us Q I r ⟨i, rfl, z, q⟩
  · obtain ⟨u, rfl, e⟩ := vals1 r
    cases (show u = Value.bool b from e)
    refine PySem.P.str_of_bool ⟨.str _, H, I.tok _, ⟨_, rfl⟩, ?_⟩
    cases b <;> exact q
end

theorem cps_of (s : String) : (Str.ofString s).cps.toList = s.toList.map Char.toNat := by
  rw [Str.ofString_eq_toList]
theorem tx_toString (i : Int) : txS (Str.ofString (toString i)) = true := by
  unfold txS
  have dig : ∀ (m : Nat) (c : Nat), c ∈ (toString m : String).toList.map Char.toNat → c < 128 := by
    intro m c hc
    obtain ⟨ch, h1, rfl⟩ := List.mem_map.mp hc
    have h2 : ch ∈ Nat.toDigits 10 m := by simpa [toString, Nat.repr] using h1
    have h3 := Nat.isDigit_of_mem_toDigits (by decide) (by decide) h2
    simp only [Char.isDigit, Bool.and_eq_true, decide_eq_true_eq] at h3
    have := UInt32.le_iff_toNat_le.mp h3.2
    show ch.val.toNat < 128
    have e : ('9' : Char).val.toNat = 57 := by decide
    omega
  rw [List.all_eq_true]
  intro c hc
  rw [cps_of] at hc
  refine decide_eq_true ?_
  cases i with
  | ofNat m => exact dig m c hc
  | negSucc m =>
    have e : (toString (Int.negSucc m) : String) = "-" ++ toString (m + 1) := rfl
    rw [e, String.toList_append, List.map_append, List.mem_append] at hc
    rcases hc with hc | hc
    · have : c = 45 := by simpa using hc
      omega
    · exact dig (m + 1) c hc
theorem len_toString (i : Int) : (Str.ofString (toString i)).length ≤ i.natAbs.log2 + 2 := by
  have e := int_text_length_le (a := i) (k := i.natAbs.log2 + 1) (Nat.succ_pos _) (Nat.lt_succ_self _)
  rw [PySem.ofString_length]
  exact e
theorem log2_succ {a b : Nat} (h : b ≤ a + 1) : b.log2 ≤ a.log2 + 1 := by
  by_cases z : b = 0
  · subst z
    simp
  · have h1 : b < 2 ^ (a.log2 + 2) := by
      have := Nat.lt_log2_self (n := a)
      rw [Nat.pow_succ]
      omega
    have := (Nat.log2_lt z).mpr h1
    omega
/-- what odd values are like, beside a value of a size -/
abbrev Og (w p W : Nat) (d : PyData) : Prop := Gd (2 * w + 200) (p + 2) (2 * W + 10 * w + 400) d
theorem gd_str2 {x : Str} {n : Nat} (h : txS x = true) (e : x.length ≤ n) : Gd n 0 (10 * n + 2) (.str x) :=
  ⟨e, Nat.zero_le _, by show 10 * x.length + 2 ≤ _; omega, h⟩
theorem og_int {w p W : Nat} {i : Int} (h : i.natAbs.log2 ≤ w + 1) : Og w p W (.int i) :=
  ⟨by show i.natAbs.log2 ≤ _; omega, Nat.zero_le _, by show i.natAbs.log2 + 2 ≤ _; omega, rfl⟩
theorem og_bool {w p W : Nat} (b : Bool) : Og w p W (.bool b) := ⟨Nat.zero_le _, Nat.zero_le _, by show 5 ≤ _; omega, rfl⟩
theorem og_str {w p W : Nat} {x : Str} (h : txS x = true) (e : x.length ≤ w + 5) : Og w p W (.str x) := (gd_str2 h e).mono (by omega) (by omega) (by omega)
theorem og_none {w p W : Nat} : Og w p W .none := ⟨Nat.zero_le _, Nat.zero_le _, by show 4 ≤ _; omega, rfl⟩
theorem tx_app {x y : Str} (h : txS x = true) (k : txS y = true) : txS (x ++ y) = true := by
  unfold txS at *
  have e : (x ++ y).cps.toList = x.cps.toList ++ y.cps.toList := by
    show (x.cps ++ y.cps).toList = _
    simp
  rw [e, List.all_append, h, k]
  rfl
theorem DqAll.app {H : Hp} : ∀ {xs ys : List V} {ds es : List PyData}, DqAll H xs ds → DqAll H ys es → DqAll H (xs ++ ys) (ds ++ es)
  | _, _, _, _, .nil, k => k
  | _, _, _, _, .cons h r, k => .cons h (r.app k)
theorem Many.app {n m w p W : Nat} {ds es : List PyData} (h : Many n w p W ds) (k : Many m w p W es) : Many (n + m) w p W (ds ++ es) := by
  refine ⟨by have := h.1; have := k.1; simp; omega, fun x hx => ?_⟩
  rcases List.mem_append.mp hx with z | z
  · exact h.2 x z
  · exact k.2 x z
theorem Many.rev {n w p W : Nat} {ds : List PyData} (h : Many n w p W ds) : Many n w p W ds.reverse := ⟨by simpa using h.1, fun x hx => h.2 x (by simpa using hx)⟩
theorem DqAll.drop {H : Hp} : ∀ {ds : List PyData} {xs : List V} (n : Nat), DqAll H xs ds → DqAll H (xs.drop n) (ds.drop n)
  | _, _, 0, h => h
  | _, _, n + 1, .nil => .nil
  | _, _, n + 1, .cons _ r => r.drop n
theorem DqAll.rev {H : Hp} : ∀ {ds : List PyData} {xs : List V}, DqAll H xs ds → DqAll H xs.reverse ds.reverse
  | _, _, .nil => .nil
  | _, _, .cons h r => by
    rw [List.reverse_cons, List.reverse_cons]
    exact r.rev.snoc h
theorem wtAll_app : ∀ (ds es : List PyData), wtAll (ds ++ es) = wtAll ds + wtAll es
  | [], _ => by simp [wtAll]
  | d :: r, es => by
    show wt d + 2 + wtAll (r ++ es) = wt d + 2 + wtAll r + wtAll es
    rw [wtAll_app r es]
    omega
theorem wdAll_mem {ds : List PyData} {d : PyData} (h : d ∈ ds) : wd d ≤ wdAll ds := by
  induction ds with
  | nil => cases h
  | cons e r ih =>
    rcases List.mem_cons.mp h with rfl | h
    · exact Nat.le_max_left _ _
    · exact Nat.le_trans (ih h) (Nat.le_max_right _ _)
theorem txAll_mem {ds : List PyData} {d : PyData} (t : txAll ds = true) (h : d ∈ ds) : txD d = true := by
  induction ds with
  | nil => cases h
  | cons e r ih =>
    have t' := Bool.and_eq_true_iff.mp (show (txD e && txAll r) = true from t)
    rcases List.mem_cons.mp h with rfl | h
    · exact t'.1
    · exact ih t'.2 h
theorem wdAll_bound {ds : List PyData} {n : Nat} (h : ∀ d ∈ ds, wd d ≤ n) : wdAll ds ≤ n := by
  induction ds with
  | nil => exact Nat.zero_le _
  | cons e r ih => exact Nat.max_le.mpr ⟨h e (.head _), ih fun d hd => h d (.tail _ hd)⟩
theorem dpAll_bound {ds : List PyData} {n : Nat} (h : ∀ d ∈ ds, d.depth ≤ n) : PyData.depthAll ds ≤ n := by
  induction ds with
  | nil => exact Nat.zero_le _
  | cons e r ih => exact Nat.max_le.mpr ⟨h e (.head _), ih fun d hd => h d (.tail _ hd)⟩
theorem txAll_bound {ds : List PyData} (h : ∀ d ∈ ds, txD d = true) : txAll ds = true := by
  induction ds with
  | nil => rfl
  | cons e r ih =>
    show (txD e && txAll r) = true
    rw [h e (.head _), ih fun d hd => h d (.tail _ hd)]
    rfl
theorem wtAll_cut (n : Nat) (ds : List PyData) : wtAll (ds.take n) + wtAll (ds.drop n) = wtAll ds := by
  rw [← wtAll_app, List.take_append_drop]
theorem wtAll_rev : ∀ (ds : List PyData), wtAll ds.reverse = wtAll ds
  | [] => rfl
  | d :: r => by
    rw [List.reverse_cons, wtAll_app, wtAll_rev r]
    show wtAll r + (wt d + 2 + 0) = wt d + 2 + wtAll r
    omega
/-- a tuple or a list of items that stand in another one -/
theorem gd_items {w p W n m : Nat} {ds es : List PyData} (g : Gd w p W (.tuple ds)) (hl : es.length ≤ n) (hm : ∀ d ∈ es, d ∈ ds) (hw : wtAll es ≤ m) :
    Gd (max w n) p (m + 3) (.tuple es) ∧ Gd (max w n) p (m + 3) (.list es) := by
  have g1 : max ds.length (wdAll ds) ≤ w := g.wd
  have g2 : PyData.depthAll ds + 1 ≤ p := g.dp
  have a1 : wdAll es ≤ w := wdAll_bound fun d hd => Nat.le_trans (wdAll_mem (hm d hd)) (by omega)
  have a2 : PyData.depthAll es + 1 ≤ p := by
    have := dpAll_bound (n := PyData.depthAll ds) fun d (hd : d ∈ es) => depth_mem (hm d hd)
    omega
  have a3 : txAll es = true := txAll_bound fun d hd => txAll_mem g.tx (hm d hd)
  refine ⟨⟨?_, a2, ?_, a3⟩, ⟨?_, a2, ?_, a3⟩⟩
  · show max es.length (wdAll es) ≤ _
    omega
  · show wtAll es + 3 ≤ _
    omega
  · show max es.length (wdAll es) ≤ _
    omega
  · show wtAll es + 2 ≤ _
    omega

/-! ### texts cut -/
theorem tx_cut {x : Str} (h : txS x = true) (lo hi : Option Int) : txS (cutS x lo hi) = true ∧ (cutS x lo hi).length ≤ x.length := by
  refine ⟨?_, cutS_length _ _ _⟩
  unfold txS at *
  rw [List.all_eq_true] at *
  intro c hc
  exact h c (List.mem_of_mem_drop (List.mem_of_mem_take (show c ∈ (x.cps.toList.drop (HT.sIx x.length 0 lo)).take (HT.sIx x.length x.length hi - HT.sIx x.length 0 lo) from by simpa [cutS] using hc)))
/-- the values that stand first in the list of odd ones -/
def odd18 : List PyData := [.none, .bool true, .bool false, .int 0, .int (-1), .int 1, .int (10 ^ 39), .str "", .str "a", .str "states", .tuple [], .list [], .dict [], .tuple [.str "a"], .tuple [.str ""], .tuple [.int 0], .tuple [.tuple []], .tuple [.str "a", .int 0]]
theorem odd18_ok {w p W : Nat} : Many 18 (2 * w + 200) (p + 2) (2 * W + 10 * w + 400) odd18 := by
  refine ⟨by decide, fun d hd => ?_⟩
  have z : (odd18.all fun d => decide (wd d ≤ 200) && decide (d.depth ≤ 2) && decide (wt d ≤ 400) && txD d) = true := by decide +kernel
  have y := List.all_eq_true.mp z d hd
  simp only [Bool.and_eq_true, decide_eq_true_eq] at y
  exact ⟨by omega, by omega, by omega, y.2⟩
theorem odd18_few : ∀ d ∈ odd18, (itemsD d).length ≤ 3 := by decide +kernel
end KL
set_option Elab.async false
set_option linter.all false
set_option maxRecDepth 100000
set_option maxHeartbeats 4000000
namespace KL
open PySem L2
/-! ### values that are made beside a deck: what is made is new, and stays -/
theorem slA_go {K : PySem.W.Frag} {p l a : Addr} {H0 H : Hp} {t : Int} {ys : List V} {ds : List PyData} {lo hi : Option Int} {R : VK} (D : DeckAt H0 H p l t) (ha : H0 a = some (.tup ys)) (hq : DqAll H0 ys ds)
    (h : ∀ H0' H' v' xs' a', Go p l H0 H t H0' H' t 0 → v' = .ref a' → H0' a' = some (.tup xs') → DqAll H0' xs' ((ds.drop (HT.sIx ds.length 0 lo)).take (HT.sIx ds.length ds.length hi - HT.sIx ds.length 0 lo)) → R v' H') : rSlA K (.ref a) lo hi H R := by
  have e := dq_len hq
  have q : DqAll H0 ((ys.drop (HT.sIx ds.length 0 lo)).take (HT.sIx ds.length ds.length hi - HT.sIx ds.length 0 lo)) ((ds.drop (HT.sIx ds.length 0 lo)).take (HT.sIx ds.length ds.length hi - HT.sIx ds.length 0 lo)) := (hq.drop _).take _
  refine ⟨a, ys, rfl, SqT.of (D.s _ _ ha), fun z => ?_, fun _ r nr => ?_⟩
  · rw [e] at z
    rw [z.1, z.2, Nat.sub_zero, List.drop_zero, List.drop_zero, ← e, List.take_of_length_le (Nat.le_refl _), e, List.take_of_length_le (Nat.le_refl _)] at q
    refine h H0 H _ ys a (Go.refl D) rfl ha ?_
    rw [z.1, z.2, Nat.sub_zero, List.drop_zero, List.take_of_length_le (Nat.le_refl _)]
    exact q
  · refine h _ _ _ _ r ((Go.refl D).new nr) rfl upd_same ?_
    rw [← e] at q ⊢
    rw [e]
    rw [e] at q
    have q2 := DqAll.same (same_new (o := .tup (cutV ys lo hi)) (D.s.free nr)) _ _ q
    unfold cutV at q2 ⊢
    rw [e] at q2 ⊢
    exact q2
theorem catA_go {K : PySem.W.Frag} {p l a b : Addr} {H0 H : Hp} {t : Int} {xs ys : List V} {ds es : List PyData} {R : VK} (D : DeckAt H0 H p l t) (ha : H0 a = some (.tup xs)) (hb : H0 b = some (.tup ys)) (qa : DqAll H0 xs ds) (qb : DqAll H0 ys es) (hz : xs.length + ys.length ≤ sizeLine)
    (h : ∀ H0' H' v', Go p l H0 H t H0' H' t 0 → Dq H0' v' (.tuple (ds ++ es)) → R v' H') : rCatA K (.ref a) (.ref b) H R := by
  refine ⟨a, b, xs, ys, rfl, rfl, SqT.of (D.s _ _ ha), SqT.of (D.s _ _ hb), hz, fun z => ?_, fun _ z => ?_, fun _ _ r nr => ?_⟩
  · subst z
    cases qa
    exact h _ _ _ (Go.refl D) (.tup hb qb)
  · subst z
    cases qb
    rw [List.append_nil] at h
    exact h _ _ _ (Go.refl D) (.tup ha qa)
  · exact h _ _ _ ((Go.refl D).new nr) (dq_new (D.s.free nr) (qa.app qb))
section
variable {K : PySem.W.Frag} {p l : Addr} {B : Hp} {σ : L2.St}
def LitG (p l : Addr) (B : Hp) (σ : L2.St) (te : TE) (d : PyData) : Prop := ∀ (H0 H : Hp) (t : Int) (Q : VK), DeckAt H0 H p l t → Same B H0 → (∀ H0' H' v, Go p l H0 H t H0' H' t 0 → Dq H0' v d → Q v H') → te σ H Q
def LitsG (p l : Addr) (B : Hp) (σ : L2.St) (ta : TA) (ds : List PyData) : Prop := ∀ (H0 H : Hp) (t : Int) (Q : List V → Hp → Prop), DeckAt H0 H p l t → Same B H0 → (∀ H0' H' vs, Go p l H0 H t H0' H' t 0 → DqAll H0' vs ds → Q vs H') → ta σ H Q
def PartG (σ : L2.St) (tp : TO) (o : Option Int) : Prop := ∀ (H : Hp) (Q : Option Int → Hp → Prop), Q o H → tp σ H Q
theorem litg_int {i : Int} : LitG p l B σ (tC (.int i)) (.int i) := fun _ _ _ _ D _ k => k _ _ _ (Go.refl D) (.int i)
theorem litg_str {x : Str} : LitG p l B σ (tC (.str x)) (.str x) := fun _ _ _ _ D _ k => k _ _ _ (Go.refl D) (.str x)
theorem litg_bl {b : Bool} : LitG p l B σ (tC (.bl b)) (.bool b) := fun _ _ _ _ D _ k => k _ _ _ (Go.refl D) (.bl b)
theorem litg_non : LitG p l B σ (tC .non) .none := fun _ _ _ _ D _ k => k _ _ _ (Go.refl D) .non
theorem litg_neg {i : Int} : LitG p l B σ (tUn (rU fun i => .int (-i)) (tC (.int i))) (.int (-i)) := fun _ _ _ _ D _ k => ⟨i, rfl, k _ _ _ (Go.refl D) (.int _)⟩
theorem litg_op2 {r : R2} {x y z : V} {d : PyData} (hr : ∀ H (Q : VK), Q z H → r x y H Q) (hz : ∀ H, Dq H z d) : LitG p l B σ (tOp r (tC x) (tC y)) d := fun _ H _ Q D _ k => hr H Q (k _ H z (Go.refl D) (hz _))
theorem litg_opV {r : R2} {i : Nat} {x y z : V} {d : PyData} (e : σ[i]? = some (some x)) (hr : ∀ H (Q : VK), Q z H → r x y H Q) (hz : ∀ H, Dq H z d) : LitG p l B σ (tOp r (tVar i) (tC y)) d := fun _ H _ Q D _ k => ⟨x, e, hr H Q (k _ H z (Go.refl D) (hz _))⟩
theorem litg_opVV {r : R2} {i j : Nat} {x y z : V} {d : PyData} (e : σ[i]? = some (some x)) (e' : σ[j]? = some (some y)) (hr : ∀ H (Q : VK), Q z H → r x y H Q) (hz : ∀ H, Dq H z d) : LitG p l B σ (tOp r (tVar i) (tVar j)) d := fun _ H _ Q D _ k => ⟨x, e, y, e', hr H Q (k _ H z (Go.refl D) (hz _))⟩
theorem litg_callV {r : List V → Hp → VK → Prop} {i : Nat} {x z : V} {d : PyData} (e : σ[i]? = some (some x)) (hr : ∀ H (Q : VK), Q z H → r [x] H Q) (hz : ∀ H, Dq H z d) : LitG p l B σ (tCB r (tCons (tVar i) tNil)) d := fun _ H _ Q D _ k => ⟨x, e, hr H Q (k _ H z (Go.refl D) (hz _))⟩
theorem litg_slS {i : Nat} {x : Str} {tl th : TO} {lo hi : Option Int} (e : σ[i]? = some (some (.str x))) (hz : x.length ≤ sizeLine) (hl : PartG σ tl lo) (hh : PartG σ th hi) : LitG p l B σ (tSl rSlS (tVar i) tl th) (.str (cutS x lo hi)) :=
  fun _ H _ Q D _ k => ⟨_, e, hl _ _ (hh _ _ ⟨x, rfl, hz, k _ _ _ (Go.refl D) (.str _)⟩)⟩
theorem litg_var {i : Nat} {v : V} {d : PyData} (e : σ[i]? = some (some v)) (h : Dq B v d) : LitG p l B σ (tVar i) d := fun _ _ _ _ D S k => ⟨v, e, k _ _ _ (Go.refl D) (Dq.same S _ _ h)⟩
theorem litsg_nil : LitsG p l B σ tNil [] := fun _ _ _ _ D _ k => k _ _ _ (Go.refl D) .nil
theorem litsg_cons {te : TE} {ta : TA} {d : PyData} {ds : List PyData} (h : LitG p l B σ te d) (hs : LitsG p l B σ ta ds) : LitsG p l B σ (tCons te ta) (d :: ds) := fun H0 H t Q D S k =>
  h H0 H t _ D S fun H1 H1' v g dv => hs H1 H1' t _ g.d (S.trans g.s) fun H2 H2' vs g2 dvs => k H2 H2' (v :: vs) ((g.trans g2).more (by omega)) (.cons (Dq.same g2.s _ _ dv) dvs)
theorem litg_tup {ta : TA} {ds : List PyData} (hs : LitsG p l B σ ta ds) (hn : ds.length ≤ 1000) : LitG p l B σ (tTup ta) (.tuple ds) := fun H0 H t Q D S k =>
  hs H0 H t _ D S fun H1 H1' vs g dvs => ⟨by rw [dvs.len, sizeLine_eq]; omega, fun q nq => k _ _ _ (g.new nq) (dq_new (g.d.s.free nq) dvs)⟩
theorem litg_lst {ta : TA} {ds : List PyData} (hs : LitsG p l B σ ta ds) (hn : ds.length ≤ 1000) : LitG p l B σ (tLst ta) (.list ds) := fun H0 H t Q D S k =>
  hs H0 H t _ D S fun H1 H1' vs g dvs => ⟨by rw [dvs.len, sizeLine_eq]; omega, fun q nq => k _ _ _ (g.new nq) (.lst upd_same (DqAll.same (same_new (g.d.s.free nq)) _ _ dvs))⟩
theorem litg_dict : LitG p l B σ tDNewK (.dict []) := fun H0 H t Q D S k q nq => k _ _ _ ((Go.refl D).new nq) (.dct0 upd_same)
theorem part_no : PartG σ tNoPart none := fun _ _ q => q
theorem part_int {i : Int} : PartG σ (tPart (tC (.int i))) (some i) := fun _ _ q => ⟨i, rfl, q⟩
theorem part_neg {i : Int} : PartG σ (tPart (tUn (rU fun i => .int (-i)) (tC (.int i)))) (some (-i)) := fun _ _ q => ⟨i, rfl, _, rfl, q⟩
theorem part_var {i : Nat} {n : Int} (e : σ[i]? = some (some (.int n))) : PartG σ (tPart (tVar i)) (some n) := fun _ _ q => ⟨_, e, n, rfl, q⟩
theorem part_add {i : Nat} {n m : Int} (e : σ[i]? = some (some (.int n))) : PartG σ (tPart (tOp (rI0 fun i j => .int (i + j)) (tVar i) (tC (.int m)))) (some (n + m)) := fun _ _ q => ⟨_, e, _, _, rfl, rfl, _, rfl, q⟩
abbrev pc (es : List PyData) (lo hi : Option Int) : List PyData := (es.drop (HT.sIx es.length 0 lo)).take (HT.sIx es.length es.length hi - HT.sIx es.length 0 lo)
theorem litg_slT {te : TE} {tl th : TO} {lo hi : Option Int} {es : List PyData} (h : LitG p l B σ te (.tuple es)) (hl : PartG σ tl lo) (hh : PartG σ th hi) : LitG p l B σ (tSl (rSlA K) te tl th) (.tuple (pc es lo hi)) := fun H0 H t Q D S k => by
  refine h H0 H t _ D S fun H1 H1' v g dv => hl _ _ (hh _ _ ?_)
  cases dv with
  | tup ha qa =>
    refine slA_go g.d ha qa fun H2 H2' v2 xs2 a2 g2 e2 h2 q2 => ?_
    subst e2
    exact k _ _ _ ((g.trans g2).more (by omega)) (.tup h2 q2)
theorem litg_catT {ta tb : TE} {ds es : List PyData} (h1 : LitG p l B σ ta (.tuple ds)) (h2 : LitG p l B σ tb (.tuple es)) (hz : ds.length + es.length ≤ 4000) : LitG p l B σ (tOp (rCatA K) ta tb) (.tuple (ds ++ es)) := fun H0 H t Q D S k =>
  h1 H0 H t _ D S fun H1 H1' v g dv => h2 H1 H1' t _ g.d (S.trans g.s) fun H2 H2' u g2 du => by
    have dv := Dq.same g2.s _ _ dv
    cases dv with
    | tup ha qa =>
      cases du with
      | tup hb qb =>
        exact catA_go g2.d ha hb qa qb (by rw [dq_len qa, dq_len qb, sizeLine_eq]; omega) fun H3 H3' v3 g3 d3 => k _ _ _ (((g.trans g2).trans g3).more (by omega)) d3
theorem litg_revT {te : TE} {es : List PyData} (h : LitG p l B σ te (.tuple es)) : LitG p l B σ (tRevT K te) (.tuple es.reverse) := fun H0 H t Q D S k =>
  h H0 H t _ D S fun H1 H1' v g dv => by
    cases dv with
    | tup ha qa => exact ⟨_, _, rfl, SqT.of (g.d.s _ _ ha), fun q nq => k _ _ _ (g.new nq) (dq_new (g.d.s.free nq) qa.rev)⟩
theorem litg_listT {te : TE} {es : List PyData} (h : LitG p l B σ te (.tuple es)) : LitG p l B σ (tCB (fun xs H Q => ∃ p ys, xs = [.ref p] ∧ (SqL K H p ys ∨ SqT K H p ys) ∧ ∀ l, H l = none → Q (.ref l) (upd H l (.lst ys))) (tCons te tNil)) (.list es) := fun H0 H t Q D S k =>
  h H0 H t _ D S fun H1 H1' v g dv => by
    cases dv with
    | tup ha qa => exact ⟨_, _, rfl, .inr (SqT.of (g.d.s _ _ ha)), fun q nq => k _ _ _ (g.new nq) (.lst upd_same (DqAll.same (same_new (g.d.s.free nq)) _ _ qa))⟩
end
end KL
set_option Elab.async false
set_option linter.all false
set_option maxRecDepth 100000
set_option maxHeartbeats 8000000
namespace KL
open PySem L2 PySem.KX PySem.Spec PyProof.Rows
def rNilT (K : PySem.W.Frag) : R2 := fun x y H Q => ∃ a b xs, x = .ref a ∧ y = .ref b ∧ SqT K H a xs ∧ SqT K H b [] ∧ Q (.bl (!xs.isEmpty)) H
theorem op_neNilT {X : Cx} (hu : X.A.units + 64 < cLine) : OpR X (compareOp .NotEq) (rNilT X.K) := by
  intro pins s σ H x y v u Q I rx ry h
  obtain ⟨a, b, xs, rfl, rfl, ha, hb, q⟩ := h
  cases (show v = Value.ref a from rx)
  cases (show u = Value.ref b from ry)
  obtain ⟨its, r, ⟨o, ho, hc, n, hd⟩, _⟩ := I.tuple ha
  obtain ⟨it2, r2, ⟨o2, ho2, hc2, n2, hd2⟩, _⟩ := I.tuple hb
  cases r2
  refine SeqAt.RcNeAt.tuples (e := fun _ => true) ⟨o, ho, hc, n, hd⟩ ⟨o2, ho2, hc2, n2, hd2⟩ (by omega) (fun j h1 h2 => absurd h2 (Nat.not_lt_zero _)) _ _ _ _ ⟨.bl (!xs.isEmpty), H, I, ?_, q⟩
  cases r with
  | nil => rfl
  | cons _ _ => rfl
theorem pc_take (es : List PyData) (k : Nat) : pc es none (some (k : Int)) = es.take k := by
  show (es.drop 0).take (HT.sIx es.length es.length (some (k : Int)) - 0) = _
  rw [HT.sIx_nat, Nat.sub_zero, List.drop_zero]
  by_cases h : k ≤ es.length
  · rw [Nat.min_eq_left h]
  · rw [Nat.min_eq_right (by omega), List.take_of_length_le (Nat.le_refl _), List.take_of_length_le (by omega)]
theorem pc_drop (es : List PyData) (k : Nat) : pc es (some (k : Int)) none = es.drop k := by
  show (es.drop (HT.sIx es.length 0 (some (k : Int)))).take (es.length - HT.sIx es.length 0 (some (k : Int))) = _
  rw [HT.sIx_nat]
  by_cases h : k ≤ es.length
  · rw [Nat.min_eq_left h, List.take_of_length_le (by rw [List.length_drop]; omega)]
  · rw [Nat.min_eq_right (by omega), Nat.sub_self, List.drop_eq_nil_of_le (by omega : es.length ≤ k)]
    rfl
theorem pc_mid (es : List PyData) (k m : Nat) (h : k ≤ es.length) : pc es (some (k : Int)) (some ((k : Int) + (m : Int))) = (es.drop k).take m := by
  have e : ((k : Int) + (m : Int)) = (((k + m : Nat)) : Int) := by omega
  rw [e]
  show (es.drop (HT.sIx es.length 0 (some (k : Int)))).take (HT.sIx es.length es.length (some ((k + m : Nat) : Int)) - HT.sIx es.length 0 (some (k : Int))) = _
  rw [HT.sIx_nat, HT.sIx_nat, Nat.min_eq_left h]
  by_cases h2 : k + m ≤ es.length
  · rw [Nat.min_eq_left h2]
    congr 1
    omega
  · rw [Nat.min_eq_right (by omega), List.take_of_length_le (by rw [List.length_drop]; omega), List.take_of_length_le (by rw [List.length_drop]; omega)]
theorem wtAll_get {es : List PyData} {i : Nat} {d : PyData} (h : es[i]? = some d) : wtAll es = wtAll (es.take i) + (wt d + 2) + wtAll (es.drop (i + 1)) := by
  obtain ⟨hi, rfl⟩ := List.getElem?_eq_some_iff.mp h
  have h1 := wtAll_cut i es
  have h2 : es.drop i = es[i] :: es.drop (i + 1) := List.drop_eq_getElem_cons hi
  rw [h2] at h1
  have h3 : wtAll (es[i] :: es.drop (i + 1)) = wt es[i] + 2 + wtAll (es.drop (i + 1)) := rfl
  omega
/-! ### readings of which one knows the value that they hand back, by data -/
def LitAt (σ : L2.St) (H0 : Hp) (t : TE) (d : PyData) : Prop := ∀ H Q, Same H0 H → (∀ H' v, Same H H' → Dq H' v d → Q v H') → t σ H Q
def LitsAt (σ : L2.St) (H0 : Hp) (t : TA) (ds : List PyData) : Prop := ∀ H Q, Same H0 H → (∀ H' vs, Same H H' → DqAll H' vs ds → Q vs H') → t σ H Q
section
variable {σ : L2.St} {H0 : Hp}
theorem lit_int {i : Int} : LitAt σ H0 (tC (.int i)) (.int i) := fun H Q _ k => k H _ (Same.refl _) (.int i)
theorem lit_str {x : Str} : LitAt σ H0 (tC (.str x)) (.str x) := fun H Q _ k => k H _ (Same.refl _) (.str x)
theorem lit_bl {b : Bool} : LitAt σ H0 (tC (.bl b)) (.bool b) := fun H Q _ k => k H _ (Same.refl _) (.bl b)
theorem lit_non : LitAt σ H0 (tC .non) .none := fun H Q _ k => k H _ (Same.refl _) .non
theorem lit_dict : LitAt σ H0 tDNewK (.dict []) := fun H Q _ k p np => k _ _ (same_new np) (.dct0 upd_same)
theorem lits_nil : LitsAt σ H0 tNil [] := fun H Q _ k => k H _ (Same.refl _) .nil
theorem lits_cons {t : TE} {ts : TA} {d : PyData} {ds : List PyData} (h : LitAt σ H0 t d) (hs : LitsAt σ H0 ts ds) : LitsAt σ H0 (tCons t ts) (d :: ds) := fun H Q S k =>
  h H _ S fun H1 v S1 d1 => hs H1 _ (S.trans S1) fun H2 vs S2 d2 => k H2 _ (S1.trans S2) (.cons (Dq.same S2 _ _ d1) d2)
theorem lit_tup {ts : TA} {ds : List PyData} (hs : LitsAt σ H0 ts ds) (hn : ds.length ≤ 1000) : LitAt σ H0 (tTup ts) (.tuple ds) := fun H Q S k =>
  hs H _ S fun H1 vs S1 d1 => ⟨by rw [d1.len, sizeLine_eq]; omega, fun p np => k _ _ (S1.trans (same_new np)) (dq_new np d1)⟩
theorem lit_lst {ts : TA} {ds : List PyData} (hs : LitsAt σ H0 ts ds) (hn : ds.length ≤ 1000) : LitAt σ H0 (tLst ts) (.list ds) := fun H Q S k =>
  hs H _ S fun H1 vs S1 d1 => ⟨by rw [d1.len, sizeLine_eq]; omega, fun p np => k _ _ (S1.trans (same_new np)) (.lst upd_same (DqAll.same (same_new np) _ _ d1))⟩
theorem lit_var {i : Nat} {v : V} {d : PyData} (e : σ[i]? = some (some v)) (h : Dq H0 v d) : LitAt σ H0 (tVar i) d := fun H Q S k => ⟨v, e, k H v (Same.refl _) (Dq.same S _ _ h)⟩
end
theorem asg_lst {σ : L2.St} {H0 : Hp} {ts : TA} {ds : List PyData} {i : Nat} {D : Ends} (hs : LitsAt σ H0 ts ds) (hn : ds.length ≤ 1000) (k : ∀ J p vs, Same H0 J → J p = none → DqAll J vs ds → D.nx (σ.set i (some (.ref p))) (upd J p (.lst vs))) : tAsg (tLst ts) (gName i) D σ H0 :=
  hs H0 _ (Same.refl _) fun J vs S d => ⟨by rw [d.len, sizeLine_eq]; omega, fun p np => k J p vs S np d⟩
def okS (x : Str) : Bool := PyData.strOk x
mutual
/-- all texts in it can be laid -/
def okD : PyData → Bool
  | .str x => okS x
  | .list ds => okAll ds
  | .tuple ds => okAll ds
  | _ => true
def okAll : List PyData → Bool
  | [] => true
  | d :: r => okD d && okAll r
end
theorem ok_char : ∀ c : Nat, c < 128 → PyData.strOk ⟨#[c]⟩ = true := by decide +kernel
theorem okS_tx {x : Str} (h : txS x = true) : okS x = true := by
  have a : ∀ c ∈ x.cps.toList, c < 128 := fun c hc => of_decide_eq_true (List.all_eq_true.mp h c hc)
  unfold okS PyData.strOk
  simp only [Array.all_eq_true, ← Array.all_toList, List.all_eq_true] at *
  intro c hc
  have h1 := ok_char c (a c hc)
  unfold PyData.strOk at h1
  simpa using h1
mutual
theorem okD_tx : ∀ d : PyData, txD d = true → okD d = true
  | .str x, h => okS_tx h
  | .list ds, h => okAll_tx ds h
  | .tuple ds, h => okAll_tx ds h
  | .none, _ => rfl
  | .bool _, _ => rfl
  | .int _, _ => rfl
  | .dict _, _ => rfl
theorem okAll_tx : ∀ ds : List PyData, txAll ds = true → okAll ds = true
  | [], _ => rfl
  | d :: r, h => by
    have h := Bool.and_eq_true_iff.mp (show (txD d && txAll r) = true from h)
    show (okD d && okAll r) = true
    rw [okD_tx d h.1, okAll_tx r h.2]
    rfl
end
theorem DeckAt.mono {H0 H H' : Hp} {p l : Addr} {t : Int} (D : DeckAt H0 H p l t) (S : Same H H') : DeckAt H0 H' p l t := by
  obtain ⟨ns, m, hp, hl, r⟩ := D.d
  exact ⟨D.s.trans S, D.p0, D.l0, ns, m, S _ _ hp, S _ _ hl, r⟩
/-! ### questions whose answer is no -/
def NoAt (σ : L2.St) (H0 : Hp) (t : TT) : Prop := ∀ H (Q : Bool → Hp → Prop), Same H0 H → (∀ H', Same H H' → Q false H') → t σ H Q
section
variable {σ : L2.St} {H0 : Hp}
theorem no_or {t u : TT} (h1 : NoAt σ H0 t) (h2 : NoAt σ H0 u) : NoAt σ H0 (tOr t u) := fun H Q S k => h1 H _ S fun H1 S1 => iteNo rfl (h2 H1 Q (S.trans S1) fun H2 S2 => k H2 (S1.trans S2))
theorem ifs_no {c : TT} {a : TS} {D : Ends} (h : NoAt σ H0 c) (k : ∀ H', Same H0 H' → D.nx σ H') : tIfS c a tNext D σ H0 := h H0 _ (Same.refl _) fun H' S => iteNo rfl (k H' S)
end
end KL
set_option Elab.async false
set_option linter.all false
set_option maxRecDepth 100000
set_option maxHeartbeats 4000000
namespace KL
open PySem L2 PySem.KX PySem.Spec PyProof.Rows
abbrev sPInit : Stmt := inClass (top 18) 0
abbrev sPLen : Stmt := inClass (top 18) 1
abbrev sPEq : Stmt := inClass (top 18) 2
abbrev sPOr : Stmt := inClass (top 18) 3
abbrev sPStr : Stmt := inClass (top 18) 4
abbrev sPRead : Stmt := inClass (top 18) 5
abbrev sPHear : Stmt := inClass (top 18) 6
def numD : PyData → Int
  | .int i => i
  | _ => 0
/-- what is said of the two parts of a policy -/
def dueP (d0 d1 : PyData) : Option Str := if betD 1 3 d0 = false then some "people" else if matesD (numD d0) d1 = false then some "pairs" else none
theorem same_put' {H0 H : Hp} {x : Addr} {o : HO} (S : Same H0 H) (n : H0 x = none) : Same H0 (upd H x o) := fun b u e => by
  rw [upd_ne (ne_of_none e n)]
  exact S _ _ e
structure TxtE (K : PySem.W.Frag) (mg : Str → Option Value) (CB IB : Addr) : Prop where
  ei : EI K CB IB "part" "BadPolicy.__init__"
  ty : PySem.W.typeIn K (.ref CB) = some (.type "type")
  m : mg "BadPolicy" = some (.ref CB)
structure TxtP (K : PySem.W.Frag) (C : Addr) : Prop where
  c : Cls K C
  people : NoAttr K C "people"
  pairs : NoAttr K C "pairs"
def polF (v0 v1 : V) : List (Str × V) := putF "pairs" v1 (putF "people" v0 [])
theorem pol_people (v0 v1 : V) : (polF v0 v1).lookup ("people" : Str) = some v0 := by rfl
theorem pol_pairs (v0 v1 : V) : (polF v0 v1).lookup ("pairs" : Str) = some v1 := by rfl
def spPInit (C CB : Addr) : Sp := fun vs H Q E => ∃ (H0 : Hp) (x dx : Addr) (v0 v1 : V) (d0 d1 : PyData), vs = [.ref x, v0, v1] ∧ Same H0 H ∧ H0 x = none ∧ H x = some (.ins C dx []) ∧ Dq H0 v0 d0 ∧ Dq H0 v1 d1 ∧ smB d0 = true ∧ smB d1 = true ∧
  (dueP d0 d1 = none → ∀ H', Same H0 H' → H' x = some (.ins C dx (polF v0 v1)) → Q .non H') ∧
  ∀ wd, dueP d0 d1 = some wd → ∀ H' dd, Same H0 H' → H' dd = some (.xd [("part", .str wd)]) → E (.ref CB) (some dd) H'
section
variable {P : Program} {w : World} {K : PySem.W.Frag} {mg : Str → Option Value} {base : Heap} {C CB IB : Addr}
abbrev pInit2 : List Str := ["self", "people", "pairs"]
theorem scPInit : FnScope pInit2 pInit2 (defScope sPInit) := ⟨rfl, rfl, rfl, by decide +kernel, rfl, by decide +kernel, by decide +kernel⟩
theorem ok_pinit {f g1 g2 : Addr} {fd gd1 gd2 : FuncData} (F : Fun K "__init__" "Policy.__init__" sPInit f fd) (T : TxtP K C) (TE : TxtE K mg CB IB)
    (G1 : FnOk P w K mg base CX0 3 g1 gd1 ["thing"] (spTest (betD 1 3))) (c1 : Cal K mg "is_people" g1 gd1 ["thing"]) (G2 : FnOk P w K mg base CX0 4 g2 gd2 ["people", "thing"] (spTestP matesD)) (c2 : Cal K mg "are_pairs" g2 gd2 ["people", "thing"]) : FnOk P w K mg base (L2.CX P w) 5 f fd pInit2 (spPInit C CB) := by
  refine fnX F scPInit (fun vs H Q E h => ?_) (fun cdv A outer s H vs Q E hr h tk po => ?_)
  · obtain ⟨H0, x, dx, v0, v1, d0, d1, rfl, _⟩ := h
    rfl
  · obtain ⟨H0, x, dx, v0, v1, d0, d1, rfl, S0, nx, hx, q0, q1, m0, m1, k, kE⟩ := h
    have hr1 : Room 1 _ := hr.mono (by decide)
    have hr3 : Room 3 _ := hr.mono (by decide)
    refine ⟨_, pss_cons (ps_if (pt_not (pt_val (pe_call G1 hr3 (by rfl) c1.m c1.k c1.b .nil pass0 (pa_cons (pv 1) pa_nil)))) (pss_one (ps_raise rfl tk (pmk_ex TE.ei TE.ty TE.m hr1 (by rfl) (pa_cons pe_str pa_nil)))) pss_nil)
      (pss_cons (ps_if (pt_not (pt_val (pe_call G2 hr (by rfl) c2.m c2.k c2.b .nil pass0 (pa_cons (pv 1) (pa_cons (pv 2) pa_nil))))) (pss_one (ps_raise rfl tk (pmk_ex TE.ei TE.ty TE.m hr1 (by rfl) (pa_cons pe_str pa_nil)))) pss_nil)
      (pss_cons (ps_fld (pv 0) (pv 1) (by rfl)) (pss_one (ps_fld (pv 0) (pv 2) (by rfl))))), ?_⟩
    have bad : ∀ {H1 : Hp} (wd : Str), Same H0 H1 → dueP d0 d1 = some wd → ∃ v, [V.str wd] = [v] ∧ ∀ dd, H1 dd = none → E (.ref CB) (some dd) (upd H1 dd (.xd [("part", v)])) := fun {H1} wd S1 hz => ⟨_, rfl, fun dd nd => kE _ hz _ dd (S1.trans (same_new nd)) upd_same⟩
    refine ⟨_, rfl, v0, d0, rfl, Dq.same S0 _ _ q0, m0, fun H1 S1 => ⟨_, rfl, ?_⟩⟩
    have T1 := S0.trans S1
    rcases bool_ft (betD 1 3 d0) with b0 | b0
    · refine iteYes (by rw [b0]; rfl) (bad "people" T1 ?_)
      unfold dueP
      rw [if_pos b0]
    refine iteNo (by rw [b0]; rfl) ?_
    obtain ⟨n, rfl, l0, u0⟩ := bet_of b0
    cases q0
    refine ⟨_, rfl, _, rfl, v1, d1, n, rfl, Dq.same T1 _ _ q1, m1, fun H2 S2 => ⟨_, rfl, ?_⟩⟩
    have T2 := T1.trans S2
    have x2 := S2 _ _ (S1 _ _ hx)
    rcases bool_ft (matesD n d1) with b1 | b1
    · refine iteYes (by rw [b1]; rfl) (bad "pairs" T2 ?_)
      unfold dueP
      rw [if_neg (by rw [b0]; decide), if_pos (show matesD (numD (.int n)) d1 = false from b1)]
    refine iteNo (by rw [b1]; rfl) ?_
    have dn : dueP (.int n) d1 = none := by
      unfold dueP
      rw [if_neg (by rw [b0]; decide), if_neg (by rw [show matesD (numD (.int n)) d1 = true from b1]; decide)]
    refine ⟨_, rfl, _, rfl, x, C, dx, _, rfl, x2, T.c, T.people, (by show 0 < 1000; decide), ?_⟩
    have f3 : (upd H2 x (.ins C dx (putF "people" (.int n) []))) x = some (.ins C dx (putF "people" (.int n) [])) := upd_same
    have T3 : Same H0 (upd H2 x (.ins C dx (putF "people" (.int n) []))) := same_put' T2 nx
    revert f3 T3
    generalize upd H2 x (.ins C dx (putF "people" (.int n) [])) = H3
    intro f3 T3
    refine ⟨_, rfl, _, rfl, x, C, dx, _, rfl, f3, T.c, T.pairs, (by show 1 < 1000; decide), ?_⟩
    exact k dn _ (same_put' T3 nx) upd_same
end
/-! ### policies that stand -/
/-- the pairs of a policy of so many people -/
structure Pairs (n : Int) (ps : List (Int × Int)) : Prop where
  n1 : 1 ≤ n
  n3 : n ≤ 3
  all : ∀ p ∈ ps, 0 ≤ p.1 ∧ p.1 < n ∧ 0 ≤ p.2 ∧ p.2 < n ∧ p.1 ≠ p.2
  asc : ascD (ps.map prD) = true
  few : ps.length ≤ 1000
def prsD (ps : List (Int × Int)) : PyData := .tuple (ps.map prD)
theorem right_pol {d0 d1 : PyData} (h : dueP d0 d1 = none) (m : smB d1 = true) : ∃ n ps, d0 = .int n ∧ d1 = prsD ps ∧ Pairs n ps := by
  unfold dueP at h
  split at h
  · cases h
  split at h
  · cases h
  rename_i h0 h1
  have h0 : betD 1 3 d0 = true := by
    cases e : betD 1 3 d0 with
    | true => rfl
    | false => exact absurd e h0
  have h1 : matesD (numD d0) d1 = true := by
    cases e : matesD (numD d0) d1 with
    | true => rfl
    | false => exact absurd e h1
  obtain ⟨n, rfl, l0, u0⟩ := bet_of h0
  simp only [matesD, Bool.and_eq_true] at h1
  obtain ⟨h1, h2, h3⟩ := h1
  cases d1 with
  | tuple ds =>
    obtain ⟨ps, rfl, hp⟩ := mates_of (show ds.all (mateD n) = true from h2)
    refine ⟨n, ps, rfl, rfl, l0, u0, hp, h3, ?_⟩
    have := sm_len m
    rwa [List.length_map] at this
  | _ => cases h1
/-- a policy at x -/
def PolAt (C : Addr) (H : Hp) (x : Addr) (n : Int) (v : V) (ps : List (Int × Int)) : Prop := ∃ dx, H x = some (.ins C dx (polF (.int n) v)) ∧ Dq H v (prsD ps)
theorem PolAt.same {C : Addr} {H H' : Hp} {x : Addr} {n : Int} {v : V} {ps : List (Int × Int)} (h : PolAt C H x n v ps) (S : Same H H') : PolAt C H' x n v ps := by
  obtain ⟨dx, h1, h2⟩ := h
  exact ⟨dx, S _ _ h1, Dq.same S _ _ h2⟩
def spPLen (C : Addr) : Sp := fun vs H Q _ => ∃ (x : Addr) (n : Int) (v : V) (ps : List (Int × Int)), vs = [.ref x] ∧ PolAt C H x n v ps ∧ ps.length ≤ 1000 ∧ Q (.int ps.length) H
theorem plain_prs : ∀ ps : List (Int × Int), plainAll (ps.map prD) = true
  | [] => rfl
  | p :: ps => by
    show (true && plainAll (ps.map prD)) = true
    rw [plain_prs ps]
    rfl
theorem shaped_prs (ps : List (Int × Int)) : SeqAt.shaped (prsD ps) = true := by
  unfold SeqAt.shaped
  rw [Bool.and_eq_true]
  obtain ⟨a, b⟩ := lay_prs ps
  refine ⟨a, decide_eq_true ?_⟩
  show PyData.depthAll (ps.map prD) + 1 ≤ 64
  omega
theorem pr_inj {p q : Int × Int} (h : prD p = prD q) : p = q := by
  obtain ⟨a, b⟩ := p
  obtain ⟨c, d⟩ := q
  unfold prD at h
  injection h with h
  injection h with h1 h2
  injection h2 with h2 _
  injection h1 with h1
  injection h2 with h2
  have h1 : a = c := h1
  have h2 : b = d := h2
  rw [h1, h2]
theorem prs_inj : ∀ {ps qs : List (Int × Int)}, ps.map prD = qs.map prD → ps = qs
  | [], [], _ => rfl
  | [], _ :: _, h => by cases h
  | _ :: _, [], h => by cases h
  | p :: ps, q :: qs, h => by
    injection h with h1 h2
    rw [pr_inj h1, prs_inj h2]
theorem eqv_prs {ps qs : List (Int × Int)} : PyData.eqv (prsD ps) (prsD qs) = decide (ps = qs) := by
  by_cases e : ps = qs
  · subst e
    rw [decide_eq_true rfl]
    exact plain_refl _ (plain_prs ps)
  · rw [decide_eq_false e]
    cases h : PyData.eqv (prsD ps) (prsD qs) with
    | false => rfl
    | true =>
      have := plain_eq (prsD ps) (prsD qs) (plain_prs ps) (plain_prs qs) h
      exact absurd (prs_inj (by injection this)) e
def spPEq (C : Addr) : Sp := fun vs H Q _ => ∃ (x : Addr) (y : V) (n : Int) (v : V) (ps : List (Int × Int)), vs = [.ref x, y] ∧ PolAt C H x n v ps ∧ ((∃ d, Dq H y d ∧ Q (.bl false) H) ∨
  ∃ z m u qs, y = .ref z ∧ PolAt C H z m u qs ∧ Q (.bl (decide (n = m) && decide (ps = qs))) H)
section
variable {P : Program} {w : World} {K : PySem.W.Frag} {mg : Str → Option Value} {base : Heap} {C : Addr}
theorem scPLen : FnScope ["self"] ["self"] (defScope sPLen) := ⟨rfl, rfl, rfl, by decide +kernel, rfl, by decide +kernel, by decide +kernel⟩
theorem ok_plen {f : Addr} {fd : FuncData} (F : Fun K "__len__" "Policy.__len__" sPLen f fd) (T : TxtP K C) (ml : mg "len" = none) : FnOk P w K mg base CX0 1 f fd ["self"] (spPLen C) := by
  refine F.ok scPLen (fun vs H Q E h => ?_) (fun cdv A outer s H vs Q E hr h => ?_)
  · obtain ⟨x, n, v, ps, rfl, _⟩ := h
    rfl
  · obtain ⟨x, n, v, ps, rfl, ⟨dx, hx, hv⟩, hl, k⟩ := h
    refine ⟨_, pss_one (ps_ret (pe_callB call_len_seq (by rfl) ml PySem.boot_len (pa_cons (pe_fld (pv 0) (by rfl)) pa_nil))), ?_⟩
    refine ⟨_, rfl, x, C, dx, _, _, rfl, hx, T.c, T.pairs, pol_pairs _ _, ?_⟩
    cases hv with
    | tup ha qa =>
      have := dq_len qa
      rw [List.length_map] at this
      rw [← this] at k
      exact ⟨_, _, rfl, .inr (SqT.of ha), k⟩
theorem scPEq : FnScope ["self", "other"] ["self", "other"] (defScope sPEq) := ⟨rfl, rfl, rfl, by decide +kernel, rfl, by decide +kernel, by decide +kernel⟩
theorem ok_peq {f : Addr} {fd : FuncData} (F : Fun K "__eq__" "Policy.__eq__" sPEq f fd) (T : TxtP K C) (TQ : TxtQ K C) (TB : TxtB mg) (mC : mg "Policy" = some (.ref C)) :
    FnOk P w K mg base CX0 3 f fd ["self", "other"] (spPEq C) := by
  refine F.ok scPEq (fun vs H Q E h => ?_) (fun cdv A outer s H vs Q E hr h => ?_)
  · obtain ⟨x, y, n, v, ps, rfl, _⟩ := h
    rfl
  · obtain ⟨x, y, n, v, ps, rfl, ⟨dx, hx, hv⟩, h⟩ := h
    refine ⟨_, pss_one (ps_ret (pe_and (pe_callB call_isi (by rfl) TB.isi (by decide +kernel) (pa_cons (pv 1) (pa_cons (pe_glob (v := .ref C) (by rfl) mC rfl) pa_nil)))
      (pe_and (pe_cmpR op_eq (pe_fld (pv 0) (by rfl)) (pe_fld (pv 1) (by rfl)) (nomark _)) (pe_one (pe_cmpR (op_eqD hr.units) (pe_fld (pv 0) (by rfl)) (pe_fld (pv 1) (by rfl)) (nomark _)))))), ?_⟩
    rcases h with ⟨d, qd, k⟩ | ⟨z, m, u, qs, rfl, ⟨dz, hz, hu⟩, k⟩
    · exact ⟨_, rfl, y, .ref C, _, .ref C, false, rfl, .own C, .base (ty_data qd), kit_other TQ d, _, rfl, k⟩
    · refine ⟨_, rfl, .ref z, .ref C, _, .ref C, true, rfl, .own C, .base (ty_ins TQ.i hz), TQ.i.me, _, rfl, ?_⟩
      refine ⟨_, rfl, x, C, dx, _, _, rfl, hx, T.c, T.people, pol_people _ _, _, rfl, z, C, dz, _, _, rfl, hz, T.c, T.people, pol_people _ _, rfl, _, rfl, ?_⟩
      by_cases e : n = m
      · subst e
        refine iteYes (decide_eq_true rfl) ?_
        refine ⟨_, rfl, x, C, dx, _, _, rfl, hx, T.c, T.pairs, pol_pairs _ _, _, rfl, z, C, dz, _, _, rfl, hz, T.c, T.pairs, pol_pairs _ _, _, _, dp_shaped (shaped_prs ps) hv, dp_shaped (shaped_prs qs) hu, shaped_prs ps, shaped_prs qs, ?_⟩
        rw [eqv_prs]
        rw [decide_eq_true rfl, Bool.true_and] at k
        exact k
      · refine iteNo (decide_eq_false fun z => e (by injection z)) ?_
        rw [decide_eq_false e, Bool.false_and] at k
        exact k
end
end KL
set_option Elab.async false
set_option linter.all false
set_option maxRecDepth 100000
set_option maxHeartbeats 4000000
namespace KL
open PySem L2 PySem.Spec PyProof.Rows
def rSetRT (K : PySem.W.Frag) (P : Program) (w : World) : List V → Hp → VK → Prop := fun vs H Q => ∃ (a : Addr) (rs : List KRow), vs = [V.ref a] ∧ SqT K H a (rs.map fun r => V.ref r.1) ∧ (∀ r ∈ rs, H r.1 = some (.tup (r.2.map kV))) ∧ rs.length < 64 ∧
  ∀ p L, H p = none → (∀ r ∈ L, r ∈ rs) → (L.map (·.2)).Nodup → (∀ r ∈ rs, r.2 ∈ L.map (·.2)) → Q (.ref p) (upd H p (RowsO P w p L))
section
variable {P : Program} {w : World} {A : Around} {E : Value → Shared → Prop} {s : Shared}
theorem call_set_rowsT {l : Addr} {us : Array Value} {rs : List KRow} {Q : Value → Shared → Prop} (hh : A.handled = none) (hl : s.heap.IsTuple l us) (rv : us.toList = rs.map fun r => Value.ref r.1) (at0 : ∀ r ∈ rs, AtK P w s.heap r.2 r.1) (few : rs.length < 64) (hu : A.units + 3 < cLine)
    (h : ∀ h' tk L, (∃ es ep t, RowSet P w h' s.heap.objs.size L es ep t) → Took rs rs.length L → (∀ b o, s.heap.get? b = some o → h'.get? b = some o) → Q (.ref s.heap.objs.size) { s with heap := h', toks := tk }) :
    wpAny (model P w) A (call (.type "set") [.ref l]) Q E s := by
  have sz : us.size = rs.length := by
    rw [← Array.length_toList, rv, List.length_map]
  refine type_made (Q₁ := fun obj s₁ => obj = .ref s.heap.objs.size ∧ s₁ = { s with heap := s.heap.push { cls := .type "set", dict := none, data := .set #[] 0 (.fresh 0 0 (!w.params.followText "set-order")) } }) F.called_set (F.typeCall_set_1 _) F.entry_set_init (code_set_led1 _ ⟨rfl, rfl⟩) ?_
  rintro obj s₁ ⟨rfl, rfl⟩
  have new : (s.heap.push { cls := .type "set", dict := none, data := .set #[] 0 (.fresh 0 0 (!w.params.followText "set-order")) }).get? s.heap.objs.size = some { cls := .type "set", dict := none, data := .set #[] 0 (.fresh 0 0 (!w.params.followText "set-order")) } := Heap.get?_push_size _ rfl
  refine ⟨⟨_, new, rfl⟩, fun q => check_set_init_1 ⟨_, new, rfl⟩ q, ?_⟩
  have hT : Shared.TypeIs { s with heap := s.heap.push { cls := .type "set", dict := none, data := .set #[] 0 (.fresh 0 0 (!w.params.followText "set-order")) } } (.ref s.heap.objs.size) "set" := ⟨_, new, rfl⟩
  obtain ⟨⟨cls, dd, dat, sl⟩, ho, hc, n, hd⟩ := hl
  simp only at hc hd
  subst hc hd
  have ho' : (s.heap.push { cls := .type "set", dict := none, data := .set #[] 0 (.fresh 0 0 (!w.params.followText "set-order")) }).get? l = some { cls := .type "tuple", dict := dd, data := .seq us n, slots := sl } := Heap.get?_push_of_some _ ho
  have hl' : (s.heap.push { cls := .type "set", dict := none, data := .set #[] 0 (.fresh 0 0 (!w.params.followText "set-order")) }).IsTuple l us := ⟨_, ho', rfl, n, rfl⟩
  have hz : (s.heap.push { cls := .type "set", dict := none, data := .set #[] 0 (.fresh 0 0 (!w.params.followText "set-order")) }).objs.size = s.heap.objs.size + 1 := Heap.size_push ..
  have b1 := F.sub_tuple_set
  have b2 := F.sub_tuple_frozenset
  have b3 : (Value.type "tuple" == Value.type "dict") = false := by decide
  unfold Builtin.«set.__init__» noKeywords Builtin.Frozenset.updateFrom
  generalize hPI : pyIter = PI
  wp_walk
  subst hPI
  have lS : l < s.heap.objs.size := Heap.lt_size ho
  have nI : l ≠ (s.heap.push { cls := .type "set", dict := none, data := .set #[] 0 (.fresh 0 0 (!w.params.followText "set-order")) }).objs.size := by
    rw [hz]
    exact Nat.ne_of_lt (Nat.lt_succ_of_lt lS)
  have hD : s.heap.objs.size ∉ [(s.heap.push { cls := .type "set", dict := none, data := .set #[] 0 (.fresh 0 0 (!w.params.followText "set-order")) }).objs.size, l] := fun z => by
    rcases List.mem_cons.mp z with z | z
    · rw [hz] at z
      exact Nat.ne_of_lt (Nat.lt_succ_self _) z
    · have := List.mem_singleton.mp z
      exact Nat.ne_of_gt lS this
  have hv : ∀ (i : Nat) (v : Value), us[i]? = some v → ∃ r, rs[i]? = some r ∧ v = .ref r.1 := fun i v e => by
    have e : us.toList[i]? = some v := by rw [Array.getElem?_toList]; exact e
    rw [rv, List.getElem?_map] at e
    cases ex : rs[i]? with
    | none =>
      rw [ex] at e
      cases e
    | some x =>
      rw [ex] at e
      exact ⟨x, rfl, (Option.some.inj e).symm⟩
  have gone : ∀ b, s.heap.objs.size ≤ b → s.heap.get? b = none := fun b hb => by
    cases q : s.heap.get? b with
    | none => rfl
    | some o => exact absurd (Heap.lt_size q) (Nat.not_lt.mpr hb)
  refine wpAny_pyIter_tuple hl' ?_
  refine wpAny_bind (wpAny_runValue ?_)
  refine rows_fill ((Walks.tuple (show A.in1.in1.in1.handled = none by simp [hh]) _ l nI us).toS) hD rs sz.symm (by omega) hv s.heap at0 (gone _ (Nat.le_refl _)) (fun b hb => gone b (by
      rw [List.mem_singleton.mp hb, hz]
      exact Nat.le_succ _)) hu us.size 0 _ [] (by omega)
    ⟨⟨_, Heap.get?_push_size _ rfl, rfl, rfl⟩, hl'.push _⟩ (fun b o e => Heap.get?_push_of_some _ (Heap.get?_push_of_some _ e)) ⟨#[], 0, _, ⟨_, Heap.get?_push_of_some _ new, ⟨rfl, rfl, rfl⟩, rfl⟩, rfl, ⟨List.Pairwise.nil, rfl, rfl, .inl rfl, fun x hx => (by cases hx), fun i h j hi => (by simp [hashesK] at hi)⟩, List.nodup_nil, fun r hr => (by cases hr), ?_, (by show 0 * 5 < 7 * 3; decide), (by show 0 < 64; decide)⟩ ⟨fun r hr => (by cases hr), fun r hr => (by simp at hr), Nat.le_refl _⟩ ?_
  · show _ ∨ (!w.params.followText "set-order") = true
    cases w.params.followText "set-order"
    · exact .inr rfl
    · exact .inl rfl
  · intro s' L mv S g
    obtain ⟨h', g', d', tk', os'⟩ := s'
    have eg : g' = s.gens := mv.gens
    have ed : d' = s.drawn := mv.drawn
    have eo : os' = s.os := mv.os
    subst eg ed eo
    show wpAny _ _ _ _ _ _
    refine wpAny_pure ?_
    show wpAny _ _ (ret Value.none) _ _ _
    rw [sz] at g
    refine wpAny_pure ⟨rfl, h h' tk' L S g fun b o e => ?_⟩
    have bS : b < s.heap.objs.size := Heap.lt_size e
    refine mv.heap b o (fun z => ?_) (Heap.get?_push_of_some _ (Heap.get?_push_of_some _ e))
    rcases List.mem_cons.mp z with z | z
    · exact Nat.ne_of_lt bS z
    · have z := List.mem_singleton.mp z
      rw [hz] at z
      exact Nat.ne_of_lt (Nat.lt_succ_of_lt bS) z
end
section
variable {X : Cx}
theorem cr_setRT (hc : X.calm = true) (hu : X.A.units + 64 < cLine) : CallR X (.type "set") (rSetRT X.K X.prog X.w) := by
  intro pins s σ H vs us Q I r h
  obtain ⟨a, rs, rfl, hs, rows, few, q⟩ := h
  obtain ⟨its, rv, hl, _⟩ := I.tuple hs
  rw [Vals.ref1 r]
  refine call_set_rowsT (rs := rs) (I.ok.hd hc) hl (by rw [← refs_vals rv]) (fun x hx => key_of I.hok (rows x hx)) few (by omega) fun h' tk L S g keep => ?_
  obtain ⟨es, ep, t, S⟩ := S
  have all := g.all
  have sub := g.sub
  rw [List.take_length] at all sub
  exact ⟨.ref s.heap.objs.size, upd H s.heap.objs.size (RowsO X.prog X.w s.heap.objs.size L), I.laid (t' := tk) keep (Nat.le_refl _) (rowsO_ok S.bare), rfl, q _ L (I.hok.fresh (Nat.le_refl _)) sub S.once all⟩
end
end KL
set_option Elab.async false
set_option linter.all false
set_option maxRecDepth 100000
set_option maxHeartbeats 4000000
namespace KL
open PySem L2 PySem.KX PySem.Spec PyProof.Rows
/-- who hears a person -/
def hearersOf (ps : List (Int × Int)) (per : Int) : List Int := (ps.filter fun p => decide (p.1 = per)).map (·.2)
theorem hearers_snoc (ps : List (Int × Int)) (p : Int × Int) (per : Int) : hearersOf (ps ++ [p]) per = if p.1 = per then hearersOf ps per ++ [p.2] else hearersOf ps per := by
  unfold hearersOf
  rw [List.filter_append, List.map_append]
  by_cases h : p.1 = per
  · rw [if_pos h, List.filter_cons_of_pos (by simpa using h)]
    rfl
  · rw [if_neg h, List.filter_cons_of_neg (by simpa using h)]
    simp
theorem hearers_len (ps : List (Int × Int)) (per : Int) : (hearersOf ps per).length ≤ ps.length := by
  unfold hearersOf
  rw [List.length_map]
  exact List.length_filter_le _ _
def spPHear (C : Addr) : Sp := fun vs H Q _ => ∃ (x : Addr) (n : Int) (v : V) (ps : List (Int × Int)) (per : Int), vs = [.ref x, .int per] ∧ PolAt C H x n v ps ∧ ps.length < 60 ∧
  ∀ H' q (ns : List Int), Same H H' → H' q = some (.tup (ns.map V.int)) → ns.Perm (per :: hearersOf ps per) → ns.Pairwise (fun x y => x ≤ y) → Q (.ref q) H'
section
variable {P : Program} {w : World} {K : PySem.W.Frag} {mg : Str → Option Value} {base : Heap} {C : Addr}
abbrev nHear : List Str := ["self", "person", "heard", "hearer"]
theorem scHear : FnScope nHear ["self", "person"] (defScope sPHear) := ⟨rfl, rfl, rfl, by decide +kernel, rfl, by decide +kernel, by decide +kernel⟩
theorem ok_hear {f : Addr} {fd : FuncData} (F : Fun K "hearers" "Policy.hearers" sPHear f fd) (T : TxtP K C) (mt : mg "tuple" = none) (ms : mg "sorted" = none) : FnOk P w K mg base CX0 1 f fd ["self", "person"] (spPHear C) := by
  refine F.ok scHear (fun vs H Q E h => ?_) (fun cdv A outer s H vs Q E hr h => ?_)
  · obtain ⟨x, n, v, ps, per, rfl, _⟩ := h
    rfl
  · obtain ⟨x, n, v, ps, per, rfl, ⟨dx, hx, hv⟩, hl, k⟩ := h
    have nd := scHear.nd
    refine ⟨_, pss_one (ps_ret (pe_tupleOf (by rfl) mt (pe_callB cr_sorted (by rfl) ms (by decide +kernel) (pa_cons (pe_op op_cat (pe_lst (pa_cons (pv 1) pa_nil))
      (pe_lc (own := [("heard", 2), ("hearer", 3)]) (g := gTup K 2 (gCons (gName 2) (gCons (gName 3) gNil))) (tt := tTest (tOp rEq (tVar 2) (tVar 1))) rfl nd (pi_tup (pe_fld (pv 0) (by rfl))) (blkOk_by (N := nHear) (sc := defScope sPHear) (by decide +kernel))
        (fun _ _ _ _ _ => pg_tup rfl (pgs_cons (pg_name (i := 2) nd rfl (.inl rfl)) (pgs_cons (pg_name (i := 3) nd rfl (.inl rfl)) pgs_nil))) (fun _ _ _ _ _ => pts_one (pt_cmpR op_eq (pv 2) (pv 1) (nomark _))) (fun _ _ _ _ _ => pv 3))) pa_nil)))), ?_⟩
    refine ⟨_, rfl, (by show 1 ≤ sizeLine; decide), fun a na => ?_⟩
    have Sa := same_new (o := .lst [.int per]) na
    have ha : upd H a (.lst [.int per]) a = some (.lst [.int per]) := upd_same
    revert Sa ha
    generalize upd H a (.lst [.int per]) = H1
    intro Sa ha
    cases hv with
    | @tup b xs _ e hda =>
      refine ⟨_, rfl, x, C, dx, _, _, rfl, Sa _ _ hx, T.c, T.pairs, pol_pairs _ _, b, rfl, ⟨_, SqT.of (Sa _ _ e)⟩, fun D nD => ?_⟩
      refine lc_tup (K := K) (a := b) (xs := xs) (fun i H2 => MadeTo H1 D ((hearersOf (ps.take i) per).map V.int) H2) ⟨same_new nD, upd_same⟩ (fun i H2 _ M => SqT.of (M.1 _ _ (Sa _ _ e))) ?_ ?_
      · rintro i y H2 hy M
        obtain ⟨d', hd', hq⟩ := DqAll.at hda hy
        obtain ⟨p, hp, rfl⟩ : ∃ p, ps[i]? = some p ∧ prD p = d' := by
          rw [List.getElem?_map] at hd'
          cases ex : ps[i]? with
          | none =>
            rw [ex] at hd'
            cases hd'
          | some p =>
            rw [ex] at hd'
            exact ⟨p, rfl, Option.some.inj hd'⟩
        have et : ps.take (i + 1) = ps.take i ++ [p] := by
          rw [List.take_add_one, hp]
          rfl
        have hle := hearers_len (ps.take i) per
        rw [List.length_take] at hle
        cases hq with
        | @tup c zs _ ec hza =>
          cases hza with
          | cons p0 hza =>
          cases hza with
          | cons p1 hza =>
          cases hza
          cases p0
          cases p1
          refine ⟨c, _, rfl, SqT.of (M.1 _ _ (Sa _ _ ec)), rfl, _, _, rfl, _, _, rfl, rfl, rfl, _, rfl, _, rfl, rfl, _, rfl, ?_⟩
          rw [et, hearers_snoc]
          by_cases h : p.1 = per
          · rw [if_pos h]
            refine iteYes (by rw [h]; exact decide_eq_true rfl) ?_
            obtain ⟨h1, M2⟩ := M.more (.int p.2) nD (Same.refl H2)
            refine ⟨_, rfl, _, h1, ?_, ?_⟩
            · rw [List.length_map, sizeLine_eq]
              omega
            · rw [List.map_append]
              exact M2
          · rw [if_neg h]
            exact iteNo (decide_eq_false fun z => h (by injection z)) M
      · rintro H2 M
        have len : xs.length = ps.length := by rw [hda.len, List.length_map]
        rw [len, List.take_length] at M
        have hle := hearers_len ps per
        refine ⟨a, D, _, _, rfl, rfl, M.1 _ _ ha, M.2, ?_, fun q nq => ?_⟩
        · rw [List.length_map, sizeLine_eq]
          show 1 + _ ≤ _
          omega
        have Sq := same_new (o := .lst ([.int per] ++ (hearersOf ps per).map V.int)) nq
        refine ⟨q, per :: hearersOf ps per, rfl, SqL.of upd_same, ?_, fun ns r pm pw nr => ?_⟩
        · rw [List.length_cons]
          omega
        have Sr := same_new (o := .lst (ns.map V.int)) nr
        exact .inl ⟨r, _, rfl, SqL.of upd_same, fun t nt => k _ t ns (Sa.trans (M.1.trans (Sq.trans (Sr.trans (same_new nt))))) upd_same pm pw⟩
end
end KL
set_option Elab.async false
set_option linter.all false
set_option maxRecDepth 100000
set_option maxHeartbeats 4000000
namespace KL
open PySem L2 PySem.Spec PyProof.Rows
/-! ### one | other, str(x), C.m(..), cls(..): rules under a try, too -/
section
variable {X : Cx} {pins : List (Addr × Obj)} {σ : L2.St} {H : Hp} {s : Shared} {CX : CXT} {n : Nat} {C f : Addr} {fd : FuncData} {ps : List Str} {sp : Sp} {E : XK}
theorem own_callS (F : FnOk X.prog X.w X.K X.mg X.base CX n f fd ps sp) (hb : L2.Binds X.K fd ps []) (hx : PassesAt CX X σ E) {A : Around} (sb : Sub X n A) (I : Inv X pins σ H s) {us : List Value} {vs : List V} {Q : VK} (r : Vals vs us) (h : sp vs H Q E) :
    wpAny (model X.prog X.w) A (call (.ref f) us) (EP X pins σ Q) X.xe s := by
  have e0 : Env0 X.prog X.w X.K X.mg X.base A X.stack s H := by
    have e := I.env0
    exact ⟨by rw [sb.fr]; exact e.frames, e.mod, e.bs, e.bsz, e.funs, e.frf, e.hok, e.bare⟩
  have hl := F.len _ _ _ _ h
  have b := hb s us I.kIn (by rw [List.append_nil, ← hl]; exact r.length.symm)
  rw [List.append_nil] at b
  refine wpAny_call (codeAny_mono (F.run A X.stack s H ⟨us, []⟩ us vs _ E sb.room e0 b r h) fun r s' hq => ?_)
  cases r with
  | error e => exact hx pins H s e s' I hq
  | ok fl =>
    cases fl with
    | ret w => exact I.after hq
    | next => exact False.elim hq
    | brk => exact False.elim hq
    | cont => exact False.elim hq
/-- a binary operator of two instances of a class with an own def for it -/
def tBinS (K : PySem.W.Frag) (C : Addr) (sp : Sp) (E : L2.St → XK) (ta tb : TE) : TE := fun σ H Q => ta σ H fun x H1 => tb σ H1 fun y H2 => ∃ a dx fs, x = .ref a ∧ H2 a = some (.ins C dx fs) ∧ TyOf K H2 y (.ref C) ∧ sp [x, y] H2 (fun v H' => (∃ c, v = .ref c) ∧ Q v H') (E σ)
theorem pe_binS {E : L2.St → XK} {op : Operator} {a b : Expr} {ta tb : TE} {pos : Pos} (F : FnOk X.prog X.w X.K X.mg X.base CX n f fd ps sp) (hs : PySem.W.findIn X.K (.ref C) (PySem.dunder op.info.2) = some (some (.ref f))) (hf : PySem.W.isFn X.K (.ref f) = true) (hb : L2.Binds X.K fd ps []) (hc : PySem.W.selfFirst X.K C = true)
    (hx : ∀ σ, PassesAt CX X σ (E σ)) (hr : Room n X.A) (ha : PE X a ta) (hb2 : PE X b tb) : PE X (.BinOp a op b pos) (tBinS X.K C sp E ta tb) := by
  refine ⟨fun pins s σ H Q I h => ?_⟩
  refine wpAny_BinOp (binT (R := fun x y H2 => ∃ a dx fs, x = .ref a ∧ H2 a = some (.ins C dx fs) ∧ TyOf X.K H2 y (.ref C) ∧ sp [x, y] H2 (fun v H' => (∃ c, v = .ref c) ∧ Q v H') (E σ)) ha hb2 I h fun v u s2 x y H2 I2 rx ry ⟨a, dx, fs, ex, ea, ty, q⟩ => ?_)
  subst ex
  obtain rfl : v = Value.ref a := rx
  obtain ⟨mA, J, _⟩ := ins_get I2.hok ea
  obtain ⟨od, J, _⟩ := J.look
  obtain ⟨m, hF⟩ := I2.fr
  refine PySem.W.binop_K hF I2.ok.mod.kin J (ty_looks I2 ry ty) hc hs hf (wpAny_mono (own_callS F hb (hx σ) (A := X.A) ⟨hr, rfl⟩ I2 (us := [.ref a, u]) (vs := [V.ref a, y]) (.cons (show RelV (V.ref a) (Value.ref a) from rfl) (.cons ry .nil)) q) (fun r s' z => ?_) fun _ _ e => e)
  obtain ⟨z, H', I', rz, ⟨c, rfl⟩, q⟩ := z
  obtain rfl : r = Value.ref c := rz
  exact ⟨.ref c, H', I', rfl, q⟩
/-- str(x), x an instance with an own __str__ -/
theorem cr_strOwn (F : FnOk X.prog X.w X.K X.mg X.base CX n f fd ps sp) (hs : PySem.W.findIn X.K (.ref C) "__str__" = some (some (.ref f))) (hf : PySem.W.isFn X.K (.ref f) = true) (hb : L2.Binds X.K fd ps []) (hx : ∀ σ, PassesAt CX X σ E) (hr : Room (n + 2) X.A) :
    CallR X (.type "str") (fun vs H Q => ∃ a dx fs, vs = [V.ref a] ∧ H a = some (.ins C dx fs) ∧ sp [.ref a] H (fun v H' => ∃ y, v = .str y ∧ Q (.str y) H') E) := by
  intro pins s σ H xs us Q I r h
  obtain ⟨a, dx, fs, rfl, ha, h⟩ := h
  obtain ⟨u, rfl, ru⟩ := vals1 r
  cases ru
  obtain ⟨mA, J, _⟩ := ins_get I.hok ha
  obtain ⟨od, J, _⟩ := J.look
  have hr2 : Room (n + 1) X.A.in1 := hr.in1
  have hr3 : Room n X.A.in1.in1 := hr2.in1
  refine PySem.W.kso_call hr3.units0 I.kIn J hs hf (wpAny_mono (own_callS F hb (hx σ) (A := X.A.in1.in1) ⟨hr3, rfl⟩ I (us := [.ref a]) (vs := [V.ref a]) (.cons (show RelV (V.ref a) (Value.ref a) from rfl) .nil) h) (fun r s' z => ?_) fun _ _ e => e)
  obtain ⟨z, H', I', rz, y, rfl, q⟩ := z
  obtain ⟨t, rfl⟩ := rz
  exact ⟨.str y, H', I', ⟨t, rfl⟩, q⟩
/-- C.m(..), m a classmethod, that may raise -/
def tCMethS (C : Addr) (sp : Sp) (E : L2.St → XK) (ta : TE) (t : TA) : TE := fun σ H Q => ta σ H fun x H1 => x = .ref C ∧ t σ H1 fun vs H2 => sp (.ref C :: vs) H2 Q (E σ)
variable {p g : Addr} {mc : Value} {o e : Expr} {es : List Expr} {m : Str} {pos apos : Pos} {ta : TE} {t : TA} {pl : Sem Bool}
theorem run_cmS {q : Addr} {Q : VK} {us bs : List Value} {vs : List V} {kw : List (Str × Value)} (F : FnOk X.prog X.w X.K X.mg X.base CX n g fd ps sp) (hr : Room n X.A) (hx : PassesAt CX X σ E) (I : Inv X ((q, PySem.W.methodObj (.ref g) (.ref C)) :: pins) σ H s)
    (hb : BindsTo s fd ⟨.ref C :: us, kw⟩ (ps.zip (.ref C :: bs))) (r : Vals vs bs) (h : sp (.ref C :: vs) H Q E) : wpAny (model X.prog X.w) X.A (call (.ref q) us kw) (EP X pins σ Q) X.xe s := by
  have I0 := ClX.unpin I
  refine wpAny_call (PySem.W.method_call (ClX.pin_at I) (codeAny_mono (F.run X.A X.stack s H ⟨.ref C :: us, kw⟩ (.ref C :: bs) (.ref C :: vs) Q E hr I.env0 hb (.cons rfl r) h) fun r s' hq => ?_))
  cases r with
  | error e => exact hx pins H s e s' I0 hq
  | ok fl =>
    cases fl with
    | ret w => exact I0.after hq
    | next => exact False.elim hq
    | brk => exact False.elim hq
    | cont => exact False.elim hq
theorem pe_cmethS {E : L2.St → XK} (he : PE X o ta) (r : ClX.CRead X.K C mc) (c : ClX.CMet X.K C mc m p g) (F : FnOk X.prog X.w X.K X.mg X.base CX n g fd ps sp) (hb : L2.Binds X.K fd ps []) (hr : Room n X.A) (hx : ∀ σ, PassesAt CX X σ (E σ)) (ha : PA X (e :: es) t)
    (hst : starEach (e :: es) X.env = (false, eval e X.env) :: starEach es X.env := by rfl) (hpl : (backTo pos (starEach es X.env)).any (·.1) = false := by rfl)
    (ht : eval (.Call (.Attribute o m apos) (e :: es) [] pos) X.env = (do
      let ov ← eval o X.env
      standAt apos.atName
      let (f, first) ← holding [ov] (getMethod ov m pl)
      callWith pos f first (backTo pos (starEach (e :: es) X.env)) (backToKw pos (keywordEach [] X.env))) := by rfl) :
    PE X (.Call (.Attribute o m apos) (e :: es) [] pos) (tCMethS C sp E ta t) := by
  refine ⟨fun pins s σ H Q I h => ?_⟩
  refine PySem.W.methodCall_KW (pl := pl) (thn (he.run pins s σ H _ I h) fun u s1 ⟨x, H1, I1, rx, ex, q⟩ => ?_) ht
  subst ex
  obtain rfl : u = Value.ref C := rx
  refine ClX.getmethcm_ok I1 r c fun s2 I2 => ?_
  refine ClX.callwith_cm I2 (ClX.base_none I1 (Nat.le_refl _)) c.fi (thn (ha.run pos _ s2 σ H1 _ I2 q) fun us s3 ⟨vs, H2, I3, rv, q2⟩ => ⟨⟨ClX.pin_at I3, I3.kIn⟩, ?_⟩) hst hpl
  have hl := F.len _ _ _ _ q2
  have b := hb s3 (.ref C :: us) I3.kIn (by rw [List.append_nil, ← hl]; show us.length + 1 = vs.length + 1; rw [rv.length])
  rw [List.append_nil] at b
  exact run_cmS F hr (hx σ) I3 b rv q2
/-- C.m(k = v, ..), all by keyword -/
theorem pe_cmethKS {E : L2.St → XK} {kws : List Keyword} {ks : List Str} (he : PE X o ta) (r : ClX.CRead X.K C mc) (c : ClX.CMet X.K C mc m p g) (F : FnOk X.prog X.w X.K X.mg X.base CX n g fd ps sp)
    (hb : ∀ (s2 : Shared) (ws : List Value), X.K.In s2.heap → ws.length = ks.length → BindsTo s2 fd ⟨[.ref C], ks.zip ws⟩ (ps.zip (.ref C :: ws.reverse))) (hr : Room n X.A) (hx : ∀ σ, PassesAt CX X σ (E σ)) (hkw : PK X kws t)
    (hall : (backToKw pos (keywordEach kws X.env)).all (·.1.isSome) = true := by rfl) (hks : (backToKw pos (keywordEach kws X.env)).filterMap (·.1) = ks := by rfl)
    (hpl : ((backTo pos (starEach [] X.env)).any (·.1) || (backToKw pos (keywordEach kws X.env)).any (·.1.isNone)) = false := by rfl)
    (ht : eval (.Call (.Attribute o m apos) [] kws pos) X.env = (do
      let ov ← eval o X.env
      standAt apos.atName
      let (f, first) ← holding [ov] (getMethod ov m pl)
      callWith pos f first (backTo pos (starEach [] X.env)) (backToKw pos (keywordEach kws X.env))) := by rfl) :
    PE X (.Call (.Attribute o m apos) [] kws pos) (tCMethS C (fun vs H Q E => ∃ zs, vs = .ref C :: zs ∧ zs.length = ks.length ∧ sp (.ref C :: zs.reverse) H Q E) E ta t) := by
  refine ⟨fun pins s σ H Q I h => ?_⟩
  refine PySem.W.methodCall_KW (pl := pl) (thn (he.run pins s σ H _ I h) fun u s1 ⟨x, H1, I1, rx, ex, q⟩ => ?_) ht
  subst ex
  obtain rfl : u = Value.ref C := rx
  refine ClX.getmethcm_ok I1 r c fun s2 I2 => ?_
  refine PySem.W.callWith_of hpl (PySem.W.keeps_M (q := s1.heap.objs.size) (self := .ref C) c.fi) (evalArgs_kw2_nil hall (thn (hkw.run pos _ s2 σ H1 _ I2 q) fun ws s3 ⟨zs, H2, I3, rz, zs', e1, lz, q2⟩ => ⟨⟨ClX.pin_at I3, I3.kIn⟩, ?_⟩))
  have e1 : zs = zs' := (List.cons.inj e1).2
  subst e1
  rw [hks]
  exact run_cmS (us := []) F hr (hx σ) I3 (hb s3 ws I3.kIn (rz.length.symm.trans lz)) (vals_rev rz) q2
/-- cls(..), cls a local name that holds a class -/
def tMkL (i : Nat) (C : Addr) (sp : Sp) (E : L2.St → XK) (t : TA) : TE := fun σ H Q => σ[i]? = some (some (.ref C)) ∧ t σ H fun vs H1 => ∀ x dx, H1 x = none → H1 dx = none → dx ≠ x → sp (.ref x :: vs) (upd (upd H1 dx (.own x)) x (.ins C dx [])) (fun v H2 => v = .non ∧ Q (.ref x) H2) (E σ)
theorem pe_mkL {E : L2.St → XK} {i : Nat} {x : Str} {px : Pos} (M : Mk X.K C f) (F : FnOk X.prog X.w X.K X.mg X.base CX n f fd ps sp) (hr : Room (n + 1) X.A) (hN : X.N[i]? = some x) (hv : Vis X.env.scope x) (hb : L2.Binds X.K fd ps []) (hx : ∀ σ, PassesAt CX X σ (E σ)) (ha : PA X (e :: es) t)
    (hdb : (x == ("__debug__" : Str)) = false := by decide) (hcd : (x == ("__classdict__" : Str)) = false := by decide) (he : starEach (e :: es) X.env = (false, eval e X.env) :: starEach es X.env := by rfl) (hpl : (backTo pos (starEach es X.env)).any (·.1) = false := by rfl) :
    PE X (.Call (.Name x px) (e :: es) [] pos) (tMkL i C sp E t) := by
  refine ⟨fun pins s σ H Q I h => ?_⟩
  obtain ⟨hs, h⟩ := h
  refine wpAny_Call_Name_kw (thn ((pe_var (pos := px) hN hv hdb hcd).run pins s σ H (fun v H1 => v = .ref C ∧ H1 = H) I ⟨.ref C, hs, rfl, rfl⟩) fun u s1 ⟨v, H1, I1, r1, q1⟩ => ?_)
  obtain ⟨rfl, rfl⟩ := q1
  cases r1
  refine PySem.W.callWith_K (h₀ := X.base) I.ok.mod.kin M.kp (thn (ha.run pos pins s1 σ _ _ I1 h) fun us s2 ⟨vs, H2, I2, r, q⟩ => ⟨I2.kIn, ?_⟩) he hpl
  have ln : us.length + 1 = ps.length := by
    have z := F.len _ _ _ _ (q (s2.heap.objs.size + 1) s2.heap.objs.size (I2.hok.fresh (Nat.le_succ _)) (I2.hok.fresh (Nat.le_refl _)) (Nat.ne_of_lt (Nat.lt_succ_self _)))
    rw [← z, ← r.length]
    rfl
  refine run_mkS (bs := us) M F hr (fun s3 a K3 => ?_) (hx σ) I2 r q
  have b := hb s3 (.ref a :: us) K3 (by rw [List.append_nil]; exact ln)
  rwa [List.append_nil] at b
end
end KL
set_option Elab.async false
set_option linter.all false
set_option maxRecDepth 100000
set_option maxHeartbeats 4000000
namespace KL
open PySem L2 PySem.KX PySem.Spec PyProof.Rows
theorem toks_inj {x y : PyData} (h : PySem.W.alike x y = true) (e : PySem.W.keyToks x = PySem.W.keyToks y) : PyData.eqv x y = true := by
  cases z : PyData.eqv x y with
  | true => rfl
  | false =>
    have q := (PySem.W.toks_eqv x y h).2 z [.inl 0] [.inl 1]
    rw [e, PySem.W.lex_pre] at q
    rw [show PyProof.Rows.lexLt itemOrd (PySem.W.keyToks y) (PySem.W.keyToks y) = false from PyProof.Rows.lex_irrefl _] at q
    exact absurd q (by decide)
theorem le_anti {d e : PyData} (pd : plainD d = true) (pe : plainD e = true) (al : PySem.W.alike d e = true) (h1 : leD d e = true) (h2 : leD e d = true) : d = e := by
  have z1 : (listOrd itemOrd).blt (PySem.W.keyToks e) (PySem.W.keyToks d) = false := by
    have h : (!(listOrd itemOrd).blt (PySem.W.keyToks e) (PySem.W.keyToks d)) = true := h1
    simpa using h
  have z2 : (listOrd itemOrd).blt (PySem.W.keyToks d) (PySem.W.keyToks e) = false := by
    have h : (!(listOrd itemOrd).blt (PySem.W.keyToks d) (PySem.W.keyToks e)) = true := h2
    simpa using h
  exact plain_eq _ _ pd pe (toks_inj al ((listOrd itemOrd).total _ _ z2 z1))
theorem leD_not (d e : PyData) : leD d e = !PySem.W.dataLt e d := rfl
/-- a pair as a key -/
def prK (p : Int × Int) : List Key := [Sum.inl p.1, Sum.inl p.2]
theorem pr_key (p : Int × Int) : rowD (prK p) = prD p := rfl
theorem pr_plain (p : Int × Int) : plainD (prD p) = true := rfl
theorem pr_alike (p q : Int × Int) : PySem.W.alike (prD p) (prD q) = true := by simp [prD, PySem.W.alike, PySem.W.alikeAll]
theorem pr_lt (p q : Int × Int) : ltD (prD p) (prD q) = PySem.W.dataLt (prD p) (prD q) := by
  show ltAll [.int p.1, .int p.2] [.int q.1, .int q.2] = PySem.W.dataLt (.tuple [.int p.1, .int p.2]) (.tuple [.int q.1, .int q.2])
  rw [PySem.W.dataLt_pair (by simp [PySem.W.alike]) (by simp [PySem.W.alike]), PySem.W.dataLt_int, PySem.W.dataLt_int]
  show (if PyData.eqv (.int p.1) (.int q.1) = true then ltAll [.int p.2] [.int q.2] else ltD (.int p.1) (.int q.1)) = _
  show (if PyData.eqv (.int p.1) (.int q.1) = true then (if PyData.eqv (.int p.2) (.int q.2) = true then ltAll [] [] else ltD (.int p.2) (.int q.2)) else ltD (.int p.1) (.int q.1)) = _
  rfl
def prR : Ranked (Int × Int) := ⟨prD, fun _ _ h => pr_inj h, pr_plain, fun a b => by rw [pr_lt, leD_not, Bool.not_not], fun a b h1 h2 => pr_inj (le_anti (pr_plain a) (pr_plain b) (pr_alike a b) h1 h2)⟩
def intR : Ranked Int := ⟨.int, fun a b h => by injection h, fun _ => rfl, fun a b => by
  rw [leD_not, Bool.not_not, PySem.W.dataLt_int]
  rfl, fun a b h1 h2 => by
  have e := le_anti (d := .int a) (e := .int b) rfl rfl (by simp [PySem.W.alike]) h1 h2
  injection e⟩
theorem int_le (a b : Int) : leD (.int a) (.int b) = decide (a ≤ b) := by
  rw [leD_not, PySem.W.dataLt_int]
  by_cases h : b < a
  · rw [decide_eq_true h, decide_eq_false (by omega)]
    rfl
  · rw [decide_eq_false h, decide_eq_true (by omega)]
    rfl
theorem ints_rise {ks ys : List Int} (nd : ys.Nodup) (mem : ∀ x, x ∈ ys ↔ x ∈ ks) (srt : ys.Pairwise fun a b => a ≤ b) : PyData.eqvAll (ks.map .int) (ys.map .int) = ascD (ks.map .int) :=
  intR.rises nd mem (srt.imp fun h => by
    show leD (.int _) (.int _) = true
    rw [int_le]
    exact decide_eq_true h)
theorem prK_inj {p q : Int × Int} (h : prK p = prK q) : p = q := pr_inj (by rw [← pr_key, ← pr_key, h])
/-- S is the ascending list of what stands in ps -/
structure SSet (ps S : List (Int × Int)) : Prop where
  asc : ascD (S.map prD) = true
  mem : ∀ p, p ∈ S ↔ p ∈ ps
theorem SSet.uniq {ps S S' : List (Int × Int)} (h : SSet ps S) (h' : SSet ps S') : S = S' := by
  have a := prR.up_pair ((prR.up_eq S).symm.trans h.asc)
  have b := prR.up_pair ((prR.up_eq S').symm.trans h'.asc)
  have na : S.Nodup := a.imp fun h => prR.lt_ne h
  have nb : S'.Nodup := b.imp fun h => prR.lt_ne h
  exact List.Perm.eq_of_pairwise (le := fun a b => leD (prR.enc a) (prR.enc b) = true) (fun a b _ _ => prR.anti a b) (a.imp fun h => prR.lt_le h) (b.imp fun h => prR.lt_le h) ((List.perm_ext_iff_of_nodup na nb).mpr fun p => (h.mem p).trans (h'.mem p).symm)
theorem SSet.self {ps : List (Int × Int)} (h : ascD (ps.map prD) = true) : SSet ps ps := ⟨h, fun _ => Iff.rfl⟩
theorem SSet.comm {a b S : List (Int × Int)} (h : SSet (a ++ b) S) : SSet (b ++ a) S := ⟨h.asc, fun p => by rw [h.mem, List.mem_append, List.mem_append, or_comm]⟩
theorem nodup_len {α : Type} [BEq α] [LawfulBEq α] : ∀ {l m : List α}, l.Nodup → (∀ x ∈ l, x ∈ m) → l.length ≤ m.length
  | [], _, _, _ => Nat.zero_le _
  | x :: l, m, nd, sub => by
    obtain ⟨n1, n2⟩ := List.pairwise_cons.mp nd
    have hx := sub x List.mem_cons_self
    have := nodup_len (l := l) (m := m.erase x) n2 fun y hy => (List.mem_erase_of_ne (n1 y hy).symm).mpr (sub y (List.mem_cons_of_mem _ hy))
    rw [List.length_erase_of_mem hx] at this
    have p := List.length_pos_of_mem hx
    rw [List.length_cons]
    omega
/-- the length of what stands once -/
theorem SSet.len {ps S : List (Int × Int)} (h : SSet ps S) : S.length ≤ ps.length := by
  have a := prR.up_pair ((prR.up_eq S).symm.trans h.asc)
  have na : S.Nodup := a.imp fun h => prR.lt_ne h
  exact nodup_len na fun p hp => (h.mem p).mp hp
theorem keys_back : ∀ {l : List (List Key)}, (∀ k ∈ l, ∃ p, k = prK p) → ∃ S : List (Int × Int), l = S.map prK
  | [], _ => ⟨[], rfl⟩
  | k :: l, h => by
    obtain ⟨p, rfl⟩ := h k (.head _)
    obtain ⟨S, rfl⟩ := keys_back fun k hk => h k (.tail _ hk)
    exact ⟨p :: S, rfl⟩
/-- what sorted gives of the set of rows -/
theorem sset_of {ps : List (Int × Int)} {L ms : List KRow} (sub : ∀ r ∈ L, r.2 ∈ ps.map prK) (nd : (L.map (·.2)).Nodup) (all : ∀ k ∈ ps, prK k ∈ L.map (·.2)) (pm : ms.Perm L) : ∃ S, ((ms.map fun r => rowD r.2).mergeSort leD) = S.map prD ∧ SSet ps S := by
  have pm' : (ms.map (·.2)).Perm (L.map (·.2)) := pm.map _
  obtain ⟨S, eS⟩ := keys_back (l := ms.map (·.2)) fun k hk => by
    obtain ⟨r, hr, rfl⟩ := List.mem_map.mp (pm'.mem_iff.mp hk)
    obtain ⟨p, _, e⟩ := List.mem_map.mp (sub r hr)
    exact ⟨p, e.symm⟩
  have e : (ms.map fun r => rowD r.2) = S.map prD := by
    have := congrArg (List.map rowD) eS
    rw [List.map_map, List.map_map] at this
    exact this
  have pS : (S.mergeSort fun a b => leD (prD a) (prD b)).Perm S := List.mergeSort_perm _ _
  have ndK : (S.map prK).Nodup := by
    rw [← eS]
    exact pm'.nodup_iff.mpr nd
  have ndS : S.Nodup := by
    unfold List.Nodup at ndK ⊢
    rw [List.pairwise_map] at ndK
    exact ndK.imp fun n e => n (by rw [e])
  refine ⟨S.mergeSort fun a b => leD (prD a) (prD b), ?_, ?_, fun p => ?_⟩
  · rw [e]
    exact (List.map_mergeSort (r := fun a b => leD (prD a) (prD b)) (s := leD) (f := prD) fun _ _ _ _ => rfl).symm
  · show ascD ((S.mergeSort fun a b => leD (prD a) (prD b)).map prR.enc) = true
    rw [prR.up_eq]
    refine prR.pair_up ?_
    have srt := List.pairwise_mergeSort (le := fun a b => leD (prD a) (prD b)) (fun a b c h1 h2 => leD_total.trans _ _ _ h1 h2) (fun a b => by
      rcases leD_total.total (prD a) (prD b) with h | h
      · rw [h]
        rfl
      · rw [h, Bool.or_true]) S
    refine srt.imp₂ (fun {a b} (h : leD (prR.enc a) (prR.enc b) = true) (n : a ≠ b) => ?_) (pS.nodup_iff.mpr ndS)
    rw [prR.lt]
    cases z : leD (prR.enc b) (prR.enc a) with
    | false => rfl
    | true => exact absurd (prR.anti a b h z) n
  · rw [pS.mem_iff]
    constructor
    · intro hx
      have : prK p ∈ ms.map (·.2) := by
        rw [eS]
        exact List.mem_map_of_mem hx
      obtain ⟨r, hr, e⟩ := List.mem_map.mp (pm'.mem_iff.mp this)
      have := sub r hr
      rw [e] at this
      obtain ⟨q, hq, e⟩ := List.mem_map.mp this
      rw [← prK_inj e]
      exact hq
    · intro hx
      have := pm'.mem_iff.mpr (all p hx)
      rw [eS] at this
      obtain ⟨q, hq, e⟩ := List.mem_map.mp this
      rw [← prK_inj e]
      exact hq
/-- rows of pairs as they lie -/
theorem prs_rows {H : Hp} : ∀ {xs : List V} {ps : List (Int × Int)}, DqAll H xs (ps.map prD) → ∃ rs : List KRow, xs = rs.map (fun r => V.ref r.1) ∧ (∀ r ∈ rs, H r.1 = some (.tup (r.2.map kV))) ∧ rs.map (·.2) = ps.map prK
  | [], [], _ => ⟨[], rfl, (fun _ h => nomatch h), rfl⟩
  | x :: xs, p :: ps, h => by
    cases h with
    | cons h1 h2 =>
      obtain ⟨rs, rfl, hr, e⟩ := prs_rows h2
      cases h1 with
      | @tup a zs _ ha hz =>
        cases hz with
        | cons q0 hz =>
        cases hz with
        | cons q1 hz =>
        cases hz
        cases q0
        cases q1
        refine ⟨(a, prK p) :: rs, rfl, fun r m => ?_, by rw [List.map_cons, e]; rfl⟩
        rcases List.mem_cons.mp m with rfl | m
        · exact ha
        · exact hr r m
/-- sorted(set(t)), t a tuple of pairs -/
theorem srt_in {K : PySem.W.Frag} {P : Program} {w : World} {H1 : Hp} {Q : VK} {a : Addr} {xs : List V} {ps : List (Int × Int)} (few : ps.length < 64) (ha : H1 a = some (.tup xs)) (hq : DqAll H1 xs (ps.map prD))
    (k : ∀ H' (ys : List V) p S, Same H1 H' → H' p = some (.lst ys) → DqAll H' ys (S.map prD) → SSet ps S → Q (.ref p) H') :
    rSetRT K P w [.ref a] H1 (fun y H2 => rSortR P w [y] H2 Q) := by
  obtain ⟨rs, rfl, rows, e⟩ := prs_rows hq
  have lrs : rs.length = ps.length := by
    have := congrArg List.length e
    rwa [List.length_map, List.length_map] at this
  refine ⟨a, rs, rfl, SqT.of ha, rows, by omega, fun p L np sub ndL all => ?_⟩
  have S1 := same_new (o := RowsO P w p L) np
  have rowOf : ∀ r ∈ L, r.2 ∈ ps.map prK := fun r hr => by
    rw [← e]
    exact List.mem_map_of_mem (sub r hr)
  refine ⟨p, L, rfl, upd_same, fun r hr => S1 _ _ (rows r (sub r hr)), fun r hr r' hr' => ?_, fun r hr z => ?_, fun ms ys p2 pm hys np2 => ?_⟩
  · obtain ⟨k1, _, e1⟩ := List.mem_map.mp (rowOf r hr)
    obtain ⟨k2, _, e2⟩ := List.mem_map.mp (rowOf r' hr')
    rw [← e1, ← e2]
    exact pr_alike k1 k2
  · obtain ⟨k1, _, e1⟩ := List.mem_map.mp (rowOf r hr)
    rw [z] at e1
    cases e1
  · obtain ⟨S, eS, SS⟩ := sset_of (ps := ps) rowOf ndL (fun k hk => by
      have : prK k ∈ rs.map (·.2) := by
        rw [e]
        exact List.mem_map_of_mem hk
      obtain ⟨r, hr, e'⟩ := List.mem_map.mp this
      rw [← e']
      exact all r hr) pm
    rw [eS] at hys
    have S2 := same_new (o := .lst ys) np2
    exact k _ ys p2 S (S1.trans S2) upd_same (DqAll.same S2 _ _ hys) SS
end KL
set_option Elab.async false
set_option linter.all false
set_option maxRecDepth 100000
set_option maxHeartbeats 4000000
namespace KL
open PySem L2 PySem.KX PySem.Spec PyProof.Rows
/-- C(), C an own exception class without an own __init__ -/
theorem pmk_own0 {X : Cx} {C : Addr} {bmB : List Value} {B newId initId : String} {x : Str} {p pos : Pos} (F : ExcBaseFacts B newId initId bmB) (q : PySem.W.excIn X.K C bmB newId = true) (gC : X.mg x = some (.ref C))
    (kC : PySem.W.keepIn X.K (.ref C) = true) (r : Raises X (.ref C)) (hg : Gl X x) (hdb : (x == ("__debug__" : Str)) = false := by decide) : PMk X (.Call (.Name x p) [] [] pos) (fun _ H Q => Q (.ref C) none H) := by
  intro pins s σ H Q I h
  refine wpAny_Call_Name_kw (ld_glob I hg gC ?_ hdb)
  refine PySem.W.callWith_K0 I.kIn kC ?_
  show wpAny _ _ (call (.ref C) []) _ _ _
  obtain ⟨bm, N, nm, qn, bs, hdct, sn, sub, ab, col, dd, k0, k1, k2, k3, k5, mN, hC, hN, hni, T⟩ := exc_obj I.kIn q
  refine wpAny_call_exc_subT F T hC hN hni (fun h' e hm => ?_) (by show 0 ≤ sizeLine; rw [sizeLine_eq]; omega)
  exact mk_of I hm r h (I.hok.gone hm.new)
theorem catA_same {K : PySem.W.Frag} {H : Hp} {v u : V} {ds es : List PyData} {Q : VK} (h1 : Dq H v (.tuple ds)) (h2 : Dq H u (.tuple es)) (hz : ds.length + es.length ≤ 4000) (k : ∀ H' r xs, Same H H' → H' r = some (.tup xs) → DqAll H' xs (ds ++ es) → Q (.ref r) H') : rCatA K v u H Q := by
  cases h1 with
  | @tup a xs _ ha qa =>
    cases h2 with
    | @tup b ys _ hb qb =>
      refine ⟨a, b, xs, ys, rfl, rfl, SqT.of ha, SqT.of hb, by rw [dq_len qa, dq_len qb, sizeLine_eq]; omega, fun z => ?_, fun _ z => ?_, fun _ _ r nr => ?_⟩
      · subst z
        cases qa
        exact k H b _ (Same.refl _) hb qb
      · subst z
        cases qb
        rw [List.append_nil] at k
        exact k H a _ (Same.refl _) ha qa
      · exact k _ r _ (same_new nr) upd_same (DqAll.same (same_new nr) _ _ (qa.app qb))
/-- a policy's parts are right -/
theorem due_pairs {n : Int} {ps : List (Int × Int)} (h : Pairs n ps) : dueP (.int n) (prsD ps) = none := by
  have n1 := h.n1
  have n3 := h.n3
  have b0 : betD 1 3 (.int n) = true := by
    show (decide ((1 : Int) ≤ n) && decide (n ≤ 3)) = true
    rw [decide_eq_true n1, decide_eq_true n3]
    rfl
  have one : ∀ p ∈ ps, mateD n (prD p) = true := fun p hp => by
    obtain ⟨a1, a2, a3, a4, a5⟩ := h.all p hp
    show (betD 0 (n - 1) (.int p.1) && (betD 0 (n - 1) (.int p.2) && !decide (V.int p.1 = V.int p.2))) = true
    have e1 : betD 0 (n - 1) (.int p.1) = true := by
      show (decide ((0 : Int) ≤ p.1) && decide (p.1 ≤ n - 1)) = true
      rw [decide_eq_true a1, decide_eq_true (by omega)]
      rfl
    have e2 : betD 0 (n - 1) (.int p.2) = true := by
      show (decide ((0 : Int) ≤ p.2) && decide (p.2 ≤ n - 1)) = true
      rw [decide_eq_true a3, decide_eq_true (by omega)]
      rfl
    rw [e1, e2, decide_eq_false fun z => a5 (by injection z)]
    rfl
  have all : ∀ qs : List (Int × Int), (∀ p ∈ qs, mateD n (prD p) = true) → (qs.map prD).all (mateD n) = true := fun qs hq => by
    rw [List.all_eq_true]
    intro d hd
    obtain ⟨p, hp, rfl⟩ := List.mem_map.mp hd
    exact hq p hp
  have b1 : matesD n (prsD ps) = true := by
    show (true && ((ps.map prD).all (mateD n) && ascD (ps.map prD))) = true
    rw [all ps one, h.asc]
    rfl
  unfold dueP
  rw [if_neg (by rw [b0]; decide), if_neg (by rw [show matesD (numD (.int n)) (prsD ps) = true from b1]; decide)]
theorem sm_prs {n : Int} {ps : List (Int × Int)} (h : Pairs n ps) : smB (prsD ps) = true := by
  show (decide ((ps.map prD).length ≤ 1000) && smAll (ps.map prD)) = true
  have all : ∀ qs : List (Int × Int), (∀ p ∈ qs, 0 ≤ p.1 ∧ p.1 < n ∧ 0 ≤ p.2 ∧ p.2 < n ∧ p.1 ≠ p.2) → smAll (qs.map prD) = true := fun qs => by
    induction qs with
    | nil => exact fun _ => rfl
    | cons p qs ih =>
      intro hq
      obtain ⟨a1, a2, a3, a4, _⟩ := hq p List.mem_cons_self
      have n3 := h.n3
      have q := ih fun x hx => hq x (List.mem_cons_of_mem _ hx)
      have l1 : p.1.natAbs.log2 ≤ p.1.natAbs := Nat.log2_le_self _
      have l2 : p.2.natAbs.log2 ≤ p.2.natAbs := Nat.log2_le_self _
      show ((decide ((2 : Nat) ≤ 1000) && (decide (p.1.natAbs.log2 < 1900) && (decide (p.2.natAbs.log2 < 1900) && true))) && smAll (qs.map prD)) = true
      rw [q, decide_eq_true (by omega : p.1.natAbs.log2 < 1900), decide_eq_true (by omega : p.2.natAbs.log2 < 1900)]
      rfl
  rw [all ps h.all, List.length_map, decide_eq_true h.few]
  rfl
theorem sm_num {i : Int} (h0 : 0 ≤ i) (h1 : i ≤ 1000) : smB (.int i) = true := by
  refine decide_eq_true ?_
  have : i.natAbs.log2 ≤ i.natAbs := Nat.log2_le_self _
  omega
theorem Pairs.join {n : Int} {ps qs S : List (Int × Int)} (h : Pairs n ps) (h' : Pairs n qs) (s : SSet (ps ++ qs) S) (few : ps.length + qs.length ≤ 1000) : Pairs n S :=
  ⟨h.n1, h.n3, fun p hp => (List.mem_append.mp ((s.mem p).mp hp)).elim (h.all p) (h'.all p), s.asc, by have := s.len; rw [List.length_append] at this; omega⟩
def spPOr (C CO : Addr) : Sp := fun vs H Q E => ∃ (x z : Addr) (n m : Int) (v u : V) (ps qs : List (Int × Int)), vs = [.ref x, .ref z] ∧ PolAt C H x n v ps ∧ PolAt C H z m u qs ∧ Pairs n ps ∧ Pairs m qs ∧ ps.length + qs.length < 64 ∧
  (n = m → ∀ H' y t S, Same H H' → PolAt C H' y n t S → SSet (ps ++ qs) S → Pairs n S → Q (.ref y) H') ∧ (n ≠ m → ∀ H', Same H H' → E (.ref CO) none H')
structure TxtOr (K : PySem.W.Frag) (mg : Str → Option Value) (CO : Addr) : Prop where
  ex : PySem.W.excIn K CO [.type "Exception", .type "BaseException", .type "object"] "Exception.__new__" = true
  m : mg "OtherPeople" = some (.ref CO)
  kp : PySem.W.keepIn K (.ref CO) = true
  sub : PySem.W.subIn K (.ref CO) (.type "BaseException") = some true
  ty : PySem.W.typeIn K (.ref CO) = some (.type "type")
section
variable {P : Program} {w : World} {K : PySem.W.Frag} {mg : Str → Option Value} {base : Heap} {C CB CO fI : Addr} {dI : FuncData}
theorem scPOr : FnScope ["self", "other"] ["self", "other"] (defScope sPOr) := ⟨rfl, rfl, rfl, by decide +kernel, rfl, by decide +kernel, by decide +kernel⟩
theorem ok_por {f : Addr} {fd : FuncData} (F : Fun K "__or__" "Policy.__or__" sPOr f fd) (T : TxtP K C) (TO : TxtOr K mg CO) (G : FnOk P w K mg base (L2.CX P w) 5 fI dI pInit2 (spPInit C CB)) (M : Mk K C fI) (bI : L2.Binds K dI pInit2 []) (mC : mg "Policy" = some (.ref C))
    (mt : mg "tuple" = none) (ms : mg "sorted" = none) (mse : mg "set" = none) : FnOk P w K mg base (L2.CX P w) 7 f fd ["self", "other"] (spPOr C CO) := by
  refine fnX F scPOr (fun vs H Q E h => ?_) (fun cdv A outer s H vs Q E hr h tk po => ?_)
  · obtain ⟨x, z, n, m, v, u, ps, qs, rfl, _⟩ := h
    rfl
  · obtain ⟨x, z, n, m, v, u, ps, qs, rfl, ⟨dx, hx, hv⟩, ⟨dz, hz, hu⟩, hp, hq, few, k, kE⟩ := h
    refine ⟨_, pss_cons (ps_if (pt_cmpR op_ne (pe_fld (pv 0) (by rfl)) (pe_fld (pv 1) (by rfl)) (nomark _)) (pss_one (ps_raise rfl tk (pmk_own0 PySem.F.excBase_Exception TO.ex TO.m TO.kp (raises_own TO.sub TO.ty) (by rfl)))) pss_nil)
      (pss_one (ps_ret (pe_make M G hr (by rfl) mC bI .nil passL (pa_cons (pe_fld (pv 0) (by rfl)) (pa_cons (pe_tupleOf (by rfl) mt (pe_callB (cr_sortR rfl hr.units) (by rfl) ms (by decide +kernel) (pa_cons (pe_callTy (cr_setRT rfl hr.units) (by rfl) mse (by decide +kernel) (pa_cons (pe_op op_catA (pe_fld (pv 0) (by rfl)) (pe_fld (pv 1) (by rfl))) pa_nil)) pa_nil))) pa_nil))))), ?_⟩
    refine ⟨_, rfl, x, C, dx, _, _, rfl, hx, T.c, T.people, pol_people _ _, _, rfl, z, C, dz, _, _, rfl, hz, T.c, T.people, pol_people _ _, rfl, _, rfl, ?_⟩
    by_cases e : n = m
    · subst e
      refine iteNo (by rw [decide_eq_true rfl]; rfl) ?_
      refine ⟨_, rfl, x, C, dx, _, _, rfl, hx, T.c, T.people, pol_people _ _, _, rfl, x, C, dx, _, _, rfl, hx, T.c, T.pairs, pol_pairs _ _, _, rfl, z, C, dz, _, _, rfl, hz, T.c, T.pairs, pol_pairs _ _, ?_⟩
      refine catA_same hv hu (by rw [List.length_map, List.length_map]; omega) fun H1 r xs S1 h1 q1 => ?_
      rw [← List.map_append] at q1
      dsimp only [tNil]
      refine srt_in (ps := ps ++ qs) (by rw [List.length_append]; omega) h1 q1 fun H2 ys p S S2 hp2 qS ss => ?_
      refine .inl ⟨p, ys, rfl, SqL.of hp2, fun t nt => ?_⟩
      have S3 := same_new (o := .tup ys) nt
      have S13 := S1.trans (S2.trans S3)
      intro y dy ny ndy ne
      have S4 : Same (upd H2 t (.tup ys)) (upd (upd (upd H2 t (.tup ys)) dy (.own y)) y (.ins C dy [])) := fun b o e => by
        rw [upd_ne (ne_of_none e ny), upd_ne (ne_of_none e ndy)]
        exact e
      have dq : Dq (upd H2 t (.tup ys)) (.ref t) (prsD S) := .tup upd_same (DqAll.same S3 _ _ qS)
      have hS := hp.join hq ss (by omega)
      refine ⟨_, y, dy, .int n, .ref t, _, _, rfl, S4, ny, upd_same, .int n, dq, sm_num (by have := hp.n1; omega) (by have := hp.n3; omega), sm_prs hS, fun _ H5 S5 h5 => ⟨rfl, k rfl H5 y (.ref t) S (S13.trans S5) ⟨dy, h5, Dq.same S5 _ _ dq⟩ ss hS⟩, fun wd e => (by rw [due_pairs hS] at e; cases e)⟩
    · refine iteYes (by rw [decide_eq_false fun z => e (by injection z)]; rfl) ?_
      exact kE e H (Same.refl _)
end
end KL
set_option Elab.async false
set_option linter.all false
set_option maxRecDepth 100000
set_option maxHeartbeats 4000000
namespace KL
open PySem L2 PySem.KX PySem.Spec PyProof.Rows
/-! ### the text of a policy -/
def tx (i : Int) : Str := (toString i : String)
def peopleLine (n : Int) : Str := ("people " : Str) ++ tx n
def pairLine (p : Int × Int) : Str := ((("hears " : Str) ++ tx p.1) ++ (" " : Str)) ++ tx p.2
def polLines (n : Int) (ps : List (Int × Int)) : List Str := peopleLine n :: ps.map pairLine
def polText (n : Int) (ps : List (Int × Int)) : Str := Txt.join "\n" (polLines n ps)
theorem empty_app (x : Str) : Str.empty ++ x = x := by
  show (⟨#[] ++ x.cps⟩ : Str) = x
  simp
theorem tx_len {i : Int} (h0 : 0 ≤ i) (h1 : i ≤ 1000) : (tx i).length ≤ 20 := by
  have := len_toString i
  have l : i.natAbs.log2 ≤ 10 := by
    by_cases z : i.natAbs = 0
    · rw [z]
      decide
    · exact Nat.le_of_lt_succ ((Nat.log2_lt z).mpr (by omega))
  exact Nat.le_trans this (by omega)
theorem people_len {n : Int} (h0 : 0 ≤ n) (h1 : n ≤ 1000) : (peopleLine n).length ≤ 60 := by
  have := tx_len h0 h1
  unfold peopleLine
  rw [strLen_append]
  have : ("people " : Str).length = 7 := by decide +kernel
  omega
theorem line_len {n : Int} {ps : List (Int × Int)} (h : Pairs n ps) {p : Int × Int} (hp : p ∈ ps) : (pairLine p).length ≤ 60 := by
  obtain ⟨a1, a2, a3, a4, _⟩ := h.all p hp
  have n3 := h.n3
  have l1 := tx_len a1 (by omega)
  have l2 := tx_len a3 (by omega)
  unfold pairLine
  rw [strLen_append, strLen_append, strLen_append]
  have : ("hears " : Str).length = 6 := by decide +kernel
  have : (" " : Str).length = 1 := by decide +kernel
  omega
theorem sum_len : ∀ {l : List Str}, (∀ x ∈ l, x.length ≤ 60) → (l.map (·.length)).sum ≤ 60 * l.length
  | [], _ => Nat.le_refl _
  | x :: l, h => by
    have := sum_len fun y hy => h y (List.mem_cons_of_mem _ hy)
    have := h x List.mem_cons_self
    rw [List.map_cons, List.sum_cons, List.length_cons]
    omega
def spPStr (C : Addr) : Sp := fun vs H Q _ => ∃ (x : Addr) (n : Int) (v : V) (ps : List (Int × Int)), vs = [.ref x] ∧ PolAt C H x n v ps ∧ Pairs n ps ∧ ∀ H', Same H H' → Q (.str (polText n ps)) H'
section
variable {P : Program} {w : World} {K : PySem.W.Frag} {mg : Str → Option Value} {base : Heap} {C : Addr}
theorem scPStr : FnScope ["self", "pair"] ["self"] (defScope sPStr) := ⟨rfl, rfl, rfl, by decide +kernel, rfl, by decide +kernel, by decide +kernel⟩
theorem ok_pstr {f : Addr} {fd : FuncData} (F : Fun K "__str__" "Policy.__str__" sPStr f fd) (T : TxtP K C) : FnOk P w K mg base CX0 1 f fd ["self"] (spPStr C) := by
  refine F.ok scPStr (fun vs H Q E h => ?_) (fun cdv A outer s H vs Q E hr h => ?_)
  · obtain ⟨x, n, v, ps, rfl, _⟩ := h
    rfl
  · obtain ⟨x, n, v, ps, rfl, ⟨dx, hx, hv⟩, hp, k⟩ := h
    have nd := scPStr.nd
    refine ⟨_, pss_one (ps_ret (pe_join pe_str (pe_op op_cat (pe_lst (pa_cons (pe_joined (.cons pe_str (.cons (pe_fmt (pe_fld (pv 0) (by rfl))) .nil))) pa_nil))
      (pe_lc (own := [("pair", 1)]) (g := gName 1) (tt := tYes) rfl nd (pi_tup (pe_fld (pv 0) (by rfl))) (blkOk_by (N := ["self", "pair"]) (sc := defScope sPStr) (by decide +kernel)) (fun _ _ _ _ _ => pg_name (i := 1) nd rfl (.inl rfl)) (fun _ _ _ _ _ => pts_nil)
        (fun _ _ _ _ _ => pe_joined (.cons pe_str (.cons (pe_fmt (pe_ix (r := rIxT K) ix_tup (pv 1) pe_int (fun _ _ => rfl))) (.cons pe_str (.cons (pe_fmt (pe_ix (r := rIxT K) ix_tup (pv 1) pe_int (fun _ _ => rfl))) .nil))))))))), ?_⟩
    have n1 := hp.n1
    have n3 := hp.n3
    have lp := people_len (n := n) (by omega) (by omega)
    have sz : sizeLine = 16777216 := sizeLine_eq
    have lg : ∀ i : Int, 0 ≤ i → i ≤ 3 → i.natAbs.log2 < 1920 := fun i h0 h1 => by
      have : i.natAbs.log2 ≤ i.natAbs := Nat.log2_le_self _
      omega
    refine ⟨⟨_, rfl⟩, _, rfl, by rw [empty_app]; show ("people " : Str).length ≤ _; rw [sz]; decide +kernel, _, rfl, x, C, dx, _, _, rfl, hx, T.c, T.people, pol_people _ _, .inr ⟨n, rfl, lg n (by omega) n3, _, rfl, ?_, ?_⟩⟩
    · rw [empty_app, sz]
      exact Nat.le_trans lp (by decide)
    rw [empty_app, show (("people " : Str) ++ Str.ofString (toString n)) = peopleLine n from rfl]
    refine ⟨(by show 1 ≤ sizeLine; decide), fun a na => ?_⟩
    have Sa := same_new (o := .lst [.str (peopleLine n)]) na
    have ha : upd H a (.lst [.str (peopleLine n)]) a = some (.lst [.str (peopleLine n)]) := upd_same
    revert Sa ha
    generalize upd H a (.lst [.str (peopleLine n)]) = H1
    intro Sa ha
    cases hv with
    | @tup b xs _ e hda =>
      refine ⟨_, rfl, x, C, dx, _, _, rfl, Sa _ _ hx, T.c, T.pairs, pol_pairs _ _, b, rfl, ⟨_, SqT.of (Sa _ _ e)⟩, fun D nD => ?_⟩
      refine lc_tup (K := K) (a := b) (xs := xs) (te := fun σ H Q => tJs [tC (.str "hears "), tFmt (tOp (rIxT K) (tVar 1) (tC (.int 0))), tC (.str " "), tFmt (tOp (rIxT K) (tVar 1) (tC (.int 1)))] Str.empty σ H fun out H1 => Q (.str out) H1) (fun i H2 => MadeTo H1 D (((ps.take i).map pairLine).map V.str) H2) ⟨same_new nD, upd_same⟩ (fun i H2 _ M => SqT.of (M.1 _ _ (Sa _ _ e))) ?_ ?_
      · rintro i y H2 hy M
        obtain ⟨d', hd', hq⟩ := DqAll.at hda hy
        obtain ⟨p, hpp, rfl⟩ : ∃ p, ps[i]? = some p ∧ prD p = d' := by
          rw [List.getElem?_map] at hd'
          cases ex : ps[i]? with
          | none =>
            rw [ex] at hd'
            cases hd'
          | some p =>
            rw [ex] at hd'
            exact ⟨p, rfl, Option.some.inj hd'⟩
        have hm := List.mem_of_getElem? hpp
        obtain ⟨a1, a2, a3, a4, _⟩ := hp.all p hm
        have ll := line_len hp hm
        have et : ps.take (i + 1) = ps.take i ++ [p] := by
          rw [List.take_add_one, hpp]
          rfl
        have hi : i < ps.length := (List.getElem?_eq_some_iff.mp hpp).1
        have few := hp.few
        unfold pairLine at ll
        have l3 := ll
        rw [strLen_append] at l3
        have l4 := l3
        rw [strLen_append] at l4
        have l5 := l4
        rw [strLen_append] at l5
        cases hq with
        | @tup c zs _ ec hza =>
          cases hza with
          | cons p0 hza =>
          cases hza with
          | cons p1 hza =>
          cases hza
          cases p0
          cases p1
          have Sc := SqT.of (K := K) (M.1 _ _ (Sa _ _ ec))
          refine ⟨rfl, _, rfl, by rw [empty_app, sz]; omega, _, rfl, c, _, _, .int p.1, rfl, rfl, Sc, rfl, .inr ⟨p.1, rfl, lg p.1 a1 (by omega), _, rfl, by rw [empty_app, sz, strLen_append]; show _ + (tx p.1).length ≤ _; omega, _, rfl, by rw [empty_app, sz, strLen_append, strLen_append]; show _ + (tx p.1).length + _ ≤ _; omega, _, rfl, c, _, _, .int p.2, rfl, rfl, Sc, rfl, .inr ⟨p.2, rfl, lg p.2 a3 (by omega), _, rfl, by rw [empty_app, sz, strLen_append, strLen_append, strLen_append]; show _ + (tx p.1).length + _ + (tx p.2).length ≤ _; omega, ?_⟩⟩⟩
          rw [empty_app]
          obtain ⟨h1, M2⟩ := M.more (.str (pairLine p)) nD (Same.refl H2)
          refine ⟨_, h1, ?_, ?_⟩
          · rw [List.length_map, List.length_map, List.length_take, sz]
            omega
          · rw [et, List.map_append, List.map_append]
            exact M2
      · rintro H2 M
        have len : xs.length = ps.length := by rw [hda.len, List.length_map]
        rw [len, List.take_length] at M
        have few := hp.few
        refine ⟨a, D, _, _, rfl, rfl, M.1 _ _ ha, M.2, ?_, fun q nq => ?_⟩
        · rw [List.length_map, List.length_map, sz]
          show 1 + _ ≤ _
          omega
        refine ⟨"\n", q, polLines n ps, rfl, rfl, .inl (SqL.of upd_same), ?_, k _ (Sa.trans (M.1.trans (same_new nq)))⟩
        have sl := sum_len (l := polLines n ps) fun y hy => by
          rcases List.mem_cons.mp hy with rfl | hy
          · exact lp
          · obtain ⟨p, hm, rfl⟩ := List.mem_map.mp hy
            exact line_len hp hm
        have : (polLines n ps).length = ps.length + 1 := by
          show (ps.map pairLine).length + 1 = _
          rw [List.length_map]
        have one : ("\n" : Str).length = 1 := by decide +kernel
        rw [one]
        omega
end
end KL
set_option Elab.async false
set_option linter.all false
set_option maxRecDepth 100000
set_option maxHeartbeats 4000000
namespace KL
open PySem L2 PySem.KX PySem.Spec PyProof.Rows
abbrev sNumIn : Stmt := top 15
abbrev sNumsIn : Stmt := top 16
abbrev sBehind : Stmt := top 21
abbrev sPartsIn : Stmt := top 22
/-! ### numbers in words -/
def digitC (c : Nat) : Bool := decide (48 ≤ c) && decide (c ≤ 57)
def allDig (x : Str) : Bool := x.cps.toList.all digitC
/-- what stands behind a sign -/
def bare (x : Str) : Str := Txt.removeprefix x "-"
def numM (x : Str) : Option Int :=
  if (decide ((bare x).length > 40) || (!Txt.isascii (bare x) || !Txt.isdigit (bare x))) = true then none
  else if (Txt.startswith (bare x) "0" && !decide (V.str x = V.str "0")) = true then none
  else PySem.intText? x
theorem digit_ascii : ∀ c : Nat, c < 128 → Unicode.isDigit c = digitC c := by decide +kernel
theorem dig_of {x : Str} (h1 : Txt.isascii x = true) (h2 : Txt.isdigit x = true) : x.length > 0 ∧ allDig x = true := by
  unfold Txt.isdigit at h2
  rw [Bool.and_eq_true] at h2
  refine ⟨of_decide_eq_true h2.1, ?_⟩
  unfold Txt.isascii at h1
  unfold allDig
  rw [← Array.all_toList, List.all_eq_true] at h1
  have h3 := h2.2
  rw [← Array.all_toList, List.all_eq_true] at h3
  rw [List.all_eq_true]
  intro c hc
  have a := of_decide_eq_true (h1 c hc)
  rw [← digit_ascii c a]
  exact h3 c hc
theorem dig_to {x : Str} (h0 : x.length > 0) (h : allDig x = true) : Txt.isascii x = true ∧ Txt.isdigit x = true := by
  unfold allDig at h
  rw [List.all_eq_true] at h
  have lt : ∀ c ∈ x.cps.toList, c < 128 := fun c hc => by
    have := h c hc
    unfold digitC at this
    simp only [Bool.and_eq_true, decide_eq_true_eq] at this
    omega
  refine ⟨?_, ?_⟩
  · unfold Txt.isascii
    rw [← Array.all_toList, List.all_eq_true]
    exact fun c hc => decide_eq_true (lt c hc)
  · unfold Txt.isdigit
    rw [decide_eq_true h0, Bool.true_and, ← Array.all_toList, List.all_eq_true]
    intro c hc
    rw [digit_ascii c (lt c hc)]
    exact h c hc
theorem sub_one (x : Str) (c : Nat) : Builtin.Str.subAt x ⟨#[c]⟩ 0 = true ↔ ∃ r, x.cps.toList = c :: r := by
  obtain ⟨⟨l⟩⟩ := x
  unfold Builtin.Str.subAt
  show ((Array.mk l).extract 0 (0 + 1) == #[c]) = true ↔ _
  cases l with
  | nil => simp
  | cons a r => simp
theorem starts_one (x : Str) (c : Nat) : Txt.startswith x ⟨#[c]⟩ = true ↔ ∃ r, x.cps.toList = c :: r := by
  unfold Txt.startswith
  rw [Bool.and_eq_true, sub_one]
  constructor
  · exact fun h => h.2
  · rintro ⟨r, e⟩
    refine ⟨decide_eq_true ?_, r, e⟩
    have : x.cps.toList.length = x.length := Array.length_toList
    rw [e] at this
    show 0 + 1 ≤ x.length
    rw [← this, List.length_cons]
    omega
/-- a word is its bare word, or that behind a sign -/
theorem bare_of (x : Str) : (bare x = x ∧ ¬ ∃ r, x.cps.toList = 45 :: r) ∨ ∃ r, x.cps.toList = 45 :: r ∧ (bare x).cps.toList = r := by
  unfold bare
  rw [StrLaws.removeprefix_eq]
  have e : ("-" : Str) = ⟨#[45]⟩ := by decide +kernel
  rw [e]
  by_cases h : Txt.startswith x ⟨#[45]⟩ = true
  · rw [if_pos (show (decide (0 + (⟨#[45]⟩ : Str).length ≤ x.length) && Builtin.Str.subAt x ⟨#[45]⟩ 0) = true from h)]
    obtain ⟨r, er⟩ := (starts_one x 45).mp h
    refine .inr ⟨r, er, ?_⟩
    have l : x.cps.toList.length = x.length := Array.length_toList
    show ((x.cps.toList.drop 1).take (x.length - 1)).toArray.toList = r
    rw [er] at l ⊢
    rw [List.length_cons] at l
    simp [← l]
  · rw [if_neg (show ¬ (decide (0 + (⟨#[45]⟩ : Str).length ≤ x.length) && Builtin.Str.subAt x ⟨#[45]⟩ 0) = true from h)]
    exact .inl ⟨rfl, fun z => h ((starts_one x 45).mpr z)⟩
/-! ### the law's own number -/
def lnumM (x : Str) : Int :=
  if (decide (V.str x = V.str "") || (decide (x.length > 40) || !allDig x)) = true then -1
  else if ((x.cps.toList.headD 0 == 48) && !decide (V.str x = V.str "0")) = true then -1
  else (PySem.intText? x).getD (-1)
theorem dig_all {x : Str} (h : allDig x = true) : NumText.AllDigits x.cps.toList := fun c hc => by
  have := List.all_eq_true.mp h c hc
  unfold digitC at this
  simp only [Bool.and_eq_true, decide_eq_true_eq] at this
  exact this
theorem str_eq_dec {x y : Str} : decide (V.str x = V.str y) = decide (x = y) := by
  by_cases h : x = y
  · rw [decide_eq_true h, decide_eq_true (by rw [h])]
  · rw [decide_eq_false h, decide_eq_false fun z => h (by injection z)]
theorem ne_nil_of {x : Str} (h : x.length > 0) : x.cps.toList ≠ [] := fun e => by
  have : x.cps.toList.length = x.length := Array.length_toList
  rw [e] at this
  simp at this
  omega
theorem nil_of {x : Str} (h : x.cps.toList = []) : x = "" := by
  obtain ⟨⟨l⟩⟩ := x
  have : l = [] := h
  subst this
  decide +kernel
/-- both say the same of a number that is not below 0 -/
theorem num_same (x : Str) (i : Int) (h0 : 0 ≤ i) : numM x = some i ↔ lnumM x = i := by
  have z0 : ("0" : Str) = ⟨#[48]⟩ := by decide +kernel
  have lx : x.cps.toList.length = x.length := Array.length_toList
  rcases bare_of x with ⟨e, ns⟩ | ⟨r, er, eb⟩
  · unfold numM lnumM
    rw [e, str_eq_dec, str_eq_dec]
    by_cases hx : x = ""
    · subst hx
      constructor
      · intro h
        rw [if_pos (by decide +kernel)] at h
        cases h
      · intro h
        rw [if_pos (by decide +kernel)] at h
        omega
    rw [decide_eq_false hx, Bool.false_or]
    by_cases hl : x.length > 40
    · rw [decide_eq_true hl, Bool.true_or, Bool.true_or, if_pos rfl, if_pos rfl]
      constructor
      · intro h
        cases h
      · intro h
        omega
    rw [decide_eq_false hl, Bool.false_or, Bool.false_or]
    have hx0 : x.length > 0 := by
      cases z : x.cps.toList with
      | nil => exact absurd (nil_of z) hx
      | cons a b =>
        rw [z, List.length_cons] at lx
        omega
    cases hd : allDig x with
    | false =>
      have : (!Txt.isascii x || !Txt.isdigit x) = true := by
        cases a : Txt.isascii x with
        | false => rfl
        | true =>
          cases b : Txt.isdigit x with
          | false => rfl
          | true =>
            have := (dig_of a b).2
            rw [hd] at this
            cases this
      rw [if_pos this, if_pos (by rfl)]
      constructor
      · intro h
        cases h
      · intro h
        omega
    | true =>
      obtain ⟨a, b⟩ := dig_to hx0 hd
      rw [a, b, if_neg (show ¬ (!true || !true) = true by decide), if_neg (show ¬ (!true) = true by decide)]
      have hs : Txt.startswith x "0" = (x.cps.toList.headD 0 == 48) := by
        rw [z0]
        cases z : x.cps.toList with
        | nil => exact absurd z (ne_nil_of hx0)
        | cons c cs =>
          by_cases hc : c = 48
          · subst hc
            rw [(starts_one x 48).mpr ⟨cs, z⟩]
            rfl
          · have : Txt.startswith x ⟨#[48]⟩ = false := by
              cases q : Txt.startswith x ⟨#[48]⟩ with
              | false => rfl
              | true =>
                obtain ⟨r, er⟩ := (starts_one x 48).mp q
                rw [z] at er
                exact absurd (List.cons.inj er).1 hc
            rw [this]
            simp [hc]
      rw [hs]
      by_cases hq : ((x.cps.toList.headD 0 == 48) && !decide (x = "0")) = true
      · rw [if_pos hq, if_pos hq]
        constructor
        · intro h
          cases h
        · intro h
          omega
      · rw [if_neg hq, if_neg hq, PySem.intText_digits (dig_all hd) (ne_nil_of hx0) (by omega)]
        simp
  · have nd : allDig x = false := by
      unfold allDig
      rw [er]
      rfl
    have le : lnumM x = -1 := by
      unfold lnumM
      rw [if_pos (by rw [nd]; simp)]
    rw [le]
    constructor
    · intro h
      exfalso
      unfold numM at h
      split at h
      · cases h
      rename_i h1
      have h1 : (decide ((bare x).length > 40) || (!Txt.isascii (bare x) || !Txt.isdigit (bare x))) = false := by simpa using h1
      have h1 := Bool.or_eq_false_iff.mp h1
      have h2 := Bool.or_eq_false_iff.mp h1.2
      obtain ⟨b0, bd⟩ := dig_of (x := bare x) (by simpa using h2.1) (by simpa using h2.2)
      split at h
      · cases h
      rename_i h3
      have ad := dig_all bd
      rw [eb] at ad
      have lb : (bare x).cps.toList.length = (bare x).length := Array.length_toList
      have rn : r ≠ [] := fun z => by
        rw [eb, z] at lb
        simp at lb
        omega
      have l40 : (bare x).length ≤ 40 := by
        have := of_decide_eq_false h1.1
        omega
      rw [eb] at lb
      have xl : x.length ≤ 4300 := by
        rw [er, List.length_cons] at lx
        omega
      rw [PySem.intText_neg er ad rn xl] at h
      have h := Option.some.inj h
      have d0 : NumText.digitsVal r = 0 := by omega
      cases r with
      | nil => exact rn rfl
      | cons c cs =>
        by_cases hc : c = 48
        · subst hc
          refine h3 ?_
          rw [Bool.and_eq_true]
          refine ⟨by rw [z0]; exact (starts_one _ 48).mpr ⟨cs, eb⟩, ?_⟩
          rw [str_eq_dec, decide_eq_false fun z => ?_]
          · rfl
          · rw [z, z0] at er
            cases er
        · have c1 := ad c List.mem_cons_self
          have := NumText.digitsVal_pos (c := c) (cs := cs) (by omega)
          omega
    · intro h
      omega
end KL
set_option Elab.async false
set_option linter.all false
set_option maxRecDepth 100000
set_option maxHeartbeats 4000000
namespace KL
open PySem L2 PySem.KX PySem.Spec PyProof.Rows
def optI : Option Int → V
  | none => .non
  | some i => .int i
theorem bad_no {x : Str} (h : (decide ((bare x).length > 40) || (!Txt.isascii (bare x) || !Txt.isdigit (bare x))) = false) (hx : x.length ≤ 600) : ∃ n, PySem.intText? x = some n := by
  have h1 := Bool.or_eq_false_iff.mp h
  have h2 := Bool.or_eq_false_iff.mp h1.2
  obtain ⟨b0, bd⟩ := dig_of (x := bare x) (by simpa using h2.1) (by simpa using h2.2)
  have lb : (bare x).cps.toList.length = (bare x).length := Array.length_toList
  rcases bare_of x with ⟨e, ns⟩ | ⟨r, er, eb⟩
  · rw [e] at b0 bd
    exact ⟨_, PySem.intText_digits (dig_all bd) (ne_nil_of b0) (by omega)⟩
  · have ad := dig_all bd
    rw [eb] at ad
    exact ⟨_, PySem.intText_neg er ad (fun z => by rw [eb, z] at lb; simp at lb; omega) (by omega)⟩
theorem bare_len (x : Str) : (bare x).length ≤ x.length := by
  have lb : (bare x).cps.toList.length = (bare x).length := Array.length_toList
  have lx : x.cps.toList.length = x.length := Array.length_toList
  rcases bare_of x with ⟨e, _⟩ | ⟨r, er, eb⟩
  · rw [e]
    exact Nat.le_refl _
  · rw [er, List.length_cons] at lx
    rw [eb] at lb
    omega
def spNumIn : Sp := fun vs H Q _ => ∃ x : Str, vs = [.str x] ∧ x.length ≤ 600 ∧ Q (optI (numM x)) H
section
variable {P : Program} {w : World} {K : PySem.W.Frag} {mg : Str → Option Value} {base : Heap}
theorem scNumIn : FnScope ["word", "digits"] ["word"] (defScope sNumIn) := ⟨rfl, rfl, rfl, by decide +kernel, rfl, by decide +kernel, by decide +kernel⟩
theorem ok_numIn {f : Addr} {fd : FuncData} (F : Fun K "number_in" "number_in" sNumIn f fd) (mlen : mg "len" = none) (mint : mg "int" = none) (M : ∃ t, mg "MOST_DIGITS" = some (.int 40 t)) : FnOk P w K mg base CX0 1 f fd ["word"] spNumIn := by
  obtain ⟨t, hM⟩ := M
  refine F.ok scNumIn (fun vs H Q E h => ?_) (fun cdv A outer s H vs Q E hr h => ?_)
  · obtain ⟨x, rfl, _⟩ := h
    rfl
  · obtain ⟨x, rfl, hx, k⟩ := h
    have nd := scNumIn.nd
    refine ⟨_, pss_cons (ps_set (i := 1) nd rfl (.inl rfl) (pe_m1 PySem.F.slot_str_removeprefix PySem.F.type_str_removeprefix mt_removeprefix (pv 0) pe_str))
      (pss_cons (ps_if (PW.pt (pw_or (pt_cmpR op_gt (pe_callB call_len_str (by rfl) mlen PySem.boot_len (pa_cons (pv 1) pa_nil)) (pe_glob (v := .int 40) (by rfl) hM ⟨_, rfl⟩) (nomark _)) (pw_or (pt_not (pt_val (pe_m0 PySem.F.slot_str_isascii PySem.F.type_str_isascii mt_isascii (pv 1)))) (pw_or1 (pt_not (pt_val (pe_m0 PySem.F.slot_str_isdigit PySem.F.type_str_isdigit mt_isdigit (pv 1)))))))) (pss_one (ps_ret pe_non)) pss_nil)
      (pss_cons (ps_if (PW.pt (pw_and (pt_val (pe_m1 PySem.F.slot_str_startswith PySem.F.type_str_startswith mt_startswith (pv 1) pe_str)) (pw_and1 (pt_cmpR op_ne (pv 0) pe_str (nomark _))))) (pss_one (ps_ret pe_non)) pss_nil)
      (pss_one (ps_ret (pe_callTy call_int_str (by rfl) mint (by decide +kernel) (pa_cons (pv 0) pa_nil)))))), ?_⟩
    have bl := bare_len x
    have sz : sizeLine = 16777216 := sizeLine_eq
    refine ⟨_, rfl, ⟨_, rfl⟩, x, "-", rfl, rfl, by omega, ?_⟩
    have none_ : numM x = none → Q .non H := fun e => by
      rw [e] at k
      exact k
    refine ⟨_, rfl, bare x, rfl, by omega, _, _, rfl, rfl, _, rfl, ?_⟩
    by_cases e1 : (bare x).length > 40
    · refine iteYes (decide_eq_true (by omega)) (iteYes rfl (none_ ?_))
      unfold numM
      rw [decide_eq_true e1, Bool.true_or, if_pos rfl]
    refine iteNo (decide_eq_false (by omega)) ?_
    refine ⟨_, rfl, ⟨_, rfl⟩, _, rfl, rfl, trivial, _, rfl, ?_⟩
    rcases bool_ft (Txt.isascii (bare x)) with e2 | e2
    · refine iteYes (by rw [show Txt.isascii (Txt.removeprefix x "-") = false from e2]; rfl) (iteYes rfl (none_ ?_))
      unfold numM
      rw [e2, if_pos (by simp)]
    refine iteNo (by rw [show Txt.isascii (Txt.removeprefix x "-") = true from e2]; rfl) ?_
    refine ⟨_, rfl, ⟨_, rfl⟩, _, rfl, rfl, trivial, _, rfl, ?_⟩
    rcases bool_ft (Txt.isdigit (bare x)) with e3 | e3
    · refine iteYes (by rw [show Txt.isdigit (Txt.removeprefix x "-") = false from e3]; rfl) (none_ ?_)
      unfold numM
      rw [e3, if_pos (by simp)]
    refine iteNo (by rw [show Txt.isdigit (Txt.removeprefix x "-") = true from e3]; rfl) ?_
    have c1 : (decide ((bare x).length > 40) || (!Txt.isascii (bare x) || !Txt.isdigit (bare x))) = false := by rw [decide_eq_false e1, e2, e3]; rfl
    have nm : numM x = if (Txt.startswith (bare x) "0" && !decide (V.str x = V.str "0")) = true then none else PySem.intText? x := by
      unfold numM
      rw [if_neg (by rw [c1]; decide)]
    refine ⟨_, rfl, ⟨_, rfl⟩, _, _, rfl, rfl, _, rfl, ?_⟩
    rcases bool_ft (Txt.startswith (bare x) "0") with e4 | e4
    · refine iteNo e4 (iteNo rfl ?_)
      obtain ⟨n, en⟩ := bad_no c1 hx
      rw [nm, if_neg (by rw [e4]; simp), en] at k
      exact ⟨_, rfl, x, n, rfl, en, by omega, k⟩
    refine iteYes e4 ?_
    refine ⟨_, rfl, rfl, _, rfl, ?_⟩
    rcases bool_ft (!decide (V.str x = V.str "0")) with e5 | e5
    · refine iteNo e5 ?_
      obtain ⟨n, en⟩ := bad_no c1 hx
      rw [nm, if_neg (by rw [e5]; simp), en] at k
      exact ⟨_, rfl, x, n, rfl, en, by omega, k⟩
    · refine iteYes e5 (none_ ?_)
      rw [nm, if_pos (by rw [e4, e5]; rfl)]
end
end KL
set_option Elab.async false
set_option linter.all false
set_option maxRecDepth 100000
set_option maxHeartbeats 4000000
namespace KL
open PySem L2 PySem.KX PySem.Spec PyProof.Rows
/-! ### pieces of texts -/
theorem piece_len {x y p : Str} (h : p ∈ Txt.split x y) : p.length ≤ x.length := by
  have := join_mem_le y (Txt.split x y) p h
  rwa [StrLaws.join_split] at this
theorem join_count {y : Str} (hy : 1 ≤ y.length) : ∀ ts : List Str, ts.length ≤ (Str.join y ts).length + 1
  | [] => Nat.zero_le _
  | [_] => by
    show 1 ≤ _
    omega
  | a :: b :: r => by
    have := join_count hy (b :: r)
    show (b :: r).length + 1 ≤ (a ++ y ++ Str.join y (b :: r)).length + 1
    rw [strLen_append, strLen_append]
    omega
theorem split_count {x y : Str} (hy : 1 ≤ y.length) : (Txt.split x y).length ≤ x.length + 1 := by
  have := join_count hy (Txt.split x y)
  rwa [StrLaws.join_split] at this
theorem split_some (x y : Str) : ∃ p r, Txt.split x y = p :: r := by
  unfold Txt.split
  split
  · exact ⟨_, _, rfl⟩
  split
  · exact ⟨_, _, rfl⟩
  · rw [StrLaws.partsBetween_eq]
    exact StrLaws.partsFrom_ne _ _ _ _
theorem one_blank : (" " : Str).length = 1 := by decide +kernel
theorem one_feed : ("\n" : Str).length = 1 := by decide +kernel
/-! ### numbers of words -/
def numsM (xs : List Str) : Option (List Int) := if ((xs.map numM).any Option.isNone) = true then none else some ((xs.map numM).map fun o => o.getD 0)
def optNs : Option (List Int) → PyData
  | none => .none
  | some is => .tuple (is.map .int)
theorem dq_opts {H : Hp} : ∀ {os : List (Option Int)}, os.any Option.isNone = false → DqAll H (os.map optI) ((os.map fun o => o.getD 0).map .int)
  | [], _ => .nil
  | some i :: os, h => .cons (.int i) (dq_opts (by simpa using h))
  | none :: os, h => by simp at h
theorem in_non : ∀ os : List (Option Int), inV .non (os.map optI) = os.any Option.isNone
  | [] => rfl
  | some i :: os => by
    show (false || inV .non (os.map optI)) = (false || os.any Option.isNone)
    rw [in_non os]
  | none :: os => rfl
theorem flat_opts : ∀ os : List (Option Int), (os.map optI).all flatV = true
  | [] => rfl
  | some i :: os => by
    show (true && (os.map optI).all flatV) = true
    rw [flat_opts os]
    rfl
  | none :: os => by
    show (true && (os.map optI).all flatV) = true
    rw [flat_opts os]
    rfl
def spNumsIn : Sp := fun vs H Q _ => ∃ (a : Addr) (xs : List Str), vs = [.ref a] ∧ H a = some (.lst (xs.map V.str)) ∧ xs.length ≤ 1000 ∧ (∀ x ∈ xs, x.length ≤ 600) ∧ ∀ H' v, Same H H' → Dq H' v (optNs (numsM xs)) → Q v H'
def behindM (x y : Str) : Option (List Int) := match Txt.split x " " with
  | p :: r => if p = y then numsM r else none
  | [] => none
def spBehind : Sp := fun vs H Q _ => ∃ x y : Str, vs = [.str x, .str y] ∧ x.length ≤ 500 ∧ ∀ H' v, Same H H' → Dq H' v (optNs (behindM x y)) → Q v H'
section
variable {P : Program} {w : World} {K : PySem.W.Frag} {mg : Str → Option Value} {base : Heap}
abbrev nNums : List Str := ["words", "numbers", "word"]
theorem scNums : FnScope nNums ["words"] (defScope sNumsIn) := ⟨rfl, rfl, rfl, by decide +kernel, rfl, by decide +kernel, by decide +kernel⟩
theorem ok_numsIn {f g : Addr} {fd gd : FuncData} (F : Fun K "numbers_in" "numbers_in" sNumsIn f fd) (mt : mg "tuple" = none) (G : FnOk P w K mg base CX0 1 g gd ["word"] spNumIn) (c : Cal K mg "number_in" g gd ["word"]) : FnOk P w K mg base CX0 2 f fd ["words"] spNumsIn := by
  refine F.ok scNums (fun vs H Q E h => ?_) (fun cdv A outer s H vs Q E hr h => ?_)
  · obtain ⟨a, xs, rfl, _⟩ := h
    rfl
  · obtain ⟨a, xs, rfl, ha, hl, hx, k⟩ := h
    have nd := scNums.nd
    have sz : sizeLine = 16777216 := sizeLine_eq
    refine ⟨_, pss_cons (ps_setLc (i := 1) (own := [("word", 2)]) (g := gName 2) (tt := tYes) rfl nd rfl rfl (by rfl) (pi_list (pv 0)) (blkOk_by (N := nNums) (sc := defScope sNumsIn) (by decide +kernel)) (fun _ _ _ _ _ => pg_name (i := 2) nd rfl (.inl rfl)) (fun _ _ _ _ _ => pts_nil)
        (fun _ _ _ _ _ => pe_call G hr (by rfl) c.m c.k c.b .nil pass0 (pa_cons (pv 2) pa_nil)))
      (pss_one (ps_ret (pe_ifExp (pt_cmpR op_in_seq pe_non (pv 1) rfl) pe_non (pe_tupleOf (by rfl) mt (pv 1))))), ?_⟩
    refine ⟨_, rfl, a, rfl, ⟨_, SqL.of ha⟩, fun D nD => ?_⟩
    refine lc_list (K := K) (a := a) (xs := xs.map V.str) (fun i H2 => MadeTo H D (((xs.take i).map numM).map optI) H2) ⟨same_new nD, upd_same⟩ (fun i H2 _ M => SqL.of (M.1 _ _ ha)) ?_ ?_
    · rintro i y H2 hy M
      obtain ⟨x, hx', rfl⟩ : ∃ x, xs[i]? = some x ∧ V.str x = y := by
        rw [List.getElem?_map] at hy
        cases ex : xs[i]? with
        | none =>
          rw [ex] at hy
          cases hy
        | some x =>
          rw [ex] at hy
          exact ⟨x, rfl, Option.some.inj hy⟩
      have et : xs.take (i + 1) = xs.take i ++ [x] := by
        rw [List.take_add_one, hx']
        rfl
      obtain ⟨h1, M2⟩ := M.more (optI (numM x)) nD (Same.refl H2)
      refine ⟨rfl, _, rfl, x, rfl, hx x (List.mem_of_getElem? hx'), _, h1, ?_, ?_⟩
      · rw [List.length_map, List.length_map, List.length_take, sz]
        omega
      · rw [et, List.map_append, List.map_append]
        exact M2
    · rintro H2 M
      rw [List.length_map, List.take_length] at M
      refine ⟨_, rfl, D, _, rfl, .inl (SqL.of M.2), rfl, flat_opts _, _, rfl, ?_⟩
      rw [show (if false = true then !inV V.non ((xs.map numM).map optI) else inV V.non ((xs.map numM).map optI)) = inV V.non ((xs.map numM).map optI) from rfl, in_non]
      rcases bool_ft ((xs.map numM).any Option.isNone) with b | b
      · refine iteNo b ⟨_, rfl, .inl ⟨D, _, rfl, SqL.of M.2, fun q nq => k _ _ (M.1.trans (same_new nq)) ?_⟩⟩
        unfold numsM
        rw [if_neg (by rw [b]; decide)]
        exact .tup upd_same (dq_opts b)
      · refine iteYes b (k _ _ M.1 ?_)
        unfold numsM
        rw [if_pos b]
        exact .non
theorem scBehind : FnScope ["line", "word", "words"] ["line", "word"] (defScope sBehind) := ⟨rfl, rfl, rfl, by decide +kernel, rfl, by decide +kernel, by decide +kernel⟩
theorem ok_behind {f g : Addr} {fd gd : FuncData} (F : Fun K "numbers_behind_word" "numbers_behind_word" sBehind f fd) (G : FnOk P w K mg base CX0 2 g gd ["words"] spNumsIn) (c : Cal K mg "numbers_in" g gd ["words"]) : FnOk P w K mg base CX0 3 f fd ["line", "word"] spBehind := by
  refine F.ok scBehind (fun vs H Q E h => ?_) (fun cdv A outer s H vs Q E hr h => ?_)
  · obtain ⟨x, y, rfl, _⟩ := h
    rfl
  · obtain ⟨x, y, rfl, hl, k⟩ := h
    have nd := scBehind.nd
    have sz : sizeLine = 16777216 := sizeLine_eq
    refine ⟨_, pss_cons (ps_set (i := 2) nd rfl (.inl rfl) (pe_split (pv 0) pe_str))
      (pss_one (ps_ret (pe_ifExp (pt_cmpR op_eq (pe_ix (r := rIxL K) ix_list (pv 2) pe_int (fun _ _ => rfl)) (pv 1) (nomark _)) (pe_call G hr (by rfl) c.m c.k c.b .nil pass0 (pa_cons (pe_slice (r := rSlL K) sl_list (pv 2) (po_some pe_int) po_none) pa_nil)) pe_non))), ?_⟩
    refine ⟨_, rfl, ⟨_, rfl⟩, x, " ", rfl, rfl, by rw [one_blank]; decide, by omega, fun q nq => ?_⟩
    have S1 := same_new (o := .lst ((Txt.split x " ").map V.str)) nq
    have h1 : upd H q (.lst ((Txt.split x " ").map V.str)) q = some (.lst ((Txt.split x " ").map V.str)) := upd_same
    have cn := split_count (x := x) (y := " ") (by rw [one_blank]; decide)
    have pl : ∀ p ∈ Txt.split x " ", p.length ≤ 500 := fun p hp => Nat.le_trans (piece_len hp) hl
    revert S1 h1 cn pl
    generalize upd H q (.lst ((Txt.split x " ").map V.str)) = H1
    obtain ⟨p, r, e⟩ := split_some x " "
    have kb : behindM x y = if p = y then numsM r else none := by
      unfold behindM
      rw [e]
    rw [e]
    intro S1 h1 cn pl
    refine ⟨_, rfl, q, _, _, .str p, rfl, rfl, SqL.of h1, atI_nat (j := 0) rfl, _, rfl, rfl, _, rfl, ?_⟩
    by_cases h : p = y
    · refine iteYes (by rw [h]; exact decide_eq_true rfl) ?_
      refine ⟨_, rfl, _, rfl, q, _, rfl, SqL.of h1, fun z nz => ?_⟩
      have S2 := same_new (o := .lst (cutV ((p :: r).map V.str) (some 1) none)) nz
      have ec : cutV ((p :: r).map V.str) (some 1) none = r.map V.str := by
        unfold cutV
        show ((V.str p :: r.map V.str).drop (HT.sIx (r.map V.str).length.succ 0 (some 1))).take ((r.map V.str).length.succ - HT.sIx (r.map V.str).length.succ 0 (some 1)) = _
        have : HT.sIx (r.map V.str).length.succ 0 (some 1) = 1 := by
          rw [show (some (1 : Int)) = some ((1 : Nat) : Int) from rfl, HT.sIx_nat]
          omega
        rw [this]
        simp only [Nat.succ_sub_succ_eq_sub, Nat.sub_zero, List.drop_one, List.tail_cons]
        exact List.take_of_length_le (Nat.le_refl _)
      refine ⟨z, r, rfl, by rw [upd_same, ec], by rw [List.length_cons] at cn; omega, fun a ha => Nat.le_trans (pl a (List.mem_cons_of_mem _ ha)) (by decide), fun H' v S3 d => k H' v (S1.trans (S2.trans S3)) ?_⟩
      rw [kb, if_pos h]
      exact d
    · refine iteNo (decide_eq_false fun z => h (by injection z)) (k _ _ S1 ?_)
      rw [kb, if_neg h]
      exact .non
end
end KL
set_option Elab.async false
set_option linter.all false
set_option maxRecDepth 100000
set_option maxHeartbeats 4000000
namespace KL
open PySem L2 PySem.KX PySem.Spec PyProof.Rows
/-! ### enumerate(list, start=k) -/
/-- the list at a as it stands at each turn, each item in a new pair behind its number -/
def IteS (K : PySem.W.Frag) (a : Addr) (k0 : Int) : It :=
  ⟨fun i H => ∃ (xs : List V) (x : V), SqL K H a xs ∧ xs[i]? = some x, fun i H v H' => ∃ T x, v = .ref T ∧ H T = none ∧ H' = upd H T (.tup [.int (k0 + (i : Nat)), x]) ∧ ∀ xs, SqL K H a xs → xs[i]? = some x, fun i H => ∃ xs : List V, SqL K H a xs ∧ xs.length ≤ i⟩
theorem turn_enumS {P : Program} {w : World} {K : PySem.W.Frag} {elts : List Expr} {kk : Nat} {tpos : Pos} (a e it : Addr) (k0 : Int) :
    Turn P w K (.Tuple elts kk tpos) (IteS K a k0) [e, it] e (fun i h => (∃ old, IsEnum h e it (k0 + (i : Nat)) old) ∧ h.IsListIter it a i ∧ e ≠ it) where
  mem := by simp
  obj := fun i h st b hb => by
    obtain ⟨⟨old, he⟩, ⟨o, ho, hc, hd⟩, _⟩ := st
    have e' : b = e ∨ b = it := by simpa using hb
    rcases e' with z | z
    · rw [z]; exact ⟨_, he, fun v q => nomatch q⟩
    · rw [z]; exact ⟨o, ho, fun v q => by rw [hd] at q; cases q⟩
  keep := fun i h h' st k => let ⟨⟨old, he⟩, hi, hne⟩ := st; ⟨⟨old, k e (by simp) _ he⟩, hi.at fun o q => k it (by simp) o q, hne⟩
  item := by
    intro X hP hw hK hc i pins s σ H E I hf st hg
    subst hP hw hK
    obtain ⟨⟨old, he⟩, hit, hne⟩ := st
    obtain ⟨xs, x, hq, hx⟩ := hg
    obtain ⟨its, rv, p, hz⟩ := I.list hq
    obtain ⟨u, hu, ru⟩ := rv.get hx
    have hel : e < s.heap.objs.size := Heap.lt_size he
    have hil : it < s.heap.objs.size := by obtain ⟨_, q, _⟩ := hit; exact Heap.lt_size q
    have hai : a ≠ it := fun z => by
      obtain ⟨o, ho, hc', _⟩ := p.isList
      obtain ⟨o2, ho2, hc2, _⟩ := hit
      rw [z, ho2] at ho
      cases ho
      rw [hc2] at hc'
      injection hc' with z2
      exact absurd z2 (by decide)
    have hea : e ≠ a := fun z => by
      obtain ⟨o, ho, hc', _⟩ := p.isList
      have he' := he
      unfold IsEnum at he'
      rw [z, ho] at he'
      injection he' with z1
      rw [z1] at hc'
      injection hc' with z2
      exact absurd z2 (by decide)
    have ul : its.toArray[i]? = some u := by simpa using hu
    have hlt : i < its.toArray.size := by
      rcases Nat.lt_or_ge i its.toArray.size with h | h
      · exact h
      · rw [Array.getElem?_eq_none h] at ul
        cases ul
    refine wpAny_pyNext_enum_itemC (Draws.list (prog := X.prog) (w := X.w) (A := X.A.in1) (I.ok.hd hc) it a hai its.toArray) he ⟨hit, p.isList⟩ hlt hne (by simp [hne, hea]) fun y h' tk hy ho hst hT hsz hk => ?_
    have ey : y = u := by
      have hy : its.toArray[i]? = some y := hy
      rw [ul] at hy
      exact (Option.some.inj hy).symm
    subst ey
    have hit' := hst.1
    refine ⟨_, rfl, wpAny_letOwnedTupleGo_enum (s := { s with heap := h', toks := tk + 1 }) ho fun h'' he' sb => ?_⟩
    have hT2 : h''.get? s.heap.objs.size = some { cls := .type "tuple", data := .seq #[.int (k0 + (i : Nat)) tk, y] } := (sb.2 _ (Nat.ne_of_gt hel)).trans hT
    have new : ObjOk X.prog X.w (upd H s.heap.objs.size (.tup [.int (k0 + (i : Nat)), x])) h'' s.heap.objs.size (.tup [.int (k0 + (i : Nat)), x]) :=
      ⟨by show 2 ≤ sizeLine; decide, [.int (k0 + (i : Nat)) tk, y], .cons ⟨_, rfl⟩ (.cons ru .nil), ⟨_, hT2, rfl, _, rfl⟩⟩
    have I1 : Inv X pins σ (upd H s.heap.objs.size (.tup [.int (k0 + (i : Nat)), x])) { s with heap := h'', toks := tk + 1 } :=
      I.turnedNew (ch := [e, it]) (fun b ob hb q => (sb.2 b (fun z => hb (by simp [z]))).trans (hk b ob (fun z => hb (by simp [z])) (fun z => hb (by simp [z])) q)) hf (Nat.le_refl _) new
    refine ⟨.ref s.heap.objs.size, _, I1, rfl, ⟨_, x, rfl, I.hok.fresh (Nat.le_refl _), rfl, fun ys hy => by rw [I.list_inj hy hq]; exact hx⟩, ⟨⟨y, ?_⟩, hit'.at fun o q => (sb.2 it (Ne.symm hne)).trans q, hne⟩, fun b hb => ?_⟩
    · have e1 : k0 + ((i + 1 : Nat) : Int) = k0 + (i : Int) + 1 := by omega
      rw [e1]; exact he'
    · have hb' : b < s.heap.objs.size := by
        have e' : b = e ∨ b = it := by simpa using hb
        rcases e' with z | z
        · rw [z]; exact hel
        · rw [z]; exact hil
      rw [upd_ne (Nat.ne_of_lt hb')]
      exact (hf b hb).1
  done := by
    intro X hP hw hK hc i pins s σ H E I hf st hg
    subst hP hw hK
    obtain ⟨⟨old, he⟩, hit, hne⟩ := st
    obtain ⟨xs, hq, hx⟩ := hg
    obtain ⟨its, rv, p, hz⟩ := I.list hq
    obtain ⟨f0, f1, f2, f3, f4, f5⟩ := hf it (by simp)
    have hl := rv.length
    have hT : s.TypeIs (.ref e) "enumerate" := ⟨_, he, rfl⟩
    unfold pyNext
    refine wpAny_bind (wpAny_attempt (wpAny_callSpecial?_slot (name := Str.ofString "__next__") hT F.slot_enumerate_next
      (wpAny_call_entry F.slot_enumerate_next hT F.entry_enumerate_next ?_ (F.args_enumerate_next_1 _))))
    show wpAny _ _ (field (.ref e) 2 >>= _) _ _ _
    refine wpAny_bind (wpAny_field he rfl (x := .ref it) rfl ?_)
    refine wpAny_bind (wpAny_nextOf_list_end (I.ok.hd hc) hit p.isList (by simp; omega) fun h' x eb hx' => ?_)
    obtain ⟨o, ho, hc⟩ := hx'
    refine wpAny_bind (wpAny_isInstance (T := "StopIteration") (b := true) ⟨o, ho, hc⟩ isSubtype_stop ?_)
    exact wpAny_pure ⟨rfl, I.turned (t' := s.toks) (fun b o hb q => eb b o hb q) f0 f1 f3 f4 f5⟩
  self := fun A i s Q E st h => let ⟨⟨_, he⟩, _⟩ := st; wpAny_pyIter_enum he h
theorem callWith_typeKw {M : Model} {A : Around} {E : Value → Shared → Prop} {s : Shared} {pos : Pos} {T : String} {first : List Value} {args : List (Bool × Sem Value)} {kws : List (Option Str × Sem Value)} {Q : Value → Shared → Prop}
    (hplain : (args.any (·.1) || kws.any (·.1.isNone)) = false)
    (h : wpAny M A (evalArgs (.type T) true args kws) (fun a s₁ => wpAny M A (call (.type T) (first ++ a.pos) a.kw) Q E s₁) E s) :
    wpAny M A (callWith pos (.type T) first args kws) Q E s := by
  unfold callWith
  refine wpAny_bind (wpAny_holding (wpAny_mono h (fun a s₁ h₁ => wpAny_bind (wpAny_standAt ?_)) fun _ _ x => x))
  simp only [hplain]
  refine wpAny_bind (wpAny_pure ?_)
  exact wpAny_bind (wpAny_mono h₁ (fun r s₂ hr => wpAny_bind (wpAny_holding (wpAny_point (wpAny_pure hr)))) fun _ _ x => x)
def iEnumS (K : PySem.W.Frag) (ta tk : TA) : TI := fun σ H R => ta σ H fun vs H1 => tk σ H1 fun zs H2 => ∃ a xs k, vs = [.ref a] ∧ zs = [.int k] ∧ SqL K H2 a xs ∧ (-(2 ^ 63) ≤ k ∧ k < 2 ^ 63) ∧ R (IteS K a k) H2
theorem pi_enumS {X : Cx} {e ke : Expr} {kp : Pos} {ta tk : TA} {p pos tpos : Pos} {elts : List Expr} {kk : Nat} (hg : Gl X "enumerate") (hm : X.mg "enumerate" = none) (ha : PA X [e] ta) (hk : PK X [⟨some "start", ke, kp⟩] tk)
    (he : starEach [e] X.env = (false, eval e X.env) :: starEach [] X.env := by rfl)
    (hall : (backToKw pos (keywordEach [⟨some "start", ke, kp⟩] X.env)).all (·.1.isSome) = true := by rfl)
    (hpl : ((backTo pos (starEach [e] X.env)).any (·.1) || (backToKw pos (keywordEach [⟨some "start", ke, kp⟩] X.env)).any (·.1.isNone)) = false := by rfl)
    (hks : (backToKw pos (keywordEach [⟨some "start", ke, kp⟩] X.env)).filterMap (·.1) = [Str.ofString "start"] := by rfl) :
    PI X (.Tuple elts kk tpos) (.Call (.Name "enumerate" p) [e] [⟨some "start", ke, kp⟩] pos) (iEnumS X.K ta tk) := by
  refine ⟨fun pins s σ H R I h => ?_⟩
  refine wpAny_Call_Name_kw (ld_blt I hg hm boot_enumerate (callWith_typeKw hpl (evalArgs_kw2 hall (thn (ha.run pos pins s σ H _ I h) fun us s1 ⟨vs, H1, I1, r1, q1⟩ => thn (hk.run pos pins s1 σ H1 _ I1 q1) fun ws s2 ⟨zs, H2, I2, r2, q2⟩ => ?_) he)))
  rw [hks]
  obtain ⟨a, xs, k, ex, ez, hq, ⟨k0, k1⟩, q⟩ := q2
  subst ex ez
  cases r1 with
  | cons r rr =>
    cases rr
    cases r
    cases r2 with
    | cons r rr =>
      cases rr
      obtain ⟨t, rfl⟩ := r
      obtain ⟨its, rv, p', hz⟩ := I2.list hq
      refine enum_begins_start (begins_list a its.toArray) p'.isList k0 k1 fun h' he hit hsz hk => wpAny_pyIter_enum he ?_
      have I3 : Inv X pins σ H2 { s2 with heap := h' } := I2.kept (t' := s2.toks) hk
      have e0 : k + ((0 : Nat) : Int) = k := by omega
      refine ⟨s2.heap.objs.size + 1, [s2.heap.objs.size + 1, s2.heap.objs.size], _, _, H2, rfl, I3, turn_enumS a (s2.heap.objs.size + 1) s2.heap.objs.size k, ⟨⟨.none, by rw [e0]; exact he⟩, ⟨_, hit, rfl, rfl⟩, Nat.succ_ne_self _⟩, fun b hb => ?_, q⟩
      have e' : b = s2.heap.objs.size + 1 ∨ b = s2.heap.objs.size := by simpa using hb
      have hle : s2.heap.objs.size ≤ b := by
        rcases e' with z | z
        · rw [z]; exact Nat.le_add_right _ _
        · rw [z]; exact Nat.le_refl _
      exact I2.fpOk hle (I2.hok.fresh hle)
theorem walk_enumS {K : PySem.W.Frag} {a : Addr} {k : Int} {xs : List V} : Walk (IteS K a k) xs.length (fun H => SqL K H a xs) (YPair (fun i => some (.int (k + (i : Nat)))) (fun i => xs[i]?)) := by
  refine ⟨fun i _ hi q => ⟨xs, xs[i], q, by simp [hi]⟩, fun _ q => ⟨xs, q, Nat.le_refl _⟩, fun i H v H' _ q y => ?_⟩
  obtain ⟨T, x, h1, h2, h3, h4⟩ := y
  exact ⟨T, .int (k + (i : Nat)), x, h1, h2, h3, rfl, h4 xs q⟩
end KL
set_option Elab.async false
set_option linter.all false
set_option maxRecDepth 100000
set_option maxHeartbeats 4000000
namespace KL
open PySem L2 PySem.KX PySem.Spec PyProof.Rows
/-! ### numbers of words are small -/
theorem fold_lt : ∀ (cs : List Nat) (a : Nat), NumText.AllDigits cs → cs.foldl (fun acc c => acc * 10 + (c - 48)) a < (a + 1) * 10 ^ cs.length
  | [], a, _ => by simp
  | c :: cs, a, h => by
    have ih := fold_lt cs (a * 10 + (c - 48)) h.tail
    have hc := h.head
    show cs.foldl _ (a * 10 + (c - 48)) < (a + 1) * 10 ^ (cs.length + 1)
    refine Nat.lt_of_lt_of_le ih ?_
    have e : (a + 1) * 10 ^ (cs.length + 1) = ((a + 1) * 10) * 10 ^ cs.length := by
      rw [Nat.pow_succ, Nat.mul_assoc, Nat.mul_comm (10 ^ cs.length) 10]
    rw [e]
    exact Nat.mul_le_mul_right _ (by omega)
theorem big_log {m k : Nat} (h : m < 10 ^ k) (hk : k ≤ 40) : m.log2 < 1900 := by
  by_cases z : m = 0
  · subst z
    decide
  · rw [Nat.log2_lt z]
    refine Nat.lt_of_lt_of_le h ?_
    refine Nat.le_trans (Nat.pow_le_pow_right (by decide) hk) ?_
    decide +kernel
theorem num_log {x : Str} {i : Int} (h : numM x = some i) : i.natAbs.log2 < 1900 := by
  unfold numM at h
  split at h
  · cases h
  rename_i hb
  split at h
  · cases h
  have hb : (decide ((bare x).length > 40) || (!Txt.isascii (bare x) || !Txt.isdigit (bare x))) = false := by simpa using hb
  have h1 := Bool.or_eq_false_iff.mp hb
  have h2 := Bool.or_eq_false_iff.mp h1.2
  have h40 : (bare x).length ≤ 40 := by
    have := of_decide_eq_false h1.1
    omega
  obtain ⟨b0, bd⟩ := dig_of (x := bare x) (by simpa using h2.1) (by simpa using h2.2)
  have lb : (bare x).cps.toList.length = (bare x).length := Array.length_toList
  have ad := dig_all bd
  rcases bare_of x with ⟨e, ns⟩ | ⟨r, er, eb⟩
  · rw [e] at b0 bd h40 ad lb
    rw [PySem.intText_digits ad (ne_nil_of b0) (by omega)] at h
    cases h
    have q := fold_lt x.cps.toList 0 ad
    rw [lb] at q
    show (NumText.digitsVal x.cps.toList).log2 < 1900
    exact big_log (by rw [← Nat.one_mul (10 ^ x.length)]; exact q) h40
  · rw [eb] at ad lb
    have lx : x.cps.toList.length = x.length := Array.length_toList
    rw [er, List.length_cons] at lx
    rw [PySem.intText_neg er ad (fun z => by rw [z] at lb; simp at lb; omega) (by omega)] at h
    cases h
    have q := fold_lt r 0 ad
    rw [lb] at q
    rw [Int.natAbs_neg]
    show (NumText.digitsVal r).log2 < 1900
    exact big_log (by rw [← Nat.one_mul (10 ^ (bare x).length)]; exact q) h40
theorem nums_log {xs : List Str} {is : List Int} (h : numsM xs = some is) : ∀ i ∈ is, i.natAbs.log2 < 1900 := by
  unfold numsM at h
  split at h
  · cases h
  rename_i hn
  cases h
  intro i hi
  obtain ⟨o, ho, rfl⟩ := List.mem_map.mp hi
  obtain ⟨x, hx, rfl⟩ := List.mem_map.mp ho
  cases e : numM x with
  | none =>
    refine absurd ?_ hn
    rw [List.any_eq_true]
    exact ⟨numM x, List.mem_map.mpr ⟨x, hx, rfl⟩, by rw [e]; rfl⟩
  | some j => exact num_log e
theorem nums_few {xs : List Str} {is : List Int} (h : numsM xs = some is) : is.length = xs.length := by
  unfold numsM at h
  split at h
  · cases h
  · cases h
    simp
theorem behind_log {x y : Str} {is : List Int} (h : behindM x y = some is) : (∀ i ∈ is, i.natAbs.log2 < 1900) ∧ is.length ≤ x.length := by
  unfold behindM at h
  obtain ⟨p, r, e⟩ := split_some x " "
  rw [e] at h
  have h : (if p = y then numsM r else none) = some is := h
  have c := split_count (x := x) (y := " ") (by rw [one_blank]; decide)
  rw [e, List.length_cons] at c
  split at h
  · exact ⟨nums_log h, by rw [nums_few h]; omega⟩
  · cases h
theorem sm_ints : ∀ {is : List Int}, (∀ i ∈ is, i.natAbs.log2 < 1900) → smAll (is.map .int) = true
  | [], _ => rfl
  | i :: is, h => by
    show (decide (i.natAbs.log2 < 1900) && smAll (is.map .int)) = true
    rw [decide_eq_true (h i List.mem_cons_self), sm_ints fun j hj => h j (List.mem_cons_of_mem _ hj)]
    rfl
theorem sm_behind {x y : Str} (hx : x.length ≤ 1000) : smB (optNs (behindM x y)) = true := by
  cases h : behindM x y with
  | none => rfl
  | some is =>
    obtain ⟨h1, h2⟩ := behind_log h
    show (decide ((is.map PyData.int).length ≤ 1000) && smAll (is.map .int)) = true
    rw [sm_ints h1, decide_eq_true (by rw [List.length_map]; omega)]
    rfl
/-! ### what a page says -/
def headOf : Option (List Int) → Option Int
  | some [n] => if betD 1 3 (.int n) = true then some n else none
  | _ => none
def headM (s : Str) : Option Int := headOf (behindM s "people")
def leP (p q : Int × Int) : Bool := if p.1 = q.1 then (if p.2 = q.2 then true else decide (p.2 ≤ q.2)) else decide (p.1 ≤ q.1)
def pairOf (n : Int) : Option (List Int) → Option (Int × Int)
  | some [a, b] => if mateD n (prD (a, b)) = true then some (a, b) else none
  | _ => none
def pairM (n : Int) (s : Str) : Option (Int × Int) := pairOf n (behindM s "hears")
def lateP (acc : List (Int × Int)) (p : Int × Int) : Bool := match acc.getLast? with
  | none => false
  | some l => leP p l
def goM (n : Int) : Int → List (Int × Int) → List Str → Int ⊕ List (Int × Int)
  | _, acc, [] => .inr acc
  | k, acc, s :: r => match pairM n s with
    | none => .inl k
    | some p => if lateP acc p = true then .inl k else goM n (k + 1) (acc ++ [p]) r
def outM (n : Int) : Int ⊕ List (Int × Int) → Int ⊕ (Int × List (Int × Int))
  | .inl k => .inl k
  | .inr ps => .inr (n, ps)
def pageM (l : Str) (r : List Str) : Int ⊕ (Int × List (Int × Int)) := match headM l with
  | none => .inl 1
  | some n => outM n (goM n 2 [] r)
def textM : PyData → Int ⊕ (Int × List (Int × Int))
  | .str s => match Txt.split s "\n" with
    | l :: r => pageM l r
    | [] => .inl 1
  | _ => .inl 0
theorem text_page {s l : Str} {r : List Str} (e : Txt.split s "\n" = l :: r) : textM (.str s) = pageM l r := by
  show (match Txt.split s "\n" with
    | l :: r => pageM l r
    | [] => .inl 1) = _
  rw [e]
theorem pair_mate {n : Int} {s : Str} {p : Int × Int} (h : pairM n s = some p) : mateD n (prD p) = true ∧ behindM s "hears" = some [p.1, p.2] := by
  unfold pairM at h
  revert h
  generalize behindM s "hears" = o
  intro h
  unfold pairOf at h
  split at h
  · rename_i a b
    split at h
    · rename_i m
      cases h
      exact ⟨m, rfl⟩
    · cases h
  · cases h
theorem eqv_ints (a b : Int) : PyData.eqv (.int a) (.int b) = decide (a = b) := by
  by_cases e : a = b
  · rw [decide_eq_true e, e]
    simp [PyData.eqv]
  · rw [decide_eq_false e]
    simp [PyData.eqv, e]
theorem le_lt {p q : Int × Int} (h : leP p q = false) : ltD (prD q) (prD p) = true := by
  obtain ⟨a, b⟩ := p
  obtain ⟨c, d⟩ := q
  have h : (if a = c then (if b = d then true else decide (b ≤ d)) else decide (a ≤ c)) = false := h
  show (if PyData.eqv (.int c) (.int a) = true then ltAll [.int d] [.int b] else decide (c < a)) = true
  rw [eqv_ints]
  by_cases e : a = c
  · rw [if_pos e] at h
    rw [if_pos (decide_eq_true e.symm)]
    by_cases e2 : b = d
    · rw [if_pos e2] at h
      cases h
    · rw [if_neg e2] at h
      have := of_decide_eq_false h
      show (if PyData.eqv (.int d) (.int b) = true then ltAll [] [] else decide (d < b)) = true
      rw [eqv_ints, if_neg (by rw [decide_eq_false fun z => e2 z.symm]; decide)]
      exact decide_eq_true (by omega)
  · rw [if_neg e] at h
    have := of_decide_eq_false h
    rw [if_neg (by rw [decide_eq_false fun z => e z.symm]; decide)]
    exact decide_eq_true (by omega)
theorem asc_snoc {e : PyData} : ∀ {ds : List PyData}, ascD ds = true → (∀ d, ds.getLast? = some d → ltD d e = true) → ascD (ds ++ [e]) = true
  | [], _, _ => rfl
  | [a], _, hl => by
    show ascD (a :: e :: []) = true
    rw [asc_cons, hl a rfl]
    rfl
  | a :: b :: l, h, hl => by
    rw [asc_cons, Bool.and_eq_true] at h
    show ascD (a :: b :: (l ++ [e])) = true
    rw [asc_cons, h.1, Bool.true_and]
    refine asc_snoc (ds := b :: l) h.2 fun d hd => hl d ?_
    rw [List.getLast?_cons_cons]
    exact hd
theorem pair_all {n : Int} {p : Int × Int} (h : mateD n (prD p) = true) : 0 ≤ p.1 ∧ p.1 < n ∧ 0 ≤ p.2 ∧ p.2 < n ∧ p.1 ≠ p.2 := by
  obtain ⟨q, e, r⟩ := mate_of h
  rw [pr_inj e]
  exact r
/-- what is gathered is right -/
def Fine (n : Int) (ps : List (Int × Int)) : Prop := (∀ p ∈ ps, 0 ≤ p.1 ∧ p.1 < n ∧ 0 ≤ p.2 ∧ p.2 < n ∧ p.1 ≠ p.2) ∧ ascD (ps.map prD) = true
theorem Fine.more {n : Int} {ps : List (Int × Int)} {p : Int × Int} (h : Fine n ps) (hm : mateD n (prD p) = true) (hl : lateP ps p = false) : Fine n (ps ++ [p]) := by
  refine ⟨fun q hq => ?_, ?_⟩
  · rcases List.mem_append.mp hq with z | z
    · exact h.1 q z
    · rw [List.mem_singleton.mp z]
      exact pair_all hm
  · rw [List.map_append]
    refine asc_snoc h.2 fun d hd => ?_
    rw [List.getLast?_map] at hd
    unfold lateP at hl
    cases e : ps.getLast? with
    | none =>
      rw [e] at hd
      cases hd
    | some l =>
      rw [e] at hd hl
      cases hd
      exact le_lt hl
theorem go_fine {n : Int} : ∀ {r : List Str} {k : Int} {acc ps : List (Int × Int)}, Fine n acc → goM n k acc r = .inr ps → Fine n ps ∧ ps.length = acc.length + r.length
  | [], k, acc, ps, h, e => by
    cases e
    exact ⟨h, rfl⟩
  | s :: r, k, acc, ps, h, e => by
    unfold goM at e
    cases ep : pairM n s with
    | none =>
      rw [ep] at e
      cases e
    | some p =>
      rw [ep] at e
      have e : (if lateP acc p = true then Sum.inl k else goM n (k + 1) (acc ++ [p]) r) = .inr ps := e
      split at e
      · cases e
      · rename_i hl
        obtain ⟨a, b⟩ := go_fine (h.more (pair_mate ep).1 (by simpa using hl)) e
        refine ⟨a, ?_⟩
        rw [b, List.length_append, List.length_cons]
        show acc.length + 1 + r.length = acc.length + (r.length + 1)
        omega
theorem head_bet {s : Str} {n : Int} (h : headM s = some n) : 1 ≤ n ∧ n ≤ 3 ∧ behindM s "people" = some [n] := by
  unfold headM at h
  revert h
  generalize behindM s "people" = o
  intro h
  unfold headOf at h
  split at h
  · rename_i m
    split at h
    · rename_i b
      cases h
      have b := Bool.and_eq_true_iff.mp (show (decide ((1 : Int) ≤ n) && decide (n ≤ 3)) = true from b)
      simp only [decide_eq_true_eq] at b
      exact ⟨b.1, b.2, rfl⟩
    · cases h
  · cases h
theorem text_pairs {d : PyData} {n : Int} {ps : List (Int × Int)} (h : textM d = .inr (n, ps)) (few : ∀ s, d = .str s → s.length ≤ 500) : Pairs n ps := by
  cases d with
  | str s =>
    obtain ⟨l, r, e⟩ := split_some s "\n"
    have c := split_count (x := s) (y := "\n") (by rw [one_feed]; decide)
    have f := few s rfl
    rw [e, List.length_cons] at c
    rw [text_page e] at h
    unfold pageM at h
    cases eh : headM l with
    | none =>
      rw [eh] at h
      cases h
    | some m =>
      rw [eh] at h
      have h : outM m (goM m 2 [] r) = .inr (n, ps) := h
      cases eg : goM m 2 [] r with
      | inl k =>
        rw [eg] at h
        cases h
      | inr qs =>
        rw [eg] at h
        cases h
        have fin : Fine n [] := ⟨(fun _ z => nomatch z), rfl⟩
        obtain ⟨a, b⟩ := go_fine fin eg
        obtain ⟨h1, h3, _⟩ := head_bet eh
        refine ⟨h1, h3, a.1, a.2, ?_⟩
        rw [b]
        show 0 + r.length ≤ 1000
        omega
  | _ => cases h
end KL
set_option Elab.async false
set_option linter.all false
set_option maxRecDepth 100000
set_option maxHeartbeats 8000000
namespace KL
open PySem L2 PySem.KX PySem.Spec PyProof.Rows
structure TxtL (K : PySem.W.Frag) (mg : Str → Option Value) (CT IT : Addr) : Prop where
  ei : EI K CT IT "line" "BadText.__init__"
  ty : PySem.W.typeIn K (.ref CT) = some (.type "type")
  m : mg "BadText" = some (.ref CT)
def spPartsIn (CT : Addr) : Sp := fun vs H Q E => ∃ (v : V) (d : PyData), vs = [v] ∧ Dq H v d ∧ (∀ s, d = .str s → s.length ≤ 500) ∧
  (∀ k, textM d = .inl k → ∀ H' dd, Same H H' → H' dd = some (.xd [("line", .int k)]) → E (.ref CT) (some dd) H') ∧
  ∀ n ps, textM d = .inr (n, ps) → ∀ H' t pv, Same H H' → H' t = some (.tup [.int n, pv]) → Dq H' pv (prsD ps) → Q (.ref t) H'
theorem no_str {d : PyData} (h : ∀ s, d ≠ .str s) : textM d = .inl 0 := by
  cases d with
  | str s => exact absurd rfl (h s)
  | _ => rfl
/-- the pairs so far stand in the list at L -/
def MadeP (Hs : Hp) (L : Addr) (acc : List (Int × Int)) (H : Hp) : Prop := ∃ vs, MadeTo Hs L vs H ∧ DqAll H vs (acc.map prD)
theorem get_str {r : List Str} {i : Nat} {y : V} (h : (r.map V.str)[i]? = some y) : ∃ s, r[i]? = some s ∧ V.str s = y := by
  rw [List.getElem?_map] at h
  cases ex : r[i]? with
  | none =>
    rw [ex] at h
    cases h
  | some x =>
    rw [ex] at h
    exact ⟨x, rfl, Option.some.inj h⟩
theorem same_upd_of {H0 H : Hp} {L : Addr} {o : HO} (S : Same H0 H) (n : H0 L = none) : Same H0 (upd H L o) := fun b u e => by
  rw [upd_ne (ne_of_none e n)]
  exact S _ _ e
theorem cut_one (p : V) (r : List V) : cutV (p :: r) (some 1) none = r := by
  unfold cutV
  show ((p :: r).drop (HT.sIx r.length.succ 0 (some 1))).take (r.length.succ - HT.sIx r.length.succ 0 (some 1)) = _
  have : HT.sIx r.length.succ 0 (some 1) = 1 := by
    rw [show (some (1 : Int)) = some ((1 : Nat) : Int) from rfl, HT.sIx_nat]
    omega
  rw [this]
  simp only [Nat.succ_sub_succ_eq_sub, Nat.sub_zero, List.drop_one, List.tail_cons]
  exact List.take_of_length_le (Nat.le_refl _)
theorem pr_at {H : Hp} {v : V} {p : Int × Int} (h : Dq H v (prD p)) : ∃ c, v = .ref c ∧ H c = some (.tup [.int p.1, .int p.2]) := by
  cases h with
  | @tup c zs _ ec hza =>
    cases hza with
    | cons p0 hza =>
    cases hza with
    | cons p1 hza =>
    cases hza
    cases p0
    cases p1
    exact ⟨c, rfl, ec⟩
theorem pr_put {H : Hp} {L : Addr} {xs ys : List V} {v : V} {p : Int × Int} (h : Dq H v (prD p)) (hl : H L = some (.lst xs)) : Dq (upd H L (.lst ys)) v (prD p) := by
  obtain ⟨c, rfl, hc⟩ := pr_at h
  have cL : c ≠ L := ne_of hc hl (fun z => nomatch z)
  exact .tup (by rw [upd_ne cL]; exact hc) (.cons (.int _) (.cons (.int _) .nil))
theorem prs_put1 {H : Hp} {L : Addr} {xs ys : List V} (hl : H L = some (.lst xs)) : ∀ {vs : List V} {acc : List (Int × Int)}, DqAll H vs (acc.map prD) → DqAll (upd H L (.lst ys)) vs (acc.map prD)
  | [], [], _ => .nil
  | [], _ :: _, h => by cases h
  | _ :: _, [], h => by cases h
  | v :: vs, p :: acc, h => by
    cases h with
    | cons a b => exact .cons (pr_put a hl) (prs_put1 hl b)
theorem prs_put {H : Hp} {L : Addr} {xs ys vs : List V} {v : V} {acc : List (Int × Int)} {p : Int × Int} (h : DqAll H vs (acc.map prD)) (hp : Dq H v (prD p)) (hl : H L = some (.lst xs)) : DqAll (upd H L (.lst ys)) (vs ++ [v]) (acc.map prD ++ [prD p]) :=
  (prs_put1 hl h).app (.cons (pr_put hp hl) .nil)
section
variable {P : Program} {w : World} {K : PySem.W.Frag} {mg : Str → Option Value} {base : Heap} {CT IT : Addr}
abbrev nParts : List Str := ["text", "lines", "people", "pairs", "number", "line", "pair"]
theorem scParts : FnScope nParts ["text"] (defScope sPartsIn) := ⟨rfl, rfl, rfl, by decide +kernel, rfl, by decide +kernel, by decide +kernel⟩
theorem ok_partsIn {f g1 g2 g3 : Addr} {fd gd1 gd2 gd3 : FuncData} (F : Fun K "parts_in" "parts_in" sPartsIn f fd) (T : TxtB mg) (TE : TxtL K mg CT IT) (ml : mg "len" = none) (me : mg "enumerate" = none)
    (G1 : FnOk P w K mg base CX0 3 g1 gd1 ["line", "word"] spBehind) (c1 : Cal K mg "numbers_behind_word" g1 gd1 ["line", "word"])
    (G2 : FnOk P w K mg base CX0 3 g2 gd2 ["thing"] (spTest (betD 1 3))) (c2 : Cal K mg "is_people" g2 gd2 ["thing"])
    (G3 : FnOk P w K mg base CX0 3 g3 gd3 ["people", "thing"] (spTestP mateD)) (c3 : Cal K mg "is_pair" g3 gd3 ["people", "thing"]) : FnOk P w K mg base (L2.CX P w) 4 f fd ["text"] (spPartsIn CT) := by
  refine fnX F scParts (fun vs H Q E h => ?_) (fun cdv A outer s H vs Q E hr h tk po => ?_)
  · obtain ⟨v, d, rfl, _⟩ := h
    rfl
  · obtain ⟨v, d, rfl, hd, few, kE, kQ⟩ := h
    have nd := scParts.nd
    have hr1 : Room 1 _ := hr.mono (by decide)
    have sz : sizeLine = 16777216 := sizeLine_eq
    refine ⟨_, pss_cons (ps_if (pt_not (pt_val (pe_callB call_isD (by rfl) T.isi (by decide +kernel) (pa_cons (pv 0) (pa_cons (pe_bltn (v := .ty "str") (by rfl) T.str (by decide +kernel) rfl) pa_nil))))) (pss_one (ps_raise rfl tk (pmk_ex TE.ei TE.ty TE.m hr1 (by rfl) (pa_cons pe_int pa_nil)))) pss_nil)
      (pss_cons (ps_set (i := 1) nd rfl (.inl rfl) (pe_split (pv 0) pe_str))
      (pss_cons (ps_set (i := 2) nd rfl (.inl rfl) (pe_call G1 hr (by rfl) c1.m c1.k c1.b .nil pass0 (pa_cons (pe_ix (r := rIxL K) ix_list (pv 1) pe_int (fun _ _ => rfl)) (pa_cons pe_str pa_nil))))
      (pss_cons (ps_if (PW.pt (pw_or (pt_cmpR op_isN (pv 2) pe_non (nomark _)) (pw_or (pt_cmpR op_ne (pe_callB call_len_seq (by rfl) ml PySem.boot_len (pa_cons (pv 2) pa_nil)) pe_int (nomark _))
          (pw_or1 (pt_not (pt_val (pe_call G2 hr (by rfl) c2.m c2.k c2.b .nil pass0 (pa_cons (pe_ix (r := rIxT K) ix_tup (pv 2) pe_int (fun _ _ => rfl)) pa_nil)))))))) (pss_one (ps_raise rfl tk (pmk_ex TE.ei TE.ty TE.m hr1 (by rfl) (pa_cons pe_int pa_nil)))) pss_nil)
      (pss_cons (ps_set (i := 3) nd rfl (.inl rfl) (pe_lst pa_nil))
      (pss_cons (ps_for po rfl (pi_enumS (by rfl) me (pa_cons (pe_slice (r := rSlL K) sl_list (pv 1) (po_some pe_int) po_none) pa_nil) (pk_cons pe_int pk_nil)) (pg_tup rfl (pgs_cons (pg_name (i := 4) nd rfl (.inl rfl)) (pgs_cons (pg_name (i := 5) nd rfl (.inl rfl)) pgs_nil)))
        (pss_cons (ps_set (i := 6) nd rfl (.inl rfl) (pe_call G1 hr (by rfl) c1.m c1.k c1.b .nil pass0 (pa_cons (pv 5) (pa_cons pe_str pa_nil))))
        (pss_cons (ps_if (PW.pt (pw_or (pt_not (pt_val (pe_call G3 hr (by rfl) c3.m c3.k c3.b .nil pass0 (pa_cons (pe_ix (r := rIxT K) ix_tup (pv 2) pe_int (fun _ _ => rfl)) (pa_cons (pv 6) pa_nil)))))
            (pw_or1 (PW.pt (pw_and (pt_cmpR (op_neD hr.units) (pv 3) (pe_lst pa_nil) (nomark _)) (pw_and1 (pt_cmpR (op_leT hr.units0) (pv 6) (pe_ix (r := rIxL K) ix_list (pv 3) (pe_un un_neg pe_int) (fun _ _ => rfl)) (nomark _)))))))) (pss_one (ps_raise rfl tk (pmk_ex TE.ei TE.ty TE.m hr1 (by rfl) (pa_cons (pv 4) pa_nil)))) pss_nil)
        (pss_one (ps_expr (pe_bm PySem.F.plainAttrs_list PySem.F.slot_list_append PySem.F.type_list_append mt_append (pv 3) (pa_cons (pv 6) pa_nil)))))))
      (pss_one (ps_ret (pe_tup (pa_cons (pe_ix (r := rIxT K) ix_tup (pv 2) pe_int (fun _ _ => rfl)) (pa_cons (pe_tupleOf (by rfl) T.tuple (pv 3)) pa_nil)))))))))), ?_⟩
    have bad : ∀ {H1 : Hp} (k : Int), Same H H1 → textM d = .inl k → ∃ v, [V.int k] = [v] ∧ ∀ dd, H1 dd = none → E (.ref CT) (some dd) (upd H1 dd (.xd [("line", v)])) := fun {H1} k S1 hz => ⟨_, rfl, fun dd nd => kE _ hz _ dd (S1.trans (same_new nd)) upd_same⟩
    refine ⟨_, rfl, v, d, "str", rfl, by decide, hd, _, rfl, ?_⟩
    by_cases hs : ∀ s, d ≠ .str s
    · refine iteYes ?_ (bad 0 (Same.refl H) (no_str hs))
      cases d <;> first | rfl | exact absurd rfl (hs _)
    obtain ⟨x, hs⟩ := Classical.not_forall.mp hs
    have hs := Classical.not_not.mp hs
    subst hs
    have hl := few x rfl
    cases hd
    refine iteNo rfl ?_
    refine ⟨_, rfl, ⟨_, rfl⟩, x, "\n", rfl, rfl, by rw [one_feed]; decide, by omega, fun q nq => ?_⟩
    have S1 := same_new (o := .lst ((Txt.split x "\n").map V.str)) nq
    have h1 : upd H q (.lst ((Txt.split x "\n").map V.str)) q = some (.lst ((Txt.split x "\n").map V.str)) := upd_same
    have cn := split_count (x := x) (y := "\n") (by rw [one_feed]; decide)
    have pl : ∀ p ∈ Txt.split x "\n", p.length ≤ 500 := fun p hp => Nat.le_trans (piece_len hp) hl
    revert S1 h1 cn pl
    generalize upd H q (.lst ((Txt.split x "\n").map V.str)) = H1
    obtain ⟨l, r, e⟩ := split_some x "\n"
    have kt := text_page e
    rw [e]
    intro S1 h1 cn pl
    refine ⟨_, rfl, q, _, _, .str l, rfl, rfl, SqL.of h1, atI_nat (j := 0) rfl, l, "people", rfl, pl l List.mem_cons_self, fun H2 pp S2 dp => ?_⟩
    have T2 := S1.trans S2
    have hq2 := S2 _ _ h1
    have smp := sm_behind (x := l) (y := "people") (Nat.le_trans (pl l List.mem_cons_self) (by decide))
    have none_ : headM l = none → textM (.str x) = .inl 1 := fun z => by
      rw [kt]
      unfold pageM
      rw [z]
    have hM : headM l = headOf (behindM l "people") := rfl
    revert dp smp hM
    generalize behindM l "people" = o
    intro dp smp hM
    rcases o with _ | is
    · cases dp
      refine ⟨_, rfl, rfl, _, rfl, ?_⟩
      exact iteYes rfl (iteYes rfl (bad 1 T2 (none_ hM)))
    have dp : Dq H2 pp (.tuple (is.map .int)) := dp
    obtain ⟨a, vs, rfl, ha, hv⟩ : ∃ a vs, pp = .ref a ∧ H2 a = some (.tup vs) ∧ DqAll H2 vs (is.map .int) := by
      cases dp with
      | tup ha hv => exact ⟨_, _, rfl, ha, hv⟩
    refine ⟨_, rfl, rfl, _, rfl, ?_⟩
    refine iteNo rfl ?_
    have lv := dq_len hv
    rw [List.length_map] at lv
    refine ⟨_, rfl, _, _, rfl, .inr (SqT.of ha), rfl, _, rfl, ?_⟩
    by_cases l1 : is.length = 1
    case neg =>
      refine iteYes ?_ (iteYes rfl (bad 1 T2 (none_ ?_)))
      · rw [lv, decide_eq_false fun z => l1 (by injection z with z; omega)]
        rfl
      · rw [hM]
        match is, l1 with
        | [], _ => rfl
        | [_], z => exact absurd rfl z
        | _ :: _ :: _, _ => rfl
    obtain ⟨n, rfl⟩ : ∃ n, is = [n] := by
      match is, l1 with
      | [n], _ => exact ⟨n, rfl⟩
    refine iteNo (by rw [lv]; rfl) ?_
    cases hv with
    | cons h0 hv =>
    cases hv
    cases h0
    refine ⟨_, rfl, a, _, _, .int n, rfl, rfl, SqT.of ha, atI_nat (j := 0) rfl, .int n, .int n, rfl, .int n, ?_, fun H3 S3 => ⟨_, rfl, ?_⟩⟩
    · have := (Bool.and_eq_true_iff.mp (show (decide (([.int n] : List PyData).length ≤ 1000) && (smB (.int n) && true)) = true from smp)).2
      exact (Bool.and_eq_true_iff.mp this).1
    have T3 := T2.trans S3
    rcases bool_ft (betD 1 3 (.int n)) with b | b
    · refine iteYes (by rw [b]; rfl) (bad 1 T3 (none_ ?_))
      rw [hM]
      show (if betD 1 3 (.int n) = true then some n else none) = none
      rw [if_neg (by rw [b]; decide)]
    refine iteNo (by rw [b]; rfl) ?_
    have hM : headM l = some n := by
      rw [hM]
      show (if betD 1 3 (.int n) = true then some n else none) = some n
      rw [if_pos b]
    have kt : textM (.str x) = outM n (goM n 2 [] r) := by
      rw [kt]
      unfold pageM
      rw [hM]
    have ha3 := S3 _ _ ha
    have hq3 := S3 _ _ hq2
    refine ⟨Nat.zero_le _, fun L nL => ?_⟩
    have hL := upd_same (H := H3) (a := L) (o := HO.lst [])
    have qL : q ≠ L := ne_of_none hq3 nL
    have hq4 : (upd H3 L (.lst [])) q = some (.lst ((l :: r).map V.str)) := by rw [upd_ne qL]; exact hq3
    refine ⟨_, rfl, _, rfl, q, _, rfl, SqL.of hq4, fun z nz => ?_⟩
    have zL : z ≠ L := fun e => by
      rw [e, hL] at nz
      cases nz
    have ec : cutV ((l :: r).map V.str) (some 1) none = r.map V.str := cut_one _ _
    rw [ec]
    have hz := upd_same (H := upd H3 L (.lst [])) (a := z) (o := HO.lst (r.map V.str))
    have hL5 : (upd (upd H3 L (.lst [])) z (.lst (r.map V.str))) L = some (.lst []) := by rw [upd_ne zL.symm]; exact hL
    have S5 : Same H3 (upd (upd H3 L (.lst [])) z (.lst (r.map V.str))) := (same_new nL).trans (same_new nz)
    revert hz hL5 S5
    generalize upd (upd H3 L (.lst [])) z (.lst (r.map V.str)) = H5
    intro hz hL5 S5
    rw [List.length_cons] at cn
    refine ⟨z, r.map V.str, 2, rfl, rfl, SqL.of hz, ⟨by decide, by decide⟩, ?_⟩
    refine for_it walk_enumS (fun i σ H1 => ∃ acc o4 o5 o6, MadeP H3 L acc H1 ∧ H1 z = some (.lst (r.map V.str)) ∧ goM n (2 + (i : Nat)) acc (r.drop i) = goM n 2 [] r ∧ acc.length ≤ i ∧ σ = [some (.str x), some (.ref q), some (.ref a), some (.ref L), o4, o5, o6])
      ⟨[], none, none, none, ⟨[], ⟨S5, hL5⟩, .nil⟩, hz, rfl, Nat.zero_le _, rfl⟩ (fun i σ H1 _ M => by
        obtain ⟨acc, o4, o5, o6, _, h, _⟩ := M
        exact SqL.of h) ?_ ?_
    · rintro i _ σ H6 _ hi ⟨acc, o4, o5, o6, ⟨vs, M, qv⟩, hz6, hg, la, rfl⟩ ⟨T, y1, y2, rfl, nT, rfl, e1, e2⟩
      cases e1
      obtain ⟨s1, hs1, rfl⟩ := get_str e2
      rw [List.length_map] at hi
      have hT := upd_same (H := H6) (a := T) (o := HO.tup [.int (2 + (i : Nat)), .str s1])
      have S7 := same_new (o := HO.tup [.int (2 + (i : Nat)), .str s1]) nT
      revert hT S7
      generalize upd H6 T (.tup [.int (2 + (i : Nat)), .str s1]) = H7
      intro hT S7
      refine ⟨T, _, rfl, SqT.of hT, rfl, _, _, rfl, _, _, rfl, rfl, ?_⟩
      have l1 : s1.length ≤ 500 := pl s1 (List.mem_cons_of_mem _ (List.mem_of_getElem? hs1))
      refine ⟨_, rfl, s1, "hears", rfl, l1, fun H8 v8 S8 d8 => ?_⟩
      have S78 := S7.trans S8
      have M8 : MadeTo H3 L vs H8 := ⟨M.1.trans S78, S78 _ _ M.2⟩
      have qv8 := DqAll.same S78 _ _ qv
      have hz8 := S78 _ _ hz6
      have ha8 := M8.1 _ _ ha3
      have T8 := T3.trans M8.1
      have dr : r.drop i = s1 :: r.drop (i + 1) := by
        have hlt : i < r.length := hi
        rw [List.drop_eq_getElem_cons hlt]
        rw [List.getElem?_eq_getElem hlt] at hs1
        rw [Option.some.inj hs1]
      rw [dr] at hg
      have hg : (match pairM n s1 with
        | none => Sum.inl (2 + (i : Nat) : Int)
        | some p => if lateP acc p = true then .inl (2 + (i : Nat)) else goM n (2 + (i : Nat) + 1) (acc ++ [p]) (r.drop (i + 1))) = goM n 2 [] r := hg
      have late : ∀ {H9 : Hp}, Same H8 H9 → goM n 2 [] r = .inl (2 + (i : Nat)) → ∀ dd, H9 dd = none → E (.ref CT) (some dd) (upd H9 dd (.xd [("line", .int (2 + (i : Nat)))])) := fun {H9} S9 hz dd nd => by
        refine kE _ ?_ _ dd ((T8.trans S9).trans (same_new nd)) upd_same
        rw [kt, hz]
        rfl
      have pm : pairM n s1 = pairOf n (behindM s1 "hears") := rfl
      have smo := sm_behind (x := s1) (y := "hears") (Nat.le_trans l1 (by decide))
      revert d8 pm smo
      generalize behindM s1 "hears" = o
      intro d8 pm smo
      refine ⟨_, rfl, a, _, _, .int n, rfl, rfl, SqT.of ha8, atI_nat (j := 0) rfl, _, rfl, v8, optNs o, n, rfl, d8, smo, fun H9 S9 => ⟨_, rfl, ?_⟩⟩
      rcases bool_ft (mateD n (optNs o)) with b | b
      · refine iteYes (by rw [b]; rfl) (iteYes rfl ⟨_, rfl, _, rfl, late S9 ?_⟩)
        rw [← hg, pm]
        have : pairOf n o = none := by
          unfold pairOf
          split
          · rename_i a b2
            rw [if_neg (by rw [show mateD n (prD (a, b2)) = false from b]; decide)]
          · rfl
        rw [this]
      refine iteNo (by rw [b]; rfl) ?_
      obtain ⟨p, ep, _⟩ := mate_of b
      obtain rfl : o = some [p.1, p.2] := by
        rcases o with _ | is
        · cases ep
        · have ep : PyData.tuple (is.map .int) = .tuple [.int p.1, .int p.2] := ep
          match is, ep with
          | [a, b], ep =>
            injection ep with ep
            injection ep with e1 e2
            injection e2 with e2 _
            injection e1 with e1
            injection e2 with e2
            have e1 : a = p.1 := e1
            have e2 : b = p.2 := e2
            rw [e1, e2]
      have pm : pairM n s1 = some p := by
        rw [pm]
        show (if mateD n (prD (p.1, p.2)) = true then some (p.1, p.2) else none) = some p
        rw [if_pos (show mateD n (prD (p.1, p.2)) = true from b)]
      rw [pm] at hg
      have hg : (if lateP acc p = true then Sum.inl (2 + (i : Nat) : Int) else goM n (2 + (i : Nat) + 1) (acc ++ [p]) (r.drop (i + 1))) = goM n 2 [] r := hg
      have d9 : Dq H9 v8 (prD p) := Dq.same S9 _ _ d8
      have M9 : MadeTo H3 L vs H9 := ⟨M8.1.trans S9, S9 _ _ M8.2⟩
      have qv9 := DqAll.same S9 _ _ qv8
      refine ⟨_, rfl, Nat.zero_le _, fun e ne => ?_⟩
      have Se := same_new (o := HO.lst []) ne
      have he := upd_same (H := H9) (a := e) (o := HO.lst [])
      revert Se he
      generalize upd H9 e (.lst []) = H10
      intro Se he
      have M10 : MadeTo H3 L vs H10 := ⟨M9.1.trans Se, Se _ _ M9.2⟩
      have qv10 := DqAll.same Se _ _ qv9
      have d10 := Dq.same Se _ _ d9
      obtain ⟨c, rfl, hc⟩ := pr_at d10
      have app : ∀ {H11 : Hp}, Same H10 H11 → lateP acc p = false → ∃ (l : Addr) (xs : List V) (y : V), V.ref L = .ref l ∧ [V.ref c] = [y] ∧ H11 l = some (.lst xs) ∧ xs.length < sizeLine ∧
          (fun (σ : L2.St) (H1 : Hp) => ∃ acc o4 o5 o6, MadeP H3 L acc H1 ∧ H1 z = some (.lst (r.map V.str)) ∧ goM n (2 + ((i + 1 : Nat) : Int)) acc (r.drop (i + 1)) = goM n 2 [] r ∧ acc.length ≤ i + 1 ∧ σ = [some (.str x), some (.ref q), some (.ref a), some (.ref L), o4, o5, o6]) [some (.str x), some (.ref q), some (.ref a), some (.ref L), some (.int (2 + (i : Nat))), some (.str s1), some (.ref c)] (upd H11 l (.lst (xs ++ [y]))) := fun {H11} S11 nl => by
        have M11 : MadeTo H3 L vs H11 := ⟨M10.1.trans S11, S11 _ _ M10.2⟩
        obtain ⟨h1, M12⟩ := M11.more (.ref c) nL (Same.refl H11)
        have z11 := (Se.trans S11) _ _ (S9 _ _ hz8)
        rw [if_neg (by rw [nl]; decide)] at hg
        have lv := dq_len qv10
        rw [List.length_map] at lv
        refine ⟨L, vs, .ref c, rfl, rfl, h1, by omega, acc ++ [p], _, _, _, ⟨vs ++ [.ref c], M12, ?_⟩, by rw [upd_ne zL]; exact z11, ?_, by rw [List.length_append]; show acc.length + 1 ≤ i + 1; omega, rfl⟩
        · rw [List.map_append]
          exact prs_put (DqAll.same S11 _ _ qv10) (Dq.same S11 _ _ d10) h1
        · rw [← hg]
          show goM n (2 + ((i + 1 : Nat) : Int)) _ _ = _
          rw [show (2 + ((i + 1 : Nat) : Int)) = 2 + (i : Nat) + 1 by omega]
      refine ⟨.list (acc.map prD), .list [], dp_shaped (shaped_prs acc) (.lst M10.2 qv10), .lst (SqL.of he) .nil, shaped_prs acc, by decide, _, rfl, ?_⟩
      rcases List.eq_nil_or_concat acc with rfl | ⟨acc', l2, rfl⟩
      · refine iteNo rfl (iteNo rfl ?_)
        exact ⟨_, rfl, .inl ⟨rfl, _, SqL.of M10.2⟩, _, rfl, app (Same.refl _) rfl⟩
      · rw [List.concat_eq_append] at *
        have ne : (!PyData.eqv (.list ((acc' ++ [l2]).map prD)) (.list [])) = true := by
          cases acc' <;> rfl
        refine iteYes ne ?_
        have lv := dq_len qv10
        rw [List.length_map] at lv
        rcases List.eq_nil_or_concat vs with rfl | ⟨vs', vl, rfl⟩
        · rw [List.length_append] at lv
          simp at lv
        rw [List.concat_eq_append] at *
        have gl : (vs' ++ [vl])[vs'.length]? = some vl := by simp
        obtain ⟨d', hd', dl⟩ := DqAll.at qv10 gl
        have ll : vs'.length = acc'.length := by simpa using lv
        obtain rfl : prD l2 = d' := by
          rw [ll] at hd'
          simpa using hd'
        obtain ⟨c2, rfl, hc2⟩ := pr_at dl
        have lt : lateP (acc' ++ [l2]) p = leP p l2 := by
          unfold lateP
          rw [List.getLast?_concat]
        refine ⟨_, rfl, _, rfl, _, rfl, L, _, -1, .ref c2, rfl, rfl, SqL.of M10.2, atI_last _ _, c, c2, [p.1, p.2], [l2.1, l2.2], rfl, rfl, SqT.of hc, SqT.of hc2, _, rfl, ?_⟩
        have lx : Ob.lexAt (fun j => decide ([p.1, p.2].getD j 0 = [l2.1, l2.2].getD j 0)) (fun j => decide ([p.1, p.2].getD j 0 ≤ [l2.1, l2.2].getD j 0)) (decide ([p.1, p.2].length ≤ [l2.1, l2.2].length)) 0 (min [p.1, p.2].length [l2.1, l2.2].length) = leP p l2 := by
          show (if decide (p.1 = l2.1) = true then (if decide (p.2 = l2.2) = true then decide (2 ≤ 2) else decide (p.2 ≤ l2.2)) else decide (p.1 ≤ l2.1)) = _
          unfold leP
          simp only [decide_eq_true_eq]
          rfl
        rw [lx]
        rcases bool_ft (leP p l2) with b3 | b3
        · refine iteNo b3 ?_
          exact ⟨_, rfl, .inl ⟨rfl, _, SqL.of M10.2⟩, _, rfl, app (Same.refl _) (by rw [lt, b3])⟩
        · refine iteYes b3 ⟨_, rfl, _, rfl, late (S9.trans Se) ?_⟩
          rw [← hg, if_pos (by rw [lt, b3])]
    · rintro σ H6 ⟨acc, o4, o5, o6, ⟨vs, M, qv⟩, hz6, hg, la, rfl⟩
      have S6 := T3.trans M.1
      have ha6 := M.1 _ _ ha3
      rw [show r.drop (r.map V.str).length = [] by rw [List.length_map, List.drop_length]] at hg
      have hg : goM n 2 [] r = .inr acc := hg.symm
      refine ⟨_, rfl, a, _, _, .int n, rfl, rfl, SqT.of ha6, atI_nat (j := 0) rfl, _, rfl, .inl ⟨L, vs, rfl, SqL.of M.2, fun t nt => ⟨by show 2 ≤ sizeLine; rw [sz]; omega, fun u nu => ?_⟩⟩⟩
      have St := same_new (o := HO.tup vs) nt
      have Su := same_new (o := HO.tup [.int n, .ref t]) nu
      exact kQ n acc (by rw [kt, hg]; rfl) _ u (.ref t) (S6.trans (St.trans Su)) upd_same (Dq.same Su _ _ (.tup upd_same (DqAll.same St _ _ qv)))
end
end KL
set_option Elab.async false
set_option linter.all false
set_option maxRecDepth 100000
set_option maxHeartbeats 8000000
namespace KL
open PySem L2 PySem.KX PySem.Spec PyProof.Rows
def spPRead (C CT : Addr) : Sp := fun vs H Q E => ∃ (v : V) (d : PyData), vs = [.ref C, v] ∧ Dq H v d ∧ (∀ s, d = .str s → s.length ≤ 500) ∧
  (∀ k, textM d = .inl k → ∀ H' dd, Same H H' → H' dd = some (.xd [("line", .int k)]) → E (.ref CT) (some dd) H') ∧
  ∀ n ps, textM d = .inr (n, ps) → ∀ H' y pv, Same H H' → PolAt C H' y n pv ps → Pairs n ps → Q (.ref y) H'
section
variable {P : Program} {w : World} {K : PySem.W.Frag} {mg : Str → Option Value} {base : Heap} {C CB CT fI : Addr} {dI : FuncData}
abbrev nPRead : List Str := ["cls", "text", "people", "pairs"]
theorem scPRead : FnScope nPRead ["cls", "text"] (defScope sPRead) := ⟨rfl, rfl, rfl, by decide +kernel, rfl, by decide +kernel, by decide +kernel⟩
theorem ok_pread {f g : Addr} {fd gd : FuncData} (F : Fun K "read" "Policy.read" sPRead f fd) (G : FnOk P w K mg base (L2.CX P w) 4 g gd ["text"] (spPartsIn CT)) (c : Cal K mg "parts_in" g gd ["text"])
    (GI : FnOk P w K mg base (L2.CX P w) 5 fI dI pInit2 (spPInit C CB)) (M : Mk K C fI) (bI : L2.Binds K dI pInit2 []) : FnOk P w K mg base (L2.CX P w) 7 f fd ["cls", "text"] (spPRead C CT) := by
  refine fnX F scPRead (fun vs H Q E h => ?_) (fun cdv A outer s H vs Q E hr h tk po => ?_)
  · obtain ⟨v, d, rfl, _⟩ := h
    rfl
  · obtain ⟨v, d, rfl, hd, few, kE, kQ⟩ := h
    have nd := scPRead.nd
    have hr4 : Room 4 _ := hr.mono (by decide)
    refine ⟨_, pss_cons (ps_asg (pe_callS G hr4 (by rfl) c.m c.k c.b (fun σ => passAt tk σ) (pa_cons (pv 1) pa_nil)) (pg_tup rfl (pgs_cons (pg_name (i := 2) nd rfl (.inl rfl)) (pgs_cons (pg_name (i := 3) nd rfl (.inl rfl)) pgs_nil))))
      (pss_one (ps_ret (pe_mkL (i := 0) M GI hr rfl (.inl rfl) bI (fun σ => passAt tk σ) (pa_cons (pv 2) (pa_cons (pv 3) pa_nil))))), ?_⟩
    refine ⟨_, rfl, v, d, rfl, hd, few, fun k hk H' dd S1 h1 => kE k hk H' dd S1 h1, fun n ps ht H1 t pv S1 h1 qp => ?_⟩
    have hP := text_pairs ht few
    refine ⟨t, _, rfl, SqT.of h1, rfl, _, _, rfl, _, _, rfl, rfl, rfl, _, rfl, _, rfl, fun x dx nx ndx ne => ?_⟩
    have S2 : Same H1 (upd (upd H1 dx (.own x)) x (.ins C dx [])) := fun b o e => by
      rw [upd_ne (ne_of_none e nx), upd_ne (ne_of_none e ndx)]
      exact e
    exact ⟨_, x, dx, .int n, pv, _, _, rfl, S2, nx, upd_same, .int n, qp, sm_num (by have := hP.n1; omega) (by have := hP.n3; omega), sm_prs hP, fun _ H5 S5 h5 => ⟨rfl, kQ n ps ht H5 x pv (S1.trans S5) ⟨dx, h5, Dq.same S5 _ _ qp⟩ hP⟩, fun wd e => (by rw [due_pairs hP] at e; cases e)⟩
end
end KL
set_option Elab.async false
set_option linter.all false
set_option maxRecDepth 100000
set_option maxHeartbeats 8000000
namespace KL
open PySem L2 PySem.KX PySem.Spec PyProof.Rows
abbrev lRule : Stmt := top 27
abbrev lBent : Stmt := top 28
abbrev lWhole : Stmt := top 29
abbrev lDue : Stmt := top 30
abbrev lHeard : Stmt := top 31
abbrev lMade : Stmt := top 32
abbrev lWritten : Stmt := top 33
abbrev lNumber : Stmt := top 34
abbrev lReadDue : Stmt := top 35
abbrev lRead : Stmt := top 36
abbrev lPageBent : Stmt := top 37
abbrev lTexts : Stmt := top 38
abbrev lJoined : Stmt := top 39
abbrev lTwo : Stmt := top 40
structure TxtG (mg : Str → Option Value) : Prop where
  b : TxtB mg
  d : TxtD mg
  range : mg "range" = none
  sorted : mg "sorted" = none
  set : mg "set" = none
  enum : mg "enumerate" = none
  repr : mg "repr" = none
/-- gathered so far: right, and all before (i, j) -/
structure Grown (n : Int) (i j : Int) (ps : List (Int × Int)) : Prop where
  fine : Fine n ps
  low : ∀ p ∈ ps, p.1 < i ∨ (p.1 = i ∧ p.2 < j)
theorem Grown.zero {n : Int} : Grown n 0 0 [] := ⟨⟨(fun _ h => nomatch h), rfl⟩, (fun _ h => nomatch h)⟩
theorem Grown.skip {n i j : Int} {ps : List (Int × Int)} (h : Grown n i j ps) : Grown n i (j + 1) ps := ⟨h.fine, fun p hp => (h.low p hp).imp id fun q => ⟨q.1, by omega⟩⟩
theorem Grown.next {n i j : Int} {ps : List (Int × Int)} (h : Grown n i j ps) : Grown n (i + 1) 0 ps := ⟨h.fine, fun p hp => .inl (by rcases h.low p hp with q | q <;> omega)⟩
theorem mate_pair {n a b : Int} (a0 : 0 ≤ a) (a1 : a < n) (b0 : 0 ≤ b) (b1 : b < n) (ne : a ≠ b) : mateD n (prD (a, b)) = true := by
  show (betD 0 (n - 1) (.int a) && (betD 0 (n - 1) (.int b) && !decide (V.int a = V.int b))) = true
  have e1 : betD 0 (n - 1) (.int a) = true := by
    show (decide ((0 : Int) ≤ a) && decide (a ≤ n - 1)) = true
    rw [decide_eq_true a0, decide_eq_true (by omega)]
    rfl
  have e2 : betD 0 (n - 1) (.int b) = true := by
    show (decide ((0 : Int) ≤ b) && decide (b ≤ n - 1)) = true
    rw [decide_eq_true b0, decide_eq_true (by omega)]
    rfl
  rw [e1, e2, decide_eq_false fun z => ne (by injection z)]
  rfl
theorem Grown.add {n i j : Int} {ps : List (Int × Int)} (h : Grown n i j ps) (i0 : 0 ≤ i) (i1 : i < n) (j0 : 0 ≤ j) (j1 : j < n) (ne : j ≠ i) : Grown n i (j + 1) (ps ++ [(i, j)]) := by
  refine ⟨h.fine.more (mate_pair i0 i1 j0 j1 fun z => ne z.symm) ?_, fun p hp => ?_⟩
  · unfold lateP
    cases e : ps.getLast? with
    | none => rfl
    | some l =>
      have hl := h.low l (List.mem_of_getLast? e)
      show leP (i, j) l = false
      unfold leP
      show (if i = l.1 then (if j = l.2 then true else decide (j ≤ l.2)) else decide (i ≤ l.1)) = false
      rcases hl with q | q
      · rw [if_neg (by omega)]
        exact decide_eq_false (by omega)
      · rw [if_pos q.1.symm, if_neg (by omega)]
        exact decide_eq_false (by omega)
  · rcases List.mem_append.mp hp with z | z
    · exact h.skip.low p z
    · rw [List.mem_singleton.mp z]
      exact .inr ⟨rfl, by show j < j + 1; omega⟩
/-- a drawn rule -/
def spRule : Sp := fun vs H Q _ => ∃ (H0 : Hp) (p l : Addr) (t n : Int), vs = [.ref p, .int n] ∧ DeckAt H0 H p l t ∧ 0 ≤ t ∧ t < 1000000 ∧ 1 ≤ n ∧ n ≤ 3 ∧
  ∀ H1 H' t' v ps, Go p l H0 H t H1 H' t' 10 → Dq H1 v (prsD ps) → Pairs n ps → ps.length ≤ 9 → Q v H'
section
variable {P : Program} {w : World} {K : PySem.W.Frag} {mg : Str → Option Value} {base : Heap}
abbrev nRule : List Str := ["_law_deck_here", "_law_many", "_law_found", "_law_often", "_law_p", "_law_q"]
theorem scRule : FnScope nRule ["_law_deck_here", "_law_many"] (defScope lRule) := ⟨rfl, rfl, rfl, by decide +kernel, rfl, by decide +kernel, by decide +kernel⟩
theorem ok_rule {f g1 : Addr} {fd gd1 : FuncData} (F : Fun K "_law_rule" "_law_rule" lRule f fd) (T : TxtG mg) (G1 : FnOk P w K mg base CX0 1 g1 gd1 ["_law_deck_here", "_law_below"] spDraw) (c1 : Cal K mg "_law_draw" g1 gd1 ["_law_deck_here", "_law_below"]) :
    FnOk P w K mg base CX0 2 f fd ["_law_deck_here", "_law_many"] spRule := by
  refine F.ok scRule (fun vs H Q E h => ?_) (fun cdv A outer s H vs Q E hr h => ?_)
  · obtain ⟨H0, p, l, t, n, rfl, _⟩ := h
    rfl
  · obtain ⟨Hs, p, l, t, n, rfl, D, t0, t1, n1, n3, k⟩ := h
    have nd := scRule.nd
    have hr1 : Room 1 _ := hr.mono (by decide)
    refine ⟨_, pss_cons (ps_asg (pe_tup (pa_cons (pe_lst pa_nil) (pa_cons (pe_op op_add pe_int (pe_call G1 hr1 (by rfl) c1.m c1.k c1.b .nil pass0 (pa_cons (pv 0) (pa_cons pe_int pa_nil)))) pa_nil))) (pg_tup rfl (pgs_cons (pg_name (i := 2) nd rfl (.inl rfl)) (pgs_cons (pg_name (i := 3) nd rfl (.inr rfl)) pgs_nil))))
      (pss_cons (ps_for PassesOwn.never rfl (pi_range1 (by rfl) T.range (pa_cons (pv 1) pa_nil)) (pg_name (i := 4) nd rfl (.inr rfl))
        (pss_one (ps_expr (pe_bm PySem.F.plainAttrs_list PySem.F.slot_list_extend PySem.F.type_list_extend mt_extend (pv 2) (pa_cons (pe_lc (own := [("_law_q", 5)]) (g := gName 5) (tt := tAnd (tTest (tOp rNe (tVar 5) (tVar 4))) (tTest (tOp rEq (tCall spDraw [] E0 (tCons (tVar 0) (tCons (tVar 3) tNil))) (tC (.int 0))))) rfl nd (pi_range1 (by rfl) T.range (pa_cons (pv 1) pa_nil))
          (blkOk_by (N := nRule) (sc := defScope lRule) (by decide +kernel)) (fun _ _ _ _ _ => pg_name (i := 5) nd rfl (.inl rfl))
          (fun _ _ _ _ _ => pts_one (PW.pt (pw_and (pt_cmpR op_ne (pv 5) (pv 4) (nomark _)) (pw_and1 (pt_cmpR op_eq (pe_call G1 hr1 (by rfl) c1.m c1.k c1.b .nil pass0 (pa_cons (pv 0) (pa_cons (pv 3) pa_nil))) pe_int (nomark _))))))
          (fun _ _ _ _ _ => pe_tup (pa_cons (pv 4) (pa_cons (pv 5) pa_nil)))) pa_nil)))))
      (pss_one (ps_ret (pe_tupleOf (by rfl) T.b.tuple (pv 2))))), ?_⟩
    refine ⟨Nat.zero_le _, fun L nL => ?_⟩
    have gL := (Go.refl D).put0 (o := .lst []) nL
    have wL := Own.start (o := .lst []) (Go.refl D) nL
    refine ⟨_, rfl, Hs, p, l, t, 2, rfl, gL.d, t0, by omega, by omega, by omega, fun H1 r gd r0 r1 => ?_⟩
    refine ⟨_, _, rfl, rfl, (by show 2 ≤ sizeLine; decide), fun pt npt => ⟨pt, _, rfl, SqT.of upd_same, rfl, _, _, rfl, _, _, rfl, rfl, ?_⟩⟩
    have g2 := (gL.trans gd).put0 (o := .tup [.ref L, .int (2 + r)]) npt
    have w2 := (wL.go gd).put (o' := .tup [.ref L, .int (2 + r)]) npt
    revert g2 w2
    generalize upd H1 pt (.tup [.ref L, .int (2 + r)]) = H2
    intro g2 w2
    have nn : ((n.toNat : Nat) : Int) = n := by omega
    refine ⟨_, rfl, n, rfl, by omega, by omega, for_range (fun i σ H' => (∃ H0 t' ys ps, Go p l Hs H t H0 H' t' (1 + (i : Int) * 3) ∧ Own p l L H H0 H' (.lst ys) ∧ DqAll H0 ys (ps.map prD) ∧ Grown n i 0 ps ∧ ps.length ≤ i * 3) ∧
      ∃ o1 o2, σ = [some (.ref p), some (.int n), some (.ref L), some (.int (2 + r)), o1, o2]) ⟨⟨Hs, t + 1, [], [], g2.more (by omega), w2, .nil, Grown.zero, Nat.zero_le _⟩, _, _, rfl⟩ ?_ ?_⟩
    · clear g2 w2 gL wL
      rintro i σ H3 hi ⟨⟨H0, t', ys, ps, g, w, q, hG, hl⟩, o1, o2, rfl⟩
      have gt := g.t1
      have gt0 := g.t0
      have hi3 : i < 3 := by omega
      refine ⟨_, rfl, .inl ⟨rfl, _, SqL.of w.h⟩, _, rfl, n, rfl, by omega, by omega, fun B nB => ?_⟩
      refine lc_range (fun j H4 => Making p l B H0 H3 t' 1 (fun j ds => ∃ row, ds = row.map prD ∧ Grown n i j (ps ++ row) ∧ row.length ≤ j) j H4) (Making.start g.d nB ⟨[], rfl, by rw [List.append_nil]; exact hG, Nat.zero_le _⟩) ?_ ?_
      · rintro j H4 hj ⟨H02, t2, ys', ds', g3, w3, q3, row, rfl, hR, hl2⟩
        have g3t := g3.t1
        have g3t0 := g3.t0
        refine ⟨rfl, _, rfl, _, rfl, rfl, _, rfl, ?_⟩
        by_cases e : (0 : Int) + (j : Int) = 0 + (i : Int)
        · refine iteNo (by rw [e, decide_eq_true rfl]; rfl) (iteNo rfl ?_)
          exact Making.skip g3 w3 q3 ((Go.refl g3.d).more (by omega)) ⟨row, rfl, hR.skip, by omega⟩
        · refine iteYes (by rw [decide_eq_false fun z => e (by injection z)]; rfl) ?_
          refine ⟨_, rfl, _, rfl, H02, p, l, t2, 2 + r, rfl, g3.d, by omega, by omega, by omega, by omega, fun H5 r2 g4 r20 r21 => ⟨rfl, _, rfl, ?_⟩⟩
          by_cases e2 : r2 = 0
          · refine iteYes (decide_eq_true (by rw [e2])) ?_
            refine ⟨_, rfl, _, rfl, (by show 2 ≤ sizeLine; decide), fun tp ntp => ?_⟩
            have n2 := g4.d.s.free ntp
            have g5 := g4.new (o := .tup [.int (0 + (i : Int)), .int (0 + (j : Int))]) ntp
            refine Making.turn g3 w3 q3 g5 (d := prD (i, j)) (.tup (by rw [upd_same, Int.zero_add, Int.zero_add]) (.cons (.int _) (.cons (.int _) .nil))) ?_ ⟨row ++ [((i : Int), (j : Int))], by rw [List.map_append]; rfl, ?_, ?_⟩
            · rw [List.length_map]
              omega
            · rw [← List.append_assoc]
              exact hR.add (by omega) (by omega) (by omega) (by omega) (by omega)
            · rw [List.length_append]
              show row.length + 1 ≤ j + 1
              omega
          · refine iteNo (decide_eq_false fun z => e2 (by injection z)) ?_
            exact Making.skip g3 w3 q3 g4 ⟨row, rfl, hR.skip, by omega⟩
      · rintro H4 ⟨H02, t2, ys', ds', g3, w3, q3, row, rfl, hR, hl2⟩
        have w4 := w.go g3
        have lq := dq_len q
        have lq3 := dq_len q3
        rw [List.length_map] at lq lq3
        refine ⟨L, B, ys, ys', rfl, rfl, w4.h, w3.h, by rw [sizeLine_eq]; omega, ?_⟩
        refine ⟨⟨H02, t2, ys ++ ys', ps ++ row, ((g.trans g3).more (by omega)).setO w4, w4.set, ?_, ?_, ?_⟩, _, _, rfl⟩
        · rw [List.map_append]
          exact (DqAll.same g3.s _ _ q).app q3
        · exact hR.next
        · rw [List.length_append]
          omega
    · clear g2 w2 gL wL
      rintro σ H3 ⟨⟨H0, t', ys, ps, g, w, q, hG, hl⟩, o1, o2, rfl⟩
      refine ⟨_, rfl, .inl ⟨L, ys, rfl, SqL.of w.h, fun tp ntp => ?_⟩⟩
      refine k _ _ _ _ ps ((g.new ntp).more (by omega)) (dq_new (g.d.s.free ntp) q) ⟨n1, n3, hG.fine.1, hG.fine.2, by omega⟩ (by omega)
end
end KL
set_option Elab.async false
set_option linter.all false
set_option maxRecDepth 100000
set_option maxHeartbeats 8000000
namespace KL
open PySem L2 PySem.KX PySem.Spec PyProof.Rows
def OgF (w pp W nn : Nat) (d : PyData) : Prop := Og w pp W d ∧ (itemsD d).length ≤ nn
def spBent (n : Nat) : Sp := fun vs H Q _ => ∃ (H0 : Hp) (p l : Addr) (t : Int) (v : V) (d : PyData) (w pp W nn : Nat), vs = [.ref p, v] ∧ DeckAt H0 H p l t ∧ 0 ≤ t ∧ t + 4 * (n : Int) < 1000000 ∧ Dq H0 v d ∧ Gd w pp W d ∧ w ≤ 800 ∧ pp < n ∧ 3 ≤ nn ∧ (itemsD d).length < nn ∧ Gives p l H0 H t (4 * (n : Int)) (OgF w pp W nn) Q
abbrev nBent : List Str := ["_law_deck_here", "_law_it", "_law_at", "_law_way", "_law_some"]
def odd17 : List PyData := [.none, .bool true, .bool false, .int 0, .int 1, .int (-1), .int 2, .str "", .str "a", .tuple [], .tuple [.int 0], .tuple [.int 0, .int 1], .tuple [.tuple [.int 0, .int 1]], .list [], .dict [], .list [.int 0, .int 1], .tuple [.int 0, .list []]]
theorem odd17_few : ∀ d ∈ odd17, (itemsD d).length ≤ 3 := by decide +kernel
theorem odd17_ok {w p W : Nat} : ∀ d ∈ odd17, Og w p W d := fun d hd => by
  have z : (odd17.all fun d => decide (wd d ≤ 200) && decide (d.depth ≤ 2) && decide (wt d ≤ 400) && txD d) = true := by decide +kernel
  have y := List.all_eq_true.mp z d hd
  simp only [Bool.and_eq_true, decide_eq_true_eq] at y
  exact ⟨by omega, by omega, by omega, y.2⟩
def four4 : List PyData := [.int 1, .int (-1), .int 2, .int (10 ^ 39)]
theorem log_sum {i j : Int} {n : Nat} (hi : i.natAbs.log2 ≤ n) (hj : j.natAbs.log2 ≤ 130) : (i + j).natAbs.log2 ≤ n + 131 := by
  by_cases z : (i + j).natAbs = 0
  · rw [z]
    exact Nat.zero_le _
  have h1 : i.natAbs < 2 ^ (n + 1) := Nat.lt_of_lt_of_le Nat.lt_log2_self (Nat.pow_le_pow_right (by decide) (by omega))
  have h2 : j.natAbs < 2 ^ 131 := Nat.lt_of_lt_of_le Nat.lt_log2_self (Nat.pow_le_pow_right (by decide) (by omega))
  have h3 : (i + j).natAbs ≤ i.natAbs + j.natAbs := Int.natAbs_add_le i j
  have h4 : (2 : Nat) ^ (n + 132) = 2 ^ (n + 131) + 2 ^ (n + 131) := by
    rw [Nat.pow_succ]
    omega
  have h5 : (2 : Nat) ^ (n + 1) ≤ 2 ^ (n + 131) := Nat.pow_le_pow_right (by decide) (by omega)
  have h6 : (2 : Nat) ^ 131 ≤ 2 ^ (n + 131) := Nat.pow_le_pow_right (by decide) (by omega)
  have : (i + j).natAbs < 2 ^ (n + 132) := by omega
  have := (Nat.log2_lt z).mpr this
  omega
section
variable {P : Program} {w : World} {K : PySem.W.Frag} {mg : Str → Option Value} {base : Heap}
theorem scBent : FnScope nBent ["_law_deck_here", "_law_it"] (defScope lBent) := ⟨rfl, rfl, rfl, by decide +kernel, rfl, by decide +kernel, by decide +kernel⟩
/-- one of a list of literals that is made beside the deck -/
theorem pick_lits {p l : Addr} {Hs H : Hp} {t : Int} {σ : L2.St} {ts : TA} {ds : List PyData} {Q : VK} {E : XK} (D : DeckAt Hs H p l t) (t0 : 0 ≤ t) (t1 : t < 1048576) (h0 : 0 < ds.length) (h1 : ds.length < 1000) (e0 : σ[0]? = some (some (.ref p))) (ls : LitsG p l Hs σ ts ds)
    (k : ∀ H1 H' v d, Go p l Hs H t H1 H' (t + 1) 1 → Dq H1 v d → d ∈ ds → Q v H') : tCall spPick [] E (tCons (tVar 0) (tCons (tLst ts) tNil)) σ H Q := by
  refine ⟨_, e0, ls Hs H t _ D (Same.refl _) fun H1 H1' vs g dvs => ?_⟩
  have lv := dq_len dvs
  refine ⟨by rw [lv, sizeLine_eq]; omega, fun q nq => ?_⟩
  obtain ⟨qp, ql⟩ := g.d.notP nq
  have g2 := g.put0 (o := .lst vs) nq
  have gt := g2.t1
  refine ⟨H1, p, l, t, q, vs, rfl, ⟨g2.d.s, g2.d.p0, g2.d.l0, g2.d.d⟩, t0, t1, upd_same, qp, ql, by omega, by omega, fun H' i v gv hv => ?_⟩
  obtain ⟨d, hd, hq⟩ := DqAll.at dvs hv
  exact k _ _ v d ((g2.trans gv).more (by omega)) hq (List.mem_of_getElem? hd)
theorem asg_litsG {p l : Addr} {Hs H : Hp} {t : Int} {σ : L2.St} {ts : TA} {ds : List PyData} {i : Nat} {D : Ends} (dk : DeckAt Hs H p l t) (ls : LitsG p l Hs σ ts ds) (hn : ds.length ≤ 1000)
    (k : ∀ H1 H1' q vs, Go p l Hs H t H1 H1' t 0 → DqAll H1 vs ds → H1' q = some (.lst vs) → q ≠ p → q ≠ l → vs.length = ds.length → D.nx (σ.set i (some (.ref q))) H1') : tAsg (tLst ts) (gName i) D σ H :=
  ls Hs H t _ dk (Same.refl _) fun H1 H1' vs g dvs => by
    have lv := dq_len dvs
    refine ⟨by rw [lv, sizeLine_eq]; omega, fun q nq => ?_⟩
    obtain ⟨qp, ql⟩ := g.d.notP nq
    exact k H1 _ q vs (g.put0 (o := .lst vs) nq) dvs upd_same qp ql lv
theorem lits17 {p l : Addr} {B : Hp} {σ : L2.St} : LitsG p l B σ (tCons (tC .non) (tCons (tC (.bl true)) (tCons (tC (.bl false)) (tCons (tC (.int 0)) (tCons (tC (.int 1)) (tCons (tUn (rU fun i => .int (-i)) (tC (.int 1))) (tCons (tC (.int 2)) (tCons (tC (.str "")) (tCons (tC (.str "a")) (tCons (tTup tNil) (tCons (tTup (tCons (tC (.int 0)) tNil)) (tCons (tTup (tCons (tC (.int 0)) (tCons (tC (.int 1)) tNil))) (tCons (tTup (tCons (tTup (tCons (tC (.int 0)) (tCons (tC (.int 1)) tNil))) tNil)) (tCons (tLst tNil) (tCons tDNewK (tCons (tLst (tCons (tC (.int 0)) (tCons (tC (.int 1)) tNil))) (tCons (tTup (tCons (tC (.int 0)) (tCons (tLst tNil) tNil))) tNil))))))))))))))))) odd17 := by
  have l2 : LitsG p l B σ (tCons (tC (.int 0)) (tCons (tC (.int 1)) tNil)) [.int 0, .int 1] := litsg_cons litg_int (litsg_cons litg_int litsg_nil)
  have lt2 : LitG p l B σ (tTup (tCons (tC (.int 0)) (tCons (tC (.int 1)) tNil))) (.tuple [.int 0, .int 1]) := litg_tup l2 (by simp)
  have lt3 : LitG p l B σ (tTup (tCons (tTup (tCons (tC (.int 0)) (tCons (tC (.int 1)) tNil))) tNil)) (.tuple [.tuple [.int 0, .int 1]]) := litg_tup (litsg_cons lt2 litsg_nil) (by simp)
  have ll2 : LitG p l B σ (tLst (tCons (tC (.int 0)) (tCons (tC (.int 1)) tNil))) (.list [.int 0, .int 1]) := litg_lst l2 (by simp)
  have l0 : LitG p l B σ (tLst tNil) (.list []) := litg_lst litsg_nil (by simp)
  have lt0 : LitG p l B σ (tTup tNil) (.tuple []) := litg_tup litsg_nil (by simp)
  have lt1 : LitG p l B σ (tTup (tCons (tC (.int 0)) tNil)) (.tuple [.int 0]) := litg_tup (litsg_cons litg_int litsg_nil) (by simp)
  have lt4 : LitG p l B σ (tTup (tCons (tC (.int 0)) (tCons (tLst tNil) tNil))) (.tuple [.int 0, .list []]) := litg_tup (litsg_cons litg_int (litsg_cons l0 litsg_nil)) (by simp)
  exact litsg_cons litg_non (litsg_cons litg_bl (litsg_cons litg_bl (litsg_cons litg_int (litsg_cons litg_int (litsg_cons litg_neg (litsg_cons litg_int (litsg_cons litg_str (litsg_cons litg_str (litsg_cons lt0 (litsg_cons lt1 (litsg_cons lt2 (litsg_cons lt3 (litsg_cons l0 (litsg_cons litg_dict (litsg_cons ll2 (litsg_cons lt4 litsg_nil))))))))))))))))
set_option maxHeartbeats 16000000 in
theorem ok_bent1 {f g1 g2 : Addr} {fd gd1 gd2 : FuncData} (F : Fun K "_law_bent" "_law_bent" lBent f fd) (T : TxtG mg) (c0 : Cal K mg "_law_bent" f fd ["_law_deck_here", "_law_it"])
    (G1 : FnOk P w K mg base CX0 1 g1 gd1 ["_law_deck_here", "_law_below"] spDraw) (c1 : Cal K mg "_law_draw" g1 gd1 ["_law_deck_here", "_law_below"])
    (G2 : FnOk P w K mg base CX0 2 g2 gd2 ["_law_deck_here", "_law_some"] spPick) (c2 : Cal K mg "_law_pick" g2 gd2 ["_law_deck_here", "_law_some"])
    {kk n : Nat} (hk : 3 ≤ kk) (G0 : FnOk P w K mg base CX0 kk f fd ["_law_deck_here", "_law_it"] (spBent n)) :
    FnOk P w K mg base CX0 (kk + 1) f fd ["_law_deck_here", "_law_it"] (spBent (n + 1)) := by
  refine F.ok scBent (fun vs H Q E h => ?_) (fun cdv A outer s H vs Q E hr h => ?_)
  · obtain ⟨H0, p, l, t, v, d, w, pp, W, nn, rfl, _⟩ := h
    rfl
  · obtain ⟨Hs, p, l, t, v, d, w, pp, W, nn, rfl, D, t0, t1, hv, hg, hw, hpp, nn3, hfw, k⟩ := h
    have nd := scBent.nd
    have r1 : Room 1 _ := hr.mono (by omega)
    have r2 : Room 2 _ := hr.mono (by omega)
    have t1' : t + 4 * ((n : Nat) : Int) + 4 < 1000000 := by
      have : ((n + 1 : Nat) : Int) = (n : Int) + 1 := by omega
      omega
    refine ⟨_, C8.pss_cut (ps_if (PW.pt (pw_and (pt_val (pe_callB call_isD (by rfl) T.b.isi (by decide +kernel) (pa_cons (pv 1) (pa_cons (pe_bltn (v := .ty "tuple") (by rfl) T.b.tuple (by decide +kernel) rfl) pa_nil)))) (pw_and (pt_cmpR (op_neNilT hr.units) (pv 1) (pe_tup pa_nil) (nomark _)) (pw_and1 (pt_cmpR op_gt (pe_call G1 r1 rfl c1.m c1.k c1.b .nil pass0 (pa_cons (pv 0) (pa_cons pe_int pa_nil))) pe_int (nomark _))))))
        (C8.pss_cut (ps_par (i := 2) (j := 3) (by rfl) nd rfl rfl (by decide) rfl rfl (pa_cons (pe_call G1 r1 rfl c1.m c1.k c1.b .nil pass0 (pa_cons (pv 0) (pa_cons (pe_callB call_len_seq (by rfl) T.d.len PySem.boot_len (pa_cons (pv 1) pa_nil)) pa_nil))) (pa_cons (pe_call G1 r1 rfl c1.m c1.k c1.b .nil pass0 (pa_cons (pv 0) (pa_cons pe_int pa_nil))) pa_nil)) (by rfl))
        (pss_cons (ps_if (pt_cmpR op_eq (pv 3) pe_int (nomark _)) (pss_one (ps_ret (pe_op op_catA (pe_slice sl_tupA (pv 1) po_none (po_some (pv 2))) (pe_slice sl_tupA (pv 1) (po_some (pe_op op_add (pv 2) pe_int)) po_none)))) pss_nil)
        (pss_cons (ps_if (pt_cmpR op_eq (pv 3) pe_int (nomark _)) (pss_one (ps_ret (pe_op op_catA (pe_slice sl_tupA (pv 1) po_none (po_some (pe_op op_add (pv 2) pe_int))) (pe_slice sl_tupA (pv 1) (po_some (pv 2)) po_none)))) pss_nil)
        (pss_cons (ps_if (pt_cmpR op_eq (pv 3) pe_int (nomark _)) (pss_one (ps_ret (pe_revT (pv 1)))) pss_nil)
        (pss_cons (ps_if (pt_cmpR op_eq (pv 3) pe_int (nomark _)) (pss_one (ps_ret (pe_callTy call_list_of (by rfl) T.d.list (by decide +kernel) (pa_cons (pv 1) pa_nil)))) pss_nil)
        (pss_one (ps_ret (pe_op op_catA (pe_op op_catA (pe_slice sl_tupA (pv 1) po_none (po_some (pv 2))) (pe_tup (pa_cons (pe_call G0 hr rfl c0.m c0.k c0.b .nil pass0 (pa_cons (pv 0) (pa_cons (pe_ix ix_tup (pv 1) (pv 2) (fun _ _ => rfl)) pa_nil))) pa_nil))) (pe_slice sl_tupA (pv 1) (po_some (pe_op op_add (pv 2) pe_int)) po_none))))))))) pss_nil)
      (C8.pss_cut (ps_if (PW.pt (pw_and (pt_val (pe_callB call_isD (by rfl) T.b.isi (by decide +kernel) (pa_cons (pv 1) (pa_cons (pe_bltn (v := .ty "int") (by rfl) T.b.int (by decide +kernel) rfl) pa_nil)))) (pw_and (pt_not (pt_val (pe_callB call_isD (by rfl) T.b.isi (by decide +kernel) (pa_cons (pv 1) (pa_cons (pe_bltn (v := .ty "bool") (by rfl) T.b.bool (by decide +kernel) rfl) pa_nil))))) (pw_and1 (pt_cmpR op_gt (pe_call G1 r1 rfl c1.m c1.k c1.b .nil pass0 (pa_cons (pv 0) (pa_cons pe_int pa_nil))) pe_int (nomark _))))))
        (pss_one (ps_ret (pe_op op_add (pv 1) (pe_call G2 r2 rfl c2.m c2.k c2.b .nil pass0 (pa_cons (pv 0) (pa_cons (pe_lst (pa_cons pe_int (pa_cons (pe_un un_neg pe_int) (pa_cons pe_int (pa_cons (pe_op op_pow pe_int pe_int) pa_nil))))) pa_nil)))))) pss_nil)
      (pss_cons (ps_set (i := 4) nd rfl (.inl rfl) (pe_lst (pa_cons pe_non (pa_cons pe_bl (pa_cons pe_bl (pa_cons pe_int (pa_cons pe_int (pa_cons (pe_un un_neg pe_int) (pa_cons pe_int (pa_cons pe_str (pa_cons pe_str (pa_cons (pe_tup pa_nil) (pa_cons (pe_tup (pa_cons pe_int pa_nil)) (pa_cons (pe_tup (pa_cons pe_int (pa_cons pe_int pa_nil))) (pa_cons (pe_tup (pa_cons (pe_tup (pa_cons pe_int (pa_cons pe_int pa_nil))) pa_nil)) (pa_cons (pe_lst pa_nil) (pa_cons pe_dnewK (pa_cons (pe_lst (pa_cons pe_int (pa_cons pe_int pa_nil))) (pa_cons (pe_tup (pa_cons pe_int (pa_cons (pe_lst pa_nil) pa_nil))) pa_nil)))))))))))))))))))
      (pss_one (ps_ret (pe_call G2 r2 rfl c2.m c2.k c2.b .nil pass0 (pa_cons (pv 0) (pa_cons (pv 4) pa_nil))))))), ?_⟩
    have hvH := Dq.same D.s _ _ hv
    refine ⟨fun σ H' => ∃ t', σ = [some (.ref p), some v, none, none, none] ∧ Go p l Hs H t Hs H' t' 1, ?_, ?_⟩
    · refine ⟨_, rfl, v, d, "tuple", rfl, by decide, hvH, _, rfl, ?_⟩
      by_cases e : isA "tuple" d = true
      · refine iteYes e ?_
        cases hv with
        | tup ha qa =>
          rename_i a ys es
          have gw : max es.length (wdAll es) ≤ w := hg.wd
          have gtt : wtAll es + 3 ≤ W := hg.wt
          have gdp : PyData.depthAll es + 1 ≤ pp := hg.dp
          have le := dq_len qa
          have hfw : es.length < nn := hfw
          have big : ∀ {x : PyData} {m : Nat}, Gd (max w (w + 200)) pp (m + 3) x → m ≤ 2 * W → Og w pp W x := fun h hm => h.mono (by omega) (by omega) (by omega)
          refine ⟨_, rfl, (by show 0 ≤ sizeLine; decide), fun e0 n0 => ⟨a, e0, ys, rfl, rfl, SqT.of ?_, SqT.of upd_same, _, rfl, ?_⟩⟩
          · have := D.s _ _ ha
            rw [upd_ne (ne_of_none this n0)]
            exact this
          have g0 := (Go.refl D).put0 (o := .tup []) n0
          revert g0
          generalize upd H e0 (.tup []) = H1
          intro g0
          by_cases e1 : ys.isEmpty = true
          · refine iteNo (by rw [e1]; rfl) (iteNo rfl ?_)
            exact ⟨t, rfl, g0.more (by omega)⟩
          refine iteYes (by simpa using e1) ?_
          have hpos : 0 < ys.length := by
            cases ys with
            | nil => exact absurd rfl e1
            | cons _ _ => simp
          refine ⟨_, rfl, Hs, p, l, t, 6, rfl, g0.d, t0, by omega, by omega, by omega, fun H2 r g2 r0 r1' => ⟨_, _, rfl, rfl, _, rfl, ?_⟩⟩
          have g3 := (g0.trans g2).more (n' := 1) (by omega)
          by_cases e2 : r > 0
          case neg =>
            refine iteNo (decide_eq_false e2) ?_
            exact ⟨_, rfl, g3⟩
          refine iteYes (decide_eq_true e2) ?_
          refine ⟨fun σ H' => ∃ t' j way, σ = [some (.ref p), some (.ref a), some (.int ((j : Nat) : Int)), some (.int way), none] ∧ Go p l Hs H t Hs H' t' 3 ∧ j < es.length, ?_, ?_⟩
          · refine ⟨_, rfl, _, rfl, a, ys, rfl, .inr (SqT.of (g3.d.s _ _ ha)), Hs, p, l, _, _, rfl, g3.d, by omega, by omega, by omega, by omega, fun H3 at' g4 a0 a1 => ?_⟩
            refine ⟨_, rfl, Hs, p, l, _, 9, rfl, g4.d, by omega, by omega, by omega, by omega, fun H4 way g5 w0 w1 => ⟨_, _, rfl, ?_⟩⟩
            obtain ⟨j, rfl⟩ := Int.eq_ofNat_of_zero_le a0
            exact ⟨_, j, way, rfl, ((g3.trans g4).trans g5).more (by omega), by omega⟩
          rintro σ5 H5 ⟨t5, j, way, rfl, g, hj⟩
          have gt := g.t1
          have gt0 := g.t0
          have ha5 := g.s _ _ ha
          have qa5 := DqAll.same g.s _ _ qa
          have c1 := wtAll_cut j es
          have c2 := wtAll_cut (j + 1) es
          have c3 : wtAll (es.drop (j + 1)) ≤ wtAll (es.drop j) := by
            have := wtAll_cut 1 (es.drop j)
            rw [List.drop_drop] at this
            omega
          refine ⟨_, rfl, rfl, _, rfl, ?_⟩
          by_cases w0 : way = 0
          · refine iteYes (by rw [w0]; simp) ?_
            refine ⟨_, rfl, _, rfl, _, rfl, ?_⟩
            dsimp only [tNoPart, tPart]
            refine slA_go g.d ha5 qa5 fun B2 A2 v2 z2 a2 k2 e2 f2 d2 => ?_
            subst e2
            have d2 := (congrArg (DqAll B2 z2) (pc_take es j)).mp d2
            have ha2 := k2.s _ _ ha5
            have qa2 := DqAll.same k2.s _ _ qa5
            refine ⟨_, rfl, _, rfl, _, _, rfl, rfl, _, rfl, ?_⟩
            dsimp only [tNoPart, tPart]
            refine slA_go k2.d ha2 qa2 fun B3 A3 v3 z3 a3 k3 e3 f3 d3 => ?_
            subst e3
            have d3 := (congrArg (DqAll B3 z3) (pc_drop es (j + 1))).mp d3
            have d2' := DqAll.same k3.s _ _ d2
            refine catA_go k3.d (k3.s _ _ f2) f3 d2' d3 ?_ fun B4 A4 v4 k4 d4 => ?_
            · rw [dq_len d2, dq_len d3, List.length_take, List.length_drop, sizeLine_eq]
              omega
            · refine k _ _ _ _ _ (((g.trans (k2.trans (k3.trans k4)))).more (by omega)) d4 ⟨big (gd_items hg (n := w + 200) (m := 2 * W) ?_ ?_ ?_).1 (by omega), by show (es.take _ ++ es.drop _).length ≤ nn; rw [List.length_append, List.length_take, List.length_drop]; omega⟩
              · rw [List.length_append, List.length_take, List.length_drop]
                omega
              · intro x hx
                rcases List.mem_append.mp hx with z | z
                · exact List.mem_of_mem_take z
                · exact List.mem_of_mem_drop z
              · rw [wtAll_app]
                omega
          refine iteNo (by simpa using w0) ?_
          refine ⟨_, rfl, rfl, _, rfl, ?_⟩
          by_cases w1 : way = 1
          · refine iteYes (by rw [w1]; simp) ?_
            refine ⟨_, rfl, _, rfl, _, _, rfl, rfl, _, rfl, ?_⟩
            dsimp only [tNoPart, tPart]
            refine slA_go g.d ha5 qa5 fun B2 A2 v2 z2 a2 k2 e2 f2 d2 => ?_
            subst e2
            have d2 := (congrArg (DqAll B2 z2) (pc_take es (j + 1))).mp d2
            have ha2 := k2.s _ _ ha5
            have qa2 := DqAll.same k2.s _ _ qa5
            refine ⟨_, rfl, _, rfl, _, rfl, ?_⟩
            dsimp only [tNoPart, tPart]
            refine slA_go k2.d ha2 qa2 fun B3 A3 v3 z3 a3 k3 e3 f3 d3 => ?_
            subst e3
            have d3 := (congrArg (DqAll B3 z3) (pc_drop es j)).mp d3
            have d2' := DqAll.same k3.s _ _ d2
            refine catA_go k3.d (k3.s _ _ f2) f3 d2' d3 ?_ fun B4 A4 v4 k4 d4 => ?_
            · rw [dq_len d2, dq_len d3, List.length_take, List.length_drop, sizeLine_eq]
              omega
            · refine k _ _ _ _ _ (((g.trans (k2.trans (k3.trans k4)))).more (by omega)) d4 ⟨big (gd_items hg (n := w + 200) (m := 2 * W) ?_ ?_ ?_).1 (by omega), by show (es.take _ ++ es.drop _).length ≤ nn; rw [List.length_append, List.length_take, List.length_drop]; omega⟩
              · rw [List.length_append, List.length_take, List.length_drop]
                omega
              · intro x hx
                rcases List.mem_append.mp hx with z | z
                · exact List.mem_of_mem_take z
                · exact List.mem_of_mem_drop z
              · rw [wtAll_app]
                omega
          refine iteNo (by simpa using w1) ?_
          refine ⟨_, rfl, rfl, _, rfl, ?_⟩
          by_cases w2 : way = 2
          · refine iteYes (by rw [w2]; simp) ?_
            refine ⟨_, rfl, a, ys, rfl, SqT.of (g.d.s _ _ ha5), fun e4 n4 => ?_⟩
            refine k _ _ _ _ _ ((g.new n4).more (by omega)) (dq_new (g.d.s.free n4) qa5.rev) ⟨big (gd_items hg (n := w + 200) (m := 2 * W) ?_ ?_ ?_).1 (by omega), by show es.reverse.length ≤ nn; rw [List.length_reverse]; omega⟩
            · rw [List.length_reverse]
              omega
            · exact fun x hx => List.mem_reverse.mp hx
            · rw [wtAll_rev]
              omega
          refine iteNo (by simpa using w2) ?_
          refine ⟨_, rfl, rfl, _, rfl, ?_⟩
          by_cases w3 : way = 3
          · refine iteYes (by rw [w3]; simp) ?_
            refine ⟨_, rfl, a, ys, rfl, .inr (SqT.of (g.d.s _ _ ha5)), fun e4 n4 => ?_⟩
            refine k _ _ _ _ _ ((g.new n4).more (by omega)) (.lst upd_same (DqAll.same (same_new (g.d.s.free n4)) _ _ qa5)) ⟨big (gd_items hg (n := w + 200) (m := 2 * W) ?_ ?_ ?_).2 (by omega), Nat.zero_le _⟩
            · omega
            · exact fun x hx => hx
            · omega
          refine iteNo (by simpa using w3) ?_
          refine ⟨_, rfl, _, rfl, _, rfl, ?_⟩
          dsimp only [tNoPart, tPart]
          refine slA_go g.d ha5 qa5 fun B2 A2 v2 z2 a2 k2 e2 f2 d2 => ?_
          subst e2
          have d2 := (congrArg (DqAll B2 z2) (pc_take es j)).mp d2
          have ha2 := k2.s _ _ ha5
          have qa2 := DqAll.same k2.s _ _ qa5
          have hj' : j < ys.length := by omega
          obtain ⟨di, hdi, qdi⟩ := DqAll.at qa2 (List.getElem?_eq_getElem hj')
          have wi := wtAll_get hdi
          have mi := List.mem_of_getElem? hdi
          have gi : Gd w (pp - 1) (wt di) di := ⟨Nat.le_trans (wdAll_mem mi) (by omega), by have := depth_mem mi; omega, Nat.le_refl _, txAll_mem hg.tx mi⟩
          refine ⟨_, rfl, _, rfl, _, rfl, a, ys, _, ys[j], rfl, rfl, SqT.of (k2.d.s _ _ ha2), atI_nat (List.getElem?_eq_getElem hj'), B2, p, l, t5, ys[j], di, w, pp - 1, wt di, (itemsD di).length + 3, rfl, k2.d, by omega, by omega, qdi, gi, hw, by omega, by omega, by omega, fun B3 A3 t3 v3 d3 k3 q3 g3' => ?_⟩
          replace g3' := g3'.1
          have gt3 := k3.t1
          have gt30 := k3.t0
          refine ⟨(by show 1 ≤ sizeLine; decide), fun e4 n4 => ?_⟩
          have k4 := (Go.refl k3.d).new (o := .tup [v3]) n4
          have f4 : upd B3 e4 (.tup [v3]) e4 = some (.tup [v3]) := upd_same
          have d4 : DqAll (upd B3 e4 (.tup [v3])) [v3] [d3] := .cons (Dq.same k4.s _ _ q3) .nil
          have d2 := DqAll.same (k3.s.trans k4.s) _ _ d2
          have f2 := (k3.s.trans k4.s) _ _ f2
          have ha4 := (k3.s.trans k4.s) _ _ ha2
          have qa4 := DqAll.same (k3.s.trans k4.s) _ _ qa2
          revert k4 f4 d4 d2 f2 ha4 qa4
          generalize upd A3 e4 (.tup [v3]) = A4
          generalize upd B3 e4 (.tup [v3]) = B4
          intro k4 f4 d4 d2 f2 ha4 qa4
          refine catA_go k4.d f2 f4 d2 d4 ?_ fun B5 A5 v5 k5 d5 => ?_
          · rw [dq_len d2, List.length_take, sizeLine_eq]
            show min j es.length + 1 ≤ _
            omega
          have ha5' := k5.s _ _ ha4
          have qa5' := DqAll.same k5.s _ _ qa4
          refine ⟨_, rfl, _, rfl, _, _, rfl, rfl, _, rfl, ?_⟩
          dsimp only [tNoPart, tPart]
          refine slA_go k5.d ha5' qa5' fun B6 A6 v6 z6 a6 k6 e6 f6 d6 => ?_
          subst e6
          have d6 := (congrArg (DqAll B6 z6) (pc_drop es (j + 1))).mp d6
          have d5' := Dq.same k6.s _ _ d5
          cases d5' with
          | tup f5 d5 =>
            refine catA_go k6.d f5 f6 d5 d6 ?_ fun B7 A7 v7 k7 d7 => ?_
            · rw [dq_len d5, dq_len d6, List.length_append, List.length_take, List.length_drop, sizeLine_eq]
              show min j es.length + 1 + _ ≤ _
              omega
            · refine k _ _ _ _ _ (((g.trans (k2.trans (k3.trans (k4.trans (k5.trans (k6.trans k7))))))).more (by omega)) d7 ⟨?_, by show (es.take j ++ [d3] ++ es.drop (j + 1)).length ≤ nn; rw [List.length_append, List.length_append, List.length_take, List.length_drop]; show min j es.length + 1 + _ ≤ nn; omega⟩
              have m3 := g3'.wd
              have p3 := g3'.dp
              have w3 := g3'.wt
              refine ⟨?_, ?_, ?_, ?_⟩
              · refine Nat.max_le.mpr ⟨?_, wdAll_bound fun x hx => ?_⟩
                · rw [List.length_append, List.length_append, List.length_take, List.length_drop]
                  show min j es.length + 1 + _ ≤ _
                  omega
                · rcases List.mem_append.mp hx with z | z
                  · rcases List.mem_append.mp z with z | z
                    · exact Nat.le_trans (wdAll_mem (List.mem_of_mem_take z)) (by omega)
                    · rw [List.mem_singleton.mp z]
                      exact m3
                  · exact Nat.le_trans (wdAll_mem (List.mem_of_mem_drop z)) (by omega)
              · refine Nat.succ_le_succ (dpAll_bound fun x hx => ?_)
                rcases List.mem_append.mp hx with z | z
                · rcases List.mem_append.mp z with z | z
                  · exact Nat.le_trans (depth_mem (List.mem_of_mem_take z)) (by omega)
                  · rw [List.mem_singleton.mp z]
                    omega
                · exact Nat.le_trans (depth_mem (List.mem_of_mem_drop z)) (by omega)
              · show wtAll _ + 3 ≤ _
                rw [wtAll_app, wtAll_app]
                have : wtAll [d3] = wt d3 + 2 := rfl
                omega
              · refine txAll_bound fun x hx => ?_
                rcases List.mem_append.mp hx with z | z
                · rcases List.mem_append.mp z with z | z
                  · exact txAll_mem hg.tx (List.mem_of_mem_take z)
                  · rw [List.mem_singleton.mp z]
                    exact g3'.tx
                · exact txAll_mem hg.tx (List.mem_of_mem_drop z)
        | _ => exact absurd e (by first | decide | (intro z; cases z))
      · refine iteNo (by simpa using e) (iteNo rfl ?_)
        exact ⟨t, rfl, (Go.refl D).more (by omega)⟩
    rintro σ1 H1 ⟨t2, rfl, g1⟩
    have g1t := g1.t1
    have g1t0 := g1.t0
    have hv1 := Dq.same (g1.s.trans g1.d.s) _ _ hv
    refine ⟨fun σ H' => ∃ t', σ = [some (.ref p), some v, none, none, none] ∧ Go p l Hs H t Hs H' t' 2, ?_, ?_⟩
    · refine ⟨_, rfl, v, d, "int", rfl, by decide, hv1, _, rfl, ?_⟩
      by_cases e : isA "int" d = true
      case neg =>
        refine iteNo (by simpa using e) (iteNo rfl ?_)
        exact ⟨t2, rfl, g1.more (by omega)⟩
      refine iteYes e ?_
      refine ⟨_, rfl, v, d, "bool", rfl, by decide, hv1, _, rfl, ?_⟩
      by_cases e2 : isA "bool" d = true
      · refine iteNo (by rw [e2]; rfl) (iteNo rfl ?_)
        exact ⟨t2, rfl, g1.more (by omega)⟩
      refine iteYes (by simpa using e2) ?_
      refine ⟨_, rfl, Hs, p, l, t2, 3, rfl, g1.d, by omega, by omega, by omega, by omega, fun H2 r g2 r0 r1' => ⟨_, _, rfl, rfl, _, rfl, ?_⟩⟩
      have g3 := (g1.trans g2).more (n' := 2) (by omega)
      by_cases e3 : r > 0
      case neg =>
        refine iteNo (decide_eq_false e3) ?_
        exact ⟨_, rfl, g3⟩
      refine iteYes (decide_eq_true e3) ?_
      obtain ⟨i, rfl⟩ : ∃ i, d = .int i := by
        cases d with
        | int i => exact ⟨i, rfl⟩
        | bool b => exact absurd rfl e2
        | _ => exact absurd e (by first | decide | (intro z; cases z))
      cases hv
      refine ⟨_, rfl, ?_⟩
      refine pick_lits (ds := four4) g3.d (by omega) (by omega) (by decide) (by decide) rfl (litsg_cons litg_int (litsg_cons litg_neg (litsg_cons litg_int (litsg_cons (litg_op2 (fun _ _ q => ⟨_, _, rfl, rfl, ⟨by decide, by decide, by decide⟩, q⟩) fun _ => .int _) litsg_nil)))) fun H4 H4' v2 d2 g4 q2 m2 => ?_
      have wi : i.natAbs.log2 ≤ w := hg.wd
      have fin : ∀ j : Int, j.natAbs.log2 ≤ 130 → Og w pp W (.int (i + j)) := fun j hj => by
        have := log_sum wi hj
        exact ⟨by show (i + j).natAbs.log2 ≤ _; omega, Nat.zero_le _, by show (i + j).natAbs.log2 + 2 ≤ _; omega, rfl⟩
      obtain ⟨j, rfl, hj⟩ : ∃ j, d2 = .int j ∧ j.natAbs.log2 ≤ 130 := by
        simp only [four4, List.mem_cons, List.not_mem_nil, or_false] at m2
        rcases m2 with rfl | rfl | rfl | rfl
        · exact ⟨_, rfl, by decide +kernel⟩
        · exact ⟨_, rfl, by decide +kernel⟩
        · exact ⟨_, rfl, by decide +kernel⟩
        · exact ⟨_, rfl, by decide +kernel⟩
      cases q2
      exact ⟨_, _, rfl, rfl, k _ _ _ _ _ ((g3.trans g4).more (by omega)) (.int _) ⟨fin j hj, Nat.zero_le _⟩⟩
    rintro σ2 H2 ⟨t3, rfl, g2⟩
    have g2t := g2.t1
    have g2t0 := g2.t0
    refine asg_litsG (ds := odd17) g2.d lits17 (by decide) fun H3 H3' q vs g4 dvs hq qp ql lv => ?_
    have lv : vs.length = 17 := lv
    refine ⟨_, rfl, _, rfl, H3, p, l, t3, q, vs, rfl, g4.d, by omega, by omega, hq, qp, ql, by omega, by omega, fun H' i v2 gv hv2 => ?_⟩
    obtain ⟨d2, hd2, hq2⟩ := DqAll.at dvs hv2
    exact k _ _ _ _ _ ((g2.trans (g4.trans gv)).more (by omega)) hq2 ⟨odd17_ok d2 (List.mem_of_getElem? hd2), Nat.le_trans (odd17_few d2 (List.mem_of_getElem? hd2)) nn3⟩
end
end KL
set_option Elab.async false
set_option linter.all false
set_option maxRecDepth 100000
set_option maxHeartbeats 4000000
namespace PySem
namespace SeqAt
open AutoSeq1 (wpAny_loadPart')
open MeetsSeq
theorem kd_sub_int_dict : isSubtype (.type "int") (.type "dict") = pure false := by rw [isSubtype_type]; kernel_rfl
theorem kd_sub_bool_dict : isSubtype (.type "bool") (.type "dict") = pure false := by rw [isSubtype_type]; kernel_rfl
theorem kd_sub_NoneType_dict : isSubtype (.type "NoneType") (.type "dict") = pure false := by rw [isSubtype_type]; kernel_rfl
theorem kd_sub_list_dict : isSubtype (.type "list") (.type "dict") = pure false := by rw [isSubtype_type]; kernel_rfl
theorem kd_sub_tuple_dict : isSubtype (.type "tuple") (.type "dict") = pure false := by rw [isSubtype_type]; kernel_rfl
theorem kd_sub_dict_int : isSubtype (.type "dict") (.type "int") = pure false := by rw [isSubtype_type]; kernel_rfl
theorem kd_sub_dict_bool : isSubtype (.type "dict") (.type "bool") = pure false := by rw [isSubtype_type]; kernel_rfl
theorem kd_sub_dict_NoneType : isSubtype (.type "dict") (.type "NoneType") = pure false := by rw [isSubtype_type]; kernel_rfl
theorem kd_sub_dict_list : isSubtype (.type "dict") (.type "list") = pure false := by rw [isSubtype_type]; kernel_rfl
theorem kd_sub_dict_tuple : isSubtype (.type "dict") (.type "tuple") = pure false := by rw [isSubtype_type]; kernel_rfl
/-- a dict stands at l -/
def IsDct (s : Shared) (l : Addr) : Prop := ∃ dd es n sl, s.heap.get? l = some ⟨.type "dict", dd, .dict es n, sl⟩
theorem int_eq_dict_bool (b : Bool) (l : Addr) (c : Value) (es : Array DictEntry) (n : Nat) (dd : Option Addr) (sl : Array (Option Value)) :
    Meets (Builtin.«int.__eq__» ⟨[.bool b, .ref l], []⟩) (fun _ R s => s.heap.get? l = some { cls := c, dict := dd, data := .dict es n, slots := sl } ∧ R (.ok (.ret .notImplemented)) s) :=
  .of_wp fun prog w A R s h => by obtain ⟨hp, g, d, tk, os⟩ := s; obtain ⟨hl, h⟩ := h; wp_walk using wpAny_loadPart' hl, wpAny_load hl; exact ⟨_, rfl, h⟩
theorem int_eq_dict_int (b : Int) (u : Tok) (l : Addr) (c : Value) (es : Array DictEntry) (n : Nat) (dd : Option Addr) (sl : Array (Option Value)) :
    Meets (Builtin.«int.__eq__» ⟨[.int b u, .ref l], []⟩) (fun _ R s => s.heap.get? l = some { cls := c, dict := dd, data := .dict es n, slots := sl } ∧ R (.ok (.ret .notImplemented)) s) :=
  .of_wp fun prog w A R s h => by obtain ⟨hp, g, d, tk, os⟩ := s; obtain ⟨hl, h⟩ := h; wp_walk using wpAny_loadPart' hl, wpAny_load hl; exact ⟨_, rfl, h⟩
theorem list_eq_dict (l b : Addr) (items : Array Value) (es : Array DictEntry) (n n2 : Nat) (dd dd2 : Option Addr) (sl sl2 : Array (Option Value)) :
    Meets (Builtin.«list.__eq__» ⟨[.ref l, .ref b], []⟩) (fun _ R s => s.heap.get? l = some { cls := .type "list", dict := dd, data := .seq items n, slots := sl } ∧ s.heap.get? b = some { cls := .type "dict", dict := dd2, data := .dict es n2, slots := sl2 } ∧ R (.ok (.ret .notImplemented)) s) :=
  .of_wp fun prog w A R s h => by obtain ⟨hp, g, d, tk, os⟩ := s; obtain ⟨hl, hb, h⟩ := h; have f1 := kd_sub_dict_list; wp_walk using wpAny_loadPart' hl, wpAny_loadPart' hb; exact ⟨_, rfl, h⟩
theorem tuple_eq_dict (l b : Addr) (items : Array Value) (es : Array DictEntry) (n n2 : Nat) (dd dd2 : Option Addr) (sl sl2 : Array (Option Value)) :
    Meets (Builtin.«tuple.__eq__» ⟨[.ref l, .ref b], []⟩) (fun _ R s => s.heap.get? l = some { cls := .type "tuple", dict := dd, data := .seq items n, slots := sl } ∧ s.heap.get? b = some { cls := .type "dict", dict := dd2, data := .dict es n2, slots := sl2 } ∧ R (.ok (.ret .notImplemented)) s) :=
  .of_wp fun prog w A R s h => by obtain ⟨hp, g, d, tk, os⟩ := s; obtain ⟨hl, hb, h⟩ := h; have f1 := kd_sub_dict_tuple; wp_walk using wpAny_loadPart' hl, wpAny_loadPart' hb; exact ⟨_, rfl, h⟩
section
variable {A : Around} {s : Shared}
theorem dict_eq_other {prog : Program} {w : World} {E : Value → Shared → Prop} {l : Addr} {o : Obj} {x : Value} {T : String} (tx : s.TypeIs x T) (hsub : isSubtype (.type T) (.type "dict") = pure false) (ho : s.heap.get? l = some o) (hc : o.cls = .type "dict") (Q' : Value → Shared → Prop) (h : Q' .notImplemented s) :
    wpAny (model prog w) A (call (.builtin "dict.__eq__") [.ref l, x]) Q' E s := by
  have ht : s.TypeIs (.ref l) "dict" := ⟨o, ho, hc⟩
  refine wpAny_call_entry PySem.F.slot_dict_eq ht PySem.F.entry_dict_eq ?_ (PySem.F.args_dict_eq_2 _ _)
  show wpAny _ _ (Builtin.Dict.dictSlotArgs "__eq__" ⟨[.ref l, x], []⟩ >>= _) _ _ s
  refine wpAny_bind ?_
  unfold Builtin.Dict.dictSlotArgs
  refine wpAny_bind (wpAny_notOrdered_dict ht ?_)
  show wpAny _ _ (pure (Value.ref l, x)) _ _ s
  refine wpAny_pure ?_
  refine wpAny_bind (wpAny_isInstance (T := T) tx hsub ?_)
  simp only [Bool.not_false, if_true]
  exact wpAny_bind (wpAny_rule (wpAny_bind (wpAny_pure (wpAny_pure ⟨_, rfl, h⟩))))
theorem ne_seq_dict {l b : Addr} {T : String} {o : Obj} (ho : s.heap.get? l = some o) (hc : o.cls = .type T) (hT : T ≠ "dict") (hd : IsDct s b) : l ≠ b := fun e => by
  subst e
  obtain ⟨dd, es, n, sl, q⟩ := hd
  rw [ho] at q
  cases q
  injection hc with hc
  exact hT hc.symm

theorem RcAt.none_dict {l : Addr} (hd : IsDct s l) (hu : A.units < cLine) : RcAt A s .none (.ref l) false := fun prog w E Q h => by
  obtain ⟨dd, es, n, sl, ho⟩ := hd
  exact rc_eq_decline_or (k := false) rfl ⟨_, ho, rfl⟩ (by decide) kd_sub_dict_NoneType F.slot_NoneType_eq F.slot_dict_eq_refl
    (fun _ hq => call_gives F.slot_NoneType_eq rfl F.entry_NoneType_eq (F.args_NoneType_eq_2 _ _) (NoneType___eq___none_ref_0 l) hq)
    (fun _ hq => dict_eq_other (s := s) (x := .none) (T := "NoneType") rfl kd_sub_NoneType_dict ho rfl _ hq)
    (fun _ hq => wpAny_of_eq (rfl : isSame .none (.ref l) = pure false) hq) (.inr hu) h
theorem EqAt.none_dict {l : Addr} (hd : IsDct s l) (hu : A.units < cLine) : EqAt A s .none (.ref l) false := fun prog w E Q h => by
  unfold eqBool
  refine wpAny_holding ?_
  refine wpAny_ite_split (fun hab => absurd (eq_of_beq hab) nofun) (fun _ => ?_)
  exact wpAny_bind (RcAt.none_dict hd hu prog w E _ (wpAny_truthy_bool h))
theorem RcAt.dict_none {l : Addr} (hd : IsDct s l) (hu : A.units < cLine) : RcAt A s (.ref l) .none false := fun prog w E Q h => by
  obtain ⟨dd, es, n, sl, ho⟩ := hd
  exact rc_eq_decline_or (k := false) ⟨_, ho, rfl⟩ rfl (by decide) kd_sub_NoneType_dict F.slot_dict_eq F.slot_NoneType_eq_refl
    (fun _ hq => dict_eq_other (s := s) (x := .none) (T := "NoneType") rfl kd_sub_NoneType_dict ho rfl _ hq)
    (fun _ hq => call_gives F.slot_NoneType_eq_refl rfl F.entry_NoneType_eq (F.args_NoneType_eq_2 _ _) (NoneType___eq___none_ref_0 l) hq)
    (fun _ hq => wpAny_of_eq (rfl : isSame (.ref l) .none = pure false) hq) (.inr hu) h
theorem EqAt.dict_none {l : Addr} (hd : IsDct s l) (hu : A.units < cLine) : EqAt A s (.ref l) .none false := fun prog w E Q h => by
  unfold eqBool
  refine wpAny_holding ?_
  refine wpAny_ite_split (fun hab => absurd (eq_of_beq hab) nofun) (fun _ => ?_)
  exact wpAny_bind (RcAt.dict_none hd hu prog w E _ (wpAny_truthy_bool h))
theorem RcAt.bool_dict {l : Addr} (b : Bool) (hd : IsDct s l) (hu : A.units < cLine) : RcAt A s (.bool b) (.ref l) false := fun prog w E Q h => by
  obtain ⟨dd, es, n, sl, ho⟩ := hd
  exact rc_eq_decline_or (k := false) rfl ⟨_, ho, rfl⟩ (by decide) kd_sub_dict_bool F.slot_bool_eq F.slot_dict_eq_refl
    (fun _ hq => call_meets F.slot_bool_eq rfl F.entry_int_eq (F.args_int_eq_2 _ _) (int_eq_dict_bool b l (.type "dict") es n dd sl) ⟨ho, hq⟩)
    (fun _ hq => dict_eq_other (s := s) (x := (.bool b)) (T := "bool") rfl kd_sub_bool_dict ho rfl _ hq)
    (fun _ hq => wpAny_of_eq (rfl : isSame (.bool b) (.ref l) = pure false) hq) (.inr hu) h
theorem EqAt.bool_dict {l : Addr} (b : Bool) (hd : IsDct s l) (hu : A.units < cLine) : EqAt A s (.bool b) (.ref l) false := fun prog w E Q h => by
  unfold eqBool
  refine wpAny_holding ?_
  refine wpAny_ite_split (fun hab => absurd (eq_of_beq hab) nofun) (fun _ => ?_)
  exact wpAny_bind (RcAt.bool_dict b hd hu prog w E _ (wpAny_truthy_bool h))
theorem RcAt.dict_bool {l : Addr} (b : Bool) (hd : IsDct s l) (hu : A.units < cLine) : RcAt A s (.ref l) (.bool b) false := fun prog w E Q h => by
  obtain ⟨dd, es, n, sl, ho⟩ := hd
  exact rc_eq_decline_or (k := false) ⟨_, ho, rfl⟩ rfl (by decide) kd_sub_bool_dict F.slot_dict_eq F.slot_bool_eq_refl
    (fun _ hq => dict_eq_other (s := s) (x := (.bool b)) (T := "bool") rfl kd_sub_bool_dict ho rfl _ hq)
    (fun _ hq => call_meets F.slot_bool_eq_refl rfl F.entry_int_eq (F.args_int_eq_2 _ _) (int_eq_dict_bool b l (.type "dict") es n dd sl) ⟨ho, hq⟩)
    (fun _ hq => wpAny_of_eq (rfl : isSame (.ref l) (.bool b) = pure false) hq) (.inr hu) h
theorem EqAt.dict_bool {l : Addr} (b : Bool) (hd : IsDct s l) (hu : A.units < cLine) : EqAt A s (.ref l) (.bool b) false := fun prog w E Q h => by
  unfold eqBool
  refine wpAny_holding ?_
  refine wpAny_ite_split (fun hab => absurd (eq_of_beq hab) nofun) (fun _ => ?_)
  exact wpAny_bind (RcAt.dict_bool b hd hu prog w E _ (wpAny_truthy_bool h))
theorem RcAt.int_dict {l : Addr} (b : Int) (u : Tok) (hd : IsDct s l) (hu : A.units < cLine) : RcAt A s (.int b u) (.ref l) false := fun prog w E Q h => by
  obtain ⟨dd, es, n, sl, ho⟩ := hd
  exact rc_eq_decline_or (k := false) (typeIs_int s b u) ⟨_, ho, rfl⟩ (by decide) kd_sub_dict_int F.slot_int_eq F.slot_dict_eq_refl
    (fun _ hq => call_meets F.slot_int_eq (typeIs_int s b u) F.entry_int_eq (F.args_int_eq_2 _ _) (int_eq_dict_int b u l (.type "dict") es n dd sl) ⟨ho, hq⟩)
    (fun _ hq => dict_eq_other (s := s) (x := (.int b u)) (T := "int") (typeIs_int s b u) kd_sub_int_dict ho rfl _ hq)
    (fun _ hq => wpAny_of_eq (rfl : isSame (.int b u) (.ref l) = pure false) hq) (.inr hu) h
theorem EqAt.int_dict {l : Addr} (b : Int) (u : Tok) (hd : IsDct s l) (hu : A.units < cLine) : EqAt A s (.int b u) (.ref l) false := fun prog w E Q h => by
  unfold eqBool
  refine wpAny_holding ?_
  refine wpAny_ite_split (fun hab => absurd (eq_of_beq hab) nofun) (fun _ => ?_)
  exact wpAny_bind (RcAt.int_dict b u hd hu prog w E _ (wpAny_truthy_bool h))
theorem RcAt.dict_int {l : Addr} (b : Int) (u : Tok) (hd : IsDct s l) (hu : A.units < cLine) : RcAt A s (.ref l) (.int b u) false := fun prog w E Q h => by
  obtain ⟨dd, es, n, sl, ho⟩ := hd
  exact rc_eq_decline_or (k := false) ⟨_, ho, rfl⟩ (typeIs_int s b u) (by decide) kd_sub_int_dict F.slot_dict_eq F.slot_int_eq_refl
    (fun _ hq => dict_eq_other (s := s) (x := (.int b u)) (T := "int") (typeIs_int s b u) kd_sub_int_dict ho rfl _ hq)
    (fun _ hq => call_meets F.slot_int_eq_refl (typeIs_int s b u) F.entry_int_eq (F.args_int_eq_2 _ _) (int_eq_dict_int b u l (.type "dict") es n dd sl) ⟨ho, hq⟩)
    (fun _ hq => wpAny_of_eq (rfl : isSame (.ref l) (.int b u) = pure false) hq) (.inr hu) h
theorem EqAt.dict_int {l : Addr} (b : Int) (u : Tok) (hd : IsDct s l) (hu : A.units < cLine) : EqAt A s (.ref l) (.int b u) false := fun prog w E Q h => by
  unfold eqBool
  refine wpAny_holding ?_
  refine wpAny_ite_split (fun hab => absurd (eq_of_beq hab) nofun) (fun _ => ?_)
  exact wpAny_bind (RcAt.dict_int b u hd hu prog w E _ (wpAny_truthy_bool h))
theorem EqAt.dict_str' {l : Addr} (b : Str) (u : Tok) (hd : IsDct s l) (hu : A.units < cLine) : EqAt A s (.ref l) (.str b u) false := fun prog w E Q h => by
  obtain ⟨dd, es, n, sl, ho⟩ := hd
  unfold eqBool
  refine wpAny_holding ?_
  refine wpAny_ite_split (fun hab => absurd (eq_of_beq hab) nofun) (fun _ => ?_)
  exact wpAny_bind (RcAt.dict_str b u ho hu prog w E _ (wpAny_truthy_bool h))
theorem RcAt.list_dict {l b : Addr} {items : Array Value} (hl : s.heap.IsList l items) (hb : IsDct s b) (hu : A.units < cLine) : RcAt A s (.ref l) (.ref b) false := fun prog w E Q h => by
  obtain ⟨⟨cls, dd, data, sl⟩, ho, hc, n, hd⟩ := id hl
  have hne := ne_seq_dict ho hc (by decide) hb
  obtain ⟨dd2, es, n2, sl2, ho2⟩ := hb
  simp only at hc hd
  subst hc hd
  exact (rc_eq_decline_or (k := false) ⟨_, ho, rfl⟩ ⟨_, ho2, rfl⟩ (by decide) kd_sub_dict_list F.slot_list_eq F.slot_dict_eq_refl
    (fun _ hq => call_meets F.slot_list_eq ⟨_, ho, rfl⟩ F.entry_list_eq (F.args_list_eq_2 _ _) (list_eq_dict l b items es n n2 dd dd2 sl sl2) ⟨ho, ho2, hq⟩)
    (fun _ hq => dict_eq_other (s := s) (x := .ref l) (T := "list") ⟨_, ho, rfl⟩ kd_sub_list_dict ho2 rfl _ hq)
    (fun _ hq => wpAny_isSame_ref_other hne ho ho2 (by simp) hq) (.inr hu) h)
theorem RcAt.dict_list {l b : Addr} {items : Array Value} (hb : IsDct s b) (hl : s.heap.IsList l items) (hu : A.units < cLine) : RcAt A s (.ref b) (.ref l) false := fun prog w E Q h => by
  obtain ⟨⟨cls, dd, data, sl⟩, ho, hc, n, hd⟩ := id hl
  have hne := ne_seq_dict ho hc (by decide) hb
  obtain ⟨dd2, es, n2, sl2, ho2⟩ := hb
  simp only at hc hd
  subst hc hd
  exact (rc_eq_decline_or (k := false) ⟨_, ho2, rfl⟩ ⟨_, ho, rfl⟩ (by decide) kd_sub_list_dict F.slot_dict_eq F.slot_list_eq_refl
    (fun _ hq => dict_eq_other (s := s) (x := .ref l) (T := "list") ⟨_, ho, rfl⟩ kd_sub_list_dict ho2 rfl _ hq)
    (fun _ hq => call_meets F.slot_list_eq_refl ⟨_, ho, rfl⟩ F.entry_list_eq (F.args_list_eq_2 _ _) (list_eq_dict l b items es n n2 dd dd2 sl sl2) ⟨ho, ho2, hq⟩)
    (fun _ hq => wpAny_isSame_ref_other' hne.symm ho2 ho (by simp) hq) (.inr hu) h)
theorem EqAt.list_dict {l b : Addr} {items : Array Value} (hl : s.heap.IsList l items) (hb : IsDct s b) (hu : A.units < cLine) : EqAt A s (.ref l) (.ref b) false := by
  obtain ⟨o, ho, hc, _⟩ := id hl
  exact .of_refs (ne_seq_dict ho hc (by decide) hb) (.list_dict hl hb hu)
theorem EqAt.dict_list {l b : Addr} {items : Array Value} (hb : IsDct s b) (hl : s.heap.IsList l items) (hu : A.units < cLine) : EqAt A s (.ref b) (.ref l) false := by
  obtain ⟨o, ho, hc, _⟩ := id hl
  exact .of_refs (ne_seq_dict ho hc (by decide) hb).symm (.dict_list hb hl hu)
theorem RcAt.tuple_dict {l b : Addr} {items : Array Value} (hl : s.heap.IsTuple l items) (hb : IsDct s b) (hu : A.units < cLine) : RcAt A s (.ref l) (.ref b) false := fun prog w E Q h => by
  obtain ⟨⟨cls, dd, data, sl⟩, ho, hc, n, hd⟩ := id hl
  have hne := ne_seq_dict ho hc (by decide) hb
  obtain ⟨dd2, es, n2, sl2, ho2⟩ := hb
  simp only at hc hd
  subst hc hd
  exact (rc_eq_decline_or (k := false) ⟨_, ho, rfl⟩ ⟨_, ho2, rfl⟩ (by decide) kd_sub_dict_tuple F.slot_tuple_eq F.slot_dict_eq_refl
    (fun _ hq => call_meets F.slot_tuple_eq ⟨_, ho, rfl⟩ F.entry_tuple_eq (F.args_tuple_eq_2 _ _) (tuple_eq_dict l b items es n n2 dd dd2 sl sl2) ⟨ho, ho2, hq⟩)
    (fun _ hq => dict_eq_other (s := s) (x := .ref l) (T := "tuple") ⟨_, ho, rfl⟩ kd_sub_tuple_dict ho2 rfl _ hq)
    (fun _ hq => wpAny_isSame_ref_other' hne ho ho2 (by simp) hq) (.inr hu) h)
theorem RcAt.dict_tuple {l b : Addr} {items : Array Value} (hb : IsDct s b) (hl : s.heap.IsTuple l items) (hu : A.units < cLine) : RcAt A s (.ref b) (.ref l) false := fun prog w E Q h => by
  obtain ⟨⟨cls, dd, data, sl⟩, ho, hc, n, hd⟩ := id hl
  have hne := ne_seq_dict ho hc (by decide) hb
  obtain ⟨dd2, es, n2, sl2, ho2⟩ := hb
  simp only at hc hd
  subst hc hd
  exact (rc_eq_decline_or (k := false) ⟨_, ho2, rfl⟩ ⟨_, ho, rfl⟩ (by decide) kd_sub_tuple_dict F.slot_dict_eq F.slot_tuple_eq_refl
    (fun _ hq => dict_eq_other (s := s) (x := .ref l) (T := "tuple") ⟨_, ho, rfl⟩ kd_sub_tuple_dict ho2 rfl _ hq)
    (fun _ hq => call_meets F.slot_tuple_eq_refl ⟨_, ho, rfl⟩ F.entry_tuple_eq (F.args_tuple_eq_2 _ _) (tuple_eq_dict l b items es n n2 dd dd2 sl sl2) ⟨ho, ho2, hq⟩)
    (fun _ hq => wpAny_isSame_ref_other hne.symm ho2 ho (by simp) hq) (.inr hu) h)
theorem EqAt.tuple_dict {l b : Addr} {items : Array Value} (hl : s.heap.IsTuple l items) (hb : IsDct s b) (hu : A.units < cLine) : EqAt A s (.ref l) (.ref b) false := by
  obtain ⟨o, ho, hc, _⟩ := id hl
  exact .of_refs (ne_seq_dict ho hc (by decide) hb) (.tuple_dict hl hb hu)
theorem EqAt.dict_tuple {l b : Addr} {items : Array Value} (hb : IsDct s b) (hl : s.heap.IsTuple l items) (hu : A.units < cLine) : EqAt A s (.ref b) (.ref l) false := by
  obtain ⟨o, ho, hc, _⟩ := id hl
  exact .of_refs (ne_seq_dict ho hc (by decide) hb).symm (.dict_tuple hb hl hu)
end
end SeqAt
end PySem
set_option Elab.async false
set_option linter.all false
set_option maxRecDepth 100000
set_option maxHeartbeats 8000000
namespace KL
open PySem L2 PySem.KX PySem.Spec PyProof.Rows
/-- an empty dict stands at a -/
def Dct0 (s : Shared) (a : Addr) : Prop := (a == sysModules) = false ∧ ∃ o ep, s.heap.get? a = some o ∧ o.ExactDict ∧ o.data = .dict #[] ep
section
variable {X : Cx} {pins : List (Addr × Obj)} {σ : L2.St} {H : Hp} {s : Shared}
theorem dct_at {a : Addr} (I : Inv X pins σ H s) (h : H a = some (.dK [])) : Dct0 s a := by
  obtain ⟨_, y, va, ra, o, es, ep, ho, hx, hd, hk, hp, _⟩ := (show ObjOk X.prog X.w H s.heap a (.dK []) from I.hok a _ h)
  cases ra
  have e : es.toList = [] := by
    cases hp' : es.toList with
    | nil => rfl
    | cons z zs =>
      rw [hp'] at hp
      cases hp
  have e2 : es = #[] := by
    obtain ⟨l⟩ := es
    have e : l = [] := e
    rw [e]
  subst e2
  exact ⟨y, o, ep, ho, hx, hd⟩
theorem Dct0.of {a : Addr} (h : Dct0 s a) {P : Program} {w : World} {K : Type} [DecidableEq K] (knd : KeyKind P w K) : s.heap.DictOf knd a [] := by
  obtain ⟨_, o, ep, ho, hx, hd⟩ := h
  exact ⟨o, #[], ep, ho, hx, hd, fun e he => absurd he (by simp), .nil, .nil⟩
theorem Dct0.is {a : Addr} (P : Program) (w : World) (h : Dct0 s a) : SeqAt.IsDct s a := by
  have t := (h.of (mixKind P w)).typeIs
  obtain ⟨_, ⟨cls, dd, data, sl⟩, ep, ho, hx, hd⟩ := h
  obtain ⟨o2, ho2, hc⟩ := t
  rw [ho] at ho2
  cases ho2
  simp only at hc hd
  subst hc hd
  exact ⟨_, _, _, _, ho⟩
theorem eq_dicts {a b : Addr} {A : Around} (ha : Dct0 s a) (hb : Dct0 s b) (hu : A.units < cLine) : ∃ k, SeqAt.EqAt A s (.ref a) (.ref b) k := by
  by_cases e : a = b
  · subst e
    exact ⟨true, SeqAt.EqAt.same _⟩
  · refine ⟨true, SeqAt.EqAt.of_refs e fun prog w E Q h => ?_⟩
    exact PySem.W.keq_eq (knd := mixKind prog w) (r := true) ha.1 hb.1 (ha.of _) (hb.of _) hu (fun _ => .nil) (by simpa using h)
theorem eq_any (I : Inv X pins σ H s) (n : Nat) : ∀ (d e : PyData) (A : Around) (x y : V) (v u : Value), d.depth ≤ n → wd d ≤ 1000 → wd e ≤ 1000 → Dq H x d → Dq H y e → RelV x v → RelV y u → A.units + d.depth < cLine → ∃ b, SeqAt.EqAt A s v u b := by
  induction n using Nat.strongRecOn with
  | ind n ih =>
  intro d e A x y v u hd w1 w2 q1 q2 r1 r2 hu
  have hu0 : A.units < cLine := by omega
  have no1 : ∀ {x : Str} {i : Int}, ¬ wd (.dict [(.str x, .int i)]) ≤ 1000 := by
    intro x i h
    have h : (if ([(PyData.str x, PyData.int i)] : List (PyData × PyData)) = [] then 0 else 2000) ≤ 1000 := h
    rw [if_neg (by simp)] at h
    omega
  have items : ∀ {xs ys : List V} {ds es : List PyData} {its its2 : List Value}, PyData.depthAll ds < d.depth → max ds.length (wdAll ds) ≤ 1000 → max es.length (wdAll es) ≤ 1000 → DqAll H xs ds → DqAll H ys es → Vals xs its → Vals ys its2 → ∃ e : Nat → Bool, ∀ j (h1 : j < its.toArray.size) (h2 : j < its2.toArray.size), SeqAt.EqAt A.in1 s its.toArray[j] its2.toArray[j] (e j) := by
    intro xs ys ds es its its2 hdp m1 m2 qa qb va vb
    have ex : ∀ j, ∃ b, ∀ (h1 : j < its.toArray.size) (h2 : j < its2.toArray.size), SeqAt.EqAt A.in1 s its.toArray[j] its2.toArray[j] b := by
      intro j
      by_cases hh : j < its.toArray.size ∧ j < its2.toArray.size
      · have l1 := va.length
        have l2 := vb.length
        have j1 : j < xs.length := by have := hh.1; simp at this; omega
        have j2 : j < ys.length := by have := hh.2; simp at this; omega
        have ex1 := List.getElem?_eq_getElem j1
        have ey1 := List.getElem?_eq_getElem j2
        obtain ⟨a1, ha1, ra1⟩ := va.get ex1
        obtain ⟨b1, hb1, rb1⟩ := vb.get ey1
        obtain ⟨d1, hd1, qd1⟩ := DqAll.at qa ex1
        obtain ⟨e1, he1, qe1⟩ := DqAll.at qb ey1
        have md := List.mem_of_getElem? hd1
        have me := List.mem_of_getElem? he1
        have dp := depth_mem md
        have u1 : A.in1.units = A.units + 1 := rfl
        obtain ⟨k, hk⟩ := ih d1.depth (by omega) d1 e1 A.in1 _ _ _ _ (Nat.le_refl _) (Nat.le_trans (wdAll_mem md) (by omega)) (Nat.le_trans (wdAll_mem me) (by omega)) qd1 qe1 ra1 rb1 (by omega)
        refine ⟨k, fun h1 h2 => ?_⟩
        have z1 : its.toArray[j] = a1 := by
          have : its[j]? = some its.toArray[j] := by simp at h1 ⊢
          rw [this] at ha1
          exact Option.some.inj ha1
        have z2 : its2.toArray[j] = b1 := by
          have : its2[j]? = some its2.toArray[j] := by simp at h2 ⊢
          rw [this] at hb1
          exact Option.some.inj hb1
        rw [z1, z2]
        exact hk
      · exact ⟨false, fun h1 h2 => absurd ⟨h1, h2⟩ hh⟩
    exact ⟨fun j => Classical.choose (ex j), fun j h1 h2 => Classical.choose_spec (ex j) h1 h2⟩
  cases q1 with
  | non =>
    cases r1
    cases q2 with
    | non =>
      cases r2
      exact ⟨_, SeqAt.EqAt.same _⟩
    | bl br2 =>
      cases r2
      exact ⟨_, SeqAt.EqAt.none_bool  br2⟩
    | int br2 =>
      obtain ⟨tr2, rfl⟩ := r2
      exact ⟨_, SeqAt.EqAt.none_int  br2 tr2⟩
    | str br2 =>
      obtain ⟨tr2, rfl⟩ := r2
      exact ⟨_, SeqAt.EqAt.none_str  br2 tr2⟩
    | @lst ar2 xr2 dr2 hr2 qr2 =>
      cases r2
      obtain ⟨ir2, vr2, pr2, _⟩ := I.list (SqL.of hr2)
      exact ⟨_, SeqAt.EqAt.none_list  pr2.isList hu0⟩
    | @tup ar2 xr2 dr2 hr2 qr2 =>
      cases r2
      obtain ⟨ir2, vr2, pr2, _⟩ := I.tuple (SqT.of hr2)
      exact ⟨_, SeqAt.EqAt.none_tuple  pr2 hu0⟩
    | dct0 hr2 =>
      cases r2
      have Dr2 := dct_at I hr2
      exact ⟨_, SeqAt.EqAt.none_dict  (Dr2.is X.prog X.w) hu0⟩
    | dct1 hr2 =>
      exact absurd w2 no1
  | bl br1 =>
    cases r1
    cases q2 with
    | non =>
      cases r2
      exact ⟨_, SeqAt.EqAt.bool_none br1 ⟩
    | bl br2 =>
      cases r2
      exact ⟨_, SeqAt.EqAt.bool_bool br1 br2⟩
    | int br2 =>
      obtain ⟨tr2, rfl⟩ := r2
      exact ⟨_, SeqAt.EqAt.bool_int br1 br2 tr2⟩
    | str br2 =>
      obtain ⟨tr2, rfl⟩ := r2
      exact ⟨_, SeqAt.EqAt.bool_str br1 br2 tr2⟩
    | @lst ar2 xr2 dr2 hr2 qr2 =>
      cases r2
      obtain ⟨ir2, vr2, pr2, _⟩ := I.list (SqL.of hr2)
      exact ⟨_, SeqAt.EqAt.bool_list br1 pr2.isList hu0⟩
    | @tup ar2 xr2 dr2 hr2 qr2 =>
      cases r2
      obtain ⟨ir2, vr2, pr2, _⟩ := I.tuple (SqT.of hr2)
      exact ⟨_, SeqAt.EqAt.bool_tuple br1 pr2 hu0⟩
    | dct0 hr2 =>
      cases r2
      have Dr2 := dct_at I hr2
      exact ⟨_, SeqAt.EqAt.bool_dict br1 (Dr2.is X.prog X.w) hu0⟩
    | dct1 hr2 =>
      exact absurd w2 no1
  | int br1 =>
    obtain ⟨tr1, rfl⟩ := r1
    cases q2 with
    | non =>
      cases r2
      exact ⟨_, SeqAt.EqAt.int_none br1 tr1 ⟩
    | bl br2 =>
      cases r2
      exact ⟨_, SeqAt.EqAt.int_bool br1 tr1 br2⟩
    | int br2 =>
      obtain ⟨tr2, rfl⟩ := r2
      exact ⟨_, SeqAt.EqAt.int_int br1 tr1 br2 tr2⟩
    | str br2 =>
      obtain ⟨tr2, rfl⟩ := r2
      exact ⟨_, SeqAt.EqAt.int_str br1 tr1 br2 tr2⟩
    | @lst ar2 xr2 dr2 hr2 qr2 =>
      cases r2
      obtain ⟨ir2, vr2, pr2, _⟩ := I.list (SqL.of hr2)
      exact ⟨_, SeqAt.EqAt.int_list br1 tr1 pr2.isList hu0⟩
    | @tup ar2 xr2 dr2 hr2 qr2 =>
      cases r2
      obtain ⟨ir2, vr2, pr2, _⟩ := I.tuple (SqT.of hr2)
      exact ⟨_, SeqAt.EqAt.int_tuple br1 tr1 pr2 hu0⟩
    | dct0 hr2 =>
      cases r2
      have Dr2 := dct_at I hr2
      exact ⟨_, SeqAt.EqAt.int_dict br1 tr1 (Dr2.is X.prog X.w) hu0⟩
    | dct1 hr2 =>
      exact absurd w2 no1
  | str br1 =>
    obtain ⟨tr1, rfl⟩ := r1
    cases q2 with
    | non =>
      cases r2
      exact ⟨_, SeqAt.EqAt.str_none br1 tr1 ⟩
    | bl br2 =>
      cases r2
      exact ⟨_, SeqAt.EqAt.str_bool br1 tr1 br2⟩
    | int br2 =>
      obtain ⟨tr2, rfl⟩ := r2
      exact ⟨_, SeqAt.EqAt.str_int br1 tr1 br2 tr2⟩
    | str br2 =>
      obtain ⟨tr2, rfl⟩ := r2
      exact ⟨_, SeqAt.EqAt.str_str br1 tr1 br2 tr2⟩
    | @lst ar2 xr2 dr2 hr2 qr2 =>
      cases r2
      obtain ⟨ir2, vr2, pr2, _⟩ := I.list (SqL.of hr2)
      exact ⟨_, SeqAt.EqAt.str_list br1 tr1 pr2.isList hu0⟩
    | @tup ar2 xr2 dr2 hr2 qr2 =>
      cases r2
      obtain ⟨ir2, vr2, pr2, _⟩ := I.tuple (SqT.of hr2)
      exact ⟨_, SeqAt.EqAt.str_tuple br1 tr1 pr2 hu0⟩
    | dct0 hr2 =>
      cases r2
      have Dr2 := dct_at I hr2
      obtain ⟨_, _, _, _, z⟩ := Dr2.is X.prog X.w
      exact ⟨_, SeqAt.EqAt.str_dict br1 tr1 z hu0⟩
    | dct1 hr2 =>
      exact absurd w2 no1
  | @lst ar1 xr1 dr1 hr1 qr1 =>
    cases r1
    obtain ⟨ir1, vr1, pr1, _⟩ := I.list (SqL.of hr1)
    cases q2 with
    | non =>
      cases r2
      exact ⟨_, SeqAt.EqAt.list_none  pr1.isList hu0⟩
    | bl br2 =>
      cases r2
      exact ⟨_, SeqAt.EqAt.list_bool br2 pr1.isList hu0⟩
    | int br2 =>
      obtain ⟨tr2, rfl⟩ := r2
      exact ⟨_, SeqAt.EqAt.list_int br2 tr2 pr1.isList hu0⟩
    | str br2 =>
      obtain ⟨tr2, rfl⟩ := r2
      exact ⟨_, SeqAt.EqAt.list_str br2 tr2 pr1.isList hu0⟩
    | @lst ar2 xr2 dr2 hr2 qr2 =>
      cases r2
      obtain ⟨ir2, vr2, pr2, _⟩ := I.list (SqL.of hr2)
      by_cases ee : ar1 = ar2
      · subst ee
        exact ⟨true, SeqAt.EqAt.same _⟩
      · obtain ⟨f, hf⟩ := items (by show PyData.depthAll dr1 < PyData.depthAll dr1 + 1; omega) w1 w2 qr1 qr2 vr1 vr2
        by_cases sz : ir1.toArray.size = ir2.toArray.size
        · exact ⟨_, SeqAt.EqAt.of_refs ee (SeqAt.RcAt.lists pr1.isList pr2.isList sz hu0 hf)⟩
        · exact ⟨_, SeqAt.EqAt.of_refs ee (SeqAt.RcAt.lists_lengths pr1.isList pr2.isList (by simpa using sz) hu0)⟩
    | @tup ar2 xr2 dr2 hr2 qr2 =>
      cases r2
      obtain ⟨ir2, vr2, pr2, _⟩ := I.tuple (SqT.of hr2)
      exact ⟨_, SeqAt.EqAt.list_tuple pr1.isList pr2 hu0⟩
    | dct0 hr2 =>
      cases r2
      have Dr2 := dct_at I hr2
      exact ⟨_, SeqAt.EqAt.list_dict pr1.isList (Dr2.is X.prog X.w) hu0⟩
    | dct1 hr2 =>
      exact absurd w2 no1
  | @tup ar1 xr1 dr1 hr1 qr1 =>
    cases r1
    obtain ⟨ir1, vr1, pr1, _⟩ := I.tuple (SqT.of hr1)
    cases q2 with
    | non =>
      cases r2
      exact ⟨_, SeqAt.EqAt.tuple_none  pr1 hu0⟩
    | bl br2 =>
      cases r2
      exact ⟨_, SeqAt.EqAt.tuple_bool br2 pr1 hu0⟩
    | int br2 =>
      obtain ⟨tr2, rfl⟩ := r2
      exact ⟨_, SeqAt.EqAt.tuple_int br2 tr2 pr1 hu0⟩
    | str br2 =>
      obtain ⟨tr2, rfl⟩ := r2
      exact ⟨_, SeqAt.EqAt.tuple_str br2 tr2 pr1 hu0⟩
    | @lst ar2 xr2 dr2 hr2 qr2 =>
      cases r2
      obtain ⟨ir2, vr2, pr2, _⟩ := I.list (SqL.of hr2)
      exact ⟨_, SeqAt.EqAt.tuple_list pr1 pr2.isList hu0⟩
    | @tup ar2 xr2 dr2 hr2 qr2 =>
      cases r2
      obtain ⟨ir2, vr2, pr2, _⟩ := I.tuple (SqT.of hr2)
      by_cases ee : ar1 = ar2
      · subst ee
        exact ⟨true, SeqAt.EqAt.same _⟩
      · obtain ⟨f, hf⟩ := items (by show PyData.depthAll dr1 < PyData.depthAll dr1 + 1; omega) w1 w2 qr1 qr2 vr1 vr2
        exact ⟨_, SeqAt.EqAt.of_refs ee (SeqAt.RcAt.tuples pr1 pr2 hu0 hf)⟩
    | dct0 hr2 =>
      cases r2
      have Dr2 := dct_at I hr2
      exact ⟨_, SeqAt.EqAt.tuple_dict pr1 (Dr2.is X.prog X.w) hu0⟩
    | dct1 hr2 =>
      exact absurd w2 no1
  | dct0 hr1 =>
    cases r1
    have Dr1 := dct_at I hr1
    cases q2 with
    | non =>
      cases r2
      exact ⟨_, SeqAt.EqAt.dict_none  (Dr1.is X.prog X.w) hu0⟩
    | bl br2 =>
      cases r2
      exact ⟨_, SeqAt.EqAt.dict_bool br2 (Dr1.is X.prog X.w) hu0⟩
    | int br2 =>
      obtain ⟨tr2, rfl⟩ := r2
      exact ⟨_, SeqAt.EqAt.dict_int br2 tr2 (Dr1.is X.prog X.w) hu0⟩
    | str br2 =>
      obtain ⟨tr2, rfl⟩ := r2
      exact ⟨_, SeqAt.EqAt.dict_str' br2 tr2 (Dr1.is X.prog X.w) hu0⟩
    | @lst ar2 xr2 dr2 hr2 qr2 =>
      cases r2
      obtain ⟨ir2, vr2, pr2, _⟩ := I.list (SqL.of hr2)
      exact ⟨_, SeqAt.EqAt.dict_list (Dr1.is X.prog X.w) pr2.isList hu0⟩
    | @tup ar2 xr2 dr2 hr2 qr2 =>
      cases r2
      obtain ⟨ir2, vr2, pr2, _⟩ := I.tuple (SqT.of hr2)
      exact ⟨_, SeqAt.EqAt.dict_tuple (Dr1.is X.prog X.w) pr2 hu0⟩
    | dct0 hr2 =>
      cases r2
      have Dr2 := dct_at I hr2
      exact eq_dicts Dr1 Dr2 hu0
    | dct1 hr2 =>
      exact absurd w2 no1
  | dct1 hr1 =>
    exact absurd w1 no1
theorem beq_dec (i j : Int) : (i == j) = decide (i = j) := by
  by_cases q : i = j
  · rw [decide_eq_true q]
    exact beq_iff_eq.mpr q
  · rw [decide_eq_false q]
    exact beq_eq_false_iff_ne.mpr q
theorem rc_dicts {a b : Addr} {A : Around} (ha : Dct0 s a) (hb : Dct0 s b) (hu : A.units < cLine) : ∃ k, SeqAt.RcAt A s (.ref a) (.ref b) k ∧ ∀ i j, PyData.dict [] = .int i → PyData.dict [] = .int j → k = decide (i = j) := by
  refine ⟨true, fun prog w E Q h => ?_, (by intro i j e1 e2; cases e1)⟩
  exact PySem.W.keq_eq (knd := mixKind prog w) (r := true) ha.1 hb.1 (ha.of _) (hb.of _) hu (fun _ => .nil) (by simpa using h)
theorem rc_any (I : Inv X pins σ H s) (d e : PyData) (A : Around) (x y : V) (v u : Value) (w1 : wd d ≤ 1000) (w2 : wd e ≤ 1000) (q1 : Dq H x d) (q2 : Dq H y e) (r1 : RelV x v) (r2 : RelV y u) (hu : A.units + d.depth < cLine) : ∃ b, SeqAt.RcAt A s v u b ∧ ∀ i j, d = .int i → e = .int j → b = decide (i = j) := by
  have ih := fun n => eq_any I n
  have hu0 : A.units < cLine := by omega
  have no1 : ∀ {x : Str} {i : Int}, ¬ wd (.dict [(.str x, .int i)]) ≤ 1000 := by
    intro x i h
    have h : (if ([(PyData.str x, PyData.int i)] : List (PyData × PyData)) = [] then 0 else 2000) ≤ 1000 := h
    rw [if_neg (by simp)] at h
    omega
  have items : ∀ {xs ys : List V} {ds es : List PyData} {its its2 : List Value}, PyData.depthAll ds < d.depth → max ds.length (wdAll ds) ≤ 1000 → max es.length (wdAll es) ≤ 1000 → DqAll H xs ds → DqAll H ys es → Vals xs its → Vals ys its2 → ∃ e : Nat → Bool, ∀ j (h1 : j < its.toArray.size) (h2 : j < its2.toArray.size), SeqAt.EqAt A.in1 s its.toArray[j] its2.toArray[j] (e j) := by
    intro xs ys ds es its its2 hdp m1 m2 qa qb va vb
    have ex : ∀ j, ∃ b, ∀ (h1 : j < its.toArray.size) (h2 : j < its2.toArray.size), SeqAt.EqAt A.in1 s its.toArray[j] its2.toArray[j] b := by
      intro j
      by_cases hh : j < its.toArray.size ∧ j < its2.toArray.size
      · have l1 := va.length
        have l2 := vb.length
        have j1 : j < xs.length := by have := hh.1; simp at this; omega
        have j2 : j < ys.length := by have := hh.2; simp at this; omega
        have ex1 := List.getElem?_eq_getElem j1
        have ey1 := List.getElem?_eq_getElem j2
        obtain ⟨a1, ha1, ra1⟩ := va.get ex1
        obtain ⟨b1, hb1, rb1⟩ := vb.get ey1
        obtain ⟨d1, hd1, qd1⟩ := DqAll.at qa ex1
        obtain ⟨e1, he1, qe1⟩ := DqAll.at qb ey1
        have md := List.mem_of_getElem? hd1
        have me := List.mem_of_getElem? he1
        have dp := depth_mem md
        have u1 : A.in1.units = A.units + 1 := rfl
        obtain ⟨k, hk⟩ := ih d1.depth d1 e1 A.in1 _ _ _ _ (Nat.le_refl _) (Nat.le_trans (wdAll_mem md) (by omega)) (Nat.le_trans (wdAll_mem me) (by omega)) qd1 qe1 ra1 rb1 (by omega)
        refine ⟨k, fun h1 h2 => ?_⟩
        have z1 : its.toArray[j] = a1 := by
          have : its[j]? = some its.toArray[j] := by simp at h1 ⊢
          rw [this] at ha1
          exact Option.some.inj ha1
        have z2 : its2.toArray[j] = b1 := by
          have : its2[j]? = some its2.toArray[j] := by simp at h2 ⊢
          rw [this] at hb1
          exact Option.some.inj hb1
        rw [z1, z2]
        exact hk
      · exact ⟨false, fun h1 h2 => absurd ⟨h1, h2⟩ hh⟩
    exact ⟨fun j => Classical.choose (ex j), fun j h1 h2 => Classical.choose_spec (ex j) h1 h2⟩
  cases q1 with
  | non =>
    cases r1
    cases q2 with
    | non =>
      cases r2
      exact ⟨_, SeqAt.RcAt.none_none, (by intro i j e1 e2; first | (cases e1; done) | (cases e2; done))⟩
    | bl br2 =>
      cases r2
      exact ⟨_, SeqAt.RcAt.none_bool  br2, (by intro i j e1 e2; first | (cases e1; done) | (cases e2; done))⟩
    | int br2 =>
      obtain ⟨tr2, rfl⟩ := r2
      exact ⟨_, SeqAt.RcAt.none_int  br2 tr2, (by intro i j e1 e2; first | (cases e1; done) | (cases e2; done))⟩
    | str br2 =>
      obtain ⟨tr2, rfl⟩ := r2
      exact ⟨_, SeqAt.RcAt.none_str  br2 tr2, (by intro i j e1 e2; first | (cases e1; done) | (cases e2; done))⟩
    | @lst ar2 xr2 dr2 hr2 qr2 =>
      cases r2
      obtain ⟨ir2, vr2, pr2, _⟩ := I.list (SqL.of hr2)
      exact ⟨_, SeqAt.RcAt.none_list  pr2.isList hu0, (by intro i j e1 e2; first | (cases e1; done) | (cases e2; done))⟩
    | @tup ar2 xr2 dr2 hr2 qr2 =>
      cases r2
      obtain ⟨ir2, vr2, pr2, _⟩ := I.tuple (SqT.of hr2)
      exact ⟨_, SeqAt.RcAt.none_tuple  pr2 hu0, (by intro i j e1 e2; first | (cases e1; done) | (cases e2; done))⟩
    | dct0 hr2 =>
      cases r2
      have Dr2 := dct_at I hr2
      exact ⟨_, SeqAt.RcAt.none_dict  (Dr2.is X.prog X.w) hu0, (by intro i j e1 e2; first | (cases e1; done) | (cases e2; done))⟩
    | dct1 hr2 =>
      exact absurd w2 no1
  | bl br1 =>
    cases r1
    cases q2 with
    | non =>
      cases r2
      exact ⟨_, SeqAt.RcAt.bool_none br1 , (by intro i j e1 e2; first | (cases e1; done) | (cases e2; done))⟩
    | bl br2 =>
      cases r2
      exact ⟨_, SeqAt.RcAt.bool_bool br1 br2, (by intro i j e1 e2; first | (cases e1; done) | (cases e2; done))⟩
    | int br2 =>
      obtain ⟨tr2, rfl⟩ := r2
      exact ⟨_, SeqAt.RcAt.bool_int br1 br2 tr2, (by intro i j e1 e2; first | (cases e1; done) | (cases e2; done))⟩
    | str br2 =>
      obtain ⟨tr2, rfl⟩ := r2
      exact ⟨_, SeqAt.RcAt.bool_str br1 br2 tr2, (by intro i j e1 e2; first | (cases e1; done) | (cases e2; done))⟩
    | @lst ar2 xr2 dr2 hr2 qr2 =>
      cases r2
      obtain ⟨ir2, vr2, pr2, _⟩ := I.list (SqL.of hr2)
      exact ⟨_, SeqAt.RcAt.bool_list br1 pr2.isList hu0, (by intro i j e1 e2; first | (cases e1; done) | (cases e2; done))⟩
    | @tup ar2 xr2 dr2 hr2 qr2 =>
      cases r2
      obtain ⟨ir2, vr2, pr2, _⟩ := I.tuple (SqT.of hr2)
      exact ⟨_, SeqAt.RcAt.bool_tuple br1 pr2 hu0, (by intro i j e1 e2; first | (cases e1; done) | (cases e2; done))⟩
    | dct0 hr2 =>
      cases r2
      have Dr2 := dct_at I hr2
      exact ⟨_, SeqAt.RcAt.bool_dict br1 (Dr2.is X.prog X.w) hu0, (by intro i j e1 e2; first | (cases e1; done) | (cases e2; done))⟩
    | dct1 hr2 =>
      exact absurd w2 no1
  | int br1 =>
    obtain ⟨tr1, rfl⟩ := r1
    cases q2 with
    | non =>
      cases r2
      exact ⟨_, SeqAt.RcAt.int_none br1 tr1 , (by intro i j e1 e2; first | (cases e1; done) | (cases e2; done))⟩
    | bl br2 =>
      cases r2
      exact ⟨_, SeqAt.RcAt.int_bool br1 tr1 br2, (by intro i j e1 e2; first | (cases e1; done) | (cases e2; done))⟩
    | int br2 =>
      obtain ⟨tr2, rfl⟩ := r2
      refine ⟨_, SeqAt.RcAt.int_int br1 tr1 br2 tr2, fun i j e1 e2 => ?_⟩
      cases e1
      cases e2
      exact beq_dec br1 br2
    | str br2 =>
      obtain ⟨tr2, rfl⟩ := r2
      exact ⟨_, SeqAt.RcAt.int_str br1 tr1 br2 tr2, (by intro i j e1 e2; first | (cases e1; done) | (cases e2; done))⟩
    | @lst ar2 xr2 dr2 hr2 qr2 =>
      cases r2
      obtain ⟨ir2, vr2, pr2, _⟩ := I.list (SqL.of hr2)
      exact ⟨_, SeqAt.RcAt.int_list br1 tr1 pr2.isList hu0, (by intro i j e1 e2; first | (cases e1; done) | (cases e2; done))⟩
    | @tup ar2 xr2 dr2 hr2 qr2 =>
      cases r2
      obtain ⟨ir2, vr2, pr2, _⟩ := I.tuple (SqT.of hr2)
      exact ⟨_, SeqAt.RcAt.int_tuple br1 tr1 pr2 hu0, (by intro i j e1 e2; first | (cases e1; done) | (cases e2; done))⟩
    | dct0 hr2 =>
      cases r2
      have Dr2 := dct_at I hr2
      exact ⟨_, SeqAt.RcAt.int_dict br1 tr1 (Dr2.is X.prog X.w) hu0, (by intro i j e1 e2; first | (cases e1; done) | (cases e2; done))⟩
    | dct1 hr2 =>
      exact absurd w2 no1
  | str br1 =>
    obtain ⟨tr1, rfl⟩ := r1
    cases q2 with
    | non =>
      cases r2
      exact ⟨_, SeqAt.RcAt.str_none br1 tr1 , (by intro i j e1 e2; first | (cases e1; done) | (cases e2; done))⟩
    | bl br2 =>
      cases r2
      exact ⟨_, SeqAt.RcAt.str_bool br1 tr1 br2, (by intro i j e1 e2; first | (cases e1; done) | (cases e2; done))⟩
    | int br2 =>
      obtain ⟨tr2, rfl⟩ := r2
      exact ⟨_, SeqAt.RcAt.str_int br1 tr1 br2 tr2, (by intro i j e1 e2; first | (cases e1; done) | (cases e2; done))⟩
    | str br2 =>
      obtain ⟨tr2, rfl⟩ := r2
      exact ⟨_, SeqAt.RcAt.str_str br1 tr1 br2 tr2, (by intro i j e1 e2; first | (cases e1; done) | (cases e2; done))⟩
    | @lst ar2 xr2 dr2 hr2 qr2 =>
      cases r2
      obtain ⟨ir2, vr2, pr2, _⟩ := I.list (SqL.of hr2)
      exact ⟨_, SeqAt.RcAt.str_list br1 tr1 pr2.isList hu0, (by intro i j e1 e2; first | (cases e1; done) | (cases e2; done))⟩
    | @tup ar2 xr2 dr2 hr2 qr2 =>
      cases r2
      obtain ⟨ir2, vr2, pr2, _⟩ := I.tuple (SqT.of hr2)
      exact ⟨_, SeqAt.RcAt.str_tuple br1 tr1 pr2 hu0, (by intro i j e1 e2; first | (cases e1; done) | (cases e2; done))⟩
    | dct0 hr2 =>
      cases r2
      have Dr2 := dct_at I hr2
      obtain ⟨_, _, _, _, z⟩ := Dr2.is X.prog X.w
      exact ⟨_, SeqAt.RcAt.str_dict (cl := .none) br1 tr1 z hu0, (by intro i j e1 e2; first | (cases e1; done) | (cases e2; done))⟩
    | dct1 hr2 =>
      exact absurd w2 no1
  | @lst ar1 xr1 dr1 hr1 qr1 =>
    cases r1
    obtain ⟨ir1, vr1, pr1, _⟩ := I.list (SqL.of hr1)
    cases q2 with
    | non =>
      cases r2
      exact ⟨_, SeqAt.RcAt.list_none  pr1.isList hu0, (by intro i j e1 e2; first | (cases e1; done) | (cases e2; done))⟩
    | bl br2 =>
      cases r2
      exact ⟨_, SeqAt.RcAt.list_bool br2 pr1.isList hu0, (by intro i j e1 e2; first | (cases e1; done) | (cases e2; done))⟩
    | int br2 =>
      obtain ⟨tr2, rfl⟩ := r2
      exact ⟨_, SeqAt.RcAt.list_int br2 tr2 pr1.isList hu0, (by intro i j e1 e2; first | (cases e1; done) | (cases e2; done))⟩
    | str br2 =>
      obtain ⟨tr2, rfl⟩ := r2
      exact ⟨_, SeqAt.RcAt.list_str br2 tr2 pr1.isList hu0, (by intro i j e1 e2; first | (cases e1; done) | (cases e2; done))⟩
    | @lst ar2 xr2 dr2 hr2 qr2 =>
      cases r2
      obtain ⟨ir2, vr2, pr2, _⟩ := I.list (SqL.of hr2)
      · obtain ⟨f, hf⟩ := items (by show PyData.depthAll dr1 < PyData.depthAll dr1 + 1; omega) w1 w2 qr1 qr2 vr1 vr2
        by_cases sz : ir1.toArray.size = ir2.toArray.size
        · exact ⟨_, (SeqAt.RcAt.lists pr1.isList pr2.isList sz hu0 hf), (by intro i j e1 e2; first | (cases e1; done) | (cases e2; done))⟩
        · exact ⟨_, (SeqAt.RcAt.lists_lengths pr1.isList pr2.isList (by simpa using sz) hu0), (by intro i j e1 e2; first | (cases e1; done) | (cases e2; done))⟩
    | @tup ar2 xr2 dr2 hr2 qr2 =>
      cases r2
      obtain ⟨ir2, vr2, pr2, _⟩ := I.tuple (SqT.of hr2)
      exact ⟨_, SeqAt.RcAt.list_tuple pr1.isList pr2 hu0, (by intro i j e1 e2; first | (cases e1; done) | (cases e2; done))⟩
    | dct0 hr2 =>
      cases r2
      have Dr2 := dct_at I hr2
      exact ⟨_, SeqAt.RcAt.list_dict pr1.isList (Dr2.is X.prog X.w) hu0, (by intro i j e1 e2; first | (cases e1; done) | (cases e2; done))⟩
    | dct1 hr2 =>
      exact absurd w2 no1
  | @tup ar1 xr1 dr1 hr1 qr1 =>
    cases r1
    obtain ⟨ir1, vr1, pr1, _⟩ := I.tuple (SqT.of hr1)
    cases q2 with
    | non =>
      cases r2
      exact ⟨_, SeqAt.RcAt.tuple_none  pr1 hu0, (by intro i j e1 e2; first | (cases e1; done) | (cases e2; done))⟩
    | bl br2 =>
      cases r2
      exact ⟨_, SeqAt.RcAt.tuple_bool br2 pr1 hu0, (by intro i j e1 e2; first | (cases e1; done) | (cases e2; done))⟩
    | int br2 =>
      obtain ⟨tr2, rfl⟩ := r2
      exact ⟨_, SeqAt.RcAt.tuple_int br2 tr2 pr1 hu0, (by intro i j e1 e2; first | (cases e1; done) | (cases e2; done))⟩
    | str br2 =>
      obtain ⟨tr2, rfl⟩ := r2
      exact ⟨_, SeqAt.RcAt.tuple_str br2 tr2 pr1 hu0, (by intro i j e1 e2; first | (cases e1; done) | (cases e2; done))⟩
    | @lst ar2 xr2 dr2 hr2 qr2 =>
      cases r2
      obtain ⟨ir2, vr2, pr2, _⟩ := I.list (SqL.of hr2)
      exact ⟨_, SeqAt.RcAt.tuple_list pr1 pr2.isList hu0, (by intro i j e1 e2; first | (cases e1; done) | (cases e2; done))⟩
    | @tup ar2 xr2 dr2 hr2 qr2 =>
      cases r2
      obtain ⟨ir2, vr2, pr2, _⟩ := I.tuple (SqT.of hr2)
      · obtain ⟨f, hf⟩ := items (by show PyData.depthAll dr1 < PyData.depthAll dr1 + 1; omega) w1 w2 qr1 qr2 vr1 vr2
        exact ⟨_, (SeqAt.RcAt.tuples pr1 pr2 hu0 hf), (by intro i j e1 e2; first | (cases e1; done) | (cases e2; done))⟩
    | dct0 hr2 =>
      cases r2
      have Dr2 := dct_at I hr2
      exact ⟨_, SeqAt.RcAt.tuple_dict pr1 (Dr2.is X.prog X.w) hu0, (by intro i j e1 e2; first | (cases e1; done) | (cases e2; done))⟩
    | dct1 hr2 =>
      exact absurd w2 no1
  | dct0 hr1 =>
    cases r1
    have Dr1 := dct_at I hr1
    cases q2 with
    | non =>
      cases r2
      exact ⟨_, SeqAt.RcAt.dict_none  (Dr1.is X.prog X.w) hu0, (by intro i j e1 e2; first | (cases e1; done) | (cases e2; done))⟩
    | bl br2 =>
      cases r2
      exact ⟨_, SeqAt.RcAt.dict_bool br2 (Dr1.is X.prog X.w) hu0, (by intro i j e1 e2; first | (cases e1; done) | (cases e2; done))⟩
    | int br2 =>
      obtain ⟨tr2, rfl⟩ := r2
      exact ⟨_, SeqAt.RcAt.dict_int br2 tr2 (Dr1.is X.prog X.w) hu0, (by intro i j e1 e2; first | (cases e1; done) | (cases e2; done))⟩
    | str br2 =>
      obtain ⟨tr2, rfl⟩ := r2
      exact ⟨_, SeqAt.RcAt.dict_str br2 tr2 (Dr1.is X.prog X.w).choose_spec.choose_spec.choose_spec.choose_spec hu0, (by intro i j e1 e2; first | (cases e1; done) | (cases e2; done))⟩
    | @lst ar2 xr2 dr2 hr2 qr2 =>
      cases r2
      obtain ⟨ir2, vr2, pr2, _⟩ := I.list (SqL.of hr2)
      exact ⟨_, SeqAt.RcAt.dict_list (Dr1.is X.prog X.w) pr2.isList hu0, (by intro i j e1 e2; first | (cases e1; done) | (cases e2; done))⟩
    | @tup ar2 xr2 dr2 hr2 qr2 =>
      cases r2
      obtain ⟨ir2, vr2, pr2, _⟩ := I.tuple (SqT.of hr2)
      exact ⟨_, SeqAt.RcAt.dict_tuple (Dr1.is X.prog X.w) pr2 hu0, (by intro i j e1 e2; first | (cases e1; done) | (cases e2; done))⟩
    | dct0 hr2 =>
      cases r2
      have Dr2 := dct_at I hr2
      exact rc_dicts Dr1 Dr2 hu0
    | dct1 hr2 =>
      exact absurd w2 no1
  | dct1 hr1 =>
    exact absurd w1 no1
def rEqAny : R2 := fun x y H Q => ∃ d e, Dq H x d ∧ Dq H y e ∧ wd d ≤ 1000 ∧ wd e ≤ 1000 ∧ d.depth ≤ 60 ∧ ∀ b, (∀ i j, d = .int i → e = .int j → b = decide (i = j)) → Q (.bl b) H
theorem op_eqAny (hu : X.A.units + 64 < cLine) : OpR X (compareOp .Eq) rEqAny := by
  intro pins s σ H x y v u Q I rx ry h
  obtain ⟨d, e, q1, q2, w1, w2, dp, k⟩ := h
  obtain ⟨b, rc, hb⟩ := rc_any I d e X.A x y v u w1 w2 q1 q2 rx ry (by omega)
  exact rc X.prog X.w X.xe (EP X pins σ Q) ⟨.bl b, H, I, rfl, k b hb⟩
end
end KL
set_option Elab.async false
set_option linter.all false
set_option maxRecDepth 100000
set_option maxHeartbeats 8000000
namespace KL
open PySem L2 PySem.KX PySem.Spec PyProof.Rows
def dueW (d0 d1 : PyData) : Str := (dueP d0 d1).getD ""
/-- the two parts of a lot: of a size -/
structure Lot (d0 d1 : PyData) : Prop where
  g0 : Gd 900 8 60000 d0
  g1 : Gd 900 8 60000 d1
  f1 : (itemsD d1).length < 30
theorem due_people {d0 d1 : PyData} (h : betD 1 3 d0 = false) : dueW d0 d1 = "people" := by
  unfold dueW dueP
  rw [if_pos h]
  rfl
theorem due_pairs1 {n : Int} {d1 : PyData} (h : betD 1 3 (.int n) = true) (h1 : matesD n d1 = false) : dueW (.int n) d1 = "pairs" := by
  unfold dueW dueP
  rw [if_neg (by rw [h]; decide), if_pos (show matesD (numD (.int n)) d1 = false from h1)]
  rfl
theorem due_none {n : Int} {d1 : PyData} (h : betD 1 3 (.int n) = true) (h1 : matesD n d1 = true) : dueW (.int n) d1 = "" := by
  unfold dueW dueP
  rw [if_neg (by rw [h]; decide), if_neg (by rw [show matesD (numD (.int n)) d1 = true from h1]; decide)]
  rfl
theorem mates_no {n : Int} {ds : List PyData} {i : Nat} {d : PyData} (hd : ds[i]? = some d) (h : mateD n d = false) : matesD n (.tuple ds) = false := by
  have : ds.all (mateD n) = false := by
    cases e : ds.all (mateD n) with
    | false => rfl
    | true =>
      rw [List.all_eq_true.mp e d (List.mem_of_getElem? hd)] at h
      cases h
  show (true && (ds.all (mateD n) && ascD ds)) = false
  rw [this]
  rfl
/-- what stands in a list of those that are not right -/
def OddK (H0 : Hp) (D : Addr) (n : Int) (es : List PyData) (i : Nat) (H : Hp) : Prop := ∃ vs, MadeTo H0 D vs H ∧ vs.length ≤ i ∧ vs.isEmpty = (es.take i).all (betD 0 (n - 1))
theorem intD_of {d : PyData} (h : intD d = true) : ∃ i, d = .int i := by
  cases d with
  | int i => exact ⟨i, rfl⟩
  | _ => cases h
theorem asc_same {ps S : List (Int × Int)} (h : SSet ps S) : ascD (ps.map prD) = decide (ps = S) := by
  cases e : ascD (ps.map prD) with
  | true => rw [decide_eq_true (SSet.uniq (SSet.self e) h)]
  | false =>
    rw [decide_eq_false]
    intro z
    rw [z, h.asc] at e
    cases e
def spDueL : Sp := fun vs H Q _ => ∃ (q : Addr) (v0 v1 : V) (d0 d1 : PyData), vs = [.ref q] ∧ H q = some (.tup [v0, v1]) ∧ Dq H v0 d0 ∧ Dq H v1 d1 ∧ Lot d0 d1 ∧ ∀ H', Same H H' → Q (.str (dueW d0 d1)) H'
section
variable {P : Program} {w : World} {K : PySem.W.Frag} {mg : Str → Option Value} {base : Heap}
theorem scWhole : FnScope ["_law_it"] ["_law_it"] (defScope lWhole) := ⟨rfl, rfl, rfl, by decide +kernel, rfl, by decide +kernel, by decide +kernel⟩
theorem ok_whole {f : Addr} {fd : FuncData} (F : Fun K "_law_is_whole" "_law_is_whole" lWhole f fd) (T : TxtB mg) : FnOk P w K mg base CX0 1 f fd ["_law_it"] (spTest intD) := by
  refine F.ok scWhole (fun vs H Q E h => ?_) (fun cdv A outer s H vs Q E hr h => ?_)
  · obtain ⟨v, d, rfl, _⟩ := h
    rfl
  · obtain ⟨v, d, rfl, hd, _, k⟩ := h
    refine ⟨_, pss_one (ps_ret (pe_and (pe_callB call_isD (by rfl) T.isi (by decide +kernel) (pa_cons (pv 0) (pa_cons (pe_bltn (v := .ty "int") (by rfl) T.int (by decide +kernel) rfl) pa_nil)))
      (pe_one (pe_not (pe_callB call_isD (by rfl) T.isi (by decide +kernel) (pa_cons (pv 0) (pa_cons (pe_bltn (v := .ty "bool") (by rfl) T.bool (by decide +kernel) rfl) pa_nil))))))), ?_⟩
    have q := k H (Same.refl H)
    refine ⟨_, rfl, v, d, "int", rfl, by decide, hd, _, rfl, ?_⟩
    cases d <;> first | exact q | exact ⟨_, rfl, v, _, "bool", rfl, by decide, hd, _, rfl, q⟩
abbrev nDue : List Str := ["_law_lot", "_law_many", "_law_pairs_now", "_law_it", "_law_k"]
theorem scDue : FnScope nDue ["_law_lot"] (defScope lDue) := ⟨rfl, rfl, rfl, by decide +kernel, rfl, by decide +kernel, by decide +kernel⟩
theorem ok_dueL {f g : Addr} {fd gd : FuncData} (F : Fun K "_law_due" "_law_due" lDue f fd) (T : TxtG mg) (G : FnOk P w K mg base CX0 1 g gd ["_law_it"] (spTest intD)) (c : Cal K mg "_law_is_whole" g gd ["_law_it"]) : FnOk P w K mg base CX0 2 f fd ["_law_lot"] spDueL := by
  refine F.ok scDue (fun vs H Q E h => ?_) (fun cdv A outer s H vs Q E hr h => ?_)
  · obtain ⟨q, v0, v1, d0, d1, rfl, _⟩ := h
    rfl
  · obtain ⟨q, v0, v1, d0, d1, rfl, hq, q0, q1, hL, k⟩ := h
    have nd := scDue.nd
    refine ⟨_, pss_cons (ps_asg (pv 0) (pg_tup rfl (pgs_cons (pg_name (i := 1) nd rfl (.inr rfl)) (pgs_cons (pg_name (i := 2) nd rfl (.inl rfl)) pgs_nil))))
      (pss_cons (ps_if (PW.pt (pw_or (pt_not (pt_val (pe_call G hr (by rfl) c.m c.k c.b .nil pass0 (pa_cons (pv 1) pa_nil)))) (pw_or1 (pt_not (pt_chain op_le op_le pe_int (pv 1) pe_int))))) (pss_one (ps_ret pe_str)) pss_nil)
      (pss_cons (ps_if (pt_not (pt_val (pe_callB call_isD (by rfl) T.b.isi (by decide +kernel) (pa_cons (pv 2) (pa_cons (pe_bltn (v := .ty "tuple") (by rfl) T.b.tuple (by decide +kernel) rfl) pa_nil))))) (pss_one (ps_ret pe_str)) pss_nil)
      (pss_cons (ps_for PassesOwn.never rfl (pi_tup (pv 2)) (pg_name (i := 3) nd rfl (.inl rfl))
        (pss_cons (ps_if (PW.pt (pw_or (pt_not (pt_val (pe_callB call_isD (by rfl) T.b.isi (by decide +kernel) (pa_cons (pv 3) (pa_cons (pe_bltn (v := .ty "tuple") (by rfl) T.b.tuple (by decide +kernel) rfl) pa_nil))))) (pw_or (pt_cmpR op_ne (pe_callB call_len_seq (by rfl) T.d.len PySem.boot_len (pa_cons (pv 3) pa_nil)) pe_int (nomark _))
            (pw_or1 (pt_cmpR (op_eqAny hr.units) (pe_ix (r := rIxT K) ix_tup (pv 3) pe_int (fun _ _ => rfl)) (pe_ix (r := rIxT K) ix_tup (pv 3) pe_int (fun _ _ => rfl)) (nomark _)))))) (pss_one (ps_ret pe_str)) pss_nil)
        (pss_one (ps_if (pt_cmpR (op_neNil hr.units) (pe_lc (own := [("_law_k", 4)]) (g := gName 4) (tt := tOr (tNot (tB (tCall (spTest intD) [] E0 (tCons (tVar 4) tNil)))) (tNot (tTest (tChain (rI0 fun i j => .bl (decide (i ≤ j))) (rI0 fun i j => .bl (decide (i < j))) (tC (.int 0)) (tVar 4) (tVar 1))))) rfl nd (pi_tup (pv 3)) (blkOk_by (N := nDue) (sc := defScope lDue) (by decide +kernel)) (fun _ _ _ _ _ => pg_name (i := 4) nd rfl (.inl rfl))
            (fun _ _ _ _ _ => pts_one (PW.pt (pw_or (pt_not (pt_val (pe_call G hr (by rfl) c.m c.k c.b .nil pass0 (pa_cons (pv 4) pa_nil)))) (pw_or1 (pt_not (pt_chain op_le op_lt pe_int (pv 4) (pv 1))))))) (fun _ _ _ _ _ => pv 4)) (pe_lst pa_nil) (nomark _)) (pss_one (ps_ret pe_str)) pss_nil))))
      (pss_one (ps_ret (pe_ifExp (pt_cmpR (op_eqD hr.units) (pe_callTy call_list_of (by rfl) T.d.list (by decide +kernel) (pa_cons (pv 2) pa_nil)) (pe_callB (cr_sortR rfl hr.units) (by rfl) T.sorted (by decide +kernel) (pa_cons (pe_callTy (cr_setRT rfl hr.units) (by rfl) T.set (by decide +kernel) (pa_cons (pv 2) pa_nil)) pa_nil)) (nomark _)) pe_str pe_str)))))), ?_⟩
    have sm0 := (sm_wd d0 (Nat.le_trans hL.g0.wd (by decide))).1
    refine ⟨_, rfl, q, _, rfl, SqT.of hq, rfl, _, _, rfl, _, _, rfl, rfl, ?_⟩
    refine ⟨_, rfl, v0, d0, rfl, q0, sm0, fun H1 S1 => ⟨_, rfl, ?_⟩⟩
    rcases bool_ft (intD d0) with b | b
    · refine iteYes (by rw [b]; rfl) (iteYes rfl ?_)
      have : betD 1 3 d0 = false := by
        cases d0 with
        | int i => cases b
        | _ => rfl
      have k := k H1 S1
      rw [due_people this] at k
      exact k
    refine iteNo (by rw [b]; rfl) ?_
    obtain ⟨n, rfl⟩ := intD_of b
    cases q0
    refine ⟨_, rfl, _, _, rfl, rfl, _, rfl, ?_⟩
    have be : betD 1 3 (.int n) = (decide ((1 : Int) ≤ n) && decide (n ≤ 3)) := rfl
    by_cases n1 : 1 ≤ n
    case neg =>
      refine iteNo (decide_eq_false n1) ⟨_, rfl, iteYes rfl ?_⟩
      have k := k H1 S1
      rw [due_people (by rw [be, decide_eq_false n1]; rfl)] at k
      exact k
    refine iteYes (decide_eq_true n1) ⟨_, _, rfl, rfl, _, rfl, ?_⟩
    by_cases n3 : n ≤ 3
    case neg =>
      refine iteYes (by rw [decide_eq_false n3]; rfl) ?_
      have k := k H1 S1
      rw [due_people (by rw [be, decide_eq_false n3]; simp)] at k
      exact k
    refine iteNo (by rw [decide_eq_true n3]; rfl) ?_
    have bt : betD 1 3 (.int n) = true := by rw [be, decide_eq_true n1, decide_eq_true n3]; rfl
    have no : ∀ {H' : Hp}, Same H H' → matesD n d1 = false → Q (.str "pairs") H' := fun {H'} S' h => by
      have k := k H' S'
      rw [due_pairs1 bt h] at k
      exact k
    refine ⟨_, rfl, v1, d1, "tuple", rfl, by decide, Dq.same S1 _ _ q1, _, rfl, ?_⟩
    by_cases e : isA "tuple" d1 = true
    case neg =>
      refine iteYes (by simpa using e) (no S1 ?_)
      cases d1 with
      | tuple ds => exact absurd rfl e
      | _ => rfl
    refine iteNo (by rw [e]; rfl) ?_
    cases q1 with
    | @tup a xs ds ha qa =>
      have gw : max ds.length (wdAll ds) ≤ 900 := hL.g1.wd
      have gd : PyData.depthAll ds + 1 ≤ 8 := hL.g1.dp
      have lx := dq_len qa
      have fw : ds.length < 30 := hL.f1
      refine ⟨_, rfl, a, rfl, ⟨_, SqT.of (S1 _ _ ha)⟩, for_tup (K := K) (a := a) (xs := xs) (fun i σ H' => Same H H' ∧ (ds.take i).all (mateD n) = true ∧ ∃ o3 o4, σ = [some (.ref q), some (.int n), some (.ref a), o3, o4]) ⟨S1, rfl, _, _, rfl⟩ (fun i σ H' _ M => SqT.of (M.1 _ _ ha)) ?_ ?_⟩
      · rintro i y σ H2 hy ⟨S2, hal, o3, o4, rfl⟩
        obtain ⟨d, hd, qd⟩ := DqAll.at qa hy
        have qd2 := Dq.same S2 _ _ qd
        have md := List.mem_of_getElem? hd
        have wdd := Nat.le_trans (wdAll_mem md) (Nat.le_trans (Nat.le_max_right _ _) gw)
        have dpd := Nat.le_trans (depth_mem md) (by omega : PyData.depthAll ds ≤ 7)
        have bad : ∀ {H' : Hp}, Same H H' → mateD n d = false → Q (.str "pairs") H' := fun S' h => no S' (mates_no hd h)
        refine ⟨_, rfl, y, d, "tuple", rfl, by decide, qd2, _, rfl, ?_⟩
        by_cases e : isA "tuple" d = true
        case neg =>
          refine iteYes (by simpa using e) (iteYes rfl (bad S2 ?_))
          cases d with
          | tuple es => exact absurd rfl e
          | _ => rfl
        refine iteNo (by rw [e]; rfl) ?_
        obtain ⟨c, zs, es, rfl, rfl, hc, qc⟩ : ∃ c zs es, y = .ref c ∧ d = .tuple es ∧ H2 c = some (.tup zs) ∧ DqAll H2 zs es := by
          cases qd2 with
          | tup h q => exact ⟨_, _, _, rfl, rfl, h, q⟩
          | _ => exact absurd e (by first | decide | (intro z; cases z))
        have lz := dq_len qc
        refine ⟨_, rfl, _, _, rfl, .inr (SqT.of hc), rfl, _, rfl, ?_⟩
        by_cases l2 : es.length = 2
        case neg =>
          refine iteYes ?_ (iteYes rfl (bad S2 ?_))
          · rw [lz, decide_eq_false fun z => l2 (by injection z with z; omega)]
            rfl
          · match es, l2 with
            | [], _ => rfl
            | [_], _ => unfold mateD; split <;> first | rfl | (rename_i z; cases z)
            | [_, _], z => exact absurd rfl z
            | _ :: _ :: _ :: _, _ => unfold mateD; split <;> first | rfl | (rename_i z; cases z)
        obtain ⟨d2, d3, rfl⟩ : ∃ d2 d3, es = [d2, d3] := by
          match es, l2 with
          | [d2, d3], _ => exact ⟨d2, d3, rfl⟩
        refine iteNo (by rw [lz]; rfl) ?_
        have hc' := hc
        cases qc with
        | @cons y2 _ _ _ qy2 qc =>
        cases qc with
        | @cons y3 _ _ _ qy3 qc =>
        cases qc
        have wde : max ([d2, d3] : List PyData).length (max (wd d2) (max (wd d3) 0)) ≤ 900 := wdd
        have dpe : max d2.depth (max d3.depth 0) + 1 ≤ 7 := dpd
        refine ⟨_, rfl, c, _, _, y2, rfl, rfl, SqT.of hc, atI_nat (j := 0) rfl, _, rfl, c, _, _, y3, rfl, rfl, SqT.of hc, atI_nat (j := 1) rfl, d2, d3, qy2, qy3, by omega, by omega, by omega, fun b hb => ⟨_, rfl, ?_⟩⟩
        rcases bool_ft b with b1 | b1
        case inr =>
          refine iteYes b1 (bad S2 ?_)
          cases e : mateD n (.tuple [d2, d3]) with
          | false => rfl
          | true =>
            obtain ⟨p, ep, _, _, _, _, ne⟩ := mate_of e
            injection ep with ep
            injection ep with e1 ep
            injection ep with e2 _
            have := hb _ _ e1 e2
            rw [b1] at this
            exact absurd (of_decide_eq_true this.symm) ne
        refine iteNo b1 ?_
        refine ⟨_, rfl, c, rfl, ⟨_, SqT.of hc⟩, fun D nD => ?_⟩
        refine lc_tup (K := K) (a := c) (xs := [y2, y3]) (fun j H' => OddK H2 D n [d2, d3] j H') ⟨[], ⟨same_new nD, upd_same⟩, Nat.zero_le _, rfl⟩ (fun j H' _ M => by
          obtain ⟨vs, M, _⟩ := M
          exact SqT.of (M.1 _ _ hc)) ?_ ?_
        · rintro j y4 H3 hy4 ⟨vs, M, lv, hv⟩
          obtain ⟨d4, hd4, qd4⟩ := DqAll.at (.cons qy2 (.cons qy3 .nil)) hy4
          have w4 : wd d4 ≤ 1000 := by
            have := List.mem_of_getElem? hd4
            simp only [List.mem_cons, List.not_mem_nil, or_false] at this
            rcases this with rfl | rfl <;> omega
          have et : ([d2, d3] : List PyData).take (j + 1) = ([d2, d3] : List PyData).take j ++ [d4] := by
            rw [List.take_add_one, hd4]
            rfl
          have j2 : j < 2 := (List.getElem?_eq_some_iff.mp hd4).1
          have put : ∀ {H4 : Hp}, Same H3 H4 → betD 0 (n - 1) d4 = false → ∃ acc, H4 D = some (.lst acc) ∧ acc.length < sizeLine ∧ OddK H2 D n [d2, d3] (j + 1) (upd H4 D (.lst (acc ++ [y4]))) := fun {H4} S4 hb4 => by
            obtain ⟨h1, M2⟩ := M.more y4 nD S4
            refine ⟨vs, h1, by rw [sizeLine_eq]; omega, vs ++ [y4], M2, by rw [List.length_append]; show vs.length + 1 ≤ _; omega, ?_⟩
            rw [et, List.all_append]
            show (vs ++ [y4]).isEmpty = (_ && (betD 0 (n - 1) d4 && true))
            rw [hb4]
            cases vs <;> simp
          have skip : ∀ {H4 : Hp}, Same H3 H4 → betD 0 (n - 1) d4 = true → OddK H2 D n [d2, d3] (j + 1) H4 := fun {H4} S4 hb4 => by
            refine ⟨vs, ⟨M.1.trans S4, S4 _ _ M.2⟩, by omega, ?_⟩
            rw [et, List.all_append, hv]
            show _ = (_ && (betD 0 (n - 1) d4 && true))
            rw [hb4]
            simp
          refine ⟨rfl, _, rfl, y4, d4, rfl, Dq.same M.1 _ _ qd4, (sm_wd d4 w4).1, fun H4 S4 => ⟨_, rfl, ?_⟩⟩
          rcases bool_ft (intD d4) with b4 | b4
          · refine iteYes (by rw [b4]; rfl) (iteYes rfl ⟨_, rfl, put S4 ?_⟩)
            cases d4 with
            | int i => cases b4
            | _ => rfl
          refine iteNo (by rw [b4]; rfl) ?_
          obtain ⟨m, rfl⟩ := intD_of b4
          have qd5 := Dq.same S4 _ _ (Dq.same M.1 _ _ qd4)
          cases qd5
          have bm : betD 0 (n - 1) (.int m) = (decide ((0 : Int) ≤ m) && decide (m ≤ n - 1)) := rfl
          refine ⟨_, rfl, _, _, rfl, rfl, _, rfl, ?_⟩
          by_cases m0 : 0 ≤ m
          case neg =>
            refine iteNo (decide_eq_false m0) ⟨_, rfl, iteYes rfl ⟨_, rfl, put S4 (by rw [bm, decide_eq_false m0]; rfl)⟩⟩
          refine iteYes (decide_eq_true m0) ⟨_, rfl, _, _, rfl, rfl, _, rfl, ?_⟩
          by_cases m1 : m < n
          case neg =>
            refine iteYes (by rw [decide_eq_false m1]; rfl) ⟨_, rfl, put S4 (by rw [bm, decide_eq_false (by omega : ¬ m ≤ n - 1)]; simp)⟩
          refine iteNo (by rw [decide_eq_true m1]; rfl) (skip S4 (by rw [bm, decide_eq_true m0, decide_eq_true (by omega : m ≤ n - 1)]; rfl))
        · rintro H3 ⟨vs, M, lv, hv⟩
          refine ⟨(by show 0 ≤ sizeLine; decide), fun pe npe => ?_⟩
          have Se := same_new (o := HO.lst []) npe
          have S3 := S2.trans (M.1.trans Se)
          refine ⟨D, pe, vs, rfl, rfl, Se _ _ M.2, upd_same, _, rfl, ?_⟩
          have hv : vs.isEmpty = (betD 0 (n - 1) d2 && (betD 0 (n - 1) d3 && true)) := hv
          by_cases e5 : vs.isEmpty = true
          case neg =>
            refine iteYes (by simpa using e5) (bad S3 ?_)
            cases e6 : mateD n (.tuple [d2, d3]) with
            | false => rfl
            | true =>
              obtain ⟨p, ep, p0, p1, p2, p3, ne⟩ := mate_of e6
              injection ep with ep
              injection ep with e1 ep
              injection ep with e2 _
              subst e1 e2
              refine absurd ?_ e5
              rw [hv]
              show ((decide ((0 : Int) ≤ p.1) && decide (p.1 ≤ n - 1)) && ((decide ((0 : Int) ≤ p.2) && decide (p.2 ≤ n - 1)) && true)) = true
              rw [decide_eq_true p0, decide_eq_true p2, decide_eq_true (by omega : p.1 ≤ n - 1), decide_eq_true (by omega : p.2 ≤ n - 1)]
              rfl
          refine iteNo (by rw [e5]; rfl) ⟨S3, ?_, _, _, rfl⟩
          rw [e5] at hv
          have hv := Bool.and_eq_true_iff.mp hv.symm
          have hv2 := (Bool.and_eq_true_iff.mp hv.2).1
          obtain ⟨m, rfl, _, _⟩ := bet_of hv.1
          obtain ⟨m2, rfl, _, _⟩ := bet_of hv2
          have := hb m m2 rfl rfl
          rw [b1] at this
          have ne : m ≠ m2 := of_decide_eq_false this.symm
          rw [List.take_add_one, hd, List.all_append, hal]
          show (true && ((betD 0 (n - 1) (.int m) && (betD 0 (n - 1) (.int m2) && !decide (V.int m = V.int m2))) && true)) = true
          rw [hv.1, hv2, decide_eq_false fun z => ne (by injection z)]
          rfl
      · rintro σ H2 ⟨S2, hal, o3, o4, rfl⟩
        rw [lx, List.take_length] at hal
        obtain ⟨ps, rfl, hps⟩ := mates_of hal
        rw [List.length_map] at fw lx
        have qa2 := DqAll.same S2 _ _ qa
        refine ⟨_, rfl, a, xs, rfl, .inr (SqT.of (S2 _ _ ha)), fun l nl => ?_⟩
        have Sl := same_new (o := HO.lst xs) nl
        have hl := upd_same (H := H2) (a := l) (o := HO.lst xs)
        revert Sl hl
        generalize upd H2 l (.lst xs) = H3
        intro Sl hl
        refine ⟨_, rfl, ?_⟩
        dsimp only [tNil]
        refine srt_in (ps := ps) (by omega) (Sl _ _ (S2 _ _ ha)) (DqAll.same Sl _ _ qa2) fun H4 ys p S S4 hp4 qS ss => ?_
        have S24 := Sl.trans S4
        refine ⟨.list (ps.map prD), .list (S.map prD), dp_shaped (shaped_prs ps) (.lst (S4 _ _ hl) (DqAll.same S24 _ _ qa2)), dp_shaped (shaped_prs S) (.lst hp4 qS), shaped_prs ps, shaped_prs S, _, rfl, ?_⟩
        have ev : PyData.eqv (.list (ps.map prD)) (.list (S.map prD)) = ascD (ps.map prD) := by
          rw [asc_same ss]
          exact eqv_prs
        rw [ev]
        have mt : matesD n (.tuple (ps.map prD)) = ascD (ps.map prD) := by
          show (true && ((ps.map prD).all (mateD n) && ascD (ps.map prD))) = _
          rw [hal]
          rfl
        have S5 := S2.trans S24
        rcases bool_ft (ascD (ps.map prD)) with b6 | b6
        · exact iteNo b6 (no S5 (by rw [mt, b6]))
        · refine iteYes b6 ?_
          have k := k H4 S5
          rw [due_none bt (by rw [mt, b6])] at k
          exact k
    | _ => exact absurd e (by first | decide | (intro z; cases z))
end
end KL
set_option Elab.async false
set_option linter.all false
set_option maxRecDepth 100000
set_option maxHeartbeats 8000000
namespace KL
open PySem L2 PySem.KX PySem.Spec PyProof.Rows
/-! ### the policy, or the part that is told -/
abbrev kInit2 : List Str := ["pairs", "people"]
structure TxtH (K : PySem.W.Frag) (mg : Str → Option Value) (CB IB C CH fI : Addr) (fdI : FuncData) : Prop where
  e : TxtE K mg CB IB
  ex : PySem.W.exmOne K (.ref CB) (.ref CB) = some true
  mkd : Mk K C fI
  mC : mg "Policy" = some (.ref C)
  b : L2.Binds K fdI pInit2 []
  kb : ∀ (s2 : Shared) (a : Addr) (ws : List Value), K.In s2.heap → ws.length = kInit2.length → BindsTo s2 fdI ⟨[.ref a], kInit2.zip ws⟩ (pInit2.zip (.ref a :: ws.reverse))
  mH : mg "HouseError" = some (.ref CH)
  isH : PySem.W.kitOne K (.ref CB) (.ref CH) = some true
/-- what is told of an error -/
def badD (wd : Str) : PyData := .list [.str "bad", .str wd, .bool true]
theorem Lot.sm {d0 d1 : PyData} (h : Lot d0 d1) : smB d0 = true ∧ smB d1 = true := ⟨(sm_wd _ (Nat.le_trans h.g0.wd (by decide))).1, (sm_wd _ (Nat.le_trans h.g1.wd (by decide))).1⟩
def spHeard (C : Addr) : Sp := fun vs H Q _ => ∃ (q : Addr) (nm : Bool) (v0 v1 : V) (d0 d1 : PyData), vs = [.ref q, .bl nm] ∧ H q = some (.tup [v0, v1]) ∧ Dq H v0 d0 ∧ Dq H v1 d1 ∧ Lot d0 d1 ∧
  (dueP d0 d1 = none → ∀ H' x dx, Same H H' → H' x = some (.ins C dx (polF v0 v1)) → Q (.ref x) H') ∧ ∀ wd, dueP d0 d1 = some wd → ∀ H' v, Same H H' → Dq H' v (badD wd) → Q v H'
def sHeardS : List Stmt := match (defBody lHeard).getD 1 (.Pass ⟨0, 0, 0, 0⟩) with
  | .Try _ [.ExceptHandler _ _ b _] _ _ _ => b
  | _ => []
section
variable {P : Program} {w : World} {K : PySem.W.Frag} {mg : Str → Option Value} {base : Heap} {C CB IB CH fI : Addr} {fdI : FuncData}
abbrev nHeard : List Str := ["_law_lot", "_law_is_named", "_law_found", "e"]
theorem scHeard : FnScope nHeard ["_law_lot", "_law_is_named"] (defScope lHeard) := ⟨rfl, rfl, rfl, by decide +kernel, rfl, by decide +kernel, by decide +kernel⟩
def tSuH (K : PySem.W.Frag) (CB CH : Addr) (a : Addr) (cls : Value) (d : Option Addr) : TS := tAsg (tLst (tCons (tC (.str "bad")) (tCons (tXf a cls d CB "part" (tVar 3)) (tCons (tCB (rIsX K a cls d) (tCons (tVar 3) (tCons (tC (.ref CH)) tNil))) tNil)))) (gName 2)
theorem ok_heard {f : Addr} {fd : FuncData} (F : Fun K "_law_heard" "_law_heard" lHeard f fd) (TC : TxtH K mg CB IB C CH fI fdI) (T : TxtB mg) (G : FnOk P w K mg base (L2.CX P w) 5 fI fdI pInit2 (spPInit C CB)) : FnOk P w K mg base CX0 7 f fd ["_law_lot", "_law_is_named"] (spHeard C) := by
  refine F.ok scHeard (fun vs H Q E h => ?_) (fun cdv A outer s H vs Q E hr h => ?_)
  · obtain ⟨q, nm, v0, v1, d0, d1, rfl, _⟩ := h
    rfl
  · obtain ⟨q, nm, v0, v1, d0, d1, rfl, hq, q0, q1, hF, k, kE⟩ := h
    let X0 : Cx := (cxOf CX0 P w K mg base nHeard "_law_heard" (defScope lHeard) f cdv A outer s H E).nox
    have su : ∀ (a : Addr) (oe : Obj) (cls : Value) (d : Option Addr) (pn : List (Addr × Obj)), Zc cls d oe → (∃ vs, oe.data = .fields vs) → PSs (X0.suite a ((a, oe) :: pn)) sHeardS (tSuH K CB CH a cls d) := fun a oe cls d pn hz hf =>
      pss_one (ps_set (i := 2) scHeard.nd rfl (.inl rfl) (pe_lst (pa_cons pe_str (pa_cons (pe_xf (X := X0) (n := "part") (C := CB) ⟨TC.e.ei.c.is.hg, TC.e.ei.c.is.hk, TC.e.ei.c.is.hs, TC.e.ei.c.hd⟩ TC.e.ei.nf hz hf (pv 3)) (pa_cons (pe_callB (call_isX (X := X0) hz hf) (by rfl) T.isi (by decide +kernel) (pa_cons (pv 3) (pa_cons (pe_glob (v := .ref CH) (by rfl) TC.mH rfl) pa_nil))) pa_nil)))))
    refine ⟨_, pss_cons (ps_set (i := 2) scHeard.nd rfl (.inl rfl) pe_non)
      (pss_cons (ps_try_as (X := X0) (i := 3) (ts := tSuH K CB CH) (Wout := fun _ _ _ _ => False) rfl rfl scHeard.nd rfl rfl ⟨rfl, by decide, .inl TC.e.m⟩ takes0 (fun W pn xe tk _ => pss_one
        (ps_set (i := 2) scHeard.nd rfl (.inl rfl) (pe_ifExp (pt_val (pv 1)) (pe_mkKS (ks := kInit2) TC.mkd G (hr.mono (by decide)) (by rfl) TC.mC TC.kb (passAt tk) (pk_cons (pe_ix (r := rIxT K) ix_tup (pv 0) pe_int (fun _ _ => rfl)) (pk_cons (pe_ix (r := rIxT K) ix_tup (pv 0) pe_int (fun _ _ => rfl)) pk_nil)))
        (pe_mkS TC.mkd G (hr.mono (by decide)) (by rfl) TC.mC TC.b (passAt tk) (pa_cons (pe_ix (r := rIxT K) ix_tup (pv 0) pe_int (fun _ _ => rfl)) (pa_cons (pe_ix (r := rIxT K) ix_tup (pv 0) pe_int (fun _ _ => rfl)) pa_nil)))))) su)
      (pss_one (ps_ret (pv 2)))), ?_⟩
    have S2 : ∀ x dx, H x = none → H dx = none → Same H (upd (upd H dx (.own x)) x (.ins C dx [])) := fun x dx n1 n2 b o e => by
      rw [upd_ne (ne_of_none e n1), upd_ne (ne_of_none e n2)]
      exact e
    obtain ⟨m0, m1⟩ := hF.sm
    refine ⟨_, rfl, nm, rfl, ?_⟩
    by_cases hn : nm = true
    · refine iteYes hn ⟨_, rfl, q, _, _, _, rfl, rfl, SqT.of hq, rfl, _, rfl, q, _, _, _, rfl, rfl, SqT.of hq, rfl, rfl, fun x dx nx ndx ne => ?_⟩
      refine ⟨H, x, dx, v0, v1, d0, d1, rfl, S2 x dx nx ndx, nx, upd_same, q0, q1, m0, m1, fun hn H' SH fx => ⟨rfl, _, rfl, k hn H' x dx SH fx⟩, fun wd hE H' dd SH hd => ⟨true, TC.ex, fun _ a ha => ?_, fun z => nomatch z⟩⟩
      exact ⟨_, rfl, rfl, rfl, dd, _, _, rfl, hd, rfl, _, rfl, CB, dd, _, .ref CH, _, true, rfl, rfl, rfl, hd, TC.e.ei.c, .own CH, TC.isH, (by show 3 ≤ sizeLine; decide), fun l nl => ⟨_, rfl, kE wd hE _ _ (SH.trans (same_new nl)) (.lst upd_same (.cons (.str _) (.cons (.str _) (.cons (.bl _) .nil))))⟩⟩
    · refine iteNo (by simpa using hn) ⟨_, rfl, q, _, _, _, rfl, rfl, SqT.of hq, rfl, _, rfl, q, _, _, _, rfl, rfl, SqT.of hq, rfl, fun x dx nx ndx ne => ?_⟩
      refine ⟨H, x, dx, v0, v1, d0, d1, rfl, S2 x dx nx ndx, nx, upd_same, q0, q1, m0, m1, fun hn H' SH fx => ⟨rfl, _, rfl, k hn H' x dx SH fx⟩, fun wd hE H' dd SH hd => ⟨true, TC.ex, fun _ a ha => ?_, fun z => nomatch z⟩⟩
      exact ⟨_, rfl, rfl, rfl, dd, _, _, rfl, hd, rfl, _, rfl, CB, dd, _, .ref CH, _, true, rfl, rfl, rfl, hd, TC.e.ei.c, .own CH, TC.isH, (by show 3 ≤ sizeLine; decide), fun l nl => ⟨_, rfl, kE wd hE _ _ (SH.trans (same_new nl)) (.lst upd_same (.cons (.str _) (.cons (.str _) (.cons (.bl _) .nil))))⟩⟩
end
end KL
set_option Elab.async false
set_option linter.all false
set_option maxRecDepth 100000
set_option maxHeartbeats 8000000
namespace KL
open PySem L2 PySem.KX PySem.Spec PyProof.Rows
structure PolFns (P : Program) (w : World) (K : PySem.W.Frag) (mg : Str → Option Value) (base : Heap) (C CB fI fE fL : Addr) (dI dE dL : FuncData) : Prop where
  I : FnOk P w K mg base (L2.CX P w) 5 fI dI pInit2 (spPInit C CB)
  mkd : Mk K C fI
  bI : L2.Binds K dI pInit2 []
  E : FnOk P w K mg base CX0 3 fE dE ["self", "other"] (spPEq C)
  sE : PySem.W.findIn K (.ref C) "__eq__" = some (some (.ref fE))
  iE : PySem.W.isFn K (.ref fE) = true
  bE : L2.Binds K dE ["self", "other"] []
  ne : PySem.W.findIn K (.ref C) "__ne__" = some (some (.builtin "object.__ne__"))
  ob : PySem.W.mroIn K C (.type "object") = some true
  L : FnOk P w K mg base CX0 1 fL dL ["self"] (spPLen C)
  sL : PySem.W.findIn K (.ref C) "__len__" = some (some (.ref fL))
  iL : PySem.W.isFn K (.ref fL) = true
  bL : L2.Binds K dL ["self"] []
theorem ne_self' {x : V} : (!decide (x = x)) = false := by rw [decide_eq_true rfl]; rfl
theorem lot_seen {d0 d1 : PyData} (F : Lot d0 d1) : Seen (.tuple [d0, d1]) := by
  have t : txD (.tuple [d0, d1]) = true := by
    show (txD d0 && (txD d1 && true)) = true
    rw [F.g0.tx, F.g1.tx]
    rfl
  have b0 := F.g0.wd
  have b1 := F.g1.wd
  have c0 := F.g0.wt
  have c1 := F.g1.wt
  have e0 := F.g0.dp
  have e1 := F.g1.dp
  refine ⟨(sm_wd (.tuple [d0, d1]) ?_).2, Nat.le_trans (shown_wt _ t) ?_, ?_⟩
  · show max 2 (max (wd d0) (max (wd d1) 0)) ≤ 1000
    omega
  · show (wt d0 + 2 + (wt d1 + 2 + 0)) + 3 ≤ 4000000
    omega
  · show max d0.depth (max d1.depth 0) + 1 ≤ 20
    omega
theorem due_word {d0 d1 : PyData} {wd : Str} (h : dueP d0 d1 = some wd) : wd = "people" ∨ wd = "pairs" := by
  unfold dueP at h
  split at h
  · exact .inl (Option.some.inj h).symm
  split at h
  · exact .inr (Option.some.inj h).symm
  · cases h
theorem bad_seen {wd : Str} (h : wd = "people" ∨ wd = "pairs") : Seen (badD wd) := by
  rcases h with rfl | rfl <;> exact ⟨by decide +kernel, by decide +kernel, by decide⟩
theorem DqAll.cons2 {H : Hp} {v : V} {vs : List V} {d : PyData} {ds : List PyData} (h : Dq H v d) (hs : DqAll H vs ds) : DqAll H (v :: vs) (d :: ds) := .cons h hs
/-- it was made rightly -/
def spMade : Sp := fun vs H Q _ => ∃ (q : Addr) (nm : Bool) (v0 v1 : V) (d0 d1 : PyData), vs = [.ref q, .bl nm] ∧ H q = some (.tup [v0, v1]) ∧ Dq H v0 d0 ∧ Dq H v1 d1 ∧ Lot d0 d1 ∧ ∀ H', Same H H' → Q (.bl true) H'
abbrev nMade : List Str := ["_law_lot", "_law_is_named", "_law_kept", "_law_due_here", "_law_told", "_law_mate", "_law_it"]
section
variable {P : Program} {w : World} {K : PySem.W.Frag} {mg : Str → Option Value} {base : Heap} {C CB fI fE fL : Addr} {dI dE dL : FuncData}
theorem scMade : FnScope nMade ["_law_lot", "_law_is_named"] (defScope lMade) := ⟨rfl, rfl, rfl, by decide +kernel, rfl, by decide +kernel, by decide +kernel⟩
theorem ok_made {f g1 g2 : Addr} {fd gd1 gd2 : FuncData} (F : Fun K "_law_made_right" "_law_made_right" lMade f fd) (T : TxtG mg) (TP : TxtP K C) (TQ : TxtQ K C) (mC : mg "Policy" = some (.ref C)) (R : PolFns P w K mg base C CB fI fE fL dI dE dL)
    (G1 : FnOk P w K mg base CX0 2 g1 gd1 ["_law_lot"] spDueL) (c1 : Cal K mg "_law_due" g1 gd1 ["_law_lot"])
    (G2 : FnOk P w K mg base CX0 7 g2 gd2 ["_law_lot", "_law_is_named"] (spHeard C)) (c2 : Cal K mg "_law_heard" g2 gd2 ["_law_lot", "_law_is_named"]) :
    FnG P w K mg base CX0 8 f fd ["_law_lot", "_law_is_named"] spMade := by
  refine fnG0 F scMade (fun vs H Q E h => ?_) (fun cdv A outer s H vs Q E hG hr h => ?_)
  · obtain ⟨q, nm, v0, v1, d0, d1, rfl, _⟩ := h
    rfl
  · obtain ⟨q, nm, v0, v1, d0, d1, rfl, hq, q0, q1, hF, k⟩ := h
    have nd := scMade.nd
    let X0 : Cx := (cxOf CX0 P w K mg base nMade "_law_made_right" (defScope lMade) f cdv A outer s H E).nox
    refine ⟨_, pss_cons (ps_asg (g := gTup K 3 (gCons (gName 2) (gCons (gName 3) (gCons (gName 4) gNil)))) (pe_tup (pa_cons (pe_callB (call_repT (X := X0) hG hr.units) (by rfl) T.repr (by decide +kernel) (pa_cons (pv 0) pa_nil)) (pa_cons (pe_call G1 (hr.mono (by decide)) (by rfl) c1.m c1.k c1.b .nil pass0 (pa_cons (pv 0) pa_nil)) (pa_cons (pe_call G2 hr (by rfl) c2.m c2.k c2.b .nil pass0 (pa_cons (pv 0) (pa_cons (pv 1) pa_nil))) pa_nil)))) (pg_tup rfl (pgs_cons (pg_name (i := 2) nd rfl (.inl rfl)) (pgs_cons (pg_name (i := 3) nd rfl (.inl rfl)) (pgs_cons (pg_name (i := 4) nd rfl (.inr rfl)) pgs_nil)))))
      (pss_cons (ps_if (pt_cmpR op_ne (pe_callB (call_repT (X := X0) hG hr.units) (by rfl) T.repr (by decide +kernel) (pa_cons (pv 0) pa_nil)) (pv 2) (nomark _)) (pss_one (ps_ret pe_bl)) pss_nil)
      (pss_cons (ps_if (pt_cmpR op_ne (pv 3) pe_str (nomark _))
        (pss_one (ps_ret (pe_cmpR op_eq (pe_callB (call_repL (X := X0) hG hr.units) (by rfl) T.repr (by decide +kernel) (pa_cons (pv 4) pa_nil)) (pe_callB (call_repL (X := X0) hG hr.units) (by rfl) T.repr (by decide +kernel) (pa_cons (pe_lst (pa_cons pe_str (pa_cons (pv 3) (pa_cons pe_bl pa_nil)))) pa_nil)) (nomark _)))) pss_nil)
      (pss_cons (ps_if (PW.pt (pw_or (pt_not (pt_val (pe_callB call_isi (by rfl) T.b.isi (by decide +kernel) (pa_cons (pv 4) (pa_cons (pe_glob (v := .ref C) (by rfl) mC rfl) pa_nil)))))
          (pw_or (pt_cmpR op_ne (pe_callB (call_repT (X := X0) hG hr.units) (by rfl) T.repr (by decide +kernel) (pa_cons (pe_tup (pa_cons (pe_fld (pv 4) (by rfl)) (pa_cons (pe_fld (pv 4) (by rfl)) pa_nil))) pa_nil)) (pv 2) (nomark _))
          (pw_or1 (pt_cmpR op_ne (pe_callB (cr_lenOwn (X := X0) R.L R.sL R.iL R.bL (E := E0) pass0 (hr.mono (by decide))) (by rfl) T.b.len (by decide +kernel) (pa_cons (pv 4) pa_nil)) (pe_callB call_len_seq (by rfl) T.b.len PySem.boot_len (pa_cons (pe_ix (r := rIxT K) ix_tup (pv 0) pe_int (fun _ _ => rfl)) pa_nil)) (nomark _)))))) (pss_one (ps_ret pe_bl)) pss_nil)
      (pss_cons (ps_set (i := 5) nd rfl (.inl rfl) (pe_call G2 hr (by rfl) c2.m c2.k c2.b .nil pass0 (pa_cons (pv 0) (pa_cons (pe_not (pv 1)) pa_nil))))
      (pss_cons (ps_if (PW.pt (pw_or (pt_not (pt_cmpR (op_eqOwn (X := X0) R.E R.sE R.iE R.bE (E := E0) pass0 (hr.mono (by decide))) (pv 4) (pv 5) (nomark _))) (pw_or1 (pt_cmpR (op_neOwn (X := X0) R.E R.sE R.iE R.bE (E := E0) pass0 R.ne R.ob (hr.mono (by decide))) (pv 4) (pv 5) (nomark _))))) (pss_one (ps_ret pe_bl)) pss_nil)
      (pss_one (ps_ret (pe_cmpR (op_eqNil hr.units) (pe_lc (own := [("_law_it", 6)]) (g := gName 6) (tt := tOr (tTest (tOp (rOwn false K C (spPEq C) E0) (tVar 4) (tVar 6))) (tNot (tTest (tOp (rOwn true K C (spPEq C) E0) (tVar 4) (tVar 6))))) rfl nd
            (pi_tup (pe_tup (pa_cons pe_non (pa_cons pe_int (pa_cons (pv 0) (pa_cons (pe_ix (r := rIxT K) ix_tup (pv 0) pe_int (fun _ _ => rfl)) (pa_cons (pe_ix (r := rIxT K) ix_tup (pv 0) pe_int (fun _ _ => rfl)) (pa_cons (pe_tup pa_nil) (pa_cons (pv 2) pa_nil))))))))) (blkOk_by (N := nMade) (sc := defScope lMade) (by decide +kernel)) (fun _ _ _ _ _ => pg_name (i := 6) nd rfl (.inl rfl))
            (fun _ _ _ _ _ => pts_one (PW.pt (pw_or (pt_cmpR (op_eqOwn R.E R.sE R.iE R.bE (E := E0) pass0 (hr.mono (by decide))) (pv 4) (pv 6) (nomark _)) (pw_or1 (pt_not (pt_cmpR (op_neOwn R.E R.sE R.iE R.bE (E := E0) pass0 R.ne R.ob (hr.mono (by decide))) (pv 4) (pv 6) (nomark _))))))) (fun _ _ _ _ _ => pv 6)) (pe_lst pa_nil) (nomark _))))))))), ?_⟩
    have seen := lot_seen hF
    have dall : ∀ {H' : Hp}, Same H H' → DqAll H' [v0, v1] [d0, d1] := fun {H'} S => DqAll.same S _ _ (.cons q0 (.cons q1 .nil))
    cases hd : dueP d0 d1 with
    | some wd =>
      have dw : dueW d0 d1 = wd := by unfold dueW; rw [hd]; rfl
      have wdc := due_word hd
      refine ⟨_, rfl, q, _, _, rfl, hq, dall (Same.refl _), seen, _, rfl, q, v0, v1, d0, d1, rfl, hq, q0, q1, hF, fun H1 S1 => ?_⟩
      rw [dw]
      refine ⟨_, rfl, _, rfl, q, nm, v0, v1, d0, d1, rfl, S1 _ _ hq, Dq.same S1 _ _ q0, Dq.same S1 _ _ q1, hF, fun z => (by rw [hd] at z; cases z), fun wd' e1 H2 v S2 dv => ?_⟩
      rw [hd] at e1
      cases e1
      refine ⟨(by show 3 ≤ sizeLine; decide), fun pt npt => ⟨pt, _, rfl, SqT.of upd_same, rfl, _, _, rfl, _, _, rfl, _, _, rfl, rfl, ?_⟩⟩
      generalize hx : (PyData.tuple [d0, d1]).shown = was
      have Sp := same_new (o := .tup [.str was, .str wd, v]) npt
      have S := S1.trans (S2.trans Sp)
      have dv := Dq.same Sp _ _ dv
      revert S dv
      generalize upd H2 pt (.tup [.str was, .str wd, v]) = H2
      intro S dv
      refine ⟨_, rfl, q, _, _, rfl, S _ _ hq, dall S, seen, _, rfl, rfl, _, rfl, iteNo (by rw [hx]; exact ne_self') ?_⟩
      have nw : (!decide (V.str wd = V.str "")) = true := by rcases wdc with rfl | rfl <;> decide +kernel
      refine ⟨_, rfl, rfl, _, rfl, iteYes nw ?_⟩
      have bs := bad_seen wdc
      obtain ⟨a, vs, rfl, ha, hv⟩ : ∃ a vs, v = .ref a ∧ H2 a = some (.lst vs) ∧ DqAll H2 vs [.str "bad", .str wd, .bool true] := by
        cases dv with
        | lst h1 h2 => exact ⟨_, _, rfl, h1, h2⟩
      cases hv with
      | @cons w0 ws _ _ h0 hv =>
      refine ⟨_, rfl, a, w0, ws, _, _, rfl, ha, DqAll.cons2 h0 hv, bs, ?_⟩
      refine ⟨_, rfl, (by show 3 ≤ sizeLine; decide), fun l nl => ?_⟩
      have Sl := same_new (o := .lst [.str "bad", .str wd, .bl true]) nl
      refine ⟨l, _, _, _, _, rfl, upd_same, .cons (.str _) (.cons (.str _) (.cons (.bl _) .nil)), bs, rfl, ?_⟩
      rw [decide_eq_true rfl]
      exact k _ (S.trans Sl)
    | none =>
      have dw : dueW d0 d1 = "" := by unfold dueW; rw [hd]; rfl
      obtain ⟨n, ps, rfl, rfl, hP⟩ := right_pol hd hF.sm.2
      have n1 := hP.n1
      have n3 := hP.n3
      cases q0
      refine ⟨_, rfl, q, _, _, rfl, hq, dall (Same.refl _), seen, _, rfl, q, .int n, v1, .int n, prsD ps, rfl, hq, .int n, q1, hF, fun H1 S1 => ?_⟩
      rw [dw]
      refine ⟨_, rfl, _, rfl, q, nm, .int n, v1, .int n, prsD ps, rfl, S1 _ _ hq, .int n, Dq.same S1 _ _ q1, hF, fun _ H2 x dx S2 hx2 => ?_, fun wd e1 => (by rw [hd] at e1; cases e1)⟩
      refine ⟨(by show 3 ≤ sizeLine; decide), fun pt npt => ⟨pt, _, rfl, SqT.of upd_same, rfl, _, _, rfl, _, _, rfl, _, _, rfl, rfl, ?_⟩⟩
      generalize hx : (PyData.tuple [.int n, prsD ps]).shown = was
      have S := S1.trans (S2.trans (same_new (o := .tup [.str was, .str "", .ref x]) npt))
      have hx2 := (same_new (o := .tup [.str was, .str "", .ref x]) npt) _ _ hx2
      revert S hx2
      generalize upd H2 pt (.tup [.str was, .str "", .ref x]) = H2
      intro S hx2
      refine ⟨_, rfl, q, _, _, rfl, S _ _ hq, dall S, seen, _, rfl, rfl, _, rfl, iteNo (by rw [hx]; exact ne_self') ⟨_, rfl, rfl, _, rfl, iteNo (by decide +kernel) ?_⟩⟩
      refine ⟨_, rfl, .ref x, .ref C, _, .ref C, true, rfl, .own C, .base (ty_ins TQ.i hx2), TQ.i.me, _, rfl, iteNo rfl ?_⟩
      refine ⟨_, rfl, x, C, dx, _, _, rfl, hx2, TP.c, TP.people, pol_people _ _, _, rfl, x, C, dx, _, _, rfl, hx2, TP.c, TP.pairs, pol_pairs _ _, (by show 2 ≤ sizeLine; decide), fun qt nqt => ?_⟩
      have S3 := S.trans (same_new (o := .tup [.int n, v1]) nqt)
      have ht : upd H2 qt (.tup [.int n, v1]) qt = some (.tup [.int n, v1]) := upd_same
      have hx3 := (same_new (o := .tup [.int n, v1]) nqt) _ _ hx2
      revert S3 ht hx3
      generalize upd H2 qt (.tup [.int n, v1]) = H3
      intro S3 ht hx3
      have q1' := fun {H' : Hp} (S : Same H H') => Dq.same S _ _ q1
      have pol : ∀ {H' : Hp}, Same H3 H' → PolAt C H' x n v1 ps := fun {H'} S' => ⟨dx, S' _ _ hx3, q1' (S3.trans S')⟩
      refine ⟨qt, _, _, rfl, ht, dall S3, seen, _, rfl, rfl, _, rfl, iteNo (by rw [hx]; exact ne_self') ?_⟩
      refine ⟨_, rfl, x, dx, _, rfl, hx3, x, n, v1, ps, rfl, pol (Same.refl _), hP.few, (ps.length : Int), rfl, by omega, by have := hP.few; omega, ?_⟩
      obtain ⟨a1, xs1, rfl, ha1, hq1⟩ : ∃ a1 xs1, v1 = .ref a1 ∧ H a1 = some (.tup xs1) ∧ DqAll H xs1 (ps.map prD) := by
        cases q1 with
        | tup h1 h2 => exact ⟨_, _, rfl, h1, h2⟩
      have l1 : xs1.length = ps.length := by rw [dq_len hq1, List.length_map]
      refine ⟨_, rfl, q, _, _, .ref a1, rfl, rfl, SqT.of (S3 _ _ hq), atI_nat (j := 1) rfl, a1, xs1, rfl, .inr (SqT.of (S3 _ _ ha1)), rfl, _, rfl, iteNo (by rw [l1]; exact ne_self') ?_⟩
      refine ⟨_, rfl, _, rfl, _, rfl, q, !nm, .int n, .ref a1, .int n, prsD ps, rfl, S3 _ _ hq, .int n, q1' S3, hF, fun _ H4 y dy S4 hy4 => ?_, fun wd e1 => (by rw [hd] at e1; cases e1)⟩
      have S5 := S3.trans S4
      have polM : PolAt C H4 y n (.ref a1) ps := ⟨dy, hy4, q1' S5⟩
      have tru : (decide (n = n) && decide (ps = ps)) = true := by rw [decide_eq_true rfl, decide_eq_true rfl]; rfl
      refine ⟨_, rfl, _, rfl, x, dx, _, rfl, S4 _ _ hx3, other_ins TQ.i hy4, x, .ref y, n, .ref a1, ps, rfl, pol S4, .inr ⟨y, n, .ref a1, ps, rfl, polM, _, rfl, ?_⟩⟩
      refine ⟨_, rfl, iteNo (by rw [tru]; rfl) ?_⟩
      refine ⟨_, rfl, _, rfl, x, dx, _, rfl, S4 _ _ hx3, other_ins TQ.i hy4, x, .ref y, n, .ref a1, ps, rfl, pol S4, .inr ⟨y, n, .ref a1, ps, rfl, polM, _, rfl, ?_⟩⟩
      refine ⟨_, rfl, iteNo (by rw [tru]; rfl) ?_⟩
      refine ⟨_, rfl, _, rfl, q, _, _, .int n, rfl, rfl, SqT.of (S5 _ _ hq), atI_nat (j := 0) rfl, _, rfl, q, _, _, .ref a1, rfl, rfl, SqT.of (S5 _ _ hq), atI_nat (j := 1) rfl, (by show 0 ≤ sizeLine; decide), fun e0 ne0 => ⟨_, rfl, (by show 7 ≤ sizeLine; decide), fun tp ntp => ?_⟩⟩
      have Se := same_new (o := .tup []) ne0
      have he := upd_same (H := H4) (a := e0) (o := .tup [])
      revert Se he ntp
      generalize upd H4 e0 (.tup []) = H6
      intro ntp Se he
      have St := same_new (o := .tup [.non, .int 0, .ref q, .int n, .ref a1, .ref e0, .str was]) ntp
      have htp := upd_same (H := H6) (a := tp) (o := .tup [.non, .int 0, .ref q, .int n, .ref a1, .ref e0, .str was])
      have he := St _ _ he
      revert St htp he
      generalize upd H6 tp (.tup [.non, .int 0, .ref q, .int n, .ref a1, .ref e0, .str was]) = H7
      intro St htp he
      have S47 := Se.trans St
      have S7 := S5.trans S47
      have all7 : DqAll H7 [.non, .int 0, .ref q, .int n, .ref a1, .ref e0, .str was] [.none, .int 0, .tuple [.int n, prsD ps], .int n, prsD ps, .tuple [], .str was] :=
        .cons .non (.cons (.int _) (.cons (.tup (S7 _ _ hq) (dall S7)) (.cons (.int _) (.cons (q1' S7) (.cons (.tup he .nil) (.cons (.str _) .nil))))))
      have pol7 := pol (S4.trans S47)
      have hx7 := S47 _ _ (S4 _ _ hx3)
      clear he
      refine ⟨tp, rfl, ⟨_, SqT.of htp⟩, fun Da na => ?_⟩
      refine lc_tup (K := K) (a := tp) (xs := [.non, .int 0, .ref q, .int n, .ref a1, .ref e0, .str was]) (fun i H' => MadeTo H7 Da [] H') ⟨same_new na, upd_same⟩ (fun i H' _ M => SqT.of (M.1 _ _ htp)) ?_ ?_
      · rintro i y' H9 hy' M
        obtain ⟨d', hd', hq'⟩ := DqAll.at all7 hy'
        have hq9 := Dq.same M.1 _ _ hq'
        have hx9 := M.1 _ _ hx7
        have pol9 := pol7.same M.1
        refine ⟨rfl, _, rfl, _, rfl, x, dx, _, rfl, hx9, other_data hq9, x, y', n, .ref a1, ps, rfl, pol9, .inl ⟨d', hq9, _, rfl, _, rfl, iteNo rfl ?_⟩⟩
        exact ⟨_, rfl, _, rfl, x, dx, _, rfl, hx9, other_data hq9, x, y', n, .ref a1, ps, rfl, pol9, .inl ⟨d', hq9, _, rfl, _, rfl, iteNo rfl M⟩⟩
      · rintro H9 ⟨S9, h9⟩
        refine ⟨(by show 0 ≤ sizeLine; decide), fun pa npa => ?_⟩
        have Sa := same_new (o := .lst []) npa
        refine ⟨Da, pa, [], rfl, rfl, Sa _ _ h9, upd_same, ?_⟩
        exact k _ (S7.trans (S9.trans Sa))
end
end KL
set_option Elab.async false
set_option linter.all false
set_option maxRecDepth 100000
set_option maxHeartbeats 8000000
namespace KL
open PySem L2 PySem.KX PySem.Spec PyProof.Rows
/-- the law's own text of a policy -/
def spWritten : Sp := fun vs H Q _ => ∃ (n : Int) (v : V) (ps : List (Int × Int)), vs = [.int n, v] ∧ Dq H v (prsD ps) ∧ Pairs n ps ∧ ∀ H', Same H H' → Q (.str (polText n ps)) H'
section
variable {P : Program} {w : World} {K : PySem.W.Frag} {mg : Str → Option Value} {base : Heap}
abbrev nWritten : List Str := ["_law_many", "_law_pairs_now", "_law_p", "_law_q"]
theorem scWritten : FnScope nWritten ["_law_many", "_law_pairs_now"] (defScope lWritten) := ⟨rfl, rfl, rfl, by decide +kernel, rfl, by decide +kernel, by decide +kernel⟩
theorem ok_written {f : Addr} {fd : FuncData} (F : Fun K "_law_written" "_law_written" lWritten f fd) (T : TxtB mg) : FnOk P w K mg base CX0 1 f fd ["_law_many", "_law_pairs_now"] spWritten := by
  refine F.ok scWritten (fun vs H Q E h => ?_) (fun cdv A outer s H vs Q E hr h => ?_)
  · obtain ⟨n, v, ps, rfl, _⟩ := h
    rfl
  · obtain ⟨n, v, ps, rfl, hv, hp, k⟩ := h
    have nd := scWritten.nd
    refine ⟨_, pss_one (ps_ret (pe_join pe_str (pe_op op_cat (pe_lst (pa_cons (pe_op op_add_str pe_str (pe_callTy call_str_int (by rfl) T.str (by decide +kernel) (pa_cons (pv 0) pa_nil))) pa_nil))
      (pe_lc (own := [("_law_p", 2), ("_law_q", 3)]) (g := gTup K 2 (gCons (gName 2) (gCons (gName 3) gNil))) (tt := tYes) rfl nd (pi_tup (pv 1)) (blkOk_by (N := nWritten) (sc := defScope lWritten) (by decide +kernel)) (fun _ _ _ _ _ => pg_tup rfl (pgs_cons (pg_name (i := 2) nd rfl (.inl rfl)) (pgs_cons (pg_name (i := 3) nd rfl (.inl rfl)) pgs_nil))) (fun _ _ _ _ _ => pts_nil)
        (fun _ _ _ _ _ => pe_op op_add_str (pe_op op_add_str (pe_op op_add_str pe_str (pe_callTy call_str_int (by rfl) T.str (by decide +kernel) (pa_cons (pv 2) pa_nil))) pe_str) (pe_callTy call_str_int (by rfl) T.str (by decide +kernel) (pa_cons (pv 3) pa_nil))))))), ?_⟩
    have n1 := hp.n1
    have n3 := hp.n3
    have lp := people_len (n := n) (by omega) (by omega)
    have sz : sizeLine = 16777216 := sizeLine_eq
    have lg : ∀ i : Int, 0 ≤ i → i ≤ 3 → i.natAbs.log2 < 1920 := fun i h0 h1 => by
      have : i.natAbs.log2 ≤ i.natAbs := Nat.log2_le_self _
      omega
    have lp2 := lp
    unfold peopleLine at lp2
    rw [strLen_append] at lp2
    refine ⟨⟨_, rfl⟩, _, rfl, n, rfl, lg n (by omega) n3, "people ", tx n, rfl, rfl, by omega, ?_⟩
    rw [show (("people " : Str) ++ tx n) = peopleLine n from rfl]
    refine ⟨(by show 1 ≤ sizeLine; decide), fun a na => ?_⟩
    have Sa := same_new (o := .lst [.str (peopleLine n)]) na
    have ha : upd H a (.lst [.str (peopleLine n)]) a = some (.lst [.str (peopleLine n)]) := upd_same
    revert Sa ha
    generalize upd H a (.lst [.str (peopleLine n)]) = H1
    intro Sa ha
    cases hv with
    | @tup b xs _ e hda =>
      refine ⟨_, rfl, b, rfl, ⟨_, SqT.of (Sa _ _ e)⟩, fun D nD => ?_⟩
      refine lc_tup (K := K) (a := b) (xs := xs) (fun i H2 => MadeTo H1 D (((ps.take i).map pairLine).map V.str) H2) ⟨same_new nD, upd_same⟩ (fun i H2 _ M => SqT.of (M.1 _ _ (Sa _ _ e))) ?_ ?_
      · rintro i y H2 hy M
        obtain ⟨d', hd', hq⟩ := DqAll.at hda hy
        obtain ⟨p, hpp, rfl⟩ : ∃ p, ps[i]? = some p ∧ prD p = d' := by
          rw [List.getElem?_map] at hd'
          cases ex : ps[i]? with
          | none =>
            rw [ex] at hd'
            cases hd'
          | some p =>
            rw [ex] at hd'
            exact ⟨p, rfl, Option.some.inj hd'⟩
        have hm := List.mem_of_getElem? hpp
        obtain ⟨a1, a2, a3, a4, _⟩ := hp.all p hm
        have ll := line_len hp hm
        have et : ps.take (i + 1) = ps.take i ++ [p] := by
          rw [List.take_add_one, hpp]
          rfl
        have hi : i < ps.length := (List.getElem?_eq_some_iff.mp hpp).1
        have few := hp.few
        unfold pairLine at ll
        have l3 := ll
        rw [strLen_append] at l3
        have l4 := l3
        rw [strLen_append] at l4
        have l5 := l4
        rw [strLen_append] at l5
        obtain ⟨c, rfl, ec⟩ := pr_at hq
        refine ⟨c, _, rfl, SqT.of (M.1 _ _ (Sa _ _ ec)), rfl, _, _, rfl, _, _, rfl, rfl, rfl, _, rfl, p.1, rfl, lg p.1 a1 (by omega), "hears ", tx p.1, rfl, rfl, by omega, _, " ", rfl, rfl, by rw [strLen_append]; omega, _, rfl, p.2, rfl, lg p.2 a3 (by omega), _, tx p.2, rfl, rfl, by rw [strLen_append, strLen_append]; omega, ?_⟩
        obtain ⟨h1, M2⟩ := M.more (.str (pairLine p)) nD (Same.refl H2)
        refine ⟨_, h1, ?_, ?_⟩
        · rw [List.length_map, List.length_map, List.length_take, sz]
          omega
        · rw [et, List.map_append, List.map_append]
          exact M2
      · rintro H2 M
        have len : xs.length = ps.length := by rw [hda.len, List.length_map]
        rw [len, List.take_length] at M
        have few := hp.few
        refine ⟨a, D, _, _, rfl, rfl, M.1 _ _ ha, M.2, ?_, fun q nq => ?_⟩
        · rw [List.length_map, List.length_map, sz]
          show 1 + _ ≤ _
          omega
        refine ⟨"\n", q, polLines n ps, rfl, rfl, .inl (SqL.of upd_same), ?_, k _ (Sa.trans (M.1.trans (same_new nq)))⟩
        have sl := sum_len (l := polLines n ps) fun y hy => by
          rcases List.mem_cons.mp hy with rfl | hy
          · exact lp
          · obtain ⟨p, hm, rfl⟩ := List.mem_map.mp hy
            exact line_len hp hm
        have : (polLines n ps).length = ps.length + 1 := by
          show (ps.map pairLine).length + 1 = _
          rw [List.length_map]
        have one : ("\n" : Str).length = 1 := by decide +kernel
        rw [one]
        omega
end
end KL
set_option Elab.async false
set_option linter.all false
set_option maxRecDepth 100000
set_option maxHeartbeats 8000000
namespace KL
open PySem L2 PySem.KX PySem.Spec PyProof.Rows
theorem in_digits (c : Nat) : (!(!(Builtin.Str.occurrences ("0123456789" : Str) ⟨#[c]⟩ 0 ("0123456789" : Str).length 1).isEmpty)) = !digitC c := by
  rw [StrLaws.found_one]
  have e : ("0123456789" : Str).cps.toList = [48, 49, 50, 51, 52, 53, 54, 55, 56, 57] := by decide +kernel
  rw [e]
  congr 1
  unfold digitC
  by_cases h : 48 ≤ c ∧ c ≤ 57
  · rw [decide_eq_true h.1, decide_eq_true h.2]
    refine decide_eq_true ?_
    simp only [List.mem_cons, List.not_mem_nil, or_false]
    omega
  · have : (decide (48 ≤ c) && decide (c ≤ 57)) = false := by
      rw [Bool.and_eq_false_iff]
      by_cases h1 : 48 ≤ c
      · exact .inr (decide_eq_false fun z => h ⟨h1, z⟩)
      · exact .inl (decide_eq_false h1)
    rw [this]
    refine decide_eq_false ?_
    simp only [List.mem_cons, List.not_mem_nil, or_false]
    omega
def spNumL : Sp := fun vs H Q _ => ∃ x : Str, vs = [.str x] ∧ x.length ≤ 600 ∧ ∀ H', Same H H' → Q (.int (lnumM x)) H'
section
variable {P : Program} {w : World} {K : PySem.W.Frag} {mg : Str → Option Value} {base : Heap}
theorem scNumL : FnScope ["_law_word", "_law_sign"] ["_law_word"] (defScope lNumber) := ⟨rfl, rfl, rfl, by decide +kernel, rfl, by decide +kernel, by decide +kernel⟩
theorem ok_numL {f : Addr} {fd : FuncData} (F : Fun K "_law_number" "_law_number" lNumber f fd) (T : TxtB mg) : FnOk P w K mg base CX0 1 f fd ["_law_word"] spNumL := by
  refine F.ok scNumL (fun vs H Q E h => ?_) (fun cdv A outer s H vs Q E hr h => ?_)
  · obtain ⟨x, rfl, _⟩ := h
    rfl
  · obtain ⟨x, rfl, hx, k⟩ := h
    have nd := scNumL.nd
    refine ⟨_, pss_cons (ps_if (PW.pt (pw_or (pt_cmpR op_eq (pv 0) pe_str (nomark _)) (pw_or (pt_cmpR op_gt (pe_callB call_len_str (by rfl) T.len PySem.boot_len (pa_cons (pv 0) pa_nil)) pe_int (nomark _))
        (pw_or1 (pt_cmpR (op_neNil hr.units) (pe_lc (own := [("_law_sign", 1)]) (g := gName 1) (tt := tTest (tOp (fun x y H Q => ∃ i j, x = .str i ∧ y = .str j ∧ Q (.bl (!(!(Builtin.Str.occurrences j i 0 j.length 1).isEmpty))) H) (tVar 1) (tC (.str "0123456789")))) rfl nd (pi_str (pv 0)) (blkOk_by (N := ["_law_word", "_law_sign"]) (sc := defScope lNumber) (by decide +kernel)) (fun _ _ _ _ _ => pg_name (i := 1) nd rfl (.inl rfl))
          (fun _ _ _ _ _ => pts_one (pt_cmpR op_notIn_str (pv 1) pe_str rfl)) (fun _ _ _ _ _ => pv 1)) (pe_lst pa_nil) (nomark _)))))) (pss_one (ps_ret (pe_un un_neg pe_int))) pss_nil)
      (pss_one (ps_ret (pe_ifExp (PW.pt (pw_and (pt_cmpR op_eq (pe_ix ix_str (pv 0) pe_int (fun _ _ => rfl)) pe_str (nomark _)) (pw_and1 (pt_cmpR op_ne (pv 0) pe_str (nomark _))))) (pe_un un_neg pe_int) (pe_callTy call_int_str (by rfl) T.int (by decide +kernel) (pa_cons (pv 0) pa_nil))))), ?_⟩
    have lx : x.cps.toList.length = x.length := Array.length_toList
    have lm : lnumM x = if (decide (V.str x = V.str "") || (decide (x.length > 40) || !allDig x)) = true then -1
      else if ((x.cps.toList.headD 0 == 48) && !decide (V.str x = V.str "0")) = true then -1 else (PySem.intText? x).getD (-1) := rfl
    have out : ∀ {H' : Hp}, Same H H' → (decide (V.str x = V.str "") || (decide (x.length > 40) || !allDig x)) = true → ∃ i : Int, V.int 1 = V.int i ∧ Q (.int (-i)) H' := fun {H'} S h => by
      have k := k H' S
      rw [lm, if_pos h] at k
      exact ⟨1, rfl, k⟩
    refine ⟨_, rfl, rfl, _, rfl, ?_⟩
    rcases bool_ft (decide (V.str x = V.str "")) with e1 | e1
    case inr =>
      exact iteYes e1 (iteYes rfl (out (Same.refl H) (by rw [e1]; rfl)))
    refine iteNo e1 ?_
    refine ⟨_, rfl, x, rfl, by rw [sizeLine_eq]; omega, _, _, rfl, rfl, _, rfl, ?_⟩
    by_cases e2 : x.length > 40
    · refine iteYes (decide_eq_true (by omega)) (iteYes rfl (out (Same.refl H) ?_))
      rw [e1, decide_eq_true e2]
      rfl
    refine iteNo (decide_eq_false (by omega)) ?_
    refine ⟨_, rfl, x, rfl, fun D nD => ?_⟩
    refine lc_it (walk_str (z := x)) (fun i H' => ∃ vs, MadeTo H D vs H' ∧ vs.length ≤ i ∧ vs.isEmpty = (x.cps.toList.take i).all digitC) ⟨[], ⟨same_new nD, upd_same⟩, Nat.zero_le _, rfl⟩ (fun _ _ _ _ => trivial) ?_ ?_
    · rintro i y H2 H3 hi ⟨vs, M, lv, hv⟩ ⟨rfl, c, hc, rfl⟩
      have hc' : x.cps.toList[i]? = some c := by simpa using hc
      have et : x.cps.toList.take (i + 1) = x.cps.toList.take i ++ [c] := by
        rw [List.take_add_one, hc']
        rfl
      have hi' : i < x.length := hi
      refine ⟨rfl, _, rfl, _, _, rfl, rfl, _, rfl, ?_⟩
      rw [in_digits]
      rcases bool_ft (digitC c) with b | b
      · refine iteYes (by rw [b]; rfl) ?_
        obtain ⟨h1, M2⟩ := M.more (.str ⟨#[c]⟩) nD (Same.refl _)
        refine ⟨_, rfl, vs, h1, by rw [sizeLine_eq]; omega, vs ++ [.str ⟨#[c]⟩], M2, by rw [List.length_append]; show vs.length + 1 ≤ _; omega, ?_⟩
        rw [et, List.all_append]
        show _ = (_ && (digitC c && true))
        rw [b]
        cases vs <;> simp
      · refine iteNo (by rw [b]; rfl) ⟨vs, M, by omega, ?_⟩
        rw [et, List.all_append, hv]
        show _ = (_ && (digitC c && true))
        rw [b]
        simp
    · rintro H2 ⟨vs, M, lv, hv⟩
      have hv : vs.isEmpty = allDig x := by
        rw [hv, List.take_of_length_le (by rw [lx]; exact Nat.le_refl _)]
        rfl
      refine ⟨(by show 0 ≤ sizeLine; decide), fun pe npe => ?_⟩
      have Se := same_new (o := HO.lst []) npe
      have S3 := M.1.trans Se
      refine ⟨D, pe, vs, rfl, rfl, Se _ _ M.2, upd_same, _, rfl, ?_⟩
      rcases bool_ft (allDig x) with b | b
      · refine iteYes (by rw [hv, b]; rfl) (out S3 ?_)
        rw [b]
        simp
      refine iteNo (by rw [hv, b]; rfl) ?_
      have c1 : ¬ (decide (V.str x = V.str "") || (decide (x.length > 40) || !allDig x)) = true := by
        rw [e1, decide_eq_false e2, b]
        decide
      have xne : x.cps.toList ≠ [] := fun z => by
        rw [nil_of z] at e1
        cases (of_decide_eq_false e1) rfl
      obtain ⟨c, r, er⟩ : ∃ c r, x.cps.toList = c :: r := by
        cases h : x.cps.toList with
        | nil => exact absurd h xne
        | cons c r => exact ⟨c, r, rfl⟩
      have z0 : ("0" : Str) = ⟨#[48]⟩ := by decide +kernel
      have it : PySem.intText? x = some ((NumText.digitsVal x.cps.toList : Nat) : Int) := PySem.intText_digits (dig_all b) xne (by omega)
      have k3 := k _ S3
      rw [lm, if_neg c1, it] at k3
      refine ⟨_, rfl, x, 0, c, rfl, rfl, by rw [sizeLine_eq]; omega, by rw [er]; exact atI_nat (j := 0) rfl, rfl, _, rfl, ?_⟩
      have hd : (x.cps.toList.headD 0 == 48) = decide (c = 48) := by
        rw [er]
        show (c == 48) = _
        by_cases q : c = 48
        · rw [decide_eq_true q, q]
          rfl
        · rw [decide_eq_false q]
          exact beq_eq_false_iff_ne.mpr q
      rw [hd] at k3
      have dc : decide (V.str ⟨#[c]⟩ = V.str "0") = decide (c = 48) := by
        rw [z0]
        by_cases q : c = 48
        · rw [decide_eq_true q, decide_eq_true (by rw [q])]
        · rw [decide_eq_false q, decide_eq_false fun z => q (by injection z with z; injection z with z; injection z with z; injection z)]
      by_cases q : c = 48
      · refine iteYes (by rw [dc, decide_eq_true q]) ⟨_, rfl, rfl, _, rfl, ?_⟩
        rw [decide_eq_true q, Bool.true_and] at k3
        rcases bool_ft (!decide (V.str x = V.str "0")) with b5 | b5
        · refine iteNo b5 ⟨_, rfl, x, _, rfl, it, by omega, ?_⟩
          rw [if_neg (by rw [b5]; decide)] at k3
          exact k3
        · refine iteYes b5 ⟨1, rfl, ?_⟩
          rw [if_pos b5] at k3
          exact k3
      · refine iteNo (by rw [dc, decide_eq_false q]) (iteNo rfl ?_)
        rw [decide_eq_false q, Bool.false_and, if_neg (by decide)] at k3
        exact ⟨_, rfl, x, _, rfl, it, by omega, k3⟩
end
end KL
set_option Elab.async false
set_option linter.all false
set_option maxRecDepth 100000
set_option maxHeartbeats 8000000
namespace KL
open PySem L2 PySem.KX PySem.Spec PyProof.Rows
/-! ### a page read, or the line that is told -/
def toldD : Int ⊕ (Int × List (Int × Int)) → PyData
  | .inl k => .list [.str "bad", .int k, .bool true]
  | .inr (n, ps) => .list [.str "fine", .int n, prsD ps]
structure TxtV (K : PySem.W.Frag) (mg : Str → Option Value) (CT IT C CH fR : Addr) (dR : FuncData) (mc : Value) (pR : Addr) : Prop where
  e : TxtL K mg CT IT
  ex : PySem.W.exmOne K (.ref CT) (.ref CT) = some true
  mC : mg "Policy" = some (.ref C)
  r : ClX.CRead K C mc
  c : ClX.CMet K C mc "read" pR fR
  b : L2.Binds K dR ["cls", "text"] []
  kb : ∀ (s2 : Shared) (ws : List Value), K.In s2.heap → ws.length = ["text"].length → BindsTo s2 dR ⟨[.ref C], (["text"] : List Str).zip ws⟩ ((["cls", "text"] : List Str).zip (.ref C :: ws.reverse))
  mH : mg "HouseError" = some (.ref CH)
  isH : PySem.W.kitOne K (.ref CT) (.ref CH) = some true
def spReadL : Sp := fun vs H Q _ => ∃ (v : V) (nm : Bool) (d : PyData), vs = [v, .bl nm] ∧ Dq H v d ∧ (∀ s, d = .str s → s.length ≤ 500) ∧ ∀ H' v', Same H H' → Dq H' v' (toldD (textM d)) → Q v' H'
def sReadS : List Stmt := match (defBody lRead).getD 1 (.Pass ⟨0, 0, 0, 0⟩) with
  | .Try _ [.ExceptHandler _ _ b _] _ _ _ => b
  | _ => []
section
variable {P : Program} {w : World} {K : PySem.W.Frag} {mg : Str → Option Value} {base : Heap} {C CT IT CH fR pR : Addr} {dR : FuncData} {mc : Value}
abbrev nReadL : List Str := ["_law_it", "_law_is_named", "_law_found", "_law_code", "e"]
theorem scReadL : FnScope nReadL ["_law_it", "_law_is_named"] (defScope lRead) := ⟨rfl, rfl, rfl, by decide +kernel, rfl, by decide +kernel, by decide +kernel⟩
def tSuR (K : PySem.W.Frag) (CT CH : Addr) (a : Addr) (cls : Value) (d : Option Addr) : TS := tAsg (tLst (tCons (tC (.str "bad")) (tCons (tXf a cls d CT "line" (tVar 4)) (tCons (tCB (rIsX K a cls d) (tCons (tVar 4) (tCons (tC (.ref CH)) tNil))) tNil)))) (gName 2)
theorem ok_readL {f : Addr} {fd : FuncData} (F : Fun K "_law_read" "_law_read" lRead f fd) (TC : TxtV K mg CT IT C CH fR dR mc pR) (TP : TxtP K C) (T : TxtB mg) (G : FnOk P w K mg base (L2.CX P w) 7 fR dR ["cls", "text"] (spPRead C CT)) : FnOk P w K mg base CX0 8 f fd ["_law_it", "_law_is_named"] spReadL := by
  refine F.ok scReadL (fun vs H Q E h => ?_) (fun cdv A outer s H vs Q E hr h => ?_)
  · obtain ⟨v, nm, d, rfl, _⟩ := h
    rfl
  · obtain ⟨v, nm, d, rfl, hd, few, k⟩ := h
    let X0 : Cx := (cxOf CX0 P w K mg base nReadL "_law_read" (defScope lRead) f cdv A outer s H E).nox
    have su : ∀ (a : Addr) (oe : Obj) (cls : Value) (d : Option Addr) (pn : List (Addr × Obj)), Zc cls d oe → (∃ vs, oe.data = .fields vs) → PSs (X0.suite a ((a, oe) :: pn)) sReadS (tSuR K CT CH a cls d) := fun a oe cls d pn hz hf =>
      pss_one (ps_set (i := 2) scReadL.nd rfl (.inl rfl) (pe_lst (pa_cons pe_str (pa_cons (pe_xf (X := X0) (n := "line") (C := CT) ⟨TC.e.ei.c.is.hg, TC.e.ei.c.is.hk, TC.e.ei.c.is.hs, TC.e.ei.c.hd⟩ TC.e.ei.nf hz hf (pv 4)) (pa_cons (pe_callB (call_isX (X := X0) hz hf) (by rfl) T.isi (by decide +kernel) (pa_cons (pv 4) (pa_cons (pe_glob (v := .ref CH) (by rfl) TC.mH rfl) pa_nil))) pa_nil)))))
    refine ⟨_, pss_cons (ps_set (i := 2) scReadL.nd rfl (.inl rfl) pe_non)
      (pss_cons (ps_try_as (X := X0) (i := 4) (ts := tSuR K CT CH) (Wout := fun _ _ _ _ => False) rfl rfl scReadL.nd rfl rfl ⟨rfl, by decide, .inl TC.e.m⟩ takes0 (fun W pn xe tk _ => pss_cons
        (ps_set (i := 3) scReadL.nd rfl (.inl rfl) (pe_ifExp (pt_val (pv 1)) (pe_cmethKS (ks := ["text"]) (pe_glob (v := .ref C) (by rfl) TC.mC rfl) TC.r TC.c G TC.kb hr (passAt tk) (pk_cons (pv 0) pk_nil))
          (pe_cmethS (pe_glob (v := .ref C) (by rfl) TC.mC rfl) TC.r TC.c G TC.b hr (passAt tk) (pa_cons (pv 0) pa_nil))))
        (pss_one (X := X0.tr pn xe) (ps_set (X := X0.tr pn xe) (i := 2) scReadL.nd rfl (.inl rfl) (pe_lst (X := X0.tr pn xe) (pa_cons (X := X0.tr pn xe) pe_str (pa_cons (X := X0.tr pn xe) (te := tFld K (tVar 3) "people") (pe_fld (X := X0.tr pn xe) (pv (X := X0.tr pn xe) 3) (by rfl)) (pa_cons (X := X0.tr pn xe) (te := tFld K (tVar 3) "pairs") (pe_fld (X := X0.tr pn xe) (pv (X := X0.tr pn xe) 3) (by rfl)) pa_nil))))))) su)
      (pss_one (ps_ret (pv 2)))), ?_⟩
    refine ⟨_, rfl, nm, rfl, ?_⟩
    by_cases hn : nm = true
    · refine iteYes hn ⟨rfl, _, rfl, [v], rfl, rfl, v, d, rfl, hd, few, fun kk hk H' dd SH hdd => ⟨true, TC.ex, fun _ a ha => ?_, fun z => nomatch z⟩, fun n ps ht H1 y pv S1 hy hP => ?_⟩
      · exact ⟨_, rfl, rfl, rfl, dd, _, _, rfl, hdd, rfl, _, rfl, CT, dd, _, .ref CH, _, true, rfl, rfl, rfl, hdd, TC.e.ei.c, .own CH, TC.isH, (by show 3 ≤ sizeLine; decide), fun l nl => ⟨_, rfl, k _ _ (SH.trans (same_new nl)) (by rw [hk]; exact .lst upd_same (.cons (.str _) (.cons (.int _) (.cons (.bl _) .nil))))⟩⟩
      · obtain ⟨dy, hy, qy⟩ := hy
        refine ⟨_, rfl, y, C, dy, _, _, rfl, hy, TP.c, TP.people, pol_people _ _, _, rfl, y, C, dy, _, _, rfl, hy, TP.c, TP.pairs, pol_pairs _ _, (by show 3 ≤ sizeLine; decide), fun l nl => ⟨_, rfl, k _ _ (S1.trans (same_new nl)) (by rw [ht]; exact .lst upd_same (.cons (.str _) (.cons (.int _) (.cons (Dq.same (same_new nl) _ _ qy) .nil))))⟩⟩
    · refine iteNo (by simpa using hn) ⟨rfl, _, rfl, v, d, rfl, hd, few, fun kk hk H' dd SH hdd => ⟨true, TC.ex, fun _ a ha => ?_, fun z => nomatch z⟩, fun n ps ht H1 y pv S1 hy hP => ?_⟩
      · exact ⟨_, rfl, rfl, rfl, dd, _, _, rfl, hdd, rfl, _, rfl, CT, dd, _, .ref CH, _, true, rfl, rfl, rfl, hdd, TC.e.ei.c, .own CH, TC.isH, (by show 3 ≤ sizeLine; decide), fun l nl => ⟨_, rfl, k _ _ (SH.trans (same_new nl)) (by rw [hk]; exact .lst upd_same (.cons (.str _) (.cons (.int _) (.cons (.bl _) .nil))))⟩⟩
      · obtain ⟨dy, hy, qy⟩ := hy
        refine ⟨_, rfl, y, C, dy, _, _, rfl, hy, TP.c, TP.people, pol_people _ _, _, rfl, y, C, dy, _, _, rfl, hy, TP.c, TP.pairs, pol_pairs _ _, (by show 3 ≤ sizeLine; decide), fun l nl => ⟨_, rfl, k _ _ (S1.trans (same_new nl)) (by rw [ht]; exact .lst upd_same (.cons (.str _) (.cons (.int _) (.cons (Dq.same (same_new nl) _ _ qy) .nil))))⟩⟩
end
end KL
set_option Elab.async false
set_option linter.all false
set_option maxRecDepth 100000
set_option maxHeartbeats 8000000
namespace KL
open PySem L2 PySem.KX PySem.Spec PyProof.Rows
/-- isinstance of the error that the suite holds, one without attributes -/
def rIsX0 (K : PySem.W.Frag) (a : Addr) (cls : Value) (d : Option Addr) : List V → Hp → VK → Prop := fun xs H Q => ∃ (D : Addr) (c : V) (cv : Value) (b : Bool), xs = [.ref a, c] ∧ cls = .ref D ∧ d = none ∧ EC K D ∧ ClsV c cv ∧ PySem.W.kitOne K (.ref D) cv = some b ∧ Q (.bl b) H
theorem call_isX0 {X : Cx} {a : Addr} {oe : Obj} {cls : Value} {d : Option Addr} {pn : List (Addr × Obj)} (hz : Zc cls d oe) (hf : ∃ vs, oe.data = .fields vs) : CallR (X.suite a ((a, oe) :: pn)) (.builtin "isinstance") (rIsX0 X.K a cls d) := by
  intro pins s σ H xs us Q I r h
  obtain ⟨D, c, cv, b, rfl, rfl, rfl, T, kc, e, q⟩ := h
  obtain ⟨u1, u2, rfl, r1, r2⟩ := vals2 r
  have e2 := kc.eq r2
  subst e2
  cases (show u1 = Value.ref a from r1)
  obtain ⟨ha, _⟩ := I.pin (a, oe) (List.mem_append_left _ List.mem_cons_self)
  obtain ⟨vs, hv⟩ := hf
  have J : PySem.W.InstAt s.heap a oe D none := ⟨ha, hz.1, by unfold PySem.W.notCls; rw [hv] <;> rfl, by rw [hz.2]; trivial⟩
  have hcl : (PySem.W.clsIn X.K D).isSome = true := by
    obtain ⟨cd, hc, _⟩ := PySem.W.any_some T.hd
    rw [hc]
    rfl
  exact PySem.W.kia_one (PySem.W.kitx_exc hcl T.is.hg T.is.hk T.is.hs T.is.ha T.is.hn T.is.ht T.is.hm) I.kIn J e (fun z => nomatch z) fun tk => ⟨.bl b, H, I.kept (t' := tk) fun _ _ z => z, rfl, q⟩
structure TxtJ (K : PySem.W.Frag) (mg : Str → Option Value) (CO C CH fO : Addr) (dO : FuncData) : Prop where
  ec : EC K CO
  m : mg "OtherPeople" = some (.ref CO)
  ex : PySem.W.exmOne K (.ref CO) (.ref CO) = some true
  sO : PySem.W.findIn K (.ref C) (PySem.dunder Operator.BitOr.info.2) = some (some (.ref fO))
  iO : PySem.W.isFn K (.ref fO) = true
  bO : L2.Binds K dO ["self", "other"] []
  first : PySem.W.selfFirst K C = true
  mH : mg "HouseError" = some (.ref CH)
  isH : PySem.W.kitOne K (.ref CO) (.ref CH) = some true
def spJoined (C : Addr) : Sp := fun vs H Q _ => ∃ (x z : Addr) (n m : Int) (v u : V) (ps qs : List (Int × Int)), vs = [.ref x, .ref z] ∧ PolAt C H x n v ps ∧ PolAt C H z m u qs ∧ Pairs n ps ∧ Pairs m qs ∧ ps.length + qs.length < 64 ∧
  (n = m → ∀ H' t S, Same H H' → Dq H' t (prsD S) → SSet (ps ++ qs) S → Pairs n S → Q t H') ∧ (n ≠ m → ∀ H' t, Same H H' → Dq H' t (.list [.str "people", .bool true]) → Q t H')
def sJoinS : List Stmt := match (defBody lJoined).getD 1 (.Pass ⟨0, 0, 0, 0⟩) with
  | .Try _ [.ExceptHandler _ _ b _] _ _ _ => b
  | _ => []
section
variable {P : Program} {w : World} {K : PySem.W.Frag} {mg : Str → Option Value} {base : Heap} {C CO CH fO : Addr} {dO : FuncData}
abbrev nJoined : List Str := ["_law_one", "_law_other", "_law_found", "e"]
theorem scJoined : FnScope nJoined ["_law_one", "_law_other"] (defScope lJoined) := ⟨rfl, rfl, rfl, by decide +kernel, rfl, by decide +kernel, by decide +kernel⟩
def tSuJ (K : PySem.W.Frag) (CH : Addr) (a : Addr) (cls : Value) (d : Option Addr) : TS := tAsg (tLst (tCons (tC (.str "people")) (tCons (tCB (rIsX0 K a cls d) (tCons (tVar 3) (tCons (tC (.ref CH)) tNil))) tNil))) (gName 2)
theorem ok_joined {f : Addr} {fd : FuncData} (F : Fun K "_law_joined" "_law_joined" lJoined f fd) (TC : TxtJ K mg CO C CH fO dO) (TP : TxtP K C) (TQ : TxtQ K C) (T : TxtB mg) (G : FnOk P w K mg base (L2.CX P w) 7 fO dO ["self", "other"] (spPOr C CO)) : FnOk P w K mg base CX0 8 f fd ["_law_one", "_law_other"] (spJoined C) := by
  refine F.ok scJoined (fun vs H Q E h => ?_) (fun cdv A outer s H vs Q E hr h => ?_)
  · obtain ⟨x, z, n, m, v, u, ps, qs, rfl, _⟩ := h
    rfl
  · obtain ⟨x, z, n, m, v, u, ps, qs, rfl, hx, hz, hp, hq, few, k, kE⟩ := h
    let X0 : Cx := (cxOf CX0 P w K mg base nJoined "_law_joined" (defScope lJoined) f cdv A outer s H E).nox
    have su : ∀ (a : Addr) (oe : Obj) (cls : Value) (d : Option Addr) (pn : List (Addr × Obj)), Zc cls d oe → (∃ vs, oe.data = .fields vs) → PSs (X0.suite a ((a, oe) :: pn)) sJoinS (tSuJ K CH a cls d) := fun a oe cls d pn hz hf =>
      pss_one (ps_set (i := 2) scJoined.nd rfl (.inl rfl) (pe_lst (pa_cons pe_str (pa_cons (pe_callB (call_isX0 (X := X0) hz hf) (by rfl) T.isi (by decide +kernel) (pa_cons (pv 3) (pa_cons (pe_glob (v := .ref CH) (by rfl) TC.mH rfl) pa_nil))) pa_nil))))
    refine ⟨_, pss_cons (ps_set (i := 2) scJoined.nd rfl (.inl rfl) pe_non)
      (pss_cons (ps_try_as (X := X0) (i := 3) (ts := tSuJ K CH) (Wout := fun _ _ _ _ => False) rfl rfl scJoined.nd rfl rfl ⟨rfl, by decide, .inl TC.m⟩ takes0 (fun W pn xe tk _ => pss_one
        (ps_set (i := 2) (te := tFld K (tBinS K C (spPOr C CO) (WE W) (tVar 0) (tVar 1)) "pairs") scJoined.nd rfl (.inl rfl) (pe_fld (pe_binS (op := .BitOr) G TC.sO TC.iO TC.bO TC.first (passAt tk) hr (pv 0) (pv 1)) (by rfl)))) su)
      (pss_one (ps_ret (pv 2)))), ?_⟩
    obtain ⟨dx, hx1, hx2⟩ := id hx
    obtain ⟨dz, hz1, hz2⟩ := id hz
    refine ⟨_, rfl, _, rfl, x, dx, _, rfl, hx1, ty_ins TQ.i hz1, x, z, n, m, v, u, ps, qs, rfl, hx, hz, hp, hq, few, fun e H' y t S S1 hy ss hS => ⟨⟨y, rfl⟩, ?_⟩, fun ne H' S1 => ?_⟩
    · obtain ⟨dy, hy, qy⟩ := hy
      exact ⟨y, C, dy, _, _, rfl, hy, TP.c, TP.pairs, pol_pairs _ _, _, rfl, k e H' t S S1 qy ss hS⟩
    · refine ⟨true, TC.ex, fun _ a ha => ?_, fun z => nomatch z⟩
      exact ⟨_, rfl, CO, .ref CH, _, true, rfl, rfl, rfl, TC.ec, .own CH, TC.isH, (by show 2 ≤ sizeLine; decide), fun l nl => ⟨_, rfl, kE ne _ _ (S1.trans (same_new nl)) (.lst upd_same (.cons (.str _) (.cons (.bl _) .nil)))⟩⟩
end
end KL
set_option Elab.async false
set_option linter.all false
set_option maxRecDepth 100000
set_option maxHeartbeats 8000000
namespace KL
open PySem L2 PySem.KX PySem.Spec PyProof.Rows
/-! ### the law reads a page by its own number: what it finds is the same -/
def lheadM : List Str → Option Int
  | [p, w] => if p = "people" ∧ 1 ≤ lnumM w ∧ lnumM w ≤ 3 then some (lnumM w) else none
  | _ => none
def lpairM (n : Int) : List Str → Option (Int × Int)
  | [p, a, b] => if p = "hears" ∧ (0 ≤ lnumM a ∧ 0 ≤ lnumM b) ∧ (lnumM a < n ∧ lnumM b < n) ∧ lnumM a ≠ lnumM b then some (lnumM a, lnumM b) else none
  | _ => none
theorem head_len {o : Option (List Int)} (h : ∀ is, o = some is → is.length ≠ 1) : headOf o = none := by
  unfold headOf
  split
  · exact absurd rfl (h _ rfl)
  · rfl
theorem pair_len {n : Int} {o : Option (List Int)} (h : ∀ is, o = some is → is.length ≠ 2) : pairOf n o = none := by
  unfold pairOf
  split
  · exact absurd rfl (h _ rfl)
  · rfl
theorem nums_one (w : Str) : numsM [w] = (numM w).map fun i => [i] := by
  unfold numsM
  cases e : numM w with
  | none => simp [e]
  | some i => simp [e]
theorem nums_two (a b : Str) : numsM [a, b] = match numM a, numM b with
    | some i, some j => some [i, j]
    | _, _ => none := by
  unfold numsM
  cases e : numM a with
  | none => simp [e]
  | some i =>
    cases e2 : numM b with
    | none => simp [e, e2]
    | some j => simp [e, e2]
theorem head_law (l : Str) : headM l = lheadM (Txt.split l " ") := by
  unfold headM behindM
  obtain ⟨p, r, e⟩ := split_some l " "
  rw [e]
  show headOf (if p = "people" then numsM r else none) = _
  by_cases hp : p = "people"
  case neg =>
    rw [if_neg hp, head_len (by intro is h; cases h)]
    match r with
    | [] => rfl
    | [w] =>
      show none = if p = "people" ∧ _ then _ else _
      rw [if_neg fun z => hp z.1]
    | _ :: _ :: _ => rfl
  rw [if_pos hp]
  match r with
  | [] => rw [head_len fun is h => by have := nums_few h; rw [this]; decide]; rfl
  | a :: b :: r => rw [head_len fun is h => by have := nums_few h; rw [this, List.length_cons, List.length_cons]; omega]; rfl
  | [w] =>
    show _ = if p = "people" ∧ 1 ≤ lnumM w ∧ lnumM w ≤ 3 then some (lnumM w) else none
    rw [nums_one]
    by_cases h : 1 ≤ lnumM w ∧ lnumM w ≤ 3
    · rw [if_pos ⟨hp, h⟩, (num_same w (lnumM w) (by omega)).mpr rfl]
      show (if betD 1 3 (.int (lnumM w)) = true then some (lnumM w) else none) = _
      rw [if_pos]
      show (decide ((1 : Int) ≤ lnumM w) && decide (lnumM w ≤ 3)) = true
      rw [decide_eq_true h.1, decide_eq_true h.2]
      rfl
    · rw [if_neg fun z => h z.2]
      cases e : numM w with
      | none => rfl
      | some i =>
        show (if betD 1 3 (.int i) = true then some i else none) = none
        rw [if_neg]
        intro z
        have z := Bool.and_eq_true_iff.mp (show (decide ((1 : Int) ≤ i) && decide (i ≤ 3)) = true from z)
        simp only [decide_eq_true_eq] at z
        have := (num_same w i (by omega)).mp e
        omega
theorem pair_law (n : Int) (l : Str) : pairM n l = lpairM n (Txt.split l " ") := by
  unfold pairM behindM
  obtain ⟨p, r, e⟩ := split_some l " "
  rw [e]
  show pairOf n (if p = "hears" then numsM r else none) = _
  by_cases hp : p = "hears"
  case neg =>
    rw [if_neg hp, pair_len (by intro is h; cases h)]
    match r with
    | [] => rfl
    | [_] => rfl
    | [a, b] =>
      show none = if p = "hears" ∧ _ then _ else _
      rw [if_neg fun z => hp z.1]
    | _ :: _ :: _ :: _ => rfl
  rw [if_pos hp]
  match r with
  | [] => rw [pair_len fun is h => by have := nums_few h; rw [this]; decide]; rfl
  | [_] => rw [pair_len fun is h => by have := nums_few h; rw [this]; simp]; rfl
  | a :: b :: c :: r => rw [pair_len fun is h => by have := nums_few h; rw [this, List.length_cons, List.length_cons, List.length_cons]; omega]; rfl
  | [a, b] =>
    show _ = if p = "hears" ∧ (0 ≤ lnumM a ∧ 0 ≤ lnumM b) ∧ (lnumM a < n ∧ lnumM b < n) ∧ lnumM a ≠ lnumM b then some (lnumM a, lnumM b) else none
    rw [nums_two]
    by_cases h : (0 ≤ lnumM a ∧ 0 ≤ lnumM b) ∧ (lnumM a < n ∧ lnumM b < n) ∧ lnumM a ≠ lnumM b
    · obtain ⟨⟨a0, b0⟩, ⟨a1, b1⟩, ne⟩ := h
      rw [if_pos ⟨hp, ⟨a0, b0⟩, ⟨a1, b1⟩, ne⟩, (num_same a (lnumM a) a0).mpr rfl, (num_same b (lnumM b) b0).mpr rfl]
      show (if mateD n (prD (lnumM a, lnumM b)) = true then some (lnumM a, lnumM b) else none) = _
      rw [if_pos (mate_pair a0 a1 b0 b1 ne)]
    · rw [if_neg fun z => h z.2]
      cases e : numM a with
      | none => rfl
      | some i =>
        cases e2 : numM b with
        | none => rfl
        | some j =>
          show (if mateD n (prD (i, j)) = true then some (i, j) else none) = none
          rw [if_neg]
          intro z
          obtain ⟨i0, i1, j0, j1, ne⟩ := pair_all z
          have i0 : 0 ≤ i := i0
          have i1 : i < n := i1
          have j0 : 0 ≤ j := j0
          have j1 : j < n := j1
          have ne : i ≠ j := ne
          have := (num_same a i i0).mp e
          have := (num_same b j j0).mp e2
          exact h ⟨by omega, by omega, by omega⟩
end KL
set_option Elab.async false
set_option linter.all false
set_option maxRecDepth 100000
set_option maxHeartbeats 8000000
namespace KL
open PySem L2 PySem.KX PySem.Spec PyProof.Rows
/-! ### min and max of a pair -/
def rMin2T : List V → Hp → VK → Prop := fun vs H Q => ∃ (a : Addr) (i j : Int), vs = [.ref a] ∧ H a = some (.tup [.int i, .int j]) ∧ Q (.int (if j < i then j else i)) H
def rMax2T : List V → Hp → VK → Prop := fun vs H Q => ∃ (a : Addr) (i j : Int), vs = [.ref a] ∧ H a = some (.tup [.int i, .int j]) ∧ Q (.int (if i < j then j else i)) H
theorem alike2 (i j : Int) : PySem.W.AlikeAll [.int i, .int j] := by
  refine ⟨fun x hx y hy => ?_, fun x hx => ?_⟩
  · simp only [List.mem_cons, List.not_mem_nil, or_false] at hx hy
    rcases hx with rfl | rfl <;> rcases hy with rfl | rfl <;> rfl
  · simp only [List.mem_cons, List.not_mem_nil, or_false] at hx
    rcases hx with rfl | rfl <;> exact fun z => nomatch z
theorem min_two (i j : Int) : PySem.W.minD (.int i) [.int j] = .int (if j < i then j else i) := by
  show (if PySem.W.dataLt (.int j) (.int i) = true then PyData.int j else .int i) = _
  rw [PySem.W.dataLt_int]
  by_cases h : j < i
  · rw [if_pos (decide_eq_true h), if_pos h]
  · rw [if_neg (by rw [decide_eq_false h]; decide), if_neg h]
theorem max_two (i j : Int) : PySem.W.maxD (.int i) [.int j] = .int (if i < j then j else i) := by
  show (if PySem.W.dataLt (.int i) (.int j) = true then PyData.int j else .int i) = _
  rw [PySem.W.dataLt_int]
  by_cases h : i < j
  · rw [if_pos (decide_eq_true h), if_pos h]
  · rw [if_neg (by rw [decide_eq_false h]; decide), if_neg h]
section
variable {X : Cx}
theorem cr_min2T (hc : X.calm = true) (hu : X.A.units + 64 < cLine) : CallR X (.builtin "min") rMin2T := by
  intro pins s σ H vs us Q I r h
  obtain ⟨a, i, j, rfl, ha, q⟩ := h
  obtain ⟨u, rfl, ru⟩ := vals1 r
  cases (show u = Value.ref a from ru)
  obtain ⟨its, rv, p, _⟩ := I.tuple (SqT.of ha)
  cases rv with
  | cons r1 rv =>
  cases rv with
  | cons r2 rv =>
  cases rv
  obtain ⟨t1, rfl⟩ := r1
  obtain ⟨t2, rfl⟩ := r2
  refine PySem.W.min_tuple_data (I.ok.hd hc) p (.cons (.int i t1) (.cons (.int j t2) .nil)) (alike2 i j) (by show X.A.units + 1 + max 0 (max 0 0) < cLine; omega) fun n v h' tk bs hv hr hk => ?_
  rw [min_two] at hr
  cases hr with
  | int _ t => exact ⟨.int _, H, I.kept hk, ⟨_, rfl⟩, q⟩
theorem cr_max2T (hc : X.calm = true) (hu : X.A.units + 64 < cLine) : CallR X (.builtin "max") rMax2T := by
  intro pins s σ H vs us Q I r h
  obtain ⟨a, i, j, rfl, ha, q⟩ := h
  obtain ⟨u, rfl, ru⟩ := vals1 r
  cases (show u = Value.ref a from ru)
  obtain ⟨its, rv, p, _⟩ := I.tuple (SqT.of ha)
  cases rv with
  | cons r1 rv =>
  cases rv with
  | cons r2 rv =>
  cases rv
  obtain ⟨t1, rfl⟩ := r1
  obtain ⟨t2, rfl⟩ := r2
  refine PySem.W.max_tuple_data (I.ok.hd hc) p (.cons (.int i t1) (.cons (.int j t2) .nil)) (alike2 i j) (by show X.A.units + 1 + max 0 (max 0 0) < cLine; omega) fun n v h' tk bs hv hr hk => ?_
  rw [max_two] at hr
  cases hr with
  | int _ t => exact ⟨.int _, H, I.kept hk, ⟨_, rfl⟩, q⟩
end
def rowS (l : Str) : PyData := .list ((Txt.split l " ").map .str)
/-- rows that are made, each new -/
def Rows (H1 : Hp) (D : Addr) (ls : List Str) (i : Nat) (H : Hp) : Prop := ∃ Hk vs, Same H1 Hk ∧ Hk D = none ∧ MadeTo Hk D vs H ∧ DqAll Hk vs ((ls.take i).map rowS) ∧ vs.length ≤ i
theorem dq_strs {H : Hp} : ∀ ws : List Str, DqAll H (ws.map V.str) (ws.map .str)
  | [] => .nil
  | w :: ws => .cons (.str w) (dq_strs ws)
theorem dq_strs_of {H : Hp} : ∀ {vs : List V} {ws : List Str}, DqAll H vs (ws.map .str) → vs = ws.map V.str
  | [], [], _ => rfl
  | [], _ :: _, h => by cases h
  | _ :: _, [], h => by cases h
  | v :: vs, w :: ws, h => by
    cases h with
    | cons a b =>
      cases a
      rw [dq_strs_of b]
      rfl
theorem row_at {H : Hp} {v : V} {l : Str} (h : Dq H v (rowS l)) : ∃ q, v = .ref q ∧ H q = some (.lst ((Txt.split l " ").map V.str)) := by
  cases h with
  | @lst q xs _ a b => exact ⟨q, rfl, by rw [a, dq_strs_of b]⟩
theorem Rows.more {H1 H : Hp} {D q : Addr} {ls : List Str} {i : Nat} {l : Str} (h : Rows H1 D ls i H) (hl : ls[i]? = some l) (nq : H q = none) (few : i < 1000) : ∃ acc, (upd H q (.lst ((Txt.split l " ").map V.str))) D = some (.lst acc) ∧ acc.length < sizeLine ∧ Rows H1 D ls (i + 1) (upd (upd H q (.lst ((Txt.split l " ").map V.str))) D (.lst (acc ++ [.ref q]))) := by
  obtain ⟨Hk, vs, S, nD, ⟨M1, M2⟩, dq, lv⟩ := h
  have qD : D ≠ q := ne_of_none M2 nq
  have nk : Hk q = none := by
    cases e : Hk q with
    | none => rfl
    | some o =>
      rw [M1 _ _ e] at nq
      cases nq
  have Sk := same_new (o := HO.lst ((Txt.split l " ").map V.str)) nk
  refine ⟨vs, by rw [upd_ne qD]; exact M2, by rw [sizeLine_eq]; omega, upd Hk q (.lst ((Txt.split l " ").map V.str)), vs ++ [.ref q], S.trans Sk, by rw [upd_ne qD]; exact nD, ⟨fun b o e => ?_, upd_same⟩, ?_, by rw [List.length_append]; show vs.length + 1 ≤ _; omega⟩
  · have bD : b ≠ D := fun z => by
      rw [z, upd_ne qD, nD] at e
      cases e
    rw [upd_ne bD]
    by_cases bq : b = q
    · rw [bq, upd_same] at e ⊢
      exact e
    · rw [upd_ne bq] at e ⊢
      exact M1 _ _ e
  · rw [List.take_add_one, hl]
    show DqAll _ _ ((ls.take i ++ [l]).map rowS)
    rw [List.map_append]
    exact (DqAll.same Sk _ _ dq).app (.cons (.lst upd_same (dq_strs _)) .nil)
theorem pair_iff (ia ib n : Int) : (decide (0 ≤ if ib < ia then ib else ia) && (decide ((if ia < ib then ib else ia) < n) && !decide (V.int ia = V.int ib))) = decide ((0 ≤ ia ∧ 0 ≤ ib) ∧ (ia < n ∧ ib < n) ∧ ia ≠ ib) := by
  have e : decide (V.int ia = V.int ib) = decide (ia = ib) := by
    by_cases h : ia = ib
    · rw [decide_eq_true h, decide_eq_true (by rw [h])]
    · rw [decide_eq_false h, decide_eq_false fun z => h (by injection z)]
  rw [e, Bool.eq_iff_iff]
  simp only [Bool.and_eq_true, decide_eq_true_eq, Bool.not_eq_true', decide_eq_false_iff_not]
  by_cases h1 : ib < ia
  · rw [if_pos h1, if_neg (by omega)]
    omega
  · rw [if_neg h1]
    by_cases h2 : ia < ib
    · rw [if_pos h2]
      omega
    · rw [if_neg h2]
      omega
theorem lhead_len {ws : List Str} (h : ws.length ≠ 2) : lheadM ws = none := by
  match ws, h with
  | [], _ => rfl
  | [_], _ => rfl
  | [_, _], z => exact absurd rfl z
  | _ :: _ :: _ :: _, _ => rfl
theorem lpair_len {n : Int} {ws : List Str} (h : ws.length ≠ 3) : lpairM n ws = none := by
  match ws, h with
  | [], _ => rfl
  | [_], _ => rfl
  | [_, _], _ => rfl
  | [_, _, _], z => exact absurd rfl z
  | _ :: _ :: _ :: _ :: _, _ => rfl
/-- what a page says, by the law -/
def spReadDue : Sp := fun vs H Q _ => ∃ (v : V) (d : PyData), vs = [v] ∧ Dq H v d ∧ (∀ s, d = .str s → s.length ≤ 500) ∧ ∀ H' v', Same H H' → Dq H' v' (toldD (textM d)) → Q v' H'
section
variable {P : Program} {w : World} {K : PySem.W.Frag} {mg : Str → Option Value} {base : Heap}
abbrev nRD : List Str := ["_law_it", "_law_rows", "_law_many", "_law_found", "_law_k", "_law_words", "_law_both", "_law_is_pair", "_law_row"]
theorem scRD : FnScope nRD ["_law_it"] (defScope lReadDue) := ⟨rfl, rfl, rfl, by decide +kernel, rfl, by decide +kernel, by decide +kernel⟩
theorem ok_readDue {f g : Addr} {fd gd : FuncData} (F : Fun K "_law_read_due" "_law_read_due" lReadDue f fd) (T : TxtG mg) (mmin : mg "min" = none) (mmax : mg "max" = none) (G : FnOk P w K mg base CX0 1 g gd ["_law_word"] spNumL) (c : Cal K mg "_law_number" g gd ["_law_word"]) :
    FnOk P w K mg base CX0 2 f fd ["_law_it"] spReadDue := by
  refine F.ok scRD (fun vs H Q E h => ?_) (fun cdv A outer s H vs Q E hr h => ?_)
  · obtain ⟨v, d, rfl, _⟩ := h
    rfl
  · obtain ⟨v, d, rfl, hd, few, k⟩ := h
    have nd := scRD.nd
    refine ⟨_, pss_cons (ps_if (pt_not (pt_val (pe_callB call_isD (by rfl) T.b.isi (by decide +kernel) (pa_cons (pv 0) (pa_cons (pe_bltn (v := .ty "str") (by rfl) T.b.str (by decide +kernel) rfl) pa_nil))))) (pss_one (ps_ret (pe_lst (pa_cons pe_str (pa_cons pe_int (pa_cons pe_bl pa_nil)))))) pss_nil)
      (pss_cons (ps_setLc (i := 1) (own := [("_law_row", 8)]) (g := gName 8) (tt := tYes) rfl nd rfl rfl (by rfl) (pi_list (pe_split (pv 0) pe_str)) (blkOk_by (N := nRD) (sc := defScope lReadDue) (by decide +kernel)) (fun _ _ _ _ _ => pg_name (i := 8) nd rfl (.inl rfl)) (fun _ _ _ _ _ => pts_nil)
          (fun _ _ _ _ _ => pe_split (pv 8) pe_str))
      (pss_cons (ps_if (PW.pt (pw_or (pt_cmpR op_ne (pe_callB call_len_seq (by rfl) T.b.len PySem.boot_len (pa_cons (pe_ix (r := rIxL K) ix_list (pv 1) pe_int (fun _ _ => rfl)) pa_nil)) pe_int (nomark _)) (pw_or (pt_cmpR op_ne (pe_ix (r := rIxL K) ix_list (pe_ix (r := rIxL K) ix_list (pv 1) pe_int (fun _ _ => rfl)) pe_int (fun _ _ => rfl)) pe_str (nomark _))
          (pw_or1 (pt_not (pt_chain op_le op_le pe_int (pe_call G hr (by rfl) c.m c.k c.b .nil pass0 (pa_cons (pe_ix (r := rIxL K) ix_list (pe_ix (r := rIxL K) ix_list (pv 1) pe_int (fun _ _ => rfl)) pe_int (fun _ _ => rfl)) pa_nil)) pe_int)))))) (pss_one (ps_ret (pe_lst (pa_cons pe_str (pa_cons pe_int (pa_cons pe_bl pa_nil)))))) pss_nil)
      (pss_cons (ps_par (i := 2) (j := 3) (by rfl) nd rfl rfl (by decide) rfl rfl (pa_cons (pe_call G hr (by rfl) c.m c.k c.b .nil pass0 (pa_cons (pe_ix (r := rIxL K) ix_list (pe_ix (r := rIxL K) ix_list (pv 1) pe_int (fun _ _ => rfl)) pe_int (fun _ _ => rfl)) pa_nil)) (pa_cons (pe_lst pa_nil) pa_nil)) (by rfl))
      (pss_cons (ps_for PassesOwn.never rfl (pi_enum (by rfl) T.enum (pa_cons (pe_slice (r := rSlL K) sl_list (pv 1) (po_some pe_int) po_none) pa_nil)) (pg_tup rfl (pgs_cons (pg_name (i := 4) nd rfl (.inl rfl)) (pgs_cons (pg_name (i := 5) nd rfl (.inl rfl)) pgs_nil)))
        (pss_cons (ps_if (PW.pt (pw_or (pt_cmpR op_ne (pe_callB call_len_seq (by rfl) T.b.len PySem.boot_len (pa_cons (pv 5) pa_nil)) pe_int (nomark _)) (pw_or1 (pt_cmpR op_ne (pe_ix (r := rIxL K) ix_list (pv 5) pe_int (fun _ _ => rfl)) pe_str (nomark _))))) (pss_one (ps_ret (pe_lst (pa_cons pe_str (pa_cons (pe_op op_add (pv 4) pe_int) (pa_cons pe_bl pa_nil)))))) pss_nil)
        (pss_cons (ps_set (i := 6) nd rfl (.inl rfl) (pe_tup (pa_cons (pe_call G hr (by rfl) c.m c.k c.b .nil pass0 (pa_cons (pe_ix (r := rIxL K) ix_list (pv 5) pe_int (fun _ _ => rfl)) pa_nil)) (pa_cons (pe_call G hr (by rfl) c.m c.k c.b .nil pass0 (pa_cons (pe_ix (r := rIxL K) ix_list (pv 5) pe_int (fun _ _ => rfl)) pa_nil)) pa_nil))))
        (C8.pss_cut (ps_set (i := 7) nd rfl (.inl rfl) (pe_and (pe_cmpR op_le pe_int (pe_callB (cr_min2T rfl hr.units) (by rfl) mmin (by decide +kernel) (pa_cons (pv 6) pa_nil)) (nomark _)) (pe_and (pe_cmpR op_lt (pe_callB (cr_max2T rfl hr.units) (by rfl) mmax (by decide +kernel) (pa_cons (pv 6) pa_nil)) (pv 2) (nomark _)) (pe_one (pe_cmpR op_ne (pe_ix (r := rIxT K) ix_tup (pv 6) pe_int (fun _ _ => rfl)) (pe_ix (r := rIxT K) ix_tup (pv 6) pe_int (fun _ _ => rfl)) (nomark _))))))
        (pss_cons (ps_if (PW.pt (pw_or (pt_not (pt_val (pv 7))) (pw_or1 (PW.pt (pw_and (pt_cmpR (op_neD hr.units) (pv 3) (pe_lst pa_nil) (nomark _)) (pw_and1 (pt_cmpR (op_leT hr.units0) (pv 6) (pe_ix (r := rIxL K) ix_list (pv 3) (pe_un un_neg pe_int) (fun _ _ => rfl)) (nomark _)))))))) (pss_one (ps_ret (pe_lst (pa_cons pe_str (pa_cons (pe_op op_add (pv 4) pe_int) (pa_cons pe_bl pa_nil)))))) pss_nil)
        (pss_one (ps_expr (pe_bm PySem.F.plainAttrs_list PySem.F.slot_list_append PySem.F.type_list_append mt_append (pv 3) (pa_cons (pv 6) pa_nil)))))))))
      (pss_one (ps_ret (pe_lst (pa_cons pe_str (pa_cons (pv 2) (pa_cons (pe_tupleOf (by rfl) T.b.tuple (pv 3)) pa_nil)))))))))), ?_⟩
    have sz : sizeLine = 16777216 := sizeLine_eq
    have bad : ∀ {H1 : Hp} (kk : Int), Same H H1 → textM d = .inl kk → (3 ≤ sizeLine ∧ ∀ p, H1 p = none → Q (.ref p) (upd H1 p (.lst [.str "bad", .int kk, .bl true]))) := fun {H1} kk S1 hz => ⟨by omega, fun p np => k _ _ (S1.trans (same_new np)) (by rw [hz]; exact .lst upd_same (.cons (.str _) (.cons (.int _) (.cons (.bl _) .nil))))⟩
    refine ⟨_, rfl, v, d, "str", rfl, by decide, hd, _, rfl, ?_⟩
    by_cases hs : ∀ s, d ≠ .str s
    · refine iteYes ?_ (bad 0 (Same.refl H) (no_str hs))
      cases d <;> first | rfl | exact absurd rfl (hs _)
    obtain ⟨x, hs⟩ := Classical.not_forall.mp hs
    have hs := Classical.not_not.mp hs
    subst hs
    have hl := few x rfl
    cases hd
    refine iteNo rfl ?_
    have cn := split_count (x := x) (y := "\n") (by rw [one_feed]; decide)
    have pl : ∀ p ∈ Txt.split x "\n", p.length ≤ 500 := fun p hp => Nat.le_trans (piece_len hp) hl
    refine ⟨_, rfl, ⟨_, rfl⟩, x, "\n", rfl, rfl, by rw [one_feed]; decide, by omega, fun q nq => ?_⟩
    have S1 := same_new (o := .lst ((Txt.split x "\n").map V.str)) nq
    have h1 : upd H q (.lst ((Txt.split x "\n").map V.str)) q = some (.lst ((Txt.split x "\n").map V.str)) := upd_same
    revert S1 h1
    generalize upd H q (.lst ((Txt.split x "\n").map V.str)) = H1
    intro S1 h1
    refine ⟨q, rfl, ⟨_, SqL.of h1⟩, fun D nD => ?_⟩
    refine lc_list (K := K) (a := q) (xs := (Txt.split x "\n").map V.str) (fun i H2 => Rows H1 D (Txt.split x "\n") i H2) ⟨H1, [], Same.refl _, nD, ⟨same_new nD, upd_same⟩, .nil, Nat.le_refl _⟩ (fun i H2 _ M => by
      obtain ⟨Hk, vs, S, _, M, _⟩ := M
      exact SqL.of (M.1 _ _ (S _ _ h1))) ?_ ?_
    · rintro i y H2 hy M
      obtain ⟨l1, hl1, rfl⟩ := get_str hy
      have m1 := List.mem_of_getElem? hl1
      have hi := (List.getElem?_eq_some_iff.mp hl1).1
      have := pl l1 m1
      exact ⟨rfl, _, rfl, ⟨_, rfl⟩, l1, " ", rfl, rfl, by rw [one_blank]; decide, by omega, fun q2 nq2 => M.more hl1 nq2 (by omega)⟩
    rintro H2 ⟨Hk, vs, Sk, nDk, M, dq, _⟩
    rw [List.length_map, List.take_length] at dq
    have S2 := S1.trans (Sk.trans M.1)
    have hD := M.2
    have dq := DqAll.same M.1 _ _ dq
    clear M nDk nD h1 nq
    obtain ⟨l, r, e⟩ := split_some x "\n"
    have kt := text_page e
    rw [e] at dq cn pl
    rw [List.length_cons] at cn
    cases dq with
    | @cons v0 vr _ _ d0 dr =>
    obtain ⟨q0, rfl, hq0⟩ := row_at d0
    have ix0 : ∀ {H' : Hp}, Same H2 H' → ∀ Q' : VK, Q' (.ref q0) H' → ∃ p xs i v, V.ref D = .ref p ∧ V.int 0 = .int i ∧ SqL K H' p xs ∧ atI xs i = some v ∧ Q' v H' := fun S Q' h => ⟨D, _, _, _, rfl, rfl, SqL.of (S _ _ hD), atI_nat (j := 0) rfl, h⟩
    have none_ : lheadM (Txt.split l " ") = none → textM (.str x) = .inl 1 := fun z => by
      rw [kt]
      unfold pageM
      rw [head_law, z]
    have pll := pl l List.mem_cons_self
    have wl : ∀ w ∈ Txt.split l " ", w.length ≤ 500 := fun w hw => Nat.le_trans (piece_len hw) pll
    have hM : headM l = lheadM (Txt.split l " ") := head_law l
    revert hq0 none_ wl hM
    generalize Txt.split l " " = ws
    intro hq0 none_ wl hM
    refine ⟨_, rfl, D, _, _, _, rfl, rfl, SqL.of hD, atI_nat (j := 0) rfl, q0, _, rfl, .inl (SqL.of hq0), rfl, _, rfl, ?_⟩
    by_cases l2 : ws.length = 2
    case neg =>
      refine iteYes ?_ (iteYes rfl (bad 1 S2 (none_ (lhead_len l2))))
      rw [List.length_map, decide_eq_false fun z => l2 (by injection z with z; omega)]
      rfl
    obtain ⟨p, w1, rfl⟩ : ∃ p w1, ws = [p, w1] := by
      match ws, l2 with
      | [p, w1], _ => exact ⟨p, w1, rfl⟩
    refine iteNo rfl ?_
    refine ⟨_, rfl, D, _, _, _, rfl, rfl, SqL.of hD, atI_nat (j := 0) rfl, q0, _, _, .str p, rfl, rfl, SqL.of hq0, atI_nat (j := 0) rfl, rfl, _, rfl, ?_⟩
    by_cases hp : p = "people"
    case neg =>
      refine iteYes (by rw [decide_eq_false fun z => hp (by injection z)]; rfl) (iteYes rfl (bad 1 S2 (none_ ?_)))
      show (if p = "people" ∧ _ then _ else _) = _
      rw [if_neg fun z => hp z.1]
    refine iteNo (by rw [hp, decide_eq_true rfl]; rfl) ?_
    have w1l := wl w1 (by simp)
    refine ⟨_, rfl, D, _, _, _, rfl, rfl, SqL.of hD, atI_nat (j := 0) rfl, q0, _, _, .str w1, rfl, rfl, SqL.of hq0, atI_nat (j := 1) rfl, w1, rfl, by omega, fun H3 S3 => ?_⟩
    have T3 := S2.trans S3
    refine ⟨_, _, rfl, rfl, _, rfl, ?_⟩
    have hM : headM l = if p = "people" ∧ 1 ≤ lnumM w1 ∧ lnumM w1 ≤ 3 then some (lnumM w1) else none := hM
    have none2 : ¬ (1 ≤ lnumM w1 ∧ lnumM w1 ≤ 3) → textM (.str x) = .inl 1 := fun z => none_ (by
      show (if p = "people" ∧ _ then _ else _) = _
      rw [if_neg fun y => z y.2])
    by_cases n1 : 1 ≤ lnumM w1
    case neg => exact iteNo (decide_eq_false n1) ⟨_, rfl, iteYes rfl (bad 1 T3 (none2 fun z => n1 z.1))⟩
    refine iteYes (decide_eq_true n1) ⟨_, _, rfl, rfl, _, rfl, ?_⟩
    by_cases n3 : lnumM w1 ≤ 3
    case neg => exact iteYes (by rw [decide_eq_false n3]; rfl) (bad 1 T3 (none2 fun z => n3 z.2))
    refine iteNo (by rw [decide_eq_true n3]; rfl) ?_
    rw [if_pos ⟨hp, n1, n3⟩] at hM
    refine ⟨_, rfl, D, _, _, _, rfl, rfl, SqL.of (S3 _ _ hD), atI_nat (j := 0) rfl, q0, _, _, .str w1, rfl, rfl, SqL.of (S3 _ _ hq0), atI_nat (j := 1) rfl, w1, rfl, by omega, fun H4 S4 => ?_⟩
    revert n1 n3 hM none2
    generalize lnumM w1 = n
    intro hM none2 n1 n3
    have T4 := T3.trans S4
    have S24 := S3.trans S4
    have kt : textM (.str x) = outM n (goM n 2 [] r) := by
      rw [kt]
      unfold pageM
      rw [hM]
    have hD4 := S24 _ _ hD
    have dr4 := DqAll.same S24 _ _ dr
    clear none2 none_ wl
    refine ⟨Nat.zero_le _, fun L nL => ⟨_, _, rfl, ?_⟩⟩
    have hL := upd_same (H := H4) (a := L) (o := HO.lst [])
    have DL : D ≠ L := ne_of_none hD4 nL
    have hD5 : (upd H4 L (.lst [])) D = some (.lst (V.ref q0 :: vr)) := by rw [upd_ne DL]; exact hD4
    refine ⟨_, rfl, _, rfl, D, _, rfl, SqL.of hD5, fun z nz => ?_⟩
    have zL : z ≠ L := fun e => by
      rw [e, hL] at nz
      cases nz
    rw [cut_one]
    have hz := upd_same (H := upd H4 L (.lst [])) (a := z) (o := HO.lst vr)
    have hL5 : (upd (upd H4 L (.lst [])) z (.lst vr)) L = some (.lst []) := by rw [upd_ne zL.symm]; exact hL
    have S5 : Same H4 (upd (upd H4 L (.lst [])) z (.lst vr)) := (same_new nL).trans (same_new nz)
    revert hz hL5 S5
    generalize upd (upd H4 L (.lst [])) z (.lst vr) = H5
    intro hz hL5 S5
    have lr : vr.length = r.length := by rw [dq_len dr4, List.length_map]
    refine ⟨z, vr, rfl, SqL.of hz, ?_⟩
    refine for_it walk_enum (fun i σ H1 => ∃ acc o4 o5 o6 o7 o8, MadeP H4 L acc H1 ∧ H1 z = some (.lst vr) ∧ goM n (2 + (i : Nat)) acc (r.drop i) = goM n 2 [] r ∧ acc.length ≤ i ∧ σ = [some (.str x), some (.ref D), some (.int n), some (.ref L), o4, o5, o6, o7, o8])
      ⟨[], _, _, _, _, _, ⟨[], ⟨S5, hL5⟩, .nil⟩, hz, rfl, Nat.zero_le _, rfl⟩ (fun i σ H1 _ M => by
        obtain ⟨acc, o4, o5, o6, o7, o8, _, h, _⟩ := M
        exact SqL.of h) ?_ ?_
    · rintro i _ σ H6 _ hi ⟨acc, o4, o5, o6, o7, o8, ⟨vs, M, qv⟩, hz6, hg, la, rfl⟩ ⟨T, y1, y2, rfl, nT, rfl, e1, e2⟩
      cases e1
      obtain ⟨d', hd', dq'⟩ := DqAll.at dr4 e2
      obtain ⟨s1, hs1, rfl⟩ : ∃ s1, r[i]? = some s1 ∧ rowS s1 = d' := by
        rw [List.getElem?_map] at hd'
        cases ex : r[i]? with
        | none =>
          rw [ex] at hd'
          cases hd'
        | some y =>
          rw [ex] at hd'
          exact ⟨y, rfl, Option.some.inj hd'⟩
      rw [lr] at hi
      obtain ⟨qi, rfl, hqi⟩ := row_at dq'
      have hT := upd_same (H := H6) (a := T) (o := HO.tup [.int (i : Nat), .ref qi])
      have S7 := same_new (o := HO.tup [.int (i : Nat), .ref qi]) nT
      revert hT S7
      generalize upd H6 T (.tup [.int (i : Nat), .ref qi]) = H7
      intro hT S7
      refine ⟨T, _, rfl, SqT.of hT, rfl, _, _, rfl, _, _, rfl, rfl, ?_⟩
      have l1 : s1.length ≤ 500 := pl s1 (List.mem_cons_of_mem _ (List.mem_of_getElem? hs1))
      have M7 : MadeTo H4 L vs H7 := ⟨M.1.trans S7, S7 _ _ M.2⟩
      have qv7 := DqAll.same S7 _ _ qv
      have hz7 := S7 _ _ hz6
      have hqi7 := M7.1 _ _ hqi
      have T7 := T4.trans M7.1
      have dp : r.drop i = s1 :: r.drop (i + 1) := by
        have hlt : i < r.length := hi
        rw [List.drop_eq_getElem_cons hlt]
        rw [List.getElem?_eq_getElem hlt] at hs1
        rw [Option.some.inj hs1]
      rw [dp] at hg
      have hg : (match pairM n s1 with
        | none => Sum.inl (2 + (i : Nat) : Int)
        | some p => if lateP acc p = true then .inl (2 + (i : Nat)) else goM n (2 + (i : Nat) + 1) (acc ++ [p]) (r.drop (i + 1))) = goM n 2 [] r := hg
      have late : ∀ {H9 : Hp}, Same H7 H9 → goM n 2 [] r = .inl (2 + (i : Nat)) → (3 ≤ sizeLine ∧ ∀ p, H9 p = none → Q (.ref p) (upd H9 p (.lst [.str "bad", .int ((i : Nat) + 2), .bl true]))) := fun {H9} S9 hz => by
        rw [show ((i : Nat) : Int) + 2 = 2 + (i : Nat) by omega]
        exact bad _ (T7.trans S9) (by rw [kt, hz]; rfl)
      have pm := pair_law n s1
      have wl : ∀ w ∈ Txt.split s1 " ", w.length ≤ 500 := fun w hw => Nat.le_trans (piece_len hw) l1
      revert hqi7 hqi dq' pm wl
      generalize Txt.split s1 " " = ws
      intro dq' hqi hqi7 pm wl
      have none7 : ∀ {H9 : Hp}, Same H7 H9 → pairM n s1 = none → (3 ≤ sizeLine ∧ ∀ p, H9 p = none → Q (.ref p) (upd H9 p (.lst [.str "bad", .int ((i : Nat) + 2), .bl true]))) := fun {H9} S9 z => by
        rw [z] at hg
        exact late S9 hg.symm
      refine ⟨_, rfl, _, _, rfl, .inl (SqL.of hqi7), rfl, _, rfl, ?_⟩
      by_cases l3 : ws.length = 3
      case neg =>
        refine iteYes ?_ (iteYes rfl ⟨_, rfl, _, _, rfl, rfl, none7 (Same.refl _) (by rw [pm]; exact lpair_len l3)⟩)
        rw [List.length_map, decide_eq_false fun z => l3 (by injection z with z; omega)]
        rfl
      obtain ⟨p, a, b, rfl⟩ : ∃ p a b, ws = [p, a, b] := by
        match ws, l3 with
        | [p, a, b], _ => exact ⟨p, a, b, rfl⟩
      refine iteNo rfl ?_
      have pm : pairM n s1 = if p = "hears" ∧ (0 ≤ lnumM a ∧ 0 ≤ lnumM b) ∧ (lnumM a < n ∧ lnumM b < n) ∧ lnumM a ≠ lnumM b then some (lnumM a, lnumM b) else none := pm
      refine ⟨_, rfl, qi, _, _, .str p, rfl, rfl, SqL.of hqi7, atI_nat (j := 0) rfl, rfl, _, rfl, ?_⟩
      by_cases hp3 : p = "hears"
      case neg =>
        refine iteYes (by rw [decide_eq_false fun z => hp3 (by injection z)]; rfl) ⟨_, rfl, _, _, rfl, rfl, none7 (Same.refl _) (by rw [pm, if_neg fun z => hp3 z.1])⟩
      refine iteNo (by rw [hp3, decide_eq_true rfl]; rfl) ?_
      have wa := wl a (by simp)
      have wb := wl b (by simp)
      refine ⟨_, rfl, qi, _, _, .str a, rfl, rfl, SqL.of hqi7, atI_nat (j := 1) rfl, a, rfl, by omega, fun H8 S8 => ⟨_, rfl, qi, _, _, .str b, rfl, rfl, SqL.of (S8 _ _ hqi7), atI_nat (j := 2) rfl, b, rfl, by omega, fun H9 S9 => ⟨(by show 2 ≤ sizeLine; omega), fun tp ntp => ?_⟩⟩⟩
      revert pm
      generalize lnumM a = ia
      generalize lnumM b = ib
      intro pm
      have Sp := same_new (o := HO.tup [.int ia, .int ib]) ntp
      have htp := upd_same (H := H9) (a := tp) (o := HO.tup [.int ia, .int ib])
      revert Sp htp
      generalize upd H9 tp (.tup [.int ia, .int ib]) = H10
      intro Sp htp
      have S710 := S8.trans (S9.trans Sp)
      refine ⟨fun σ H' => H' = H10 ∧ σ = [some (.str x), some (.ref D), some (.int n), some (.ref L), some (.int (i : Nat)), some (.ref qi), some (.ref tp), some (.bl (decide (0 ≤ if ib < ia then ib else ia) && (decide ((if ia < ib then ib else ia) < n) && !decide (V.int ia = V.int ib)))), o8], ?_, ?_⟩
      · refine ⟨_, rfl, tp, ia, ib, rfl, htp, _, _, rfl, rfl, _, rfl, ?_⟩
        by_cases c1 : (0 : Int) ≤ (if ib < ia then ib else ia)
        case neg =>
          refine iteNo (decide_eq_false c1) ⟨rfl, ?_⟩
          rw [decide_eq_false c1, Bool.false_and]
          rfl
        refine iteYes (decide_eq_true c1) ⟨_, rfl, tp, ia, ib, rfl, htp, _, rfl, _, _, rfl, rfl, _, rfl, ?_⟩
        by_cases c2 : (if ia < ib then ib else ia) < n
        case neg =>
          refine iteNo (decide_eq_false c2) ⟨rfl, ?_⟩
          rw [decide_eq_true c1, decide_eq_false c2, Bool.true_and, Bool.false_and]
          rfl
        refine iteYes (decide_eq_true c2) ⟨_, rfl, tp, _, _, .int ia, rfl, rfl, SqT.of htp, atI_nat (j := 0) rfl, _, rfl, tp, _, _, .int ib, rfl, rfl, SqT.of htp, atI_nat (j := 1) rfl, rfl, rfl, ?_⟩
        rw [decide_eq_true c1, decide_eq_true c2, Bool.true_and, Bool.true_and]
        rfl
      rintro σ H' ⟨rfl, rfl⟩
      refine ⟨_, rfl, _, rfl, ?_⟩
      rw [pair_iff]
      by_cases cc : (0 ≤ ia ∧ 0 ≤ ib) ∧ (ia < n ∧ ib < n) ∧ ia ≠ ib
      case neg =>
        refine iteYes (by rw [decide_eq_false cc]; rfl) (iteYes rfl ⟨_, rfl, _, _, rfl, rfl, none7 S710 (by rw [pm, if_neg fun z => cc z.2])⟩)
      refine iteNo (by rw [decide_eq_true cc]; rfl) ?_
      rw [if_pos ⟨hp3, cc⟩] at pm
      rw [pm] at hg
      have hg : (if lateP acc (ia, ib) = true then Sum.inl (2 + (i : Nat) : Int) else goM n (2 + (i : Nat) + 1) (acc ++ [(ia, ib)]) (r.drop (i + 1))) = goM n 2 [] r := hg
      have M9 : MadeTo H4 L vs H' := ⟨M7.1.trans S710, S710 _ _ M7.2⟩
      have qv9 := DqAll.same S710 _ _ qv7
      have hz9 := S710 _ _ hz7
      refine ⟨_, rfl, Nat.zero_le _, fun e ne => ?_⟩
      have Se := same_new (o := HO.lst []) ne
      have he := upd_same (H := H') (a := e) (o := HO.lst [])
      revert Se he
      generalize upd H' e (.lst []) = H11
      intro Se he
      have M10 : MadeTo H4 L vs H11 := ⟨M9.1.trans Se, Se _ _ M9.2⟩
      have qv10 := DqAll.same Se _ _ qv9
      have htp10 := Se _ _ htp
      have d10 : Dq H11 (.ref tp) (prD (ia, ib)) := .tup htp10 (.cons (.int _) (.cons (.int _) .nil))
      have app : lateP acc (ia, ib) = false → ∃ (l : Addr) (xs : List V) (y : V), V.ref L = .ref l ∧ [V.ref tp] = [y] ∧ H11 l = some (.lst xs) ∧ xs.length < sizeLine ∧
          (fun (σ : L2.St) (H1 : Hp) => ∃ acc o4 o5 o6 o7 o8, MadeP H4 L acc H1 ∧ H1 z = some (.lst vr) ∧ goM n (2 + ((i + 1 : Nat) : Int)) acc (r.drop (i + 1)) = goM n 2 [] r ∧ acc.length ≤ i + 1 ∧ σ = [some (.str x), some (.ref D), some (.int n), some (.ref L), o4, o5, o6, o7, o8]) [some (.str x), some (.ref D), some (.int n), some (.ref L), some (.int (i : Nat)), some (.ref qi), some (.ref tp), some (.bl (decide ((0 ≤ ia ∧ 0 ≤ ib) ∧ (ia < n ∧ ib < n) ∧ ia ≠ ib))), o8] (upd H11 l (.lst (xs ++ [y]))) := fun nl => by
        obtain ⟨h1, M12⟩ := M10.more (.ref tp) nL (Same.refl H11)
        have z11 := Se _ _ hz9
        rw [if_neg (by rw [nl]; decide)] at hg
        have lv := dq_len qv10
        rw [List.length_map] at lv
        refine ⟨L, vs, .ref tp, rfl, rfl, h1, by omega, acc ++ [(ia, ib)], _, _, _, _, _, ⟨vs ++ [.ref tp], M12, ?_⟩, by rw [upd_ne zL]; exact z11, ?_, by rw [List.length_append]; show acc.length + 1 ≤ i + 1; omega, rfl⟩
        · rw [List.map_append]
          exact prs_put qv10 d10 h1
        · rw [← hg]
          show goM n (2 + ((i + 1 : Nat) : Int)) _ _ = _
          rw [show (2 + ((i + 1 : Nat) : Int)) = 2 + (i : Nat) + 1 by omega]
      refine ⟨.list (acc.map prD), .list [], dp_shaped (shaped_prs acc) (.lst M10.2 qv10), .lst (SqL.of he) .nil, shaped_prs acc, by decide, _, rfl, ?_⟩
      rcases List.eq_nil_or_concat acc with rfl | ⟨acc', l2, rfl⟩
      · refine iteNo rfl (iteNo rfl ?_)
        exact ⟨_, rfl, .inl ⟨rfl, _, SqL.of M10.2⟩, _, rfl, app rfl⟩
      · rw [List.concat_eq_append] at *
        have ne : (!PyData.eqv (.list ((acc' ++ [l2]).map prD)) (.list [])) = true := by
          cases acc' <;> rfl
        refine iteYes ne ?_
        have lv := dq_len qv10
        rw [List.length_map] at lv
        rcases List.eq_nil_or_concat vs with rfl | ⟨vs', vl, rfl⟩
        · rw [List.length_append] at lv
          simp at lv
        rw [List.concat_eq_append] at *
        have gl : (vs' ++ [vl])[vs'.length]? = some vl := by simp
        obtain ⟨d', hd', dl⟩ := DqAll.at qv10 gl
        have ll : vs'.length = acc'.length := by simpa using lv
        obtain rfl : prD l2 = d' := by
          rw [ll] at hd'
          simpa using hd'
        obtain ⟨c2, rfl, hc2⟩ := pr_at dl
        have lt : lateP (acc' ++ [l2]) (ia, ib) = leP (ia, ib) l2 := by
          unfold lateP
          rw [List.getLast?_concat]
        refine ⟨_, rfl, _, rfl, _, rfl, L, _, -1, .ref c2, rfl, rfl, SqL.of M10.2, atI_last _ _, tp, c2, [ia, ib], [l2.1, l2.2], rfl, rfl, SqT.of htp10, SqT.of hc2, _, rfl, ?_⟩
        have lx : Ob.lexAt (fun j => decide ([ia, ib].getD j 0 = [l2.1, l2.2].getD j 0)) (fun j => decide ([ia, ib].getD j 0 ≤ [l2.1, l2.2].getD j 0)) (decide ([ia, ib].length ≤ [l2.1, l2.2].length)) 0 (min [ia, ib].length [l2.1, l2.2].length) = leP (ia, ib) l2 := by
          show (if decide (ia = l2.1) = true then (if decide (ib = l2.2) = true then decide (2 ≤ 2) else decide (ib ≤ l2.2)) else decide (ia ≤ l2.1)) = _
          unfold leP
          simp only [decide_eq_true_eq]
          rfl
        rw [lx]
        rcases bool_ft (leP (ia, ib) l2) with b3 | b3
        · refine iteNo b3 ?_
          exact ⟨_, rfl, .inl ⟨rfl, _, SqL.of M10.2⟩, _, rfl, app (by rw [lt, b3])⟩
        · refine iteYes b3 ⟨_, rfl, _, _, rfl, rfl, late (S710.trans Se) ?_⟩
          rw [← hg, if_pos (by rw [lt, b3])]
    · rintro σ H6 ⟨acc, o4, o5, o6, o7, o8, ⟨vs, M, qv⟩, hz6, hg, la, rfl⟩
      have S6 := T4.trans M.1
      rw [show r.drop vr.length = [] by rw [lr, List.drop_length]] at hg
      have hg : goM n 2 [] r = .inr acc := hg.symm
      refine ⟨_, rfl, _, rfl, .inl ⟨L, vs, rfl, SqL.of M.2, fun t nt => ⟨(by show 3 ≤ sizeLine; omega), fun u nu => ?_⟩⟩⟩
      have St := same_new (o := HO.tup vs) nt
      have Su := same_new (o := HO.lst [.str "fine", .int n, .ref t]) nu
      refine k _ _ (S6.trans (St.trans Su)) ?_
      rw [kt, hg]
      exact .lst upd_same (.cons (.str _) (.cons (.int _) (.cons (Dq.same Su _ _ (.tup upd_same (DqAll.same St _ _ qv))) .nil)))
end
end KL
set_option Elab.async false
set_option linter.all false
set_option maxRecDepth 100000
set_option maxHeartbeats 8000000
namespace KL
open PySem L2 PySem.KX PySem.Spec PyProof.Rows
theorem Go.mono {p l : Addr} {H0 H H1 H' H'' : Hp} {t t' n : Int} (g : Go p l H0 H t H1 H' t' n) (S : Same H' H'') : Go p l H0 H t H1 H'' t' n :=
  ⟨g.s, g.d.mono S, fun b o bp bl e => S _ _ (g.f b o bp bl e), g.o, g.t0, g.t1⟩
theorem gd_pr {n : Int} {p : Int × Int} (n3 : n ≤ 3) (h : 0 ≤ p.1 ∧ p.1 < n ∧ 0 ≤ p.2 ∧ p.2 < n ∧ p.1 ≠ p.2) : Gd 4 1 20 (prD p) := by
  have l1 : p.1.natAbs.log2 ≤ p.1.natAbs := Nat.log2_le_self _
  have l2 : p.2.natAbs.log2 ≤ p.2.natAbs := Nat.log2_le_self _
  refine ⟨?_, ?_, ?_, rfl⟩
  · show max 2 (max p.1.natAbs.log2 (max p.2.natAbs.log2 0)) ≤ 4
    omega
  · show max 0 (max 0 0) + 1 ≤ 1
    omega
  · show (p.1.natAbs.log2 + 2 + 2 + (p.2.natAbs.log2 + 2 + 2 + 0)) + 3 ≤ 20
    omega
theorem gd_prs {n : Int} {ps : List (Int × Int)} (h : Pairs n ps) (few : ps.length ≤ 40) : Gd 40 2 1000 (prsD ps) := by
  have m : Many 40 4 1 20 (ps.map prD) := ⟨by rw [List.length_map]; exact few, fun d hd => by
    obtain ⟨p, hp, rfl⟩ := List.mem_map.mp hd
    exact gd_pr h.n3 (h.all p hp)⟩
  exact m.tup.mono (by decide) (by decide) (by decide)
theorem two_seen {d e : PyData} (g : Gd 900 8 60000 d) (h : Gd 900 8 60000 e) : Seen (.list [d, e]) := by
  have t : txD (.list [d, e]) = true := by
    show (txD d && (txD e && true)) = true
    rw [g.tx, h.tx]
    rfl
  have b0 := g.wd
  have b1 := h.wd
  have c0 := g.wt
  have c1 := h.wt
  have e0 := g.dp
  have e1 := h.dp
  refine ⟨(sm_wd (.list [d, e]) ?_).2, Nat.le_trans (shown_wt _ t) ?_, ?_⟩
  · show max 2 (max (wd d) (max (wd e) 0)) ≤ 1000
    omega
  · show (wt d + 2 + (wt e + 2 + 0)) + 2 ≤ 4000000
    omega
  · show max d.depth (max e.depth 0) + 1 ≤ 20
    omega
theorem four_seen {d e f g : PyData} (hd : Gd 900 8 60000 d) (he : Gd 900 8 60000 e) (hf : Gd 900 8 60000 f) (hg : Gd 900 8 60000 g) : Seen (.tuple [d, e, f, g]) := by
  have t : txD (.tuple [d, e, f, g]) = true := by
    show (txD d && (txD e && (txD f && (txD g && true)))) = true
    rw [hd.tx, he.tx, hf.tx, hg.tx]
    rfl
  have b0 := hd.wd
  have b1 := he.wd
  have b2 := hf.wd
  have b3 := hg.wd
  have c0 := hd.wt
  have c1 := he.wt
  have c2 := hf.wt
  have c3 := hg.wt
  have e0 := hd.dp
  have e1 := he.dp
  have e2 := hf.dp
  have e3 := hg.dp
  refine ⟨(sm_wd (.tuple [d, e, f, g]) ?_).2, Nat.le_trans (shown_wt _ t) ?_, ?_⟩
  · show max 4 (max (wd d) (max (wd e) (max (wd f) (max (wd g) 0)))) ≤ 1000
    omega
  · show (wt d + 2 + (wt e + 2 + (wt f + 2 + (wt g + 2 + 0)))) + 3 ≤ 4000000
    omega
  · show max d.depth (max e.depth (max f.depth (max g.depth 0))) + 1 ≤ 20
    omega
/-- what the two give together, as data -/
def Joint (n m : Int) (ps qs : List (Int × Int)) (dd : PyData) : Prop := (n = m → ∃ S, dd = prsD S ∧ SSet (ps ++ qs) S ∧ Pairs n S ∧ S.length ≤ 40) ∧ (n ≠ m → dd = .list [.str "people", .bool true])
theorem Joint.flip {n m : Int} {ps qs : List (Int × Int)} {dd : PyData} (h : Joint n m ps qs dd) : Joint m n qs ps dd := by
  refine ⟨fun e => ?_, fun e => h.2 fun z => e z.symm⟩
  obtain ⟨S, h1, h2, h3, h4⟩ := h.1 e.symm
  exact ⟨S, h1, h2.comm, by rw [e]; exact h3, h4⟩
theorem Joint.gd {n m : Int} {ps qs : List (Int × Int)} {dd : PyData} (h : Joint n m ps qs dd) : Gd 900 8 60000 dd := by
  by_cases e : n = m
  · obtain ⟨S, rfl, _, hS, f⟩ := h.1 e
    exact (gd_prs hS f).mono (by decide) (by decide) (by decide)
  · rw [h.2 e]
    exact ⟨by decide +kernel, by decide, by decide +kernel, by decide +kernel⟩
theorem joined_go {C : Addr} {H : Hp} {x z : Addr} {n m : Int} {v u : V} {ps qs : List (Int × Int)} {dd : PyData} {Q : VK} {E : XK} (hx : PolAt C H x n v ps) (hz : PolAt C H z m u qs) (hp : Pairs n ps) (hq : Pairs m qs) (few : ps.length + qs.length < 64) (J : Joint n m ps qs dd)
    (k : ∀ H' t, Same H H' → Dq H' t dd → Q t H') : spJoined C [.ref x, .ref z] H Q E := by
  refine ⟨x, z, n, m, v, u, ps, qs, rfl, hx, hz, hp, hq, few, fun e H' t S S1 dq ss hS => k H' t S1 ?_, fun ne H' t S1 dq => k H' t S1 ?_⟩
  · obtain ⟨S', rfl, s', _⟩ := J.1 e
    rw [SSet.uniq s' ss]
    exact dq
  · rw [J.2 ne]
    exact dq
/-- two policies beside each other -/
def spTwo (C : Addr) : Sp := fun vs H Q _ => ∃ (H0 : Hp) (p l : Addr) (t : Int) (x : Addr) (n : Int) (v : V) (ps : List (Int × Int)), vs = [.ref p, .ref x, .int n, v] ∧ DeckAt H0 H p l t ∧ 0 ≤ t ∧ t < 900000 ∧ PolAt C H0 x n v ps ∧ Pairs n ps ∧ ps.length ≤ 9 ∧
  ∀ H1 H' t', Go p l H0 H t H1 H' t' 11 → Q (.bl true) H'
abbrev nTwo : List Str := ["_law_deck_here", "_law_code", "_law_many", "_law_pairs_now", "_law_size", "_law_more", "_law_mate", "_law_due_here"]
section
variable {P : Program} {w : World} {K : PySem.W.Frag} {mg : Str → Option Value} {base : Heap} {C CB CO CH fI fE fL fO : Addr} {dI dE dL dO : FuncData}
theorem scTwo : FnScope nTwo ["_law_deck_here", "_law_code", "_law_many", "_law_pairs_now"] (defScope lTwo) := ⟨rfl, rfl, rfl, by decide +kernel, rfl, by decide +kernel, by decide +kernel⟩
theorem ok_two {f g1 g2 g3 : Addr} {fd gd1 gd2 gd3 : FuncData} (F : Fun K "_law_two_right" "_law_two_right" lTwo f fd) (T : TxtG mg) (TP : TxtP K C) (TQ : TxtQ K C) (mC : mg "Policy" = some (.ref C)) (R : PolFns P w K mg base C CB fI fE fL dI dE dL) (TJ : TxtJ K mg CO C CH fO dO)
    (GO : FnOk P w K mg base (L2.CX P w) 7 fO dO ["self", "other"] (spPOr C CO))
    (G1 : FnOk P w K mg base CX0 1 g1 gd1 ["_law_deck_here", "_law_below"] spDraw) (c1 : Cal K mg "_law_draw" g1 gd1 ["_law_deck_here", "_law_below"])
    (G2 : FnOk P w K mg base CX0 2 g2 gd2 ["_law_deck_here", "_law_many"] spRule) (c2 : Cal K mg "_law_rule" g2 gd2 ["_law_deck_here", "_law_many"])
    (G3 : FnOk P w K mg base CX0 8 g3 gd3 ["_law_one", "_law_other"] (spJoined C)) (c3 : Cal K mg "_law_joined" g3 gd3 ["_law_one", "_law_other"]) :
    FnG P w K mg base CX0 9 f fd ["_law_deck_here", "_law_code", "_law_many", "_law_pairs_now"] (spTwo C) := by
  refine fnG0 F scTwo (fun vs H Q E h => ?_) (fun cdv A outer s H vs Q E hG hr h => ?_)
  · obtain ⟨H0, p, l, t, x, n, v, ps, rfl, _⟩ := h
    rfl
  · obtain ⟨Hs, p, l, t, x, n, v, ps, rfl, D, t0, t1, hx, hp, few, k⟩ := h
    have nd := scTwo.nd
    have r1 : Room 1 _ := hr.mono (by decide)
    have r2 : Room 2 _ := hr.mono (by decide)
    have r7 : Room 7 _ := hr.mono (by decide)
    let X0 : Cx := (cxOf CX0 P w K mg base nTwo "_law_two_right" (defScope lTwo) f cdv A outer s H E).nox
    refine ⟨_, pss_cons (ps_set (i := 4) nd rfl (.inl rfl) (pe_op op_add pe_int (pe_call G1 r1 (by rfl) c1.m c1.k c1.b .nil pass0 (pa_cons (pv 0) (pa_cons pe_int pa_nil)))))
      (pss_cons (ps_set (i := 5) nd rfl (.inl rfl) (pe_call G2 r2 (by rfl) c2.m c2.k c2.b .nil pass0 (pa_cons (pv 0) (pa_cons (pv 4) pa_nil))))
      (pss_cons (ps_set (i := 6) nd rfl (.inl rfl) (pe_make R.mkd R.I (hr.mono (by decide)) (by rfl) mC R.bI .nil passL (pa_cons (pv 4) (pa_cons (pv 5) pa_nil))))
      (C8.pss_cut (ps_set (i := 7) nd rfl (.inl rfl) (pe_ifExp (pt_cmpR op_eq (pv 4) (pv 2) (nomark _)) (pe_tupleOf (by rfl) T.b.tuple (pe_callB (cr_sortR rfl hr.units) (by rfl) T.sorted (by decide +kernel) (pa_cons (pe_callTy (cr_setRT rfl hr.units) (by rfl) T.set (by decide +kernel) (pa_cons (pe_op op_catA (pv 3) (pv 5)) pa_nil)) pa_nil))) (pe_lst (pa_cons pe_str (pa_cons pe_bl pa_nil)))))
      (pss_cons (ps_if (pt_cmpR op_ne (pe_callB (call_repL (X := X0) hG hr.units) (by rfl) T.repr (by decide +kernel) (pa_cons (pe_lst (pa_cons (pe_call G3 hr (by rfl) c3.m c3.k c3.b .nil pass0 (pa_cons (pv 1) (pa_cons (pv 6) pa_nil))) (pa_cons (pe_call G3 hr (by rfl) c3.m c3.k c3.b .nil pass0 (pa_cons (pv 6) (pa_cons (pv 1) pa_nil))) pa_nil))) pa_nil))
          (pe_callB (call_repL (X := X0) hG hr.units) (by rfl) T.repr (by decide +kernel) (pa_cons (pe_lst (pa_cons (pv 7) (pa_cons (pv 7) pa_nil))) pa_nil)) (nomark _)) (pss_one (ps_ret pe_bl)) pss_nil)
      (C8.pss_cut (ps_if (PW.pt (pw_or (pt_cmpR op_ne (pe_cmpR (op_eqOwn (X := X0) R.E R.sE R.iE R.bE (E := E0) pass0 (hr.mono (by decide))) (pv 1) (pv 6) (nomark _)) (pe_and (pe_cmpR op_eq (pv 4) (pv 2) (nomark _)) (pe_one (pe_cmpR (op_eqD hr.units) (pv 5) (pv 3) (nomark _)))) (nomark _))
          (pw_or1 (pt_cmpR op_eq (pe_cmpR (op_neOwn (X := X0) R.E R.sE R.iE R.bE (E := E0) pass0 R.ne R.ob (hr.mono (by decide))) (pv 1) (pv 6) (nomark _)) (pe_cmpR (op_eqOwn (X := X0) R.E R.sE R.iE R.bE (E := E0) pass0 (hr.mono (by decide))) (pv 1) (pv 6) (nomark _)) (nomark _))))) (pss_one (ps_ret pe_bl)) pss_nil)
      (C8.pss_cut (ps_if (PW.pt (pw_and (pt_cmpR op_eq (pv 4) (pv 2) (nomark _)) (pw_and1 (pt_not (pt_cmpR (op_eqOwn (X := X0) R.E R.sE R.iE R.bE (E := E0) pass0 (hr.mono (by decide))) (pe_binS (op := .BitOr) GO TJ.sO TJ.iO TJ.bO TJ.first (E := fun _ => E0) (fun σ pins H s e s' I h => passL pins σ H s e s' I h) r7 (pv 1) (pv 6)) (pe_make R.mkd R.I (hr.mono (by decide)) (by rfl) mC R.bI .nil passL (pa_cons (pv 2) (pa_cons (pv 7) pa_nil))) (nomark _)))))) (pss_one (ps_ret pe_bl)) pss_nil)
      (pss_one (ps_ret (pe_cmpR op_eq (pe_callB (call_repT (X := X0) hG hr.units) (by rfl) T.repr (by decide +kernel) (pa_cons (pe_tup (pa_cons (pe_fld (pv 1) (by rfl)) (pa_cons (pe_fld (pv 1) (by rfl)) (pa_cons (pe_fld (pv 6) (by rfl)) (pa_cons (pe_fld (pv 6) (by rfl)) pa_nil))))) pa_nil)) (pe_callB (call_repT (X := X0) hG hr.units) (by rfl) T.repr (by decide +kernel) (pa_cons (pe_tup (pa_cons (pv 2) (pa_cons (pv 3) (pa_cons (pv 4) (pa_cons (pv 5) pa_nil))))) pa_nil)) (nomark _)))))))))), ?_⟩
    refine ⟨_, rfl, Hs, p, l, t, 3, rfl, D, t0, by omega, by omega, by omega, fun H1 r g1 r0 r1' => ⟨_, _, rfl, rfl, ?_⟩⟩
    have m1 : 1 ≤ 1 + r := by omega
    have m3 : 1 + r ≤ 3 := by omega
    refine ⟨_, rfl, _, rfl, Hs, p, l, t + 1, 1 + r, rfl, g1.d, by omega, by omega, m1, m3, fun B2 H2 t2 u qs g2 hu hq fewq => ?_⟩
    dsimp only
    revert m1 m3 hq
    generalize 1 + r = m
    intro m1 m3 hq
    have g := (g1.trans g2).more (n' := 11) (by omega)
    have hx := (hx.same g2.s).same g2.d.s
    have hu := Dq.same g2.d.s _ _ hu
    obtain ⟨dx, hx1, hx2⟩ := id hx
    refine ⟨_, rfl, _, rfl, fun y dy ny ndy ne => ?_⟩
    have S2 : Same H2 (upd (upd H2 dy (.own y)) y (.ins C dy [])) := fun b o e => by
      rw [upd_ne (ne_of_none e ny), upd_ne (ne_of_none e ndy)]
      exact e
    refine ⟨H2, y, dy, .int m, u, _, _, rfl, S2, ny, upd_same, .int m, hu, sm_num (by omega) (by omega), sm_prs hq, fun _ H3 S3 h3 => ⟨rfl, ?_⟩, fun wd e => (by rw [due_pairs hq] at e; cases e)⟩
    have polx : PolAt C H3 x n v ps := hx.same S3
    have poly : PolAt C H3 y m u qs := ⟨dy, h3, Dq.same S3 _ _ hu⟩
    have g3 := g.mono S3
    clear S2 ny ndy ne h3 hx1 hx2 hx hu
    refine ⟨fun σ H' => ∃ w7 dd, σ = [some (.ref p), some (.ref x), some (.int n), some v, some (.int m), some u, some (.ref y), some w7] ∧ Same H3 H' ∧ Dq H' w7 dd ∧ Joint n m ps qs dd, ?_, ?_⟩
    · refine ⟨_, rfl, _, rfl, rfl, _, rfl, ?_⟩
      obtain ⟨dx, hx1, hx2⟩ := id polx
      obtain ⟨dy, hy1, hy2⟩ := id poly
      by_cases e : m = n
      · refine iteYes (by rw [e]; exact decide_eq_true rfl) ?_
        refine ⟨_, rfl, _, rfl, ?_⟩
        refine catA_same hx2 hy2 (by rw [List.length_map, List.length_map]; omega) fun H4 r4 xs S4 h4 q4 => ?_
        rw [← List.map_append] at q4
        dsimp only [tNil]
        refine srt_in (ps := ps ++ qs) (by rw [List.length_append]; omega) h4 q4 fun H5 ys p5 S S5 hp5 qS ss => ?_
        refine .inl ⟨p5, ys, rfl, SqL.of hp5, fun t5 nt5 => ?_⟩
        have S6 := same_new (o := .tup ys) nt5
        have sl := ss.len
        rw [List.length_append] at sl
        refine ⟨.ref t5, prsD S, rfl, S4.trans (S5.trans S6), .tup upd_same (DqAll.same S6 _ _ qS), fun _ => ⟨S, rfl, ss, ?_, by omega⟩, fun ne => absurd e.symm ne⟩
        exact hp.join (by rw [← e]; exact hq) ss (by omega)
      · refine iteNo (decide_eq_false fun z => e (by injection z)) ?_
        refine ⟨(by show 2 ≤ sizeLine; decide), fun l7 nl7 => ?_⟩
        exact ⟨.ref l7, _, rfl, same_new nl7, .lst upd_same (.cons (.str _) (.cons (.bl _) .nil)), fun z => absurd z.symm e, fun _ => rfl⟩
    rintro σ H4 ⟨w7, dd, rfl, S4, d7, J⟩
    have polx := polx.same S4
    have poly := poly.same S4
    have g4 := g3.mono S4
    have gd := J.gd
    refine ⟨_, rfl, _, rfl, joined_go (E := E0) polx poly hp hq (by omega) J fun H5 t1 S5 q1 => ⟨_, rfl, _, rfl, joined_go (E := E0) (poly.same S5) (polx.same S5) hq hp (by omega) J.flip fun H6 t2 S6 q2 => ⟨(by show 2 ≤ sizeLine; decide), fun l6 nl6 => ?_⟩⟩⟩
    have S7 := same_new (o := .lst [t1, t2]) nl6
    refine ⟨l6, t1, [t2], dd, [dd], rfl, upd_same, .cons (Dq.same (S6.trans S7) _ _ q1) (.cons (Dq.same S7 _ _ q2) .nil), two_seen gd gd, ?_⟩
    have S47 := S5.trans (S6.trans S7)
    revert S47
    generalize upd H6 l6 (.lst [t1, t2]) = H7
    intro S47
    refine ⟨_, rfl, _, rfl, (by show 2 ≤ sizeLine; decide), fun l8 nl8 => ?_⟩
    have S8 := same_new (o := .lst [w7, w7]) nl8
    have d8 := Dq.same (S47.trans S8) _ _ d7
    refine ⟨l8, w7, [w7], dd, [dd], rfl, upd_same, .cons d8 (.cons d8 .nil), two_seen gd gd, rfl, _, rfl, iteNo ne_self' ?_⟩
    have S48 := S47.trans S8
    revert S48 d8
    generalize upd H7 l8 (.lst [w7, w7]) = H8
    intro d8 S48
    have polx := polx.same S48
    have poly := poly.same S48
    have g8 := g4.mono S48
    obtain ⟨dx, hx1, hx2⟩ := id polx
    obtain ⟨dy, hy1, hy2⟩ := id poly
    have ox := other_ins TQ.i hy1
    have bb : ∀ b : Bool, (b != b) = false := fun b => by cases b <;> rfl
    refine ⟨fun σ H' => σ = [some (.ref p), some (.ref x), some (.int n), some v, some (.int m), some u, some (.ref y), some w7] ∧ H' = H8, ?_, ?_⟩
    · have nb : ∀ b : Bool, decide (V.bl (!b) = V.bl b) = false := fun b => decide_eq_false fun z => by injection z with z; cases b <;> cases z
      refine ⟨_, rfl, _, rfl, x, dx, _, rfl, hx1, ox, x, .ref y, n, v, ps, rfl, polx, .inr ⟨y, m, u, qs, rfl, poly, _, rfl, ?_⟩⟩
      refine ⟨_, rfl, _, rfl, rfl, _, rfl, ?_⟩
      by_cases e : m = n
      · refine iteYes (by rw [e]; exact decide_eq_true rfl) ?_
        refine ⟨_, rfl, _, rfl, prsD qs, prsD ps, dp_shaped (shaped_prs qs) hy2, dp_shaped (shaped_prs ps) hx2, shaped_prs qs, shaped_prs ps, rfl, _, rfl, ?_⟩
        have same : (!decide (V.bl (decide (n = m) && decide (ps = qs)) = V.bl (PyData.eqv (prsD qs) (prsD ps)))) = false := by
          rw [eqv_prs, show decide (n = m) = true from decide_eq_true e.symm, Bool.true_and]
          by_cases z : ps = qs
          · have z1 : decide (ps = qs) = true := decide_eq_true z
            have z2 : decide (qs = ps) = true := decide_eq_true z.symm
            rw [z1, z2]
            exact ne_self'
          · have z1 : decide (ps = qs) = false := decide_eq_false z
            have z2 : decide (qs = ps) = false := decide_eq_false fun y => z y.symm
            rw [z1, z2]
            exact ne_self'
        refine iteNo same ?_
        refine ⟨_, rfl, _, rfl, x, dx, _, rfl, hx1, ox, x, .ref y, n, v, ps, rfl, polx, .inr ⟨y, m, u, qs, rfl, poly, _, rfl, ?_⟩⟩
        refine ⟨_, rfl, _, rfl, x, dx, _, rfl, hx1, ox, x, .ref y, n, v, ps, rfl, polx, .inr ⟨y, m, u, qs, rfl, poly, _, rfl, rfl, _, rfl, iteNo (nb _) ⟨rfl, rfl⟩⟩⟩
      · refine iteNo (decide_eq_false fun z => e (by injection z)) ?_
        have same : (!decide (V.bl (decide (n = m) && decide (ps = qs)) = V.bl false)) = false := by
          have e1 : decide (n = m) = false := decide_eq_false fun z => e z.symm
          rw [e1, Bool.false_and]
          exact ne_self'
        refine ⟨rfl, _, rfl, iteNo same ?_⟩
        refine ⟨_, rfl, _, rfl, x, dx, _, rfl, hx1, ox, x, .ref y, n, v, ps, rfl, polx, .inr ⟨y, m, u, qs, rfl, poly, _, rfl, ?_⟩⟩
        refine ⟨_, rfl, _, rfl, x, dx, _, rfl, hx1, ox, x, .ref y, n, v, ps, rfl, polx, .inr ⟨y, m, u, qs, rfl, poly, _, rfl, rfl, _, rfl, iteNo (nb _) ⟨rfl, rfl⟩⟩⟩
    rintro σ H' ⟨rfl, rfl⟩
    refine ⟨fun σ H9 => σ = [some (.ref p), some (.ref x), some (.int n), some v, some (.int m), some u, some (.ref y), some w7] ∧ Same H' H9, ?_, ?_⟩
    · refine ⟨_, rfl, _, rfl, rfl, _, rfl, ?_⟩
      by_cases e : m = n
      case neg => exact iteNo (decide_eq_false fun z => e (by injection z)) (iteNo rfl ⟨rfl, Same.refl _⟩)
      refine iteYes (by rw [e]; exact decide_eq_true rfl) ?_
      obtain ⟨S, rfl, ss, hS, fS⟩ := J.1 e.symm
      refine ⟨_, rfl, _, rfl, x, dx, _, rfl, hx1, ty_ins TQ.i hy1, x, y, n, m, v, u, ps, qs, rfl, polx, poly, hp, hq, by omega, fun _ H9 j tj S' S9 polj ss' hS' => ⟨⟨j, rfl⟩, ?_⟩, fun ne => absurd e.symm ne⟩
      obtain rfl := SSet.uniq ss ss'
      obtain ⟨dj, hj1, hj2⟩ := id polj
      refine ⟨_, rfl, _, rfl, fun z dz nz ndz nez => ?_⟩
      have Sz : Same H9 (upd (upd H9 dz (.own z)) z (.ins C dz [])) := fun b o e => by
        rw [upd_ne (ne_of_none e nz), upd_ne (ne_of_none e ndz)]
        exact e
      have d9 := Dq.same S9 _ _ d8
      have n1 := hp.n1
      have n3 := hp.n3
      refine ⟨H9, z, dz, .int n, w7, _, _, rfl, Sz, nz, upd_same, .int n, d9, sm_num (by omega) (by omega), sm_prs hS, fun _ H10 S10 hz => ⟨rfl, ?_⟩, fun wd e => (by rw [due_pairs hS] at e; cases e)⟩
      have polz : PolAt C H10 z n w7 S := ⟨dz, hz, Dq.same S10 _ _ d9⟩
      refine ⟨j, dj, _, rfl, S10 _ _ hj1, other_ins TQ.i hz, j, .ref z, n, tj, S, rfl, polj.same S10, .inr ⟨z, n, w7, S, rfl, polz, _, rfl, ?_⟩⟩
      refine ⟨_, rfl, iteNo ?_ ⟨rfl, S9.trans S10⟩⟩
      rw [show decide (n = n) = true from decide_eq_true rfl, show decide (S = S) = true from decide_eq_true rfl]
      rfl
    rintro σ H9 ⟨rfl, S9⟩
    have polx := polx.same S9
    have poly := poly.same S9
    have g9 := g8.mono S9
    obtain ⟨dx, hx1, hx2⟩ := id polx
    obtain ⟨dy, hy1, hy2⟩ := id poly
    have n1 := hp.n1
    have n3 := hp.n3
    have gn : ∀ i : Int, 1 ≤ i → i ≤ 3 → Gd 900 8 60000 (.int i) := fun i i1 i3 => by
      have : i.natAbs.log2 ≤ i.natAbs := Nat.log2_le_self _
      exact ⟨by show i.natAbs.log2 ≤ 900; omega, Nat.zero_le _, by show i.natAbs.log2 + 2 ≤ 60000; omega, rfl⟩
    have gp := (gd_prs hp (by omega)).mono (w' := 900) (p' := 8) (W' := 60000) (by decide) (by decide) (by decide)
    have gq := (gd_prs hq (by omega)).mono (w' := 900) (p' := 8) (W' := 60000) (by decide) (by decide) (by decide)
    have seen := four_seen (gn n n1 n3) gp (gn m m1 m3) gq
    refine ⟨_, rfl, x, C, dx, _, _, rfl, hx1, TP.c, TP.people, pol_people _ _, _, rfl, x, C, dx, _, _, rfl, hx1, TP.c, TP.pairs, pol_pairs _ _, _, rfl, y, C, dy, _, _, rfl, hy1, TP.c, TP.people, pol_people _ _, _, rfl, y, C, dy, _, _, rfl, hy1, TP.c, TP.pairs, pol_pairs _ _, (by show 4 ≤ sizeLine; decide), fun q1 nq1 => ?_⟩
    have Sa := same_new (o := .tup [.int n, v, .int m, u]) nq1
    refine ⟨q1, _, _, rfl, upd_same, .cons (.int n) (.cons (Dq.same Sa _ _ hx2) (.cons (.int m) (.cons (Dq.same Sa _ _ hy2) .nil))), seen, ?_⟩
    revert Sa
    generalize upd H9 q1 (.tup [.int n, v, .int m, u]) = Ha
    intro Sa
    refine ⟨_, rfl, _, rfl, _, rfl, _, rfl, (by show 4 ≤ sizeLine; decide), fun q2 nq2 => ?_⟩
    have Sb := same_new (o := .tup [.int n, v, .int m, u]) nq2
    have Sab := Sa.trans Sb
    refine ⟨q2, _, _, rfl, upd_same, .cons (.int n) (.cons (Dq.same Sab _ _ hx2) (.cons (.int m) (.cons (Dq.same Sab _ _ hy2) .nil))), seen, rfl, ?_⟩
    rw [decide_eq_true rfl]
    exact k _ _ _ (g9.mono Sab)
end
end KL
set_option Elab.async false
set_option linter.all false
set_option maxRecDepth 100000
set_option maxHeartbeats 8000000
namespace KL
open PySem L2 PySem.KX PySem.Spec PyProof.Rows
/-! ### a written page is read back -/
theorem small_heads : ([1, 2, 3] : List Int).all (fun n => (headM (peopleLine n) == some n) && !((peopleLine n).cps.toList.contains 10)) = true := by decide +kernel
theorem small_pairs : ([1, 2, 3] : List Int).all (fun n => ([0, 1, 2] : List Int).all fun a => ([0, 1, 2] : List Int).all fun b => (!(decide (a < n) && (decide (b < n) && !decide (a = b))) || (pairM n (pairLine (a, b)) == some (a, b))) && !((pairLine (a, b)).cps.toList.contains 10)) = true := by decide +kernel
theorem mem3 {n : Int} (h1 : 1 ≤ n) (h3 : n ≤ 3) : n ∈ ([1, 2, 3] : List Int) := by
  simp only [List.mem_cons, List.not_mem_nil, or_false]
  omega
theorem mem2 {a n : Int} (h1 : 0 ≤ a) (h3 : a < n) (hn : n ≤ 3) : a ∈ ([0, 1, 2] : List Int) := by
  simp only [List.mem_cons, List.not_mem_nil, or_false]
  omega
theorem head_back {n : Int} (h1 : 1 ≤ n) (h3 : n ≤ 3) : headM (peopleLine n) = some n ∧ 10 ∉ (peopleLine n).cps.toList := by
  have := Bool.and_eq_true_iff.mp (List.all_eq_true.mp small_heads n (mem3 h1 h3))
  exact ⟨beq_iff_eq.mp this.1, by simpa using this.2⟩
theorem pair_back {n : Int} {p : Int × Int} (h1 : 1 ≤ n) (h3 : n ≤ 3) (h : 0 ≤ p.1 ∧ p.1 < n ∧ 0 ≤ p.2 ∧ p.2 < n ∧ p.1 ≠ p.2) : pairM n (pairLine p) = some p ∧ 10 ∉ (pairLine p).cps.toList := by
  obtain ⟨a, b⟩ := p
  obtain ⟨a0, a1, b0, b1, ne⟩ := h
  have := Bool.and_eq_true_iff.mp (List.all_eq_true.mp (List.all_eq_true.mp (List.all_eq_true.mp small_pairs n (mem3 h1 h3)) a (mem2 a0 a1 h3)) b (mem2 b0 b1 h3))
  have c : (!(decide (a < n) && (decide (b < n) && !decide (a = b)))) = false := by
    rw [show decide (a < n) = true from decide_eq_true a1, show decide (b < n) = true from decide_eq_true b1, show decide (a = b) = false from decide_eq_false ne]
    rfl
  rw [c, Bool.false_or] at this
  exact ⟨beq_iff_eq.mp this.1, by simpa using this.2⟩
theorem lt_le {p q : Int × Int} (h : ltD (prD q) (prD p) = true) : leP p q = false := by
  cases e : leP p q with
  | false => rfl
  | true =>
    obtain ⟨a, b⟩ := p
    obtain ⟨c, d⟩ := q
    have e : (if a = c then (if b = d then true else decide (b ≤ d)) else decide (a ≤ c)) = true := e
    have h : (if PyData.eqv (.int c) (.int a) = true then (if PyData.eqv (.int d) (.int b) = true then ltAll [] [] else decide (d < b)) else decide (c < a)) = true := h
    rw [eqv_ints, eqv_ints] at h
    by_cases e1 : a = c
    · rw [if_pos e1] at e
      rw [if_pos (decide_eq_true e1.symm)] at h
      by_cases e2 : b = d
      · rw [if_pos (decide_eq_true e2.symm)] at h
        cases h
      · rw [if_neg e2] at e
        rw [if_neg (by rw [decide_eq_false fun z => e2 z.symm]; decide)] at h
        have := of_decide_eq_true e
        have := of_decide_eq_true h
        omega
    · rw [if_neg e1] at e
      rw [if_neg (by rw [decide_eq_false fun z => e1 z.symm]; decide)] at h
      have := of_decide_eq_true e
      have := of_decide_eq_true h
      omega
/-- the pairs behind what was gathered rise on -/
def RiseOn (acc ps : List (Int × Int)) : Prop := match acc.getLast? with
  | none => ascD (ps.map prD) = true
  | some l => ascD (prD l :: ps.map prD) = true
theorem go_back {n : Int} (h1 : 1 ≤ n) (h3 : n ≤ 3) : ∀ (ps acc : List (Int × Int)) (k : Int), (∀ p ∈ ps, 0 ≤ p.1 ∧ p.1 < n ∧ 0 ≤ p.2 ∧ p.2 < n ∧ p.1 ≠ p.2) → RiseOn acc ps → goM n k acc (ps.map pairLine) = .inr (acc ++ ps)
  | [], acc, _, _, _ => by rw [List.append_nil]; rfl
  | p :: ps, acc, k, ha, hr => by
    have hp := (pair_back h1 h3 (ha p List.mem_cons_self)).1
    show (match pairM n (pairLine p) with
      | none => Sum.inl k
      | some p => if lateP acc p = true then .inl k else goM n (k + 1) (acc ++ [p]) (ps.map pairLine)) = _
    rw [hp]
    show (if lateP acc p = true then Sum.inl k else goM n (k + 1) (acc ++ [p]) (ps.map pairLine)) = _
    have late : lateP acc p = false ∧ ascD (prD p :: ps.map prD) = true := by
      unfold RiseOn at hr
      unfold lateP
      cases e : acc.getLast? with
      | none =>
        rw [e] at hr
        exact ⟨rfl, hr⟩
      | some l =>
        rw [e] at hr
        have hr : ascD (prD l :: prD p :: ps.map prD) = true := hr
        rw [asc_cons, Bool.and_eq_true] at hr
        exact ⟨lt_le hr.1, hr.2⟩
    rw [if_neg (by rw [late.1]; decide), go_back h1 h3 ps (acc ++ [p]) (k + 1) (fun q hq => ha q (List.mem_cons_of_mem _ hq)) (by unfold RiseOn; rw [List.getLast?_concat]; exact late.2)]
    rw [List.append_assoc]
    rfl
theorem read_back {n : Int} {ps : List (Int × Int)} (h : Pairs n ps) : textM (.str (polText n ps)) = .inr (n, ps) := by
  have sp : Txt.split (polText n ps) "\n" = peopleLine n :: ps.map pairLine := by
    refine TL.split_join (s := 10) (S := []) (by decide +kernel) (by decide +kernel) (show polLines n ps ≠ [] from fun z => nomatch z) fun x hx => ?_
    rcases List.mem_cons.mp hx with rfl | hx
    · exact (head_back h.n1 h.n3).2
    · obtain ⟨p, hp, rfl⟩ := List.mem_map.mp hx
      exact (pair_back h.n1 h.n3 (h.all p hp)).2
  rw [text_page sp]
  unfold pageM
  rw [(head_back h.n1 h.n3).1]
  show outM n (goM n 2 [] (ps.map pairLine)) = _
  rw [go_back h.n1 h.n3 ps [] 2 h.all h.asc]
  rfl
end KL
set_option Elab.async false
set_option linter.all false
set_option maxRecDepth 100000
set_option maxHeartbeats 4000000
namespace KL
open PySem L2 PySem.KX PySem.Spec PyProof.Rows
/-! ### how long a written page is -/
theorem join_most {y : Str} {m : Nat} (hy : y.length ≤ 1) : ∀ ts : List Str, (∀ x ∈ ts, x.length ≤ m) → (Str.join y ts).length ≤ (m + 1) * ts.length
  | [], _ => Nat.zero_le _
  | [a], h => by
    have := h a (by simp)
    show a.length ≤ (m + 1) * 1
    omega
  | a :: b :: r, h => by
    have ih := join_most hy (b :: r) fun x hx => h x (List.mem_cons_of_mem _ hx)
    have ha := h a (by simp)
    show (a ++ y ++ Str.join y (b :: r)).length ≤ (m + 1) * ((b :: r).length + 1)
    rw [strLen_append, strLen_append, Nat.mul_add, Nat.mul_one]
    omega
theorem small_lens : ((([1, 2, 3] : List Int).all fun n => decide ((peopleLine n).length ≤ 9)) && (([0, 1, 2] : List Int).all fun a => ([0, 1, 2] : List Int).all fun b => decide ((pairLine (a, b)).length ≤ 9))) = true := by decide +kernel
theorem page_len {n : Int} {ps : List (Int × Int)} (h : Pairs n ps) (few : ps.length ≤ 9) : (polText n ps).length ≤ 100 := by
  have z := Bool.and_eq_true_iff.mp small_lens
  have one : ("\n" : Str).length ≤ 1 := by decide +kernel
  have := join_most (y := "\n") (m := 9) one (polLines n ps) fun x hx => by
    rcases List.mem_cons.mp hx with rfl | hx
    · exact of_decide_eq_true (List.all_eq_true.mp z.1 n (mem3 h.n1 h.n3))
    · obtain ⟨p, hp, rfl⟩ := List.mem_map.mp hx
      obtain ⟨a0, a1, b0, b1, _⟩ := h.all p hp
      exact of_decide_eq_true (List.all_eq_true.mp (List.all_eq_true.mp z.2 p.1 (mem2 a0 a1 h.n3)) p.2 (mem2 b0 b1 h.n3))
  have l : (polLines n ps).length = ps.length + 1 := by
    show (ps.map pairLine).length + 1 = _
    rw [List.length_map]
  rw [l] at this
  have e : polText n ps = Str.join "\n" (polLines n ps) := beq_iff_eq.mp (join_closes rfl)
  rw [e]
  refine Nat.le_trans this ?_
  omega
end KL
set_option Elab.async false
set_option linter.all false
set_option maxRecDepth 100000
set_option maxHeartbeats 8000000
namespace KL
open PySem L2 PySem.KX PySem.Spec PyProof.Rows
/-! ### xs[:0:-1] of a list -/
theorem rev0_bounds (n : Nat) : sliceBounds none (some 0) (some (-1)) n = ((n : Int) - 1, max (-1) (min 0 ((n : Int) - 1)), -1) := by
  simp [sliceBounds]
theorem rev0_range (n : Nat) : sliceRange ((n : Int) - 1) (max (-1) (min 0 ((n : Int) - 1))) (-1) = ((List.range (n - 1)).map fun k => 1 + k).reverse := by
  have h1 : ¬ ((-1 : Int) > 0) := by decide
  have up : ((List.range (n - 1)).map fun k => 1 + k).reverse = (List.range (n - 1)).map fun k => n - 1 - k := by
    rw [← List.map_reverse, ← PySem.W.krv_range, List.map_map]
    apply List.map_congr_left
    intro k hk
    have := List.mem_range.mp hk
    show 1 + (n - 1 - 1 - k) = n - 1 - k
    omega
  rw [up]
  unfold sliceRange
  by_cases h : (n : Int) - 1 > 0
  · have e0 : max (-1 : Int) (min 0 ((n : Int) - 1)) = 0 := by omega
    rw [e0]
    have e : ((n : Int) - 1 - 0 - -1 - 1) / (- -1) = ((n - 1 : Nat) : Int) := by
      rw [show (- -1 : Int) = 1 by decide, Int.ediv_one]
      omega
    simp only [h1, if_false, h, if_true, e, Int.toNat_natCast]
    apply List.map_congr_left
    intro k hk
    have := List.mem_range.mp hk
    omega
  · have z : n - 1 = 0 := by omega
    have le : ¬ ((n : Int) - 1 > max (-1 : Int) (min 0 ((n : Int) - 1))) := by omega
    simp only [h1, if_false, le, z]
    rfl
theorem rev0_pick (items : Array Value) : slicePick items none (some 0) (some (-1)) = (items.toList.drop 1).reverse.toArray := by
  unfold slicePick
  rw [rev0_bounds]
  show ((sliceRange ((items.size : Int) - 1) (max (-1) (min 0 ((items.size : Int) - 1))) (-1)).filterMap (items[·]?)).toArray = _
  rw [rev0_range, List.filterMap_reverse, pick_run, List.take_of_length_le]
  rw [List.length_drop, Array.length_toList]
  omega
def tRev0 (K : PySem.W.Frag) (te : TE) : TE := fun σ H Q => te σ H fun x H1 => ∃ a xs, x = .ref a ∧ SqL K H1 a xs ∧ ∀ p, H1 p = none → Q (.ref p) (upd H1 p (.lst (xs.drop 1).reverse))
section
variable {X : Cx}
theorem pe_rev0 {e : Expr} {te : TE} {k k0 : Nat} {p0 p1 p2 p3 pos : Pos} (he : PE X e te) : PE X (.Subscript e (.Slice none (some (.Constant (.int 0) k0 p0)) (some (.UnaryOp .USub (.Constant (.int 1) k p1) p2)) p3) pos) (tRev0 X.K te) := by
  refine ⟨fun pins s σ H Q I h => ?_⟩
  refine Subscript_ (thn (he.run pins s σ H _ I h) fun v s1 ⟨x, H1, I1, r1, q1⟩ => ?_)
  obtain ⟨a, xs, ex, hx, q⟩ := q1
  subst ex
  cases r1
  have hst : PO X (some (.UnaryOp .USub (.Constant (.int 1) k p1) p2)) (tPart (tUn (rU fun i => .int (-i)) (tC (.int 1)))) := po_some (pe_un un_neg pe_int)
  have hup : PO X (some (.Constant (.int 0) k0 p0)) (tPart (tC (.int 0))) := po_some pe_int
  refine wpAny_Slice (thn (po_none.run pins s1 σ H1 (fun o H2 => o = none ∧ H2 = H1) I1 ⟨rfl, rfl⟩) fun vl s2 ⟨l, H2, I2, pl, el, e2⟩ => ?_)
  subst el e2
  refine thn (hup.run pins s2 σ H2 (fun o H3 => o = some 0 ∧ H3 = H2) I2 ⟨0, rfl, rfl, rfl⟩) fun vu s3 ⟨u, H3, I3, pu, eu, e3⟩ => ?_
  subst eu e3
  refine thn (hst.run pins s3 σ H3 (fun o H4 => o = some (-1) ∧ H4 = H3) I3 ⟨1, rfl, -1, rfl, rfl, rfl⟩) fun vs s4 ⟨o, H4, I4, ps, eo, e4⟩ => ?_
  subst eo e4
  have I5 : Inv X pins σ H4 { s4 with heap := s4.heap.push { cls := .type "slice", data := .fields #[vl, vu, vs] } } := I4.kept (t' := s4.toks) fun b o e => Heap.get?_push_of_some _ e
  obtain ⟨its, r, ht, hz⟩ := I5.list hx
  have hlen := r.length
  show wpAny (model X.prog X.w) X.A (subscriptTail e (.Slice none (some (.Constant (.int 0) k0 p0)) (some (.UnaryOp .USub (.Constant (.int 1) k p1) p2)) p3) (.ref a) (.ref s4.heap.objs.size)) (EP X pins σ Q) X.xe { s4 with heap := s4.heap.push { cls := .type "slice", data := .fields #[vl, vu, vs] } }
  refine tail_any (ops := [.ref a, .ref s4.heap.objs.size]) ht.isList.typeIs (PySem.slot_list_getitem.lookup) ?_ (by with_unfolding_all rfl)
  refine wpAny_getItem_list_slice ht.isList (Heap.IsSliceOf.new _ vl vu vs) pl pu ps (by decide) ?_ (by rw [List.size_toArray]; omega)
  rw [rev0_pick]
  refine ⟨.ref _, _, I5.laid (t' := s4.toks) (o := .lst (xs.drop 1).reverse) (fun b ob q => Heap.get?_push_of_some _ q) (Nat.le_refl _) ?_, rfl, q _ (I5.hok.fresh (Nat.le_refl _))⟩
  exact ⟨by rw [List.length_reverse, List.length_drop]; omega, _, 0, (r.drop 1).reverse, Heap.get?_push_size _ rfl⟩
/-! ### "9" * 41 -/
def nines : Str := ⟨(List.replicate 41 ("9" : Str).cps).foldl (· ++ ·) #[]⟩
theorem nines_len : nines.length = 41 := by decide +kernel
def rNines : R2 := fun x y H Q => x = .str "9" ∧ y = .int 41 ∧ Q (.str nines) H
theorem op_nines : OpR X (binaryOp .Mult) rNines := by
  intro pins s σ H x y v u Q I rx ry h
  obtain ⟨rfl, rfl, q⟩ := h
  obtain ⟨t, rfl⟩ := rx
  obtain ⟨t', rfl⟩ := ry
  refine PySem.P.mul_str (by decide) (fun _ _ => by decide +kernel) (fun _ _ => by decide +kernel) ?_
  rw [if_neg (by decide), if_neg (by decide +kernel)]
  exact ⟨by decide +kernel, .str nines, H, I.tok _, ⟨_, rfl⟩, q⟩
end
/-! ### weights of rows -/
def tl : List Str → Nat
  | [] => 0
  | x :: r => x.length + 1 + tl r
theorem tl_app : ∀ a b : List Str, tl (a ++ b) = tl a + tl b
  | [], b => by rw [List.nil_append]; exact (Nat.zero_add _).symm
  | x :: r, b => by
    show x.length + 1 + tl (r ++ b) = x.length + 1 + tl r + tl b
    rw [tl_app r b]
    omega
theorem tl_cut (k : Nat) (a : List Str) : tl (a.take k) + tl (a.drop k) = tl a := by
  rw [← tl_app, List.take_append_drop]
theorem tl_take (k : Nat) (a : List Str) : tl (a.take k) ≤ tl a := by
  have := tl_cut k a
  omega
theorem tl_drop (k : Nat) (a : List Str) : tl (a.drop k) ≤ tl a := by
  have := tl_cut k a
  omega
theorem tl_rev : ∀ a : List Str, tl a.reverse = tl a
  | [] => rfl
  | x :: r => by
    rw [List.reverse_cons, tl_app, tl_rev r]
    show tl r + (x.length + 1 + 0) = x.length + 1 + tl r
    omega
theorem tl_mem {x : Str} : ∀ {a : List Str}, x ∈ a → x.length + 1 ≤ tl a
  | y :: r, h => by
    show x.length + 1 ≤ y.length + 1 + tl r
    rcases List.mem_cons.mp h with rfl | h
    · omega
    · have := tl_mem h
      omega
theorem tl_count : ∀ a : List Str, a.length ≤ tl a
  | [] => Nat.le_refl _
  | x :: r => by
    have := tl_count r
    show r.length + 1 ≤ x.length + 1 + tl r
    omega
theorem tl_join {y : Str} (hy : y.length ≤ 1) : ∀ a : List Str, (Str.join y a).length ≤ tl a
  | [] => Nat.zero_le _
  | [x] => by
    show x.length ≤ x.length + 1 + 0
    omega
  | x :: z :: r => by
    have ih := tl_join hy (z :: r)
    show (x ++ y ++ Str.join y (z :: r)).length ≤ x.length + 1 + tl (z :: r)
    rw [strLen_append, strLen_append]
    omega
theorem tl_unjoin {y : Str} (hy : y.length = 1) : ∀ a : List Str, a ≠ [] → tl a = (Str.join y a).length + 1
  | [], h => absurd rfl h
  | [x], _ => by
    show x.length + 1 + 0 = x.length + 1
    omega
  | x :: z :: r, _ => by
    have ih := tl_unjoin hy (z :: r) (fun e => nomatch e)
    show x.length + 1 + tl (z :: r) = (x ++ y ++ Str.join y (z :: r)).length + 1
    rw [strLen_append, strLen_append]
    omega
theorem tl_split {x y : Str} (hy : y.length = 1) : tl (Txt.split x y) = x.length + 1 := by
  rw [tl_unjoin hy _ (fun e => by obtain ⟨p, r, q⟩ := split_some x y; rw [q] at e; cases e), StrLaws.join_split]
end KL
set_option Elab.async false
set_option linter.all false
set_option maxRecDepth 100000
set_option maxHeartbeats 8000000
namespace KL
open PySem L2 PySem.KX PySem.Spec PyProof.Rows
/-! ### a page bent -/
def cutL (rs : List Str) (lo hi : Option Int) : List Str := (rs.drop (HT.sIx rs.length 0 lo)).take (HT.sIx rs.length rs.length hi - HT.sIx rs.length 0 lo)
theorem cut_strs (rs : List Str) (lo hi : Option Int) : cutV (rs.map V.str) lo hi = (cutL rs lo hi).map V.str := by
  unfold cutV cutL
  rw [List.length_map, List.map_take, List.map_drop]
theorem tl_cutL (rs : List Str) (lo hi : Option Int) : tl (cutL rs lo hi) ≤ tl rs := Nat.le_trans (tl_take _ _) (tl_drop _ _)
theorem tl_sum : ∀ l : List Str, (l.map (·.length)).sum ≤ tl l
  | [] => Nat.le_refl _
  | x :: l => by
    have := tl_sum l
    rw [List.map_cons, List.sum_cons]
    show x.length + _ ≤ x.length + 1 + tl l
    omega
def six : List Str := ["a", " ", "-", "\n", "_", "+"]
def ends7 : List Str := ["\nhears 0 0", "\nhears 0 1", "\nhears 1 0", "\nhears 00 1", "\n", "\npeople 1", " "]
def some13 : List Str := ["0", "1", "2", "00", "01", "3", "-1", "a", "", "hears", "1_0", "+1", nines]
theorem six_len : ∀ s ∈ six, s.length ≤ 42 := by decide +kernel
theorem ends7_len : ∀ s ∈ ends7, s.length ≤ 42 := by decide +kernel
theorem some13_len : ∀ s ∈ some13, s.length ≤ 42 := by decide +kernel
theorem str_of {l : List Str} (h : ∀ s ∈ l, s.length ≤ 42) {d : PyData} (hd : d ∈ l.map PyData.str) : ∃ s, d = .str s ∧ s.length ≤ 42 := by
  obtain ⟨s, hs, rfl⟩ := List.mem_map.mp hd
  exact ⟨s, rfl, h s hs⟩
theorem slL_go {K : PySem.W.Frag} {p l a : Addr} {B A : Hp} {t : Int} {rs : List Str} {lo hi : Option Int} {R : VK} (D : DeckAt B A p l t) (hb : B a = some (.lst (rs.map V.str)))
    (k : ∀ B' A' b, Go p l B A t B' A' t 0 → B' b = some (.lst ((cutL rs lo hi).map V.str)) → R (.ref b) A') : rSlL K (.ref a) lo hi A R :=
  ⟨a, _, rfl, SqL.of (D.s _ _ hb), fun b nb => by
    rw [cut_strs]
    exact k _ _ b ((Go.refl D).new nb) upd_same⟩
theorem catL_go {p l a b : Addr} {B A : Hp} {t : Int} {xs ys : List Str} {R : VK} (D : DeckAt B A p l t) (ha : B a = some (.lst (xs.map V.str))) (hb : B b = some (.lst (ys.map V.str))) (lx : tl xs ≤ 1000) (ly : tl ys ≤ 1000)
    (k : ∀ B' A' c, Go p l B A t B' A' t 0 → B' c = some (.lst ((xs ++ ys).map V.str)) → R (.ref c) A') : rCat (.ref a) (.ref b) A R := by
  have c1 := tl_count xs
  have c2 := tl_count ys
  refine ⟨a, b, _, _, rfl, rfl, D.s _ _ ha, D.s _ _ hb, ?_, fun c nc => ?_⟩
  · rw [List.length_map, List.length_map, sizeLine_eq]
    omega
  · rw [← List.map_append]
    exact k _ _ c ((Go.refl D).new nc) upd_same
theorem join_room {y : Str} {ys : List Str} (hy : y.length ≤ 1) (ly : tl ys ≤ 1000) : (ys.map (·.length)).sum + ys.length * y.length ≤ 16777216 ∧ (Txt.join y ys).length ≤ tl ys := by
  have s := tl_sum ys
  have c := tl_count ys
  have m : ys.length * y.length ≤ ys.length * 1 := Nat.mul_le_mul_left _ hy
  refine ⟨by omega, ?_⟩
  rw [beq_iff_eq.mp (join_closes (ys := ys) (rfl : y = y))]
  exact tl_join hy ys
theorem join_go {K : PySem.W.Frag} {p l a : Addr} {B A : Hp} {t : Int} {ys : List Str} {y : Str} {R : VK} (D : DeckAt B A p l t) (ha : B a = some (.lst (ys.map V.str))) (hy : y.length ≤ 1) (ly : tl ys ≤ 1000)
    (k : ∀ z : Str, z.length ≤ tl ys → R (.str z) A) : ∃ a' p', ∃ ys' : List Str, V.str y = .str a' ∧ [V.ref a] = [.ref p'] ∧ (SqL K A p' (ys'.map V.str) ∨ SqT K A p' (ys'.map V.str)) ∧
    (ys'.map (·.length)).sum + ys'.length * a'.length ≤ 16777216 ∧ R (.str (Txt.join a' ys')) A := by
  have s := tl_sum ys
  have c := tl_count ys
  have m : ys.length * y.length ≤ ys.length * 1 := Nat.mul_le_mul_left _ hy
  refine ⟨y, a, ys, rfl, rfl, .inl (SqL.of (D.s _ _ ha)), by omega, k _ ?_⟩
  rw [beq_iff_eq.mp (join_closes (ys := ys) (rfl : y = y))]
  exact tl_join hy ys
section
variable {p l : Addr} {B : Hp} {σ : L2.St}
theorem lits6 : LitsG p l B σ (tCons (tC (.str "a")) (tCons (tC (.str " ")) (tCons (tC (.str "-")) (tCons (tC (.str "\n")) (tCons (tC (.str "_")) (tCons (tC (.str "+")) tNil)))))) (six.map .str) :=
  litsg_cons litg_str (litsg_cons litg_str (litsg_cons litg_str (litsg_cons litg_str (litsg_cons litg_str (litsg_cons litg_str litsg_nil)))))
theorem lits7 : LitsG p l B σ (tCons (tC (.str "\nhears 0 0")) (tCons (tC (.str "\nhears 0 1")) (tCons (tC (.str "\nhears 1 0")) (tCons (tC (.str "\nhears 00 1")) (tCons (tC (.str "\n")) (tCons (tC (.str "\npeople 1")) (tCons (tC (.str " ")) tNil))))))) (ends7.map .str) :=
  litsg_cons litg_str (litsg_cons litg_str (litsg_cons litg_str (litsg_cons litg_str (litsg_cons litg_str (litsg_cons litg_str (litsg_cons litg_str litsg_nil))))))
theorem lits13 : LitsG p l B σ (tCons (tC (.str "0")) (tCons (tC (.str "1")) (tCons (tC (.str "2")) (tCons (tC (.str "00")) (tCons (tC (.str "01")) (tCons (tC (.str "3")) (tCons (tC (.str "-1")) (tCons (tC (.str "a")) (tCons (tC (.str "")) (tCons (tC (.str "hears")) (tCons (tC (.str "1_0")) (tCons (tC (.str "+1")) (tCons (tOp rNines (tC (.str "9")) (tC (.int 41))) tNil))))))))))))) (some13.map .str) :=
  litsg_cons litg_str (litsg_cons litg_str (litsg_cons litg_str (litsg_cons litg_str (litsg_cons litg_str (litsg_cons litg_str (litsg_cons litg_str (litsg_cons litg_str (litsg_cons litg_str (litsg_cons litg_str (litsg_cons litg_str (litsg_cons litg_str (litsg_cons (litg_op2 (fun _ _ q => ⟨rfl, rfl, q⟩) fun _ => .str _) litsg_nil))))))))))))
end
def spBentPage : Sp := fun vs H Q _ => ∃ (H0 : Hp) (p l : Addr) (t : Int) (x : Str), vs = [.ref p, .str x] ∧ DeckAt H0 H p l t ∧ 0 ≤ t ∧ t + 6 < 1000000 ∧ x.length ≤ 100 ∧
  ∀ H1 H' t' y, Go p l H0 H t H1 H' t' 6 → y.length ≤ 500 → Q (.str y) H'
abbrev nPB : List Str := ["_law_deck_here", "_law_page", "_law_way", "_law_at", "_law_rows", "_law_spot", "_law_far", "_law_words", "_law_ends_now", "_law_some", "_law_where"]
section
variable {P : Program} {w : World} {K : PySem.W.Frag} {mg : Str → Option Value} {base : Heap}
theorem scPB : FnScope nPB ["_law_deck_here", "_law_page"] (defScope lPageBent) := ⟨rfl, rfl, rfl, by decide +kernel, rfl, by decide +kernel, by decide +kernel⟩
theorem ok_pageBent {f g1 g2 : Addr} {fd gd1 gd2 : FuncData} (F : Fun K "_law_page_bent" "_law_page_bent" lPageBent f fd) (T : TxtG mg)
    (G1 : FnOk P w K mg base CX0 1 g1 gd1 ["_law_deck_here", "_law_below"] spDraw) (c1 : Cal K mg "_law_draw" g1 gd1 ["_law_deck_here", "_law_below"])
    (G2 : FnOk P w K mg base CX0 2 g2 gd2 ["_law_deck_here", "_law_some"] spPick) (c2 : Cal K mg "_law_pick" g2 gd2 ["_law_deck_here", "_law_some"]) :
    FnOk P w K mg base CX0 3 f fd ["_law_deck_here", "_law_page"] spBentPage := by
  refine F.ok scPB (fun vs H Q E h => ?_) (fun cdv A outer s H vs Q E hr h => ?_)
  · obtain ⟨H0, p, l, t, x, rfl, _⟩ := h
    rfl
  · obtain ⟨Hs, p, l, t, x, rfl, D, t0, t1, hx, k⟩ := h
    have nd := scPB.nd
    have r1 : Room 1 _ := hr.mono (by omega)
    have r2 : Room 2 _ := hr.mono (by omega)
    refine ⟨_, pss_cons (ps_par (i := 2) (j := 3) (by rfl) nd rfl rfl (by decide) rfl rfl (pa_cons (pe_call G1 r1 (by rfl) c1.m c1.k c1.b .nil pass0 (pa_cons (pv 0) (pa_cons pe_int pa_nil))) (pa_cons (pe_call G1 r1 (by rfl) c1.m c1.k c1.b .nil pass0 (pa_cons (pv 0) (pa_cons (pe_op op_add (pe_callB call_len_str (by rfl) T.d.len PySem.boot_len (pa_cons (pv 1) pa_nil)) pe_int) pa_nil))) pa_nil)) (by rfl))
      (pss_cons (ps_set (i := 4) nd rfl (.inl rfl) (pe_split (pv 1) pe_str))
      (pss_cons (ps_par (i := 5) (j := 6) (by rfl) nd rfl rfl (by decide) rfl rfl (pa_cons (pe_call G1 r1 (by rfl) c1.m c1.k c1.b .nil pass0 (pa_cons (pv 0) (pa_cons (pe_callB call_len_seq (by rfl) T.d.len PySem.boot_len (pa_cons (pv 4) pa_nil)) pa_nil))) (pa_cons (pe_call G1 r1 (by rfl) c1.m c1.k c1.b .nil pass0 (pa_cons (pv 0) (pa_cons (pe_callB call_len_seq (by rfl) T.d.len PySem.boot_len (pa_cons (pv 4) pa_nil)) pa_nil))) pa_nil)) (by rfl))
      (pss_cons (ps_if (pt_cmpR op_lt (pv 2) pe_int (nomark _)) (pss_one (ps_ret (pe_op op_add_str (pe_op op_add_str (pe_slice sl_str (pv 1) po_none (po_some (pv 3))) (pe_call G2 r2 (by rfl) c2.m c2.k c2.b .nil pass0 (pa_cons (pv 0) (pa_cons (pe_lst (pa_cons pe_str (pa_cons pe_str (pa_cons pe_str (pa_cons pe_str (pa_cons pe_str (pa_cons pe_str pa_nil))))))) pa_nil))))
          (pe_slice sl_str (pv 1) (po_some (pe_op op_add (pv 3) (pe_callTy call_int1 (by rfl) T.d.int (by decide +kernel) (pa_cons (pe_cmpR op_gt (pv 2) pe_int (nomark _)) pa_nil)))) po_none)))) pss_nil)
      (pss_cons (ps_if (pt_cmpR op_eq (pv 2) pe_int (nomark _)) (pss_one (ps_ret (pe_join pe_str (pe_op op_cat (pe_slice (r := rSlL K) sl_list (pv 4) po_none (po_some (pv 5))) (pe_slice (r := rSlL K) sl_list (pv 4) (po_some (pe_op op_add (pv 5) pe_int)) po_none))))) pss_nil)
      (pss_cons (ps_if (pt_cmpR op_eq (pv 2) pe_int (nomark _)) (pss_one (ps_ret (pe_join pe_str (pe_op op_cat (pe_op op_cat (pe_slice (r := rSlL K) sl_list (pv 4) po_none (po_some (pe_op op_add (pv 5) pe_int))) (pe_slice (r := rSlL K) sl_list (pv 4) (po_some (pv 6)) (po_some (pe_op op_add (pv 6) pe_int)))) (pe_slice (r := rSlL K) sl_list (pv 4) (po_some (pe_op op_add (pv 5) pe_int)) po_none))))) pss_nil)
      (pss_cons (ps_if (pt_cmpR op_eq (pv 2) pe_int (nomark _)) (pss_one (ps_ret (pe_join pe_str (pe_op op_cat (pe_slice (r := rSlL K) sl_list (pv 4) po_none (po_some pe_int)) (pe_rev0 (pv 4)))))) pss_nil)
      (pss_cons (ps_set (i := 7) nd rfl (.inl rfl) (pe_split (pe_ix (r := rIxL K) ix_list (pv 4) (pe_un un_neg pe_int) (fun _ _ => rfl)) pe_str))
      (pss_cons (ps_if (pt_cmpR op_eq (pe_callB call_len_seq (by rfl) T.d.len PySem.boot_len (pa_cons (pv 4) pa_nil)) pe_int (nomark _))
        (pss_cons (ps_set (i := 8) nd rfl (.inl rfl) (pe_lst (pa_cons pe_str (pa_cons pe_str (pa_cons pe_str (pa_cons pe_str (pa_cons pe_str (pa_cons pe_str (pa_cons pe_str pa_nil))))))))) (pss_one (ps_ret (pe_op op_add_str (pv 1) (pe_call G2 r2 (by rfl) c2.m c2.k c2.b .nil pass0 (pa_cons (pv 0) (pa_cons (pv 8) pa_nil))))))) pss_nil)
      (pss_cons (ps_set (i := 9) nd rfl (.inl rfl) (pe_lst (pa_cons pe_str (pa_cons pe_str (pa_cons pe_str (pa_cons pe_str (pa_cons pe_str (pa_cons pe_str (pa_cons pe_str (pa_cons pe_str (pa_cons pe_str (pa_cons pe_str (pa_cons pe_str (pa_cons pe_str (pa_cons (pe_op op_nines pe_str pe_int) pa_nil)))))))))))))))
      (pss_cons (ps_set (i := 10) nd rfl (.inl rfl) (pe_op op_add pe_int (pe_call G1 r1 (by rfl) c1.m c1.k c1.b .nil pass0 (pa_cons (pv 0) (pa_cons pe_int pa_nil)))))
      (pss_cons (ps_set (i := 7) nd rfl (.inl rfl) (pe_op op_cat (pe_op op_cat (pe_slice (r := rSlL K) sl_list (pv 7) po_none (po_some (pv 10))) (pe_lst (pa_cons (pe_call G2 r2 (by rfl) c2.m c2.k c2.b .nil pass0 (pa_cons (pv 0) (pa_cons (pv 9) pa_nil))) pa_nil))) (pe_slice (r := rSlL K) sl_list (pv 7) (po_some (pe_op op_add (pv 10) pe_int)) po_none)))
      (pss_one (ps_ret (pe_join pe_str (pe_op op_cat (pe_slice (r := rSlL K) sl_list (pv 4) po_none (po_some (pe_un un_neg pe_int))) (pe_lst (pa_cons (pe_join pe_str (pv 7)) pa_nil))))))))))))))))), ?_⟩
    have sz : sizeLine = 16777216 := sizeLine_eq
    have one1 : ("\n" : Str).length = 1 := by decide +kernel
    have two1 : (" " : Str).length = 1 := by decide +kernel
    refine ⟨_, rfl, Hs, p, l, t, 8, rfl, D, t0, by omega, by omega, by omega, fun H1 way g1 w0 w1 => ?_⟩
    refine ⟨_, rfl, _, rfl, x, rfl, by omega, _, _, rfl, rfl, Hs, p, l, t + 1, (x.length : Int) + 1, rfl, g1.d, by omega, by omega, by omega, by omega, fun H2 at' g2 a0 a1 => ⟨_, _, rfl, ?_⟩⟩
    refine ⟨_, rfl, ⟨_, rfl⟩, x, "\n", rfl, rfl, by rw [one_feed]; decide, by omega, fun q nq => ?_⟩
    have g3 := ((g1.trans g2).new (o := .lst ((Txt.split x "\n").map V.str)) nq).more (n' := 2) (by omega)
    have hb : upd Hs q (HO.lst ((Txt.split x "\n").map V.str)) q = some (.lst ((Txt.split x "\n").map V.str)) := upd_same
    revert g3 hb
    generalize upd H2 q (.lst ((Txt.split x "\n").map V.str)) = A
    generalize upd Hs q (.lst ((Txt.split x "\n").map V.str)) = B
    obtain ⟨r0, rr, hrs⟩ := split_some x "\n"
    have wt := tl_split (x := x) one1
    revert wt
    rw [hrs]
    generalize hR : r0 :: rr = rs
    intro wt g3 hb
    have ct := tl_count rs
    have pos : 0 < rs.length := by rw [← hR]; simp
    have lm : (rs.map V.str).length = rs.length := List.length_map ..
    refine ⟨_, rfl, _, rfl, q, _, rfl, .inl (SqL.of (g3.d.s _ _ hb)), B, p, l, t + 1 + 1, _, rfl, g3.d, by omega, by omega, by omega, by omega, fun H4 spot g4 s0 s1 => ?_⟩
    refine ⟨_, rfl, _, rfl, q, _, rfl, .inl (SqL.of (g4.d.s _ _ hb)), B, p, l, t + 1 + 1 + 1, _, rfl, g4.d, by omega, by omega, by omega, by omega, fun H5 far g5 f0 f1 => ⟨_, _, rfl, ?_⟩⟩
    have g6 := ((g3.trans g4).trans g5).more (n' := 4) (by omega)
    have D6 := g5.d
    clear g1 g2 g3 g4 g5
    refine ⟨_, rfl, _, _, rfl, rfl, _, rfl, ?_⟩
    by_cases c2 : way < 2
    · refine iteYes (decide_eq_true c2) ?_
      refine ⟨_, rfl, _, rfl, _, rfl, x, rfl, by omega, ?_⟩
      refine pick_lits (ds := six.map .str) D6 (by omega) (by omega) (by decide) (by decide) rfl lits6 fun B7 H7 v d g7 q7 m7 => ?_
      obtain ⟨y, rfl, ly⟩ := str_of six_len m7
      cases q7
      have l1 := cutS_length x none (some at')
      refine ⟨_, _, rfl, rfl, by omega, _, rfl, _, rfl, _, rfl, _, _, rfl, rfl, .inr ⟨_, rfl, _, _, rfl, rfl, _, rfl, x, rfl, by omega, ?_⟩⟩
      refine ⟨_, _, rfl, rfl, ?_, k _ _ _ _ ((g6.trans g7).more (by omega)) ?_⟩
      all_goals
        have l2 := cutS_length x (some (at' + (if decide (way > 0) = true then 1 else 0))) none
        have l3 := cutS_length x (some (at' + (if decide (0 < way) = true then 1 else 0))) none
        rw [strLen_append] <;> first | omega | (rw [strLen_append]; omega)
    refine iteNo (decide_eq_false c2) ?_
    refine ⟨_, rfl, rfl, _, rfl, ?_⟩
    by_cases w2 : way = 2
    · refine iteYes (by rw [w2]; simp) ?_
      refine ⟨⟨_, rfl⟩, _, rfl, _, rfl, _, rfl, ?_⟩
      dsimp only [tNoPart, tPart]
      refine slL_go D6 hb fun B1 A1 b1 k1 h1 => ?_
      refine ⟨_, rfl, _, rfl, _, _, rfl, rfl, _, rfl, ?_⟩
      dsimp only [tNoPart, tPart]
      refine slL_go k1.d (k1.s _ _ hb) fun B2 A2 b2 k2 h2 => ?_
      have u1 := tl_cutL rs none (some spot)
      have u2 := tl_cutL rs (some (spot + 1)) none
      refine catL_go k2.d (k2.s _ _ h1) h2 (by omega) (by omega) fun B3 A3 b3 k3 h3 => ?_
      refine join_go k3.d h3 (by omega) (by rw [tl_app]; omega) fun y ly => k _ _ _ _ ((g6.trans (k1.trans (k2.trans k3))).more (by omega)) ?_
      rw [tl_app] at ly
      omega
    refine iteNo (by simpa using w2) ?_
    refine ⟨_, rfl, rfl, _, rfl, ?_⟩
    by_cases w3 : way = 3
    · refine iteYes (by rw [w3]; simp) ?_
      refine ⟨⟨_, rfl⟩, _, rfl, _, rfl, _, _, rfl, rfl, _, rfl, ?_⟩
      dsimp only [tNoPart, tPart]
      refine slL_go D6 hb fun B1 A1 b1 k1 h1 => ?_
      refine ⟨_, rfl, _, rfl, _, rfl, _, rfl, _, _, rfl, rfl, _, rfl, ?_⟩
      dsimp only [tNoPart, tPart]
      refine slL_go k1.d (k1.s _ _ hb) fun B2 A2 b2 k2 h2 => ?_
      have u1 := tl_cutL rs none (some (spot + 1))
      have u2 := tl_cutL rs (some far) (some (far + 1))
      have u3 := tl_cutL rs (some (spot + 1)) none
      refine catL_go k2.d (k2.s _ _ h1) h2 (by omega) (by omega) fun B3 A3 b3 k3 h3 => ?_
      refine ⟨_, rfl, _, rfl, _, _, rfl, rfl, _, rfl, ?_⟩
      dsimp only [tNoPart, tPart]
      refine slL_go k3.d (k3.s _ _ (k2.s _ _ (k1.s _ _ hb))) fun B4 A4 b4 k4 h4 => ?_
      have u4 := tl_app (cutL rs none (some (spot + 1))) (cutL rs (some far) (some (far + 1)))
      refine catL_go k4.d (k4.s _ _ h3) h4 (by omega) (by omega) fun B5 A5 b5 k5 h5 => ?_
      refine join_go k5.d h5 (by omega) (by rw [tl_app]; omega) fun y ly => k _ _ _ _ ((g6.trans (k1.trans (k2.trans (k3.trans (k4.trans k5))))).more (by omega)) ?_
      rw [tl_app] at ly
      omega
    refine iteNo (by simpa using w3) ?_
    refine ⟨_, rfl, rfl, _, rfl, ?_⟩
    by_cases w4 : way = 4
    · refine iteYes (by rw [w4]; simp) ?_
      refine ⟨⟨_, rfl⟩, _, rfl, _, rfl, ?_⟩
      dsimp only [tNoPart, tPart]
      refine slL_go D6 hb fun B1 A1 b1 k1 h1 => ?_
      refine ⟨_, rfl, q, _, rfl, SqL.of (k1.d.s _ _ (k1.s _ _ hb)), fun b2 nb2 => ?_⟩
      rw [← List.map_drop, ← List.map_reverse]
      have k2 := (Go.refl k1.d).new (o := .lst ((rs.drop 1).reverse.map V.str)) nb2
      have h2 : upd B1 b2 (HO.lst ((rs.drop 1).reverse.map V.str)) b2 = some (.lst ((rs.drop 1).reverse.map V.str)) := upd_same
      have u1 := tl_cutL rs none (some 1)
      have u2 := tl_rev (rs.drop 1)
      have u3 := tl_drop 1 rs
      refine catL_go k2.d (k2.s _ _ h1) h2 (by omega) (by omega) fun B3 A3 b3 k3 h3 => ?_
      refine join_go k3.d h3 (by omega) (by rw [tl_app]; omega) fun y ly => k _ _ _ _ ((g6.trans (k1.trans (k2.trans k3))).more (by omega)) ?_
      rw [tl_app] at ly
      omega
    refine iteNo (by simpa using w4) ?_
    obtain ⟨rl, hl⟩ : ∃ rl, atI (rs.map V.str) (-1) = some (.str rl) ∧ rl ∈ rs := by
      have ne : rs ≠ [] := fun z => by rw [z] at pos; cases pos
      have e := List.dropLast_concat_getLast ne
      refine ⟨rs.getLast ne, ?_, List.getLast_mem ne⟩
      have e2 := congrArg (List.map V.str) e
      rw [List.map_append] at e2
      rw [← e2]
      exact atI_last ((rs.dropLast).map V.str) (.str (rs.getLast ne))
    have ml := tl_mem hl.2
    refine ⟨_, rfl, _, rfl, q, _, _, _, rfl, rfl, SqL.of (D6.s _ _ hb), hl.1, ⟨_, rfl⟩, rl, " ", rfl, rfl, by rw [one_blank]; decide, by omega, fun q2 nq2 => ?_⟩
    have g7 := g6.new (o := .lst ((Txt.split rl " ").map V.str)) nq2
    have hb2 : upd B q2 (HO.lst ((Txt.split rl " ").map V.str)) q2 = some (.lst ((Txt.split rl " ").map V.str)) := upd_same
    have hb := (same_new (o := .lst ((Txt.split rl " ").map V.str)) (D6.s.free nq2)) _ _ hb
    revert g7 hb2 hb
    generalize upd H5 q2 (.lst ((Txt.split rl " ").map V.str)) = A
    generalize upd B q2 (.lst ((Txt.split rl " ").map V.str)) = B
    have wt2 := tl_split (x := rl) two1
    revert wt2
    generalize Txt.split rl " " = ws
    intro wt2 g7 hb2 hb
    have D7 := g7.d
    refine ⟨_, rfl, q, _, rfl, .inl (SqL.of (D7.s _ _ hb)), rfl, _, rfl, ?_⟩
    by_cases one : rs.length = 1
    · refine iteYes (by rw [lm, one]; rfl) ?_
      refine asg_litsG (ds := ends7.map .str) D7 lits7 (by decide) fun B3 A3 q3 vs g8 dvs hq qp ql lv => ?_
      have lv : vs.length = 7 := lv
      refine ⟨_, rfl, _, rfl, _, rfl, B3, p, l, _, q3, vs, rfl, g8.d, by omega, by omega, hq, qp, ql, by omega, by omega, fun H' i v2 gv hv2 => ?_⟩
      obtain ⟨d2, hd2, hq2⟩ := DqAll.at dvs hv2
      obtain ⟨y, rfl, ly⟩ := str_of ends7_len (List.mem_of_getElem? hd2)
      cases hq2
      refine ⟨_, _, rfl, rfl, by omega, k _ _ _ _ ((g7.trans (g8.trans gv)).more (by omega)) ?_⟩
      rw [strLen_append]
      omega
    refine iteNo (decide_eq_false (by rw [lm]; intro z; injection z with z; omega)) ?_
    refine asg_litsG (ds := some13.map .str) D7 lits13 (by decide) fun B3 A3 q3 vs g8 dvs hq qp ql lv => ?_
    have lv : vs.length = 13 := lv
    refine ⟨_, rfl, B3, p, l, _, 2, rfl, g8.d, by omega, by omega, by omega, by omega, fun H9 wh g9 wh0 wh1 => ⟨_, _, rfl, rfl, ?_⟩⟩
    have hq9 := g9.f _ _ qp ql hq
    refine ⟨_, rfl, _, rfl, _, rfl, ?_⟩
    dsimp only [tNoPart, tPart]
    refine slL_go g9.d (g8.s _ _ hb2) fun B4 A4 b4 k4 h4 => ?_
    refine ⟨_, rfl, _, rfl, B4, p, l, _, q3, vs, rfl, k4.d, by omega, by omega, k4.f _ _ qp ql hq9, qp, ql, by omega, by omega, fun H' i v2 gv hv2 => ?_⟩
    obtain ⟨d2, hd2, hq2⟩ := DqAll.at dvs hv2
    obtain ⟨y, rfl, ly⟩ := str_of some13_len (List.mem_of_getElem? hd2)
    cases hq2
    refine ⟨(by show 1 ≤ sizeLine; decide), fun b5 nb5 => ?_⟩
    have k5 := gv.new (o := .lst ([y].map V.str)) nb5
    have h5 : upd B4 b5 (HO.lst ([y].map V.str)) b5 = some (.lst ([y].map V.str)) := upd_same
    have u1 := tl_cutL ws none (some (1 + wh))
    have u2 := tl_cutL ws (some (1 + wh + 1)) none
    have u0 : tl [y] = y.length + 1 := rfl
    refine catL_go k5.d (k5.s _ _ h4) h5 (by omega) (by omega) fun B6 A6 b6 k6 h6 => ?_
    refine ⟨_, rfl, _, rfl, _, _, rfl, rfl, _, rfl, ?_⟩
    dsimp only [tNoPart, tPart]
    refine slL_go k6.d (k6.s _ _ (k5.s _ _ (k4.s _ _ (g8.s _ _ hb2)))) fun B7 A7 b7 k7 h7 => ?_
    have u3 := tl_app (cutL ws none (some (1 + wh))) [y]
    refine catL_go k7.d (k7.s _ _ h6) h7 (by omega) (by omega) fun B8 A8 b8 k8 h8 => ?_
    have u4 := tl_app (cutL ws none (some (1 + wh)) ++ [y]) (cutL ws (some (1 + wh + 1)) none)
    refine ⟨⟨_, rfl⟩, _, rfl, _, rfl, _, rfl, ?_⟩
    dsimp only [tNoPart, tPart]
    refine slL_go k8.d (k8.s _ _ (k7.s _ _ (k6.s _ _ (k5.s _ _ (k4.s _ _ (g8.s _ _ hb)))))) fun B9 A9 b9 k9 h9 => ?_
    have u5 := tl_cutL rs none (some (-1))
    have jr := join_room (y := " ") (ys := cutL ws none (some (1 + wh)) ++ [y] ++ cutL ws (some (1 + wh + 1)) none) (by omega) (by omega)
    refine ⟨⟨_, rfl⟩, _, rfl, " ", b8, _, rfl, rfl, .inl (SqL.of (k9.d.s _ _ (k9.s _ _ h8))), jr.1, ?_⟩
    have lz := jr.2
    revert lz
    generalize Txt.join " " (cutL ws none (some (1 + wh)) ++ [y] ++ cutL ws (some (1 + wh + 1)) none) = z
    intro lz
    refine ⟨(by show 1 ≤ sizeLine; decide), fun b10 nb10 => ?_⟩
    have k10 := (Go.refl k9.d).new (o := .lst ([z].map V.str)) nb10
    have h10 : upd B9 b10 (HO.lst ([z].map V.str)) b10 = some (.lst ([z].map V.str)) := upd_same
    have u6 : tl [z] = z.length + 1 := rfl
    refine catL_go k10.d (k10.s _ _ h9) h10 (by omega) (by omega) fun B11 A11 b11 k11 h11 => ?_
    have u7 := tl_app (cutL rs none (some (-1))) [z]
    refine join_go k11.d h11 (by omega) (by omega) fun y2 ly2 => k _ _ _ _ ((g7.trans (g8.trans (g9.trans (k4.trans (k5.trans (k6.trans (k7.trans (k8.trans (k9.trans (k10.trans k11)))))))))).more (by omega)) ?_
    omega
end
end KL
set_option Elab.async false
set_option linter.all false
set_option maxRecDepth 100000
set_option maxHeartbeats 8000000
namespace KL
open PySem L2 PySem.KX PySem.Spec PyProof.Rows
/-! ### sizes of what a reading tells -/
theorem go_size {n : Int} : ∀ (r : List Str) (k : Int) (acc : List (Int × Int)), (∀ j, goM n k acc r = .inl j → k ≤ j ∧ j < k + r.length) ∧ ∀ ps, goM n k acc r = .inr ps → ps.length ≤ acc.length + r.length
  | [], k, acc => ⟨fun j h => (nomatch h), fun ps h => by
    cases h
    exact Nat.le_refl _⟩
  | s :: r, k, acc => by
    have e : goM n k acc (s :: r) = (match pairM n s with
      | none => Sum.inl k
      | some p => if lateP acc p = true then .inl k else goM n (k + 1) (acc ++ [p]) r) := rfl
    rw [e]
    have len : ((s :: r).length : Int) = (r.length : Int) + 1 := by simp
    cases pairM n s with
    | none =>
      refine ⟨fun j h => ?_, fun ps h => nomatch h⟩
      cases h
      omega
    | some p =>
      show (∀ j, (if lateP acc p = true then Sum.inl k else goM n (k + 1) (acc ++ [p]) r) = .inl j → _) ∧ ∀ ps, (if lateP acc p = true then Sum.inl k else goM n (k + 1) (acc ++ [p]) r) = .inr ps → _
      by_cases z : lateP acc p = true
      · rw [if_pos z]
        refine ⟨fun j h => ?_, fun ps h => nomatch h⟩
        cases h
        omega
      · rw [if_neg z]
        have ih := go_size (n := n) r (k + 1) (acc ++ [p])
        refine ⟨fun j h => ?_, fun ps h => ?_⟩
        · have := ih.1 j h
          omega
        · have := ih.2 ps h
          rw [List.length_append] at this
          have l2 : (s :: r).length = r.length + 1 := rfl
          have l3 : [p].length = 1 := rfl
          omega
theorem text_size {d : PyData} (few : ∀ s, d = .str s → s.length ≤ 500) : (∀ j, textM d = .inl j → 0 ≤ j ∧ j ≤ 600) ∧ ∀ n ps, textM d = .inr (n, ps) → ps.length ≤ 600 := by
  by_cases hs : ∀ s, d ≠ .str s
  · rw [no_str hs]
    refine ⟨fun j h => ?_, fun n ps h => nomatch h⟩
    cases h
    omega
  obtain ⟨s, hs⟩ := Classical.not_forall.mp hs
  have hs := Classical.not_not.mp hs
  subst hs
  have hl := few s rfl
  obtain ⟨l, r, e⟩ := split_some s "\n"
  have cn := split_count (x := s) (y := "\n") (by rw [one_feed]; decide)
  rw [e] at cn
  have cn : r.length + 1 ≤ s.length + 1 := cn
  rw [text_page e]
  unfold pageM
  cases headM l with
  | none =>
    refine ⟨fun j h => ?_, fun n ps h => nomatch h⟩
    cases h
    omega
  | some n =>
    have z := go_size (n := n) r 2 []
    show (∀ j, outM n (goM n 2 [] r) = .inl j → _) ∧ ∀ n' ps, outM n (goM n 2 [] r) = .inr (n', ps) → _
    cases hg : goM n 2 [] r with
    | inl k =>
      refine ⟨fun j h => ?_, fun n ps h => nomatch h⟩
      cases h
      have := z.1 k hg
      omega
    | inr qs =>
      refine ⟨fun j h => (nomatch h), fun n ps h => ?_⟩
      cases h
      have := z.2 qs hg
      have l0 : ([] : List (Int × Int)).length = 0 := rfl
      omega
theorem told_gd {d : PyData} (few : ∀ s, d = .str s → s.length ≤ 500) : Gd 900 8 60000 (toldD (textM d)) := by
  have z := text_size few
  cases ht : textM d with
  | inl k =>
    have := z.1 k ht
    have : k.natAbs.log2 ≤ k.natAbs := Nat.log2_le_self _
    refine ⟨?_, ?_, ?_, rfl⟩
    · show max 3 (max (wd (.str "bad")) (max k.natAbs.log2 (max (wd (.bool true)) 0))) ≤ 900
      have : wd (.str "bad") = 3 := by decide +kernel
      have : wd (.bool true) = 0 := rfl
      omega
    · show max 0 (max 0 (max 0 0)) + 1 ≤ 8
      omega
    · show wt (.str "bad") + 2 + (k.natAbs.log2 + 2 + 2 + (wt (.bool true) + 2 + 0)) + 2 ≤ 60000
      have : wt (.str "bad") ≤ 1000 := by decide +kernel
      have : wt (.bool true) ≤ 1000 := by decide +kernel
      omega
  | inr q =>
    obtain ⟨n, ps⟩ := q
    have hp := text_pairs ht few
    have lp := z.2 n ps ht
    have n1 := hp.n1
    have n3 := hp.n3
    have g : Gd 600 2 20000 (prsD ps) := by
      have m : Many 600 4 1 20 (ps.map prD) := ⟨by rw [List.length_map]; exact lp, fun d hd => by
        obtain ⟨p, hp', rfl⟩ := List.mem_map.mp hd
        exact gd_pr hp.n3 (hp.all p hp')⟩
      exact m.tup.mono (by decide) (by decide) (by decide)
    have : n.natAbs.log2 ≤ n.natAbs := Nat.log2_le_self _
    have b0 := g.wd
    have b1 := g.dp
    have b2 := g.wt
    refine ⟨?_, ?_, ?_, ?_⟩
    · show max 3 (max (wd (.str "fine")) (max n.natAbs.log2 (max (wd (prsD ps)) 0))) ≤ 900
      have : wd (.str "fine") = 4 := by decide +kernel
      omega
    · show max 0 (max 0 (max (prsD ps).depth 0)) + 1 ≤ 8
      omega
    · show wt (.str "fine") + 2 + (n.natAbs.log2 + 2 + 2 + (wt (prsD ps) + 2 + 0)) + 2 ≤ 60000
      have : wt (.str "fine") ≤ 1000 := by decide +kernel
      omega
    · show (true && (true && (txD (prsD ps) && true))) = true
      rw [g.tx]
      rfl
theorem one_seen {d : PyData} (g : Gd 900 8 60000 d) : Seen d := by
  have b0 := g.wd
  have c0 := g.wt
  have e0 := g.dp
  exact ⟨(sm_wd d (by omega)).2, Nat.le_trans (shown_wt _ g.tx) (by omega), by omega⟩
/-- what is told is a list -/
theorem told_lst {H : Hp} {v : V} {r : Int ⊕ (Int × List (Int × Int))} (h : Dq H v (toldD r)) : ∃ a w ws d ds, v = .ref a ∧ H a = some (.lst (w :: ws)) ∧ DqAll H (w :: ws) (d :: ds) ∧ toldD r = .list (d :: ds) := by
  rcases r with k | ⟨n, ps⟩
  · cases h with
    | lst ha hq =>
      cases hq with
      | cons h1 h2 => exact ⟨_, _, _, _, _, rfl, ha, .cons h1 h2, rfl⟩
  · cases h with
    | lst ha hq =>
      cases hq with
      | cons h1 h2 => exact ⟨_, _, _, _, _, rfl, ha, .cons h1 h2, rfl⟩
end KL
set_option Elab.async false
set_option linter.all false
set_option maxRecDepth 100000
set_option maxHeartbeats 8000000
namespace KL
open PySem L2 PySem.KX PySem.Spec PyProof.Rows
/-! ### the texts of a policy -/
def none13 : List PyData := [.none, .int 0, .bool true, .tuple [], .list [], .dict [], .list [.str "people 1"], .str "", .str "\n", .str "people", .str " people 1", .str "people 1 ", .str "people 1\n"]
def shortB : PyData → Bool
  | .str s => decide (s.length ≤ 500)
  | _ => true
theorem none13_few : ∀ d ∈ none13, ∀ s, d = .str s → s.length ≤ 500 := fun d hd s e => by
  have z : none13.all shortB = true := by decide +kernel
  have := List.all_eq_true.mp z d hd
  rw [e] at this
  exact of_decide_eq_true this
theorem litsN {p l : Addr} {B : Hp} {σ : L2.St} : LitsG p l B σ (tCons (tC .non) (tCons (tC (.int 0)) (tCons (tC (.bl true)) (tCons (tTup tNil) (tCons (tLst tNil) (tCons tDNewK (tCons (tLst (tCons (tC (.str "people 1")) tNil)) (tCons (tC (.str "")) (tCons (tC (.str "\n")) (tCons (tC (.str "people")) (tCons (tC (.str " people 1")) (tCons (tC (.str "people 1 ")) (tCons (tC (.str "people 1\n")) tNil))))))))))))) none13 := by
  have l0 : LitG p l B σ (tLst tNil) (.list []) := litg_lst litsg_nil (by simp)
  have lt0 : LitG p l B σ (tTup tNil) (.tuple []) := litg_tup litsg_nil (by simp)
  have l1 : LitG p l B σ (tLst (tCons (tC (.str "people 1")) tNil)) (.list [.str "people 1"]) := litg_lst (litsg_cons litg_str litsg_nil) (by simp)
  exact litsg_cons litg_non (litsg_cons litg_int (litsg_cons litg_bl (litsg_cons lt0 (litsg_cons l0 (litsg_cons litg_dict (litsg_cons l1 (litsg_cons litg_str (litsg_cons litg_str (litsg_cons litg_str (litsg_cons litg_str (litsg_cons litg_str (litsg_cons litg_str litsg_nil))))))))))))
def spTexts (C : Addr) : Sp := fun vs H Q _ => ∃ (H0 : Hp) (p l : Addr) (t : Int) (x : Addr) (n : Int) (v : V) (ps : List (Int × Int)), vs = [.ref p, .ref x, .int n, v] ∧ DeckAt H0 H p l t ∧ 0 ≤ t ∧ t < 900000 ∧ PolAt C H0 x n v ps ∧ Pairs n ps ∧ ps.length ≤ 9 ∧
  ∀ H1 H' t', Go p l H0 H t H1 H' t' 18 → Q (.bl true) H'
abbrev nTexts : List Str := ["_law_deck_here", "_law_code", "_law_many", "_law_pairs_now", "_law_page", "_law_turn", "_law_other_page", "_law_must", "_law_some", "_law_it"]
section
variable {P : Program} {w : World} {K : PySem.W.Frag} {mg : Str → Option Value} {base : Heap} {C CB fI fE fL : Addr} {dI dE dL : FuncData}
theorem scTexts : FnScope nTexts ["_law_deck_here", "_law_code", "_law_many", "_law_pairs_now"] (defScope lTexts) := ⟨rfl, rfl, rfl, by decide +kernel, rfl, by decide +kernel, by decide +kernel⟩
theorem ok_texts {f g1 g2 g3 g4 fS CT IT CH fR pR : Addr} {mc : Value} {fd gd1 gd2 gd3 gd4 dS dR : FuncData} (F : Fun K "_law_texts_right" "_law_texts_right" lTexts f fd) (T : TxtG mg) (TQ : TxtQ K C) (mC : mg "Policy" = some (.ref C)) (R : PolFns P w K mg base C CB fI fE fL dI dE dL)
    (GS : FnOk P w K mg base CX0 1 fS dS ["self"] (spPStr C)) (sS : PySem.W.findIn K (.ref C) "__str__" = some (some (.ref fS))) (iS : PySem.W.isFn K (.ref fS) = true) (bS : L2.Binds K dS ["self"] [])
    (TC : TxtV K mg CT IT C CH fR dR mc pR) (GR : FnOk P w K mg base (L2.CX P w) 7 fR dR ["cls", "text"] (spPRead C CT))
    (G1 : FnOk P w K mg base CX0 1 g1 gd1 ["_law_many", "_law_pairs_now"] spWritten) (c1 : Cal K mg "_law_written" g1 gd1 ["_law_many", "_law_pairs_now"])
    (G2 : FnOk P w K mg base CX0 3 g2 gd2 ["_law_deck_here", "_law_page"] spBentPage) (c2 : Cal K mg "_law_page_bent" g2 gd2 ["_law_deck_here", "_law_page"])
    (G3 : FnOk P w K mg base CX0 2 g3 gd3 ["_law_it"] spReadDue) (c3 : Cal K mg "_law_read_due" g3 gd3 ["_law_it"])
    (G4 : FnOk P w K mg base CX0 8 g4 gd4 ["_law_it", "_law_is_named"] spReadL) (c4 : Cal K mg "_law_read" g4 gd4 ["_law_it", "_law_is_named"]) :
    FnG P w K mg base CX0 9 f fd ["_law_deck_here", "_law_code", "_law_many", "_law_pairs_now"] (spTexts C) := by
  refine fnG0 F scTexts (fun vs H Q E h => ?_) (fun cdv A outer s H vs Q E hG hr h => ?_)
  · obtain ⟨H0, p, l, t, x, n, v, ps, rfl, _⟩ := h
    rfl
  · obtain ⟨Hs, p, l, t, x, n, v, ps, rfl, D, t0, t1, hx, hp, few, k⟩ := h
    have nd := scTexts.nd
    have r1 : Room 1 _ := hr.mono (by decide)
    have r2 : Room 2 _ := hr.mono (by decide)
    have r3 : Room 3 _ := hr.mono (by decide)
    have r7 : Room 7 _ := hr.mono (by decide)
    let X0 : Cx := (cxOf CX0 P w K mg base nTexts "_law_texts_right" (defScope lTexts) f cdv A outer s H E).nox
    refine ⟨_, pss_cons (ps_set (i := 4) nd rfl (.inl rfl) (pe_call G1 r1 (by rfl) c1.m c1.k c1.b .nil pass0 (pa_cons (pv 2) (pa_cons (pv 3) pa_nil))))
      (pss_cons (ps_if (PW.pt (pw_or (pt_cmpR op_ne (pe_callTy (cr_strOwn (X := X0) (E := E0) GS sS iS bS (fun σ pins H s e s' I h => pass0 pins σ H s e s' I h) r3) (by rfl) T.b.str (by decide +kernel) (pa_cons (pv 1) pa_nil)) (pv 4) (nomark _))
        (pw_or (pt_cmpR op_ne (pe_callTy (cr_strOwn (X := X0) (E := E0) GS sS iS bS (fun σ pins H s e s' I h => pass0 pins σ H s e s' I h) r3) (by rfl) T.b.str (by decide +kernel) (pa_cons (pe_cmethS (E := fun _ => E0) (pe_glob (v := .ref C) (by rfl) mC rfl) TC.r TC.c GR TC.b r7 (fun σ pins H s e s' I h => passL pins σ H s e s' I h) (pa_cons (pv 4) pa_nil)) pa_nil)) (pv 4) (nomark _))
        (pw_or1 (pt_not (pt_cmpR (op_eqOwn (X := X0) R.E R.sE R.iE R.bE (E := E0) pass0 r3) (pe_cmethKS (ks := ["text"]) (E := fun _ => E0) (pe_glob (v := .ref C) (by rfl) mC rfl) TC.r TC.c GR TC.kb r7 (fun σ pins H s e s' I h => passL pins σ H s e s' I h) (pk_cons (pv 4) pk_nil)) (pv 1) (nomark _))))))) (pss_one (ps_ret pe_bl)) pss_nil)
      (pss_cons (ps_for PassesOwn.never rfl (pi_range1 (by rfl) T.range (pa_cons pe_int pa_nil)) (pg_name (i := 5) nd rfl (.inl rfl))
        (pss_cons (ps_set (i := 6) nd rfl (.inl rfl) (pe_call G2 r3 (by rfl) c2.m c2.k c2.b .nil pass0 (pa_cons (pv 0) (pa_cons (pv 4) pa_nil))))
        (pss_cons (ps_set (i := 7) nd rfl (.inl rfl) (pe_call G3 r2 (by rfl) c3.m c3.k c3.b .nil pass0 (pa_cons (pv 6) pa_nil)))
        (pss_one (ps_if (pt_cmpR op_ne (pe_callB (call_repL (X := X0) hG hr.units) (by rfl) T.repr (by decide +kernel) (pa_cons (pe_lst (pa_cons (pe_call G4 hr (by rfl) c4.m c4.k c4.b .nil pass0 (pa_cons (pv 6) (pa_cons pe_bl pa_nil))) (pa_cons (pe_call G4 hr (by rfl) c4.m c4.k c4.b .nil pass0 (pa_cons (pv 6) (pa_cons pe_bl pa_nil))) pa_nil))) pa_nil))
          (pe_callB (call_repL (X := X0) hG hr.units) (by rfl) T.repr (by decide +kernel) (pa_cons (pe_lst (pa_cons (pv 7) (pa_cons (pv 7) pa_nil))) pa_nil)) (nomark _)) (pss_one (ps_ret pe_bl)) pss_nil)))))
      (pss_cons (ps_set (i := 8) nd rfl (.inl rfl) (pe_lst (pa_cons pe_non (pa_cons pe_int (pa_cons pe_bl (pa_cons (pe_tup pa_nil) (pa_cons (pe_lst pa_nil) (pa_cons pe_dnewK (pa_cons (pe_lst (pa_cons pe_str pa_nil)) (pa_cons pe_str (pa_cons pe_str (pa_cons pe_str (pa_cons pe_str (pa_cons pe_str (pa_cons pe_str pa_nil)))))))))))))))
      (pss_one (ps_ret (pe_cmpR (op_eqNil hr.units) (pe_lc (own := [("_law_it", 9)]) (g := gName 9) (tt := tTest (tOp rNe (tCB rRepL (tCons (tCall spReadL [] E0 (tCons (tVar 9) (tCons (tC (.bl false)) tNil))) tNil)) (tCB rRepL (tCons (tCall spReadDue [] E0 (tCons (tVar 9) tNil)) tNil)))) rfl nd (pi_list (pv 8)) (blkOk_by (N := nTexts) (sc := defScope lTexts) (by decide +kernel)) (fun _ _ _ _ _ => pg_name (i := 9) nd rfl (.inl rfl))
          (fun _ _ _ _ _ => pts_one (pt_cmpR op_ne (pe_callB (call_repL hG hr.units) (by rfl) T.repr (by decide +kernel) (pa_cons (pe_call G4 hr (by rfl) c4.m c4.k c4.b .nil pass0 (pa_cons (pv 9) (pa_cons pe_bl pa_nil))) pa_nil)) (pe_callB (call_repL hG hr.units) (by rfl) T.repr (by decide +kernel) (pa_cons (pe_call G3 r2 (by rfl) c3.m c3.k c3.b .nil pass0 (pa_cons (pv 9) pa_nil)) pa_nil)) (nomark _)))
          (fun _ _ _ _ _ => pv 9)) (pe_lst pa_nil) (nomark _))))))), ?_⟩
    have back := read_back hp
    have pl := page_len hp few
    have hxH := hx.same D.s
    obtain ⟨dx, hx1, hx2⟩ := id hxH
    refine ⟨_, rfl, _, rfl, n, v, ps, rfl, hx2, hp, fun H1 S1 => ?_⟩
    generalize hpg : polText n ps = page at back pl ⊢
    have fewP : ∀ s, PyData.str page = .str s → s.length ≤ 500 := fun s e => by
      cases e
      omega
    have g1 := (Go.refl D).mono S1
    have polx := hxH.same S1
    have hx1' := S1 _ _ hx1
    have no : ∀ {α : Prop} (kk : Int), textM (.str page) = .inl kk → α := fun kk e => by
      rw [back] at e
      cases e
    have tru : (decide (n = n) && decide (ps = ps)) = true := by rw [decide_eq_true rfl, decide_eq_true rfl]; rfl
    refine ⟨_, rfl, x, dx, _, rfl, hx1', x, n, v, ps, rfl, polx, hp, fun H4 S4 => ⟨_, rfl, ?_⟩⟩
    rw [hpg]
    refine ⟨_, rfl, rfl, _, rfl, iteNo ne_self' ?_⟩
    refine ⟨rfl, _, rfl, .str page, .str page, rfl, .str _, fewP, fun kk hk => no kk hk, fun n' ps' ht H5 y pv S5 hy hP => ?_⟩
    rw [back] at ht
    cases ht
    obtain ⟨dy, hy1, hy2⟩ := id hy
    refine ⟨y, dy, _, rfl, hy1, y, n, pv, ps, rfl, hy, hP, fun H6 S6 => ⟨_, rfl, ?_⟩⟩
    rw [hpg]
    refine ⟨_, rfl, rfl, _, rfl, iteNo ne_self' ?_⟩
    refine ⟨rfl, _, rfl, [.str page], rfl, rfl, .str page, .str page, rfl, .str _, fewP, fun kk hk => no kk hk, fun n' ps' ht H7 z zv S7 hz hP2 => ?_⟩
    rw [back] at ht
    cases ht
    obtain ⟨dz, hz1, hz2⟩ := id hz
    have S17 := S4.trans (S5.trans (S6.trans S7))
    have polx7 := polx.same S17
    obtain ⟨dx7, hx7, _⟩ := id polx7
    refine ⟨_, rfl, z, dz, _, rfl, hz1, other_ins TQ.i hx7, z, .ref x, n, zv, ps, rfl, hz, .inr ⟨x, n, v, ps, rfl, polx7, _, rfl, ?_⟩⟩
    refine ⟨_, rfl, iteNo (by rw [tru]; rfl) ?_⟩
    refine ⟨3, rfl, by decide, by decide, for_range (fun i σ H' => ∃ B t' o5 o6 o7, Go p l Hs H t B H' t' (6 * (i : Int)) ∧ σ = [some (.ref p), some (.ref x), some (.int n), some v, some (.str page), o5, o6, o7, none, none]) ⟨Hs, t, _, _, _, (g1.mono S17).more (by omega), rfl⟩ ?_ ?_⟩
    · rintro i σ H8 hi ⟨B, t', o5, o6, o7, g, rfl⟩
      have gt := g.t1
      have gt0 := g.t0
      have hi3 : i < 3 := by omega
      refine ⟨_, rfl, _, rfl, B, p, l, t', page, rfl, g.d, by omega, by omega, pl, fun B1 A1 t1' y' g2 ly => ?_⟩
      have fy : ∀ s, PyData.str y' = .str s → s.length ≤ 500 := fun s e => by
        cases e
        exact ly
      have gd := told_gd fy
      refine ⟨_, rfl, .str y', .str y', rfl, .str _, fy, fun A2 m S2 qm => ?_⟩
      refine ⟨_, rfl, .str y', false, .str y', rfl, .str _, fy, fun A3 v3 S3 q3 => ⟨_, rfl, .str y', true, .str y', rfl, .str _, fy, fun A4 v4 S4' q4 => ⟨(by show 2 ≤ sizeLine; decide), fun l5 nl5 => ?_⟩⟩⟩
      have S5' := same_new (o := .lst [v3, v4]) nl5
      refine ⟨l5, v3, [v4], _, _, rfl, upd_same, .cons (Dq.same (S4'.trans S5') _ _ q3) (.cons (Dq.same S5' _ _ q4) .nil), two_seen gd gd, ?_⟩
      refine ⟨_, rfl, _, rfl, (by show 2 ≤ sizeLine; decide), fun l6 nl6 => ?_⟩
      have S6' := same_new (o := .lst [m, m]) nl6
      have S26 := S3.trans (S4'.trans (S5'.trans S6'))
      have qm := Dq.same S26 _ _ qm
      refine ⟨l6, m, [m], _, _, rfl, upd_same, .cons qm (.cons qm .nil), two_seen gd gd, rfl, _, rfl, iteNo ne_self' ?_⟩
      exact ⟨B1, t1', _, _, _, ((g.trans g2).mono (S2.trans S26)).more (by omega), rfl⟩
    · rintro σ H8 ⟨B, t', o5, o6, o7, g, rfl⟩
      refine asg_litsG (ds := none13) g.d litsN (by decide) fun B3 A3 q3 vs g3 dvs hq qp ql lv => ?_
      refine ⟨_, rfl, q3, rfl, ⟨_, SqL.of hq⟩, fun Da na => ?_⟩
      refine lc_list (K := K) (a := q3) (xs := vs) (fun i H' => MadeTo A3 Da [] H') ⟨same_new na, upd_same⟩ (fun i H' _ M => SqL.of (M.1 _ _ hq)) ?_ ?_
      · rintro i y' H9 hy' M
        obtain ⟨d, hd, hqd⟩ := DqAll.at dvs hy'
        have q9 := Dq.same (g3.d.s.trans M.1) _ _ hqd
        have fy := none13_few d (List.mem_of_getElem? hd)
        have gd := told_gd fy
        refine ⟨rfl, _, rfl, y', false, d, rfl, q9, fy, fun A5 v5 S5 q5 => ?_⟩
        obtain ⟨a5, w5, ws5, d5, ds5, rfl, h5, hq5, e5⟩ := told_lst q5
        refine ⟨a5, w5, ws5, d5, ds5, rfl, h5, hq5, by rw [← e5]; exact one_seen gd, ?_⟩
        refine ⟨_, rfl, y', d, rfl, Dq.same S5 _ _ q9, fy, fun A6 v6 S6 q6 => ?_⟩
        obtain ⟨a6, w6, ws6, d6, ds6, rfl, h6, hq6, e6⟩ := told_lst q6
        refine ⟨a6, w6, ws6, d6, ds6, rfl, h6, hq6, by rw [← e6]; exact one_seen gd, rfl, _, rfl, iteNo ?_ ?_⟩
        · rw [← e5, ← e6]
          exact ne_self'
        · have S := S5.trans S6
          exact ⟨M.1.trans S, S _ _ M.2⟩
      · rintro H9 ⟨S9, h9⟩
        refine ⟨(by show 0 ≤ sizeLine; decide), fun pa npa => ?_⟩
        have Sa := same_new (o := .lst []) npa
        refine ⟨Da, pa, [], rfl, rfl, Sa _ _ h9, upd_same, ?_⟩
        exact k _ _ _ (((g.trans g3).mono (S9.trans Sa)).more (by omega))
end
end KL
set_option Elab.async false
set_option linter.all false
set_option maxRecDepth 100000
set_option maxHeartbeats 8000000
namespace KL
open PySem L2 PySem.KX PySem.Spec PyProof.Rows
/-! ### who hears, by the law -/
theorem eqv_pr (p q : Int × Int) : PyData.eqv (prD p) (prD q) = (decide (p.1 = q.1) && decide (p.2 = q.2)) := by
  show PyData.eqv (.tuple [.int p.1, .int p.2]) (.tuple [.int q.1, .int q.2]) = _
  rw [← eqv_ints, ← eqv_ints]
  simp [PyData.eqv, PyData.eqvAll]
theorem any_pr {ps : List (Int × Int)} {p : Int × Int} : ((ps.map prD).any fun z => PyData.eqv z (prD p)) = true ↔ p ∈ ps := by
  rw [List.any_map, List.any_eq_true]
  refine ⟨fun ⟨x, hx, e⟩ => ?_, fun h => ⟨p, h, ?_⟩⟩
  · have e : PyData.eqv (prD x) (prD p) = true := e
    rw [eqv_pr, Bool.and_eq_true, decide_eq_true_eq, decide_eq_true_eq] at e
    have : x = p := Prod.ext e.1 e.2
    rw [← this]
    exact hx
  · show PyData.eqv (prD p) (prD p) = true
    rw [eqv_pr, decide_eq_true rfl, decide_eq_true rfl]
    rfl
def hearT (ps : List (Int × Int)) (per q : Int) : Bool := decide (q = per) || (ps.map prD).any fun z => PyData.eqv z (prD (per, q))
def hearW (ps : List (Int × Int)) (per : Int) (k : Nat) : List Int := ((List.range k).map fun i => ((i : Nat) : Int)).filter (hearT ps per)
theorem hearW_more (ps : List (Int × Int)) (per : Int) (k : Nat) : hearW ps per (k + 1) = hearW ps per k ++ if hearT ps per (k : Nat) = true then [((k : Nat) : Int)] else [] := by
  unfold hearW
  rw [List.range_succ, List.map_append, List.filter_append]
  congr 1
  show List.filter _ [((k : Nat) : Int)] = _
  by_cases h : hearT ps per ((k : Nat) : Int) = true
  · rw [if_pos h, List.filter_cons_of_pos h]
    rfl
  · rw [if_neg h, List.filter_cons_of_neg h]
    rfl
theorem hearW_len (ps : List (Int × Int)) (per : Int) (k : Nat) : (hearW ps per k).length ≤ k := by
  unfold hearW
  refine Nat.le_trans (List.length_filter_le _ _) ?_
  rw [List.length_map, List.length_range]
  exact Nat.le_refl _
theorem hearW_mem {ps : List (Int × Int)} {per : Int} {k : Nat} {x : Int} : x ∈ hearW ps per k ↔ 0 ≤ x ∧ x < (k : Int) ∧ hearT ps per x = true := by
  unfold hearW
  rw [List.mem_filter, List.mem_map]
  refine ⟨fun ⟨⟨i, hi, e⟩, h⟩ => ?_, fun ⟨h0, h1, h⟩ => ⟨⟨x.toNat, ?_, ?_⟩, h⟩⟩
  · have := List.mem_range.mp hi
    subst e
    exact ⟨by omega, by omega, h⟩
  · exact List.mem_range.mpr (by omega)
  · omega
theorem hearW_lt (ps : List (Int × Int)) (per : Int) (k : Nat) : (hearW ps per k).Pairwise (fun x y => x < y) := by
  unfold hearW
  refine List.Pairwise.filter _ (List.pairwise_map.mpr (List.pairwise_lt_range.imp fun h => ?_))
  omega
theorem hear_same {n : Int} {ps : List (Int × Int)} (hp : Pairs n ps) {per : Int} (h0 : 0 ≤ per) (h1 : per < n) {ns : List Int} (pm : ns.Perm (per :: hearersOf ps per)) (pw : ns.Pairwise (fun x y => x ≤ y)) : ns = hearW ps per n.toNat := by
  have nd : ps.Nodup := (prR.up_pair ((prR.up_eq ps).symm.trans hp.asc)).imp fun h => prR.lt_ne h
  have nh : (hearersOf ps per).Nodup := by
    unfold hearersOf
    refine List.pairwise_map.mpr ((nd.filter _).imp_of_mem fun {a b} ha hb ne e => ne ?_)
    have a1 := of_decide_eq_true (List.mem_filter.mp ha).2
    have b1 := of_decide_eq_true (List.mem_filter.mp hb).2
    exact Prod.ext (a1.trans b1.symm) e
  have out : per ∉ hearersOf ps per := fun h => by
    unfold hearersOf at h
    obtain ⟨p, hp', e⟩ := List.mem_map.mp h
    obtain ⟨m, d⟩ := List.mem_filter.mp hp'
    exact (hp.all p m).2.2.2.2 ((of_decide_eq_true d).trans e.symm)
  have nc : (per :: hearersOf ps per).Nodup := List.nodup_cons.mpr ⟨out, nh⟩
  have nn : ns.Nodup := pm.nodup_iff.mpr nc
  have nw : (hearW ps per n.toNat).Nodup := (hearW_lt _ _ _).imp fun h => by omega
  refine List.Perm.eq_of_pairwise (le := fun a b => a ≤ b) (fun a b _ _ h h' => Int.le_antisymm h h') pw ((hearW_lt _ _ _).imp fun h => by omega) ((List.perm_ext_iff_of_nodup nn nw).mpr fun x => ?_)
  rw [pm.mem_iff, hearW_mem, List.mem_cons]
  unfold hearT
  rw [Bool.or_eq_true, decide_eq_true_eq, any_pr]
  have hm : x ∈ hearersOf ps per ↔ (per, x) ∈ ps := by
    unfold hearersOf
    rw [List.mem_map]
    refine ⟨fun ⟨p, hp', e⟩ => ?_, fun h => ⟨(per, x), List.mem_filter.mpr ⟨h, decide_eq_true rfl⟩, rfl⟩⟩
    obtain ⟨m, d⟩ := List.mem_filter.mp hp'
    have : p = (per, x) := Prod.ext (of_decide_eq_true d) e
    rw [← this]
    exact m
  rw [hm]
  refine ⟨fun h => ?_, fun h => h.2.2⟩
  rcases h with rfl | h
  · exact ⟨h0, by omega, .inl rfl⟩
  · have := hp.all _ h
    exact ⟨this.2.2.1, by have := this.2.2.2.1; show x < _; omega, .inr h⟩
theorem dq_intsN {H : Hp} : ∀ ns : List Int, DqAll H (ns.map V.int) (ns.map PyData.int)
  | [] => .nil
  | i :: r => .cons (.int i) (dq_intsN r)
theorem gd_hear {ps : List (Int × Int)} {per : Int} {k : Nat} (hk : k ≤ 3) : Gd 900 8 60000 (.tuple ((hearW ps per k).map .int)) := by
  have len := hearW_len ps per k
  have m : Many 3 4 1 20 ((hearW ps per k).map PyData.int) := ⟨by rw [List.length_map]; omega, fun d hd => by
    obtain ⟨i, hi, rfl⟩ := List.mem_map.mp hd
    obtain ⟨i0, i1, _⟩ := hearW_mem.mp hi
    have : i.natAbs.log2 ≤ i.natAbs := Nat.log2_le_self _
    exact ⟨by show i.natAbs.log2 ≤ 4; omega, Nat.zero_le _, by show i.natAbs.log2 + 2 ≤ 20; omega, rfl⟩⟩
  exact m.tup.mono (by decide) (by decide) (by decide)
/-! ### in, of a tuple of data -/
def rInDT (K : PySem.W.Frag) : R2 := fun x y H Q => ∃ d ds, Dp K H x d ∧ Dp K H y (.tuple ds) ∧ SeqAt.shaped d = true ∧ SeqAt.shaped (.tuple ds) = true ∧ Q (.bl (ds.any fun z => PyData.eqv z d)) H
theorem op_inDT {X : Cx} (hu : X.A.units + 65 < cLine) : OpR X (compareOp .In) (rInDT X.K) := by
  intro pins s σ H x y v u Q I rx ry h
  obtain ⟨d, ds, hd, he, sd, se, q⟩ := h
  obtain ⟨as, r1⟩ := Dp.reads I d x v hd rx
  obtain ⟨bs, r2⟩ := Dp.reads I (.tuple ds) y u he ry
  exact SeqAt.in_tuple_reads r2 r1 (SeqAt.canLay_of_shaped se) (SeqAt.canLay_of_shaped sd) (room_in_shaped sd hu) ⟨.bl _, H, I, rfl, q⟩
theorem pol_hear (v0 v1 : V) : (polF v0 v1).lookup ("hearers" : Str) = none := by rfl
/-! ### a keyword behind self -/
def gApp : List Value → List Value → List Value
  | [a], [b] => [a, b]
  | _, _ => []
def gAppV : List V → List V → List V
  | [a], [b] => [a, b]
  | _, _ => []
theorem gApp_rel {vs : List V} {us : List Value} {zs : List V} {ws : List Value} (r : Vals vs us) (rz : Vals zs ws) : Vals (gAppV vs zs) (gApp us ws) := by
  cases r with
  | nil => exact .nil
  | cons p q =>
    cases q with
    | cons _ _ =>
      cases rz <;> exact .nil
    | nil =>
      cases rz with
      | nil => exact .nil
      | cons p2 q2 =>
        cases q2 with
        | nil => exact .cons p (.cons p2 .nil)
        | cons _ _ => exact .nil
theorem kb_person {K : PySem.W.Frag} {fd : FuncData} (h : ∀ a b : Value, bindArgs fd ⟨[a], [(("person" : Str), b)]⟩ = pure [(("self" : Str), a), (("person" : Str), b)]) : KBinds K fd ["self", "person"] ["person"] gApp gAppV :=
  ⟨fun s us ws _ hl => match us, ws, hl with
    | [a], [b], _ => .of_eq (h a b), gApp_rel⟩
/-- what stands may be kept -/
theorem keep_same {H0 H : Hp} {p l x : Addr} {t : Int} {o : HO} (D : DeckAt H0 H p l t) (h : H x = some o) : Same H0 (upd H0 x o) := fun b u e => by
  by_cases z : b = x
  · subst z
    rw [upd_same, ← h]
    exact D.s _ _ e
  · rw [upd_ne z]
    exact e
end KL
set_option Elab.async false
set_option linter.all false
set_option maxRecDepth 100000
set_option maxHeartbeats 8000000
namespace KL
open PySem L2 PySem.KX PySem.Spec PyProof.Rows
abbrev lLaw : Stmt := top 41
def spLaw (K : PySem.W.Frag) : Sp := fun vs H Q _ => ∃ (a : Addr) (ns : List Int), vs = [.ref a] ∧ SqL K H a (ns.map V.int) ∧ ns.length ≤ 63 ∧ ∀ H', Q (.bl true) H'
abbrev nLaw : List Str := ["_law_script", "_law_deck_here", "_law_go", "_law_many", "_law_lot", "_law_bent_here", "_law_turn", "_law_at", "_law_code", "_law_p", "_law_due_here", "_law_q", "_law_some"]
structure LawFns (P : Program) (w : World) (K : PySem.W.Frag) (mg : Str → Option Value) (base : Heap) (C gDeck gDraw gRule gDue gMade gBent gHeard gTwo gTexts fH : Addr) (dDeck dDraw dRule dDue dMade dBent dHeard dTwo dTexts dH : FuncData) : Prop where
  deck : FnOk P w K mg base CX0 1 gDeck dDeck ["_law_script"] (spDeck K)
  cDeck : Cal K mg "_law_deck" gDeck dDeck ["_law_script"]
  draw : FnOk P w K mg base CX0 1 gDraw dDraw ["_law_deck_here", "_law_below"] spDraw
  cDraw : Cal K mg "_law_draw" gDraw dDraw ["_law_deck_here", "_law_below"]
  rule : FnOk P w K mg base CX0 2 gRule dRule ["_law_deck_here", "_law_many"] spRule
  cRule : Cal K mg "_law_rule" gRule dRule ["_law_deck_here", "_law_many"]
  due : FnOk P w K mg base CX0 2 gDue dDue ["_law_lot"] spDueL
  cDue : Cal K mg "_law_due" gDue dDue ["_law_lot"]
  made : FnG P w K mg base CX0 8 gMade dMade ["_law_lot", "_law_is_named"] spMade
  cMade : Cal K mg "_law_made_right" gMade dMade ["_law_lot", "_law_is_named"]
  bent : FnOk P w K mg base CX0 8 gBent dBent ["_law_deck_here", "_law_it"] (spBent 5)
  cBent : Cal K mg "_law_bent" gBent dBent ["_law_deck_here", "_law_it"]
  heard : FnOk P w K mg base CX0 7 gHeard dHeard ["_law_lot", "_law_is_named"] (spHeard C)
  cHeard : Cal K mg "_law_heard" gHeard dHeard ["_law_lot", "_law_is_named"]
  two : FnG P w K mg base CX0 9 gTwo dTwo ["_law_deck_here", "_law_code", "_law_many", "_law_pairs_now"] (spTwo C)
  cTwo : Cal K mg "_law_two_right" gTwo dTwo ["_law_deck_here", "_law_code", "_law_many", "_law_pairs_now"]
  texts : FnG P w K mg base CX0 9 gTexts dTexts ["_law_deck_here", "_law_code", "_law_many", "_law_pairs_now"] (spTexts C)
  cTexts : Cal K mg "_law_texts_right" gTexts dTexts ["_law_deck_here", "_law_code", "_law_many", "_law_pairs_now"]
  hear : FnOk P w K mg base CX0 1 fH dH ["self", "person"] (spPHear C)
  mHear : Meth K C "hearers" fH
  bHear : L2.Binds K dH ["self", "person"] []
  kHear : KBinds K dH ["self", "person"] ["person"] gApp gAppV
/-- the law's state: its deck, behind at most so many draws -/
def LwP (p l : Addr) (b : Int) (f : L2.St) (X : Hp → Prop) (σ : L2.St) (H : Hp) : Prop := ∃ H0 t, σ = f ∧ DeckAt H0 H p l t ∧ 0 ≤ t ∧ t ≤ b ∧ X H0
/-- a lot at an address -/
def LotAt (H : Hp) (q : Addr) (d0 d1 : PyData) : Prop := ∃ v0 v1, H q = some (.tup [v0, v1]) ∧ Dq H v0 d0 ∧ Dq H v1 d1
theorem LotAt.same {H H' : Hp} {q : Addr} {d0 d1 : PyData} (S : Same H H') (h : LotAt H q d0 d1) : LotAt H' q d0 d1 := by
  obtain ⟨v0, v1, h1, h2, h3⟩ := h
  exact ⟨v0, v1, S _ _ h1, Dq.same S _ _ h2, Dq.same S _ _ h3⟩
theorem no_made {σ : L2.St} {H0 : Hp} {i : Nat} {q : Addr} {d0 d1 : PyData} {te : TE} {E : XK} (e : σ[i]? = some (some (.ref q))) (h : LotAt H0 q d0 d1) (F : Lot d0 d1) (ht : ∀ H (Q : VK), (∀ nm, Q (.bl nm) H) → te σ H Q) : NoAt σ H0 (tNot (tB (tCall spMade [] E (tCons (tVar i) (tCons te tNil))))) := fun H Q S k =>
  ⟨.ref q, e, ht H _ fun nm => show spMade [.ref q, .bl nm] H (fun x H1 => ∃ c, x = V.bl c ∧ Q (!c) H1) E from by
    obtain ⟨v0, v1, h1, h2, h3⟩ := LotAt.same S h
    exact ⟨q, nm, v0, v1, d0, d1, rfl, h1, h2, h3, F, fun H' S' => ⟨true, rfl, k H' S'⟩⟩⟩
theorem lot_pol {n : Int} {ps : List (Int × Int)} (h : Pairs n ps) (few : ps.length ≤ 9) : Lot (.int n) (prsD ps) := by
  have n1 := h.n1
  have n3 := h.n3
  have : n.natAbs.log2 ≤ n.natAbs := Nat.log2_le_self _
  refine ⟨⟨by show n.natAbs.log2 ≤ 900; omega, Nat.zero_le _, by show n.natAbs.log2 + 2 ≤ 60000; omega, rfl⟩, (gd_prs h (by omega)).mono (by decide) (by decide) (by decide), ?_⟩
  show (ps.map prD).length < 30
  rw [List.length_map]
  omega
/-- a lot behind j bends -/
structure BentLot (j : Nat) (d0 d1 : PyData) : Prop where
  w0 : Gd (if j = 0 then 40 else if j = 1 then 300 else 900) (2 + 2 * j) (if j = 0 then 1000 else if j = 1 then 3000 else 60000) d0
  w1 : Gd (if j = 0 then 40 else if j = 1 then 300 else 900) (2 + 2 * j) (if j = 0 then 1000 else if j = 1 then 3000 else 60000) d1
  f0 : (itemsD d0).length ≤ 2 + j
  f1 : (itemsD d1).length ≤ 9 + j
theorem BentLot.lot {j : Nat} {d0 d1 : PyData} (h : BentLot j d0 d1) (hj : j ≤ 2) : Lot d0 d1 := by
  have f1 := h.f1
  refine ⟨h.w0.mono ?_ (by omega) ?_, h.w1.mono ?_ (by omega) ?_, by omega⟩ <;> split <;> try split <;> omega
  all_goals omega
theorem BentLot.zero {n : Int} {ps : List (Int × Int)} (h : Pairs n ps) (few : ps.length ≤ 9) : BentLot 0 (.int n) (prsD ps) := by
  have n1 := h.n1
  have n3 := h.n3
  have : n.natAbs.log2 ≤ n.natAbs := Nat.log2_le_self _
  refine ⟨⟨by show n.natAbs.log2 ≤ 40; omega, Nat.zero_le _, by show n.natAbs.log2 + 2 ≤ 1000; omega, rfl⟩, gd_prs h (by omega), Nat.zero_le _, ?_⟩
  show (ps.map prD).length ≤ 9
  rw [List.length_map]
  exact few
theorem BentLot.step {j : Nat} {d : PyData} (hj : j < 2) (h : Gd (if j = 0 then 40 else if j = 1 then 300 else 900) (2 + 2 * j) (if j = 0 then 1000 else if j = 1 then 3000 else 60000) d) : Gd (if j + 1 = 0 then 40 else if j + 1 = 1 then 300 else 900) (2 + 2 * (j + 1)) (if j + 1 = 0 then 1000 else if j + 1 = 1 then 3000 else 60000) d := by
  rcases (show j = 0 ∨ j = 1 by omega) with rfl | rfl
  · exact h.mono (by decide) (by decide) (by decide)
  · exact h.mono (by decide) (by decide) (by decide)
theorem BentLot.og {j : Nat} {d : PyData} (hj : j < 2) (h : Og (if j = 0 then 40 else if j = 1 then 300 else 900) (2 + 2 * j) (if j = 0 then 1000 else if j = 1 then 3000 else 60000) d) : Gd (if j + 1 = 0 then 40 else if j + 1 = 1 then 300 else 900) (2 + 2 * (j + 1)) (if j + 1 = 0 then 1000 else if j + 1 = 1 then 3000 else 60000) d := by
  rcases (show j = 0 ∨ j = 1 by omega) with rfl | rfl
  · exact Gd.mono h (by decide) (by decide) (by decide)
  · exact Gd.mono h (by decide) (by decide) (by decide)
end KL
set_option Elab.async false
set_option linter.all false
set_option maxRecDepth 100000
set_option maxHeartbeats 16000000
namespace KL
open PySem L2 PySem.KX PySem.Spec PyProof.Rows
def lots7 : List PyData := [.tuple [.int 0, .tuple []], .tuple [.int 4, .tuple []], .tuple [.bool true, .tuple []], .tuple [.str "2", .tuple []], .tuple [.int 2, .tuple [.tuple [.int 0, .int 0]]], .tuple [.int 2, .tuple [.tuple [.int 1, .int 0], .tuple [.int 0, .int 1]]], .tuple [.int 3, .tuple [.tuple [.int 0, .int 1], .tuple [.int 0, .int 1]]]]
def lots5 : List PyData := [.tuple [.int 2, .list [.tuple [.int 0, .int 1]]], .tuple [.int 2, .tuple [.tuple [.int 0, .bool true]]], .tuple [.int 2, .tuple [.list [.int 0, .int 1]]], .tuple [.int 2, .tuple [.tuple [.str "0", .str "1"]]], .tuple [.int 2, .tuple [.tuple [.list [], .list []]]]]
def lot1 : PyData := .tuple [.int 1, .tuple [.tuple [.int 0, .int 1]]]
def lotB : PyData → Bool
  | .tuple [d0, d1] => decide (wd d0 ≤ 900) && decide (d0.depth ≤ 8) && decide (wt d0 ≤ 60000) && txD d0 && (decide (wd d1 ≤ 900) && decide (d1.depth ≤ 8) && decide (wt d1 ≤ 60000) && txD d1) && decide ((itemsD d1).length < 30)
  | _ => false
theorem lots_ok : (lots7 ++ lots5 ++ [lot1]).all lotB = true := by decide +kernel
theorem lot_of {d : PyData} (h : lotB d = true) : ∃ d0 d1, d = .tuple [d0, d1] ∧ Lot d0 d1 := by
  unfold lotB at h
  split at h
  · simp only [Bool.and_eq_true, decide_eq_true_eq] at h
    obtain ⟨⟨⟨⟨⟨a1, a2⟩, a3⟩, a4⟩, ⟨⟨b1, b2⟩, b3⟩, b4⟩, c⟩ := h
    exact ⟨_, _, rfl, ⟨a1, a2, a3, a4⟩, ⟨b1, b2, b3, b4⟩, c⟩
  · cases h
section
variable {p l : Addr} {B : Hp} {σ : L2.St}
theorem litgPr {a b : Int} : LitG p l B σ (tTup (tCons (tC (.int a)) (tCons (tC (.int b)) tNil))) (.tuple [.int a, .int b]) := litg_tup (litsg_cons litg_int (litsg_cons litg_int litsg_nil)) (by simp)
theorem litgP2 {ta tb : TE} {d e : PyData} (h : LitG p l B σ ta d) (h' : LitG p l B σ tb e) : LitG p l B σ (tTup (tCons ta (tCons tb tNil))) (.tuple [d, e]) := litg_tup (litsg_cons h (litsg_cons h' litsg_nil)) (by simp)
theorem litgT0 : LitG p l B σ (tTup tNil) (.tuple []) := litg_tup litsg_nil (by simp)
theorem litgT1 {ta : TE} {d : PyData} (h : LitG p l B σ ta d) : LitG p l B σ (tTup (tCons ta tNil)) (.tuple [d]) := litg_tup (litsg_cons h litsg_nil) (by simp)
theorem litgL0 : LitG p l B σ (tLst tNil) (.list []) := litg_lst litsg_nil (by simp)
theorem litgL1 {ta : TE} {d : PyData} (h : LitG p l B σ ta d) : LitG p l B σ (tLst (tCons ta tNil)) (.list [d]) := litg_lst (litsg_cons h litsg_nil) (by simp)
theorem litgL2 {ta tb : TE} {d e : PyData} (h : LitG p l B σ ta d) (h' : LitG p l B σ tb e) : LitG p l B σ (tLst (tCons ta (tCons tb tNil))) (.list [d, e]) := litg_lst (litsg_cons h (litsg_cons h' litsg_nil)) (by simp)
abbrev tI (i : Int) : TE := tC (.int i)
abbrev tP2 (a b : TE) : TE := tTup (tCons a (tCons b tNil))
abbrev tT1 (a : TE) : TE := tTup (tCons a tNil)
theorem lits_7 : LitsG p l B σ (tCons (tP2 (tI 0) (tTup tNil)) (tCons (tP2 (tI 4) (tTup tNil)) (tCons (tP2 (tC (.bl true)) (tTup tNil)) (tCons (tP2 (tC (.str "2")) (tTup tNil)) (tCons (tP2 (tI 2) (tT1 (tP2 (tI 0) (tI 0)))) (tCons (tP2 (tI 2) (tP2 (tP2 (tI 1) (tI 0)) (tP2 (tI 0) (tI 1)))) (tCons (tP2 (tI 3) (tP2 (tP2 (tI 0) (tI 1)) (tP2 (tI 0) (tI 1)))) tNil))))))) lots7 :=
  litsg_cons (litgP2 litg_int litgT0) (litsg_cons (litgP2 litg_int litgT0) (litsg_cons (litgP2 litg_bl litgT0) (litsg_cons (litgP2 litg_str litgT0) (litsg_cons (litgP2 litg_int (litgT1 litgPr)) (litsg_cons (litgP2 litg_int (litgP2 litgPr litgPr)) (litsg_cons (litgP2 litg_int (litgP2 litgPr litgPr)) litsg_nil))))))
theorem lits_5 : LitsG p l B σ (tCons (tP2 (tI 2) (tLst (tCons (tP2 (tI 0) (tI 1)) tNil))) (tCons (tP2 (tI 2) (tT1 (tP2 (tI 0) (tC (.bl true))))) (tCons (tP2 (tI 2) (tT1 (tLst (tCons (tI 0) (tCons (tI 1) tNil))))) (tCons (tP2 (tI 2) (tT1 (tP2 (tC (.str "0")) (tC (.str "1"))))) (tCons (tP2 (tI 2) (tT1 (tP2 (tLst tNil) (tLst tNil)))) tNil))))) lots5 :=
  litsg_cons (litgP2 litg_int (litgL1 litgPr)) (litsg_cons (litgP2 litg_int (litgT1 (litgP2 litg_int litg_bl))) (litsg_cons (litgP2 litg_int (litgT1 (litgL2 litg_int litg_int))) (litsg_cons (litgP2 litg_int (litgT1 (litgP2 litg_str litg_str))) (litsg_cons (litgP2 litg_int (litgT1 (litgP2 litgL0 litgL0))) litsg_nil))))
theorem litg_1 : LitG p l B σ (tP2 (tI 1) (tT1 (tP2 (tI 0) (tI 1)))) lot1 := litgP2 litg_int (litgT1 litgPr)
end
end KL
set_option Elab.async false
set_option linter.all false
set_option maxRecDepth 100000
set_option maxHeartbeats 16000000
namespace KL
open PySem L2 PySem.KX PySem.Spec PyProof.Rows
section
variable {P : Program} {w : World} {K : PySem.W.Frag} {mg : Str → Option Value} {base : Heap}
variable {C gDeck gDraw gRule gDue gMade gBent gHeard gTwo gTexts fH : Addr} {dDeck dDraw dRule dDue dMade dBent dHeard dTwo dTexts dH : FuncData}
theorem scLaw : FnScope nLaw ["_law_script"] (defScope lLaw) := ⟨rfl, rfl, rfl, by decide +kernel, rfl, by decide +kernel, by decide +kernel⟩
theorem ok_law {f : Addr} {fd : FuncData} (F : Fun K "law" "law" lLaw f fd) (T : TxtG mg) (TP : TxtP K C) (L : LawFns P w K mg base C gDeck gDraw gRule gDue gMade gBent gHeard gTwo gTexts fH dDeck dDraw dRule dDue dMade dBent dHeard dTwo dTexts dH) :
    FnG P w K mg base CX0 10 f fd ["_law_script"] (spLaw K) := by
  refine fnG0 F scLaw (fun vs H Q E h => ?_) (fun cdv A outer s H vs Q E hG hr h => ?_)
  · obtain ⟨a, ns, rfl, _⟩ := h
    rfl
  · obtain ⟨a, ns, rfl, hS, hlen, fin⟩ := h
    have nd := scLaw.nd
    let X0 : Cx := (cxOf CX0 P w K mg base nLaw "law" (defScope lLaw) f cdv A outer s H E).nox
    have r1 : Room 1 X0.A := hr.mono (by decide)
    have r2 : Room 2 X0.A := hr.mono (by decide)
    have r7 : Room 7 X0.A := hr.mono (by decide)
    have r8 : Room 8 X0.A := hr.mono (by decide)
    have hu65 : X0.A.units + 65 < cLine := Nat.lt_of_le_of_lt (Nat.le_trans (Nat.add_le_add_left (by decide : 65 ≤ 16 * 9 + 200) _) (Nat.le_of_eq (Nat.add_assoc _ _ _).symm)) hr.un
    refine ⟨_, C8.pss_cut (ps_set (i := 1) nd rfl (.inl rfl) (pe_call L.deck r1 (by rfl) L.cDeck.m L.cDeck.k L.cDeck.b .nil pass0 (pa_cons (pv 0) pa_nil)))
      (C8.pss_cut (ps_for PassesOwn.never rfl (pi_range1 (by rfl) T.range (pa_cons pe_int pa_nil)) (pg_name (i := 2) nd rfl (.inl rfl))
        (C8.pss_cut (ps_set (i := 3) nd rfl (.inl rfl) (pe_op op_add pe_int (pe_call L.draw r1 (by rfl) L.cDraw.m L.cDraw.k L.cDraw.b .nil pass0 (pa_cons (pv 1) (pa_cons pe_int pa_nil)))))
        (C8.pss_cut (ps_asg (pe_tup (pa_cons (pv 3) (pa_cons (pe_call L.rule r2 (by rfl) L.cRule.m L.cRule.k L.cRule.b .nil pass0 (pa_cons (pv 1) (pa_cons (pv 3) pa_nil))) pa_nil))) (pg_name (i := 4) nd rfl (.inr rfl)))
        (C8.pss_cut (ps_if (PW.pt (pw_or (pt_cmpR op_ne (pe_call L.due r2 (by rfl) L.cDue.m L.cDue.k L.cDue.b .nil pass0 (pa_cons (pv 4) pa_nil)) pe_str (nomark _)) (pw_or1 (pt_not (pt_val (pe_callG L.made hG r8 (by rfl) L.cMade.m L.cMade.k L.cMade.b pass0 (pa_cons (pv 4) (pa_cons (pe_cmpR op_eq (pe_op op_mod (pv 2) pe_int) pe_int (nomark _)) pa_nil)))))))) (pss_one (ps_ret pe_bl)) pss_nil)
        (C8.pss_cut (ps_set (i := 5) nd rfl (.inl rfl) (pv 4))
        (C8.pss_cut (ps_for PassesOwn.never rfl (pi_range1 (by rfl) T.range (pa_cons (pe_op op_add pe_int (pe_call L.draw r1 (by rfl) L.cDraw.m L.cDraw.k L.cDraw.b .nil pass0 (pa_cons (pv 1) (pa_cons pe_int pa_nil)))) pa_nil)) (pg_name (i := 6) nd rfl (.inl rfl))
          (C8.pss_cut (ps_set (i := 7) nd rfl (.inl rfl) (pe_call L.draw r1 (by rfl) L.cDraw.m L.cDraw.k L.cDraw.b .nil pass0 (pa_cons (pv 1) (pa_cons pe_int pa_nil))))
          (pss_one (ps_set (i := 5) nd rfl (.inl rfl) (pe_ifExp (pt_cmpR op_gt (pv 7) pe_int (nomark _))
            (pe_tup (pa_cons (pe_ix (r := rIxT K) ix_tup (pv 5) pe_int (fun _ _ => rfl)) (pa_cons (pe_call L.bent r8 (by rfl) L.cBent.m L.cBent.k L.cBent.b .nil pass0 (pa_cons (pv 1) (pa_cons (pe_ix (r := rIxT K) ix_tup (pv 5) pe_int (fun _ _ => rfl)) pa_nil))) pa_nil)))
            (pe_tup (pa_cons (pe_call L.bent r8 (by rfl) L.cBent.m L.cBent.k L.cBent.b .nil pass0 (pa_cons (pv 1) (pa_cons (pe_ix (r := rIxT K) ix_tup (pv 5) pe_int (fun _ _ => rfl)) pa_nil))) (pa_cons (pe_ix (r := rIxT K) ix_tup (pv 5) pe_int (fun _ _ => rfl)) pa_nil))))))))
        (C8.pss_cut (ps_if (pt_not (pt_val (pe_callG L.made hG r8 (by rfl) L.cMade.m L.cMade.k L.cMade.b pass0 (pa_cons (pv 5) (pa_cons (pe_cmpR op_eq (pe_op op_mod (pv 2) pe_int) pe_int (nomark _)) pa_nil))))) (pss_one (ps_ret pe_bl)) pss_nil)
        (C8.pss_cut (ps_set (i := 8) nd rfl (.inl rfl) (pe_call L.heard r7 (by rfl) L.cHeard.m L.cHeard.k L.cHeard.b .nil pass0 (pa_cons (pv 4) (pa_cons pe_bl pa_nil))))
        (C8.pss_cut (ps_for PassesOwn.never rfl (pi_range1 (by rfl) T.range (pa_cons (pv 3) pa_nil)) (pg_name (i := 9) nd rfl (.inr rfl))
          (C8.pss_cut (ps_set (i := 10) nd rfl (.inl rfl) (pe_tupleOf (by rfl) T.b.tuple (pe_lc (own := [("_law_q", 11)]) (g := gName 11) (tt := tOr (tTest (tOp rEq (tVar 11) (tVar 9))) (tTest (tOp (rInDT K) (tTup (tCons (tVar 9) (tCons (tVar 11) tNil))) (tOp (rIxT K) (tVar 4) (tC (.int 1)))))) rfl nd (pi_range1 (by rfl) T.range (pa_cons (pv 3) pa_nil)) (blkOk_by (N := nLaw) (sc := defScope lLaw) (by decide +kernel)) (fun _ _ _ _ _ => pg_name (i := 11) nd rfl (.inl rfl))
              (fun _ _ _ _ _ => pts_one (PW.pt (pw_or (pt_cmpR op_eq (pv 11) (pv 9) (nomark _)) (pw_or1 (pt_cmpR (op_inDT hu65) (pe_tup (pa_cons (pv 9) (pa_cons (pv 11) pa_nil))) (pe_ix (r := rIxT K) ix_tup (pv 4) pe_int (fun _ _ => rfl)) rfl))))) (fun _ _ _ _ _ => pv 11))))
          (pss_one (ps_if (pt_cmpR op_ne (pe_callB (call_repL (X := X0) hG hr.units) (by rfl) T.repr (by decide +kernel) (pa_cons (pe_lst (pa_cons (pe_meth (pv 8) TP.c L.mHear L.hear r1 L.bHear .nil pass0 (pa_cons (pv 9) pa_nil)) (pa_cons (pe_methK0 (pv 8) TP.c L.mHear L.hear r1 L.kHear pass0 (pk_cons (pv 9) pk_nil)) pa_nil))) pa_nil))
            (pe_callB (call_repL (X := X0) hG hr.units) (by rfl) T.repr (by decide +kernel) (pa_cons (pe_lst (pa_cons (pv 10) (pa_cons (pv 10) pa_nil))) pa_nil)) (nomark _)) (pss_one (ps_ret pe_bl)) pss_nil))))
        (pss_one (ps_if (PW.pt (pw_or (pt_not (pt_val (pe_callG L.two hG hr (by rfl) L.cTwo.m L.cTwo.k L.cTwo.b pass0 (pa_cons (pv 1) (pa_cons (pv 8) (pa_cons (pv 3) (pa_cons (pe_ix (r := rIxT K) ix_tup (pv 4) pe_int (fun _ _ => rfl)) pa_nil)))))))
          (pw_or1 (pt_not (pt_val (pe_callG L.texts hG hr (by rfl) L.cTexts.m L.cTexts.k L.cTexts.b pass0 (pa_cons (pv 1) (pa_cons (pv 8) (pa_cons (pv 3) (pa_cons (pe_ix (r := rIxT K) ix_tup (pv 4) pe_int (fun _ _ => rfl)) pa_nil)))))))))) (pss_one (ps_ret pe_bl)) pss_nil)))))))))))
      (pss_cons (ps_set (i := 12) nd rfl (.inl rfl) (pe_lst (pa_cons (pe_tup (pa_cons pe_int (pa_cons (pe_tup pa_nil) pa_nil))) (pa_cons (pe_tup (pa_cons pe_int (pa_cons (pe_tup pa_nil) pa_nil))) (pa_cons (pe_tup (pa_cons pe_bl (pa_cons (pe_tup pa_nil) pa_nil))) (pa_cons (pe_tup (pa_cons pe_str (pa_cons (pe_tup pa_nil) pa_nil))) (pa_cons (pe_tup (pa_cons pe_int (pa_cons (pe_tup (pa_cons (pe_tup (pa_cons pe_int (pa_cons pe_int pa_nil))) pa_nil)) pa_nil))) (pa_cons (pe_tup (pa_cons pe_int (pa_cons (pe_tup (pa_cons (pe_tup (pa_cons pe_int (pa_cons pe_int pa_nil))) (pa_cons (pe_tup (pa_cons pe_int (pa_cons pe_int pa_nil))) pa_nil))) pa_nil))) (pa_cons (pe_tup (pa_cons pe_int (pa_cons (pe_tup (pa_cons (pe_tup (pa_cons pe_int (pa_cons pe_int pa_nil))) (pa_cons (pe_tup (pa_cons pe_int (pa_cons pe_int pa_nil))) pa_nil))) pa_nil))) pa_nil)))))))))
      (pss_cons (ps_set (i := 12) nd rfl (.inl rfl) (pe_op op_cat (pv 12) (pe_lst (pa_cons (pe_tup (pa_cons pe_int (pa_cons (pe_lst (pa_cons (pe_tup (pa_cons pe_int (pa_cons pe_int pa_nil))) pa_nil)) pa_nil))) (pa_cons (pe_tup (pa_cons pe_int (pa_cons (pe_tup (pa_cons (pe_tup (pa_cons pe_int (pa_cons pe_bl pa_nil))) pa_nil)) pa_nil))) (pa_cons (pe_tup (pa_cons pe_int (pa_cons (pe_tup (pa_cons (pe_lst (pa_cons pe_int (pa_cons pe_int pa_nil))) pa_nil)) pa_nil))) (pa_cons (pe_tup (pa_cons pe_int (pa_cons (pe_tup (pa_cons (pe_tup (pa_cons pe_str (pa_cons pe_str pa_nil))) pa_nil)) pa_nil))) (pa_cons (pe_tup (pa_cons pe_int (pa_cons (pe_tup (pa_cons (pe_tup (pa_cons (pe_lst pa_nil) (pa_cons (pe_lst pa_nil) pa_nil))) pa_nil)) pa_nil))) pa_nil))))))))
      (pss_cons (ps_expr (pe_bm PySem.F.plainAttrs_list PySem.F.slot_list_append PySem.F.type_list_append mt_append (pv 12) (pa_cons (pe_tup (pa_cons pe_int (pa_cons (pe_tup (pa_cons (pe_tup (pa_cons pe_int (pa_cons pe_int pa_nil))) pa_nil)) pa_nil))) pa_nil)))
      (pss_one (ps_ret (pe_cmpR (op_eqNil hr.units) (pe_lc (own := [("_law_lot", 4)]) (g := gName 4) (tt := tNot (tB (tCall spMade [] E0 (tCons (tVar 4) (tCons (tC (.bl false)) tNil))))) rfl nd (pi_list (pv 12)) (blkOk_by (N := nLaw) (sc := defScope lLaw) (by decide +kernel)) (fun _ _ _ _ _ => pg_name (i := 4) nd rfl (.inl rfl))
          (fun _ _ _ _ _ => pts_one (pt_not (pt_val (pe_callG L.made hG r8 (by rfl) L.cMade.m L.cMade.k L.cMade.b pass0 (pa_cons (pv 4) (pa_cons pe_bl pa_nil)))))) (fun _ _ _ _ _ => pv 4)) (pe_lst pa_nil) (nomark _)))))))), ?_⟩
    refine ⟨fun σ H' => ∃ p l, σ = [some (.ref a), some (.ref p), none, none, none, none, none, none, none, none, none, none, none] ∧ DeckAt H H' p l 0, ?_, ?_⟩
    · exact ⟨_, rfl, a, ns, rfl, hS, hlen, fun H' p l D => ⟨p, l, rfl, D⟩⟩
    rintro σ1 H1 ⟨p, l, rfl, D⟩
    refine ⟨fun σ H' => ∃ o2 o3 o4 o5 o6 o7 o8 o9 o10, LwP p l 800 [some (.ref a), some (.ref p), o2, o3, o4, o5, o6, o7, o8, o9, o10, none, none] (fun _ => True) σ H', ?_, ?_⟩
    · refine ⟨4, rfl, by decide, by decide, for_range (fun i σ H' => ∃ o2 o3 o4 o5 o6 o7 o8 o9 o10, LwP p l (200 * (i : Int)) [some (.ref a), some (.ref p), o2, o3, o4, o5, o6, o7, o8, o9, o10, none, none] (fun _ => True) σ H') ⟨_, _, _, _, _, _, _, _, _, H, 0, rfl, D, by omega, by simp, trivial⟩ ?_ ?_⟩
      rotate_left
      · rintro σ H' ⟨o2, o3, o4, o5, o6, o7, o8, o9, o10, H0, t, rfl, D, t0, tb, _⟩
        exact ⟨_, _, _, _, _, _, _, _, _, H0, t, rfl, D, t0, tb, trivial⟩
      clear D H1
      rintro i σ H2 hi ⟨o2, o3, o4, o5, o6, o7, o8, o9, o10, H0, t, rfl, D, t0, tb, _⟩
      have hi4 : i < 4 := hi
      -- how many people
      refine ⟨fun σ H' => ∃ m : Int, 1 ≤ m ∧ m ≤ 3 ∧ LwP p l (200 * (i : Int) + 1) [some (.ref a), some (.ref p), some (.int (0 + (i : Int))), some (.int m), o4, o5, o6, o7, o8, o9, o10, none, none] (fun _ => True) σ H', ?_, ?_⟩
      · refine ⟨_, rfl, H0, p, l, t, 3, rfl, D, t0, by omega, by omega, by omega, fun H3 r g r0 r1 => ⟨_, _, rfl, rfl, 1 + r, by omega, by omega, H0, t + 1, rfl, g.d, by omega, by omega, trivial⟩⟩
      clear D t0 tb H2 H0 t
      rintro σ3 H3 ⟨m, m1, m3, H0, t, rfl, D, t0, tb, _⟩
      -- the lot
      refine ⟨fun σ H' => ∃ q v ps, Pairs m ps ∧ ps.length ≤ 9 ∧ LwP p l (200 * (i : Int) + 11) [some (.ref a), some (.ref p), some (.int (0 + (i : Int))), some (.int m), some (.ref q), o5, o6, o7, o8, o9, o10, none, none] (fun H0 => H0 q = some (.tup [.int m, v]) ∧ Dq H0 v (prsD ps)) σ H', ?_, ?_⟩
      · refine ⟨_, rfl, _, rfl, _, rfl, H0, p, l, t, m, rfl, D, t0, by omega, m1, m3, fun B4 H4 t' v ps g hv hp few => ⟨(by show 2 ≤ sizeLine; decide), fun q nq => ?_⟩⟩
        have g2 := g.new (o := .tup [.int m, v]) nq
        have gt := g2.t1
        have gt0 := g2.t0
        exact ⟨q, v, ps, hp, few, _, t', rfl, g2.d, by omega, by omega, upd_same, Dq.same (same_new (g.d.s.free nq)) _ _ hv⟩
      clear D t0 tb H3 H0 t
      rintro σ3 H3 ⟨q, v, ps, hp, few, H0, t, rfl, D, t0, tb, hq, hv⟩
      have LT := lot_pol hp few
      have due := due_pairs hp
      have dw : dueW (.int m) (prsD ps) = "" := by
        unfold dueW
        rw [due]
        rfl
      -- it is right
      refine ⟨fun σ H' => LwP p l (200 * (i : Int) + 11) [some (.ref a), some (.ref p), some (.int (0 + (i : Int))), some (.int m), some (.ref q), o5, o6, o7, o8, o9, o10, none, none] (fun H0 => H0 q = some (.tup [.int m, v]) ∧ Dq H0 v (prsD ps)) σ H', ?_, ?_⟩
      · refine ifs_no (no_or (fun H Q S k => ⟨_, rfl, q, .int m, v, .int m, prsD ps, rfl, S _ _ (D.s _ _ hq), .int m, Dq.same (D.s.trans S) _ _ hv, LT, fun H1 S1 => ?_⟩) (no_made rfl ⟨.int m, v, D.s _ _ hq, .int m, Dq.same D.s _ _ hv⟩ LT fun H Q k => ⟨_, rfl, _, _, rfl, rfl, (by show (0 : Int) < 2; decide), rfl, k _⟩)) fun H4 S4 => ?_
        · rw [dw]
          refine ⟨rfl, _, rfl, ?_⟩
          rw [ne_self']
          exact k H1 S1
        · exact ⟨H0, t, rfl, D.mono S4, t0, tb, hq, hv⟩
      clear D t0 tb H3 H0 t hq hv
      rintro σ3 H3 ⟨H0, t, rfl, D, t0, tb, hq, hv⟩
      -- what is bent
      refine ⟨fun σ H' => ∃ o5, LwP p l (200 * (i : Int) + 11) [some (.ref a), some (.ref p), some (.int (0 + (i : Int))), some (.int m), some (.ref q), some (.ref o5), o6, o7, o8, o9, o10, none, none] (fun H0 => (H0 q = some (.tup [.int m, v]) ∧ Dq H0 v (prsD ps)) ∧ ∃ d0 d1, LotAt H0 o5 d0 d1 ∧ BentLot 0 d0 d1) σ H', ?_, ?_⟩
      · exact ⟨_, rfl, q, H0, t, rfl, D, t0, tb, ⟨hq, hv⟩, .int m, prsD ps, ⟨.int m, v, hq, .int m, hv⟩, BentLot.zero hp few⟩
      clear D t0 tb H3 H0 t hq hv
      rintro σ3 H3 ⟨b5, H0, t, rfl, D, t0, tb, ⟨hq, hv⟩, d0, d1, hb, BL⟩
      refine ⟨fun σ H' => ∃ o5 o6 o7, LwP p l (200 * (i : Int) + 60) [some (.ref a), some (.ref p), some (.int (0 + (i : Int))), some (.int m), some (.ref q), some (.ref o5), o6, o7, o8, o9, o10, none, none] (fun H0 => (H0 q = some (.tup [.int m, v]) ∧ Dq H0 v (prsD ps)) ∧ ∃ d0 d1, LotAt H0 o5 d0 d1 ∧ Lot d0 d1) σ H', ?_, ?_⟩
      · refine ⟨_, rfl, H0, p, l, t, 2, rfl, D, t0, by omega, by omega, by omega, fun H4 r g r0 r1' => ⟨_, _, rfl, rfl, 1 + r, rfl, by omega, by omega, ?_⟩⟩
        have D4 := g.d
        clear g D H3
        have rn : (1 + r).toNat ≤ 2 := by omega
        refine for_range (fun j σ H' => ∃ o5 o6 o7, LwP p l (200 * (i : Int) + 12 + 21 * (j : Int)) [some (.ref a), some (.ref p), some (.int (0 + (i : Int))), some (.int m), some (.ref q), some (.ref o5), o6, o7, o8, o9, o10, none, none] (fun H0 => (H0 q = some (.tup [.int m, v]) ∧ Dq H0 v (prsD ps)) ∧ ∃ d0 d1, LotAt H0 o5 d0 d1 ∧ BentLot j d0 d1) σ H') ⟨_, _, _, H0, t + 1, rfl, D4, by omega, by simp; omega, ⟨hq, hv⟩, d0, d1, hb, BL⟩ ?_ ?_
        rotate_left
        · rintro σ H' ⟨o5, o6, o7, H0, t, rfl, D, t0, tb, X, d0, d1, hb, BL⟩
          exact ⟨_, _, _, H0, t, rfl, D, t0, by omega, X, d0, d1, hb, BL.lot rn⟩
        clear D4 t0 tb H4 H0 t hq hv hb BL d0 d1 b5 o6 o7
        rintro j σ H4 hj ⟨b5, o6, o7, H0, t, rfl, D, t0, tb, ⟨hq, hv⟩, d0, d1, hb, BL⟩
        have hj2 : j < 2 := by omega
        refine ⟨fun σ H' => ∃ at' : Int, LwP p l (200 * (i : Int) + 12 + 21 * (j : Int) + 1) [some (.ref a), some (.ref p), some (.int (0 + (i : Int))), some (.int m), some (.ref q), some (.ref b5), some (.int (0 + (j : Int))), some (.int at'), o8, o9, o10, none, none] (fun H0 => (H0 q = some (.tup [.int m, v]) ∧ Dq H0 v (prsD ps)) ∧ LotAt H0 b5 d0 d1) σ H', ?_, ?_⟩
        · exact ⟨_, rfl, H0, p, l, t, 3, rfl, D, t0, by omega, by omega, by omega, fun H5 x g x0 x1 => ⟨x, H0, t + 1, rfl, g.d, by omega, by omega, ⟨hq, hv⟩, hb⟩⟩
        clear D t0 tb H4 H0 t hq hv hb
        rintro σ4 H4 ⟨at', H0, t, rfl, D, t0, tb, ⟨hq, hv⟩, v0, v1, hb, hv0, hv1⟩
        have f0 := BL.f0
        have f1 := BL.f1
        have w5 : 2 + 2 * j < 5 := by omega
        have wm : (if j = 0 then 40 else if j = 1 then 300 else 900) ≤ 800 := by
          rcases (show j = 0 ∨ j = 1 by omega) with rfl | rfl <;> decide
        refine ⟨_, rfl, _, _, rfl, rfl, _, rfl, ?_⟩
        by_cases c : at' > 0
        · refine iteYes (decide_eq_true c) ?_
          refine ⟨_, rfl, b5, _, _, _, rfl, rfl, SqT.of (D.s _ _ hb), atI_nat (j := 0) rfl, _, rfl, _, rfl, b5, _, _, _, rfl, rfl, SqT.of (D.s _ _ hb), atI_nat (j := 1) rfl, H0, p, l, t, v1, d1, _, _, _, 10 + j, rfl, D, t0, by omega, hv1, BL.w1, wm, w5, by omega, by omega, fun B5 H5 t' u e g hu he => ⟨(by show 2 ≤ sizeLine; decide), fun b nb => ?_⟩⟩
          have gg := g.new (o := .tup [v0, u]) nb
          have S5 := same_new (o := .tup [v0, u]) (g.d.s.free nb)
          have gt := gg.t1
          have gt0 := gg.t0
          have he2 := he.2
          exact ⟨b, _, _, _, t', rfl, gg.d, by omega, by omega, ⟨S5 _ _ (g.s _ _ hq), Dq.same (g.s.trans S5) _ _ hv⟩, d0, e, ⟨v0, u, upd_same, Dq.same (g.s.trans S5) _ _ hv0, Dq.same S5 _ _ hu⟩, ⟨BentLot.step hj2 BL.w0, BentLot.og hj2 he.1, by omega, by omega⟩⟩
        · refine iteNo (decide_eq_false c) ?_
          refine ⟨_, rfl, _, rfl, b5, _, _, _, rfl, rfl, SqT.of (D.s _ _ hb), atI_nat (j := 0) rfl, H0, p, l, t, v0, d0, _, _, _, 3 + j, rfl, D, t0, by omega, hv0, BL.w0, wm, w5, by omega, by omega, fun B5 H5 t' u e g hu he => ⟨_, rfl, b5, _, _, _, rfl, rfl, SqT.of (g.d.s _ _ (g.s _ _ hb)), atI_nat (j := 1) rfl, (by show 2 ≤ sizeLine; decide), fun b nb => ?_⟩⟩
          have gg := g.new (o := .tup [u, v1]) nb
          have S5 := same_new (o := .tup [u, v1]) (g.d.s.free nb)
          have gt := gg.t1
          have gt0 := gg.t0
          have he2 := he.2
          exact ⟨b, _, _, _, t', rfl, gg.d, by omega, by omega, ⟨S5 _ _ (g.s _ _ hq), Dq.same (g.s.trans S5) _ _ hv⟩, e, d1, ⟨u, v1, upd_same, Dq.same S5 _ _ hu, Dq.same (g.s.trans S5) _ _ hv1⟩, ⟨BentLot.og hj2 he.1, BentLot.step hj2 BL.w1, by omega, by omega⟩⟩
      clear D t0 tb H3 H0 t hq hv hb BL d0 d1 b5 o6 o7
      rintro σ3 H3 ⟨b5, o6, o7, H0, t, rfl, D, t0, tb, ⟨hq, hv⟩, d0, d1, hb, LB⟩
      -- the bent one is right
      refine ⟨fun σ H' => LwP p l (200 * (i : Int) + 60) [some (.ref a), some (.ref p), some (.int (0 + (i : Int))), some (.int m), some (.ref q), some (.ref b5), o6, o7, o8, o9, o10, none, none] (fun H0 => H0 q = some (.tup [.int m, v]) ∧ Dq H0 v (prsD ps)) σ H', ?_, ?_⟩
      · refine ifs_no (no_made rfl (LotAt.same D.s hb) LB fun H Q k => ⟨_, rfl, _, _, rfl, rfl, (by show (0 : Int) < 2; decide), rfl, k _⟩) fun H4 S4 => ?_
        exact ⟨H0, t, rfl, D.mono S4, t0, tb, hq, hv⟩
      clear D t0 tb H3 H0 t hq hv hb LB d0 d1
      rintro σ3 H3 ⟨H0, t, rfl, D, t0, tb, hq, hv⟩
      -- the policy
      refine ⟨fun σ H' => ∃ x, LwP p l (200 * (i : Int) + 60) [some (.ref a), some (.ref p), some (.int (0 + (i : Int))), some (.int m), some (.ref q), some (.ref b5), o6, o7, some (.ref x), o9, o10, none, none] (fun H0 => H0 q = some (.tup [.int m, v]) ∧ PolAt C H0 x m v ps) σ H', ?_, ?_⟩
      · refine ⟨_, rfl, q, false, .int m, v, .int m, prsD ps, rfl, D.s _ _ hq, .int m, Dq.same D.s _ _ hv, LT, fun _ H4 x dx S4 hx => ?_, fun wd e => (by rw [due] at e; cases e)⟩
        have D4 := D.mono S4
        obtain ⟨ns', mm, hp', hl', _⟩ := id D4.d
        have xp : x ≠ p := ne_of hx hp' (by intro z; cases z)
        have xl : x ≠ l := ne_of hx hl' (by intro z; cases z)
        have Sk := keep_same D4 hx
        exact ⟨x, _, t, rfl, D4.keep xp xl hx, t0, tb, Sk _ _ hq, dx, upd_same, Dq.same Sk _ _ hv⟩
      clear D t0 tb H3 H0 t hq hv
      rintro σ3 H3 ⟨x, H0, t, rfl, D, t0, tb, hq, hx⟩
      -- who hears
      refine ⟨fun σ H' => ∃ o9 o10, LwP p l (200 * (i : Int) + 60) [some (.ref a), some (.ref p), some (.int (0 + (i : Int))), some (.int m), some (.ref q), some (.ref b5), o6, o7, some (.ref x), o9, o10, none, none] (fun H0 => H0 q = some (.tup [.int m, v]) ∧ PolAt C H0 x m v ps) σ H', ?_, ?_⟩
      · refine ⟨_, rfl, m, rfl, by omega, by omega, for_range (fun j σ H' => ∃ o9 o10, LwP p l (200 * (i : Int) + 60) [some (.ref a), some (.ref p), some (.int (0 + (i : Int))), some (.int m), some (.ref q), some (.ref b5), o6, o7, some (.ref x), o9, o10, none, none] (fun H0 => H0 q = some (.tup [.int m, v]) ∧ PolAt C H0 x m v ps) σ H') ⟨_, _, H0, t, rfl, D, t0, tb, hq, hx⟩ ?_ fun _ _ h => h⟩
        clear D t0 tb H3 H0 t hq hx o9 o10
        rintro j σ H3 hj ⟨o9, o10, H0, t, rfl, D, t0, tb, hq, hx⟩
        have gd := gd_hear (ps := ps) (per := 0 + (j : Int)) (k := m.toNat) (by omega)
        refine ⟨fun σ H' => ∃ tp, LwP p l (200 * (i : Int) + 60) [some (.ref a), some (.ref p), some (.int (0 + (i : Int))), some (.int m), some (.ref q), some (.ref b5), o6, o7, some (.ref x), some (.int (0 + (j : Int))), some (.ref tp), none, none] (fun H0 => (H0 q = some (.tup [.int m, v]) ∧ PolAt C H0 x m v ps) ∧ H0 tp = some (.tup ((hearW ps (0 + (j : Int)) m.toNat).map V.int))) σ H', ?_, ?_⟩
        · refine ⟨_, rfl, m, rfl, by omega, by omega, fun Da na => ?_⟩
          have hq3 := D.s _ _ hq
          obtain ⟨dx, hx1, hv⟩ := id (hx.same D.s)
          refine lc_range (fun k H' => MadeTo H3 Da ((hearW ps (0 + (j : Int)) k).map V.int) H') ⟨same_new na, upd_same⟩ ?_ ?_
          · rintro k H4 hk M
            have k0 : (0 : Int) + (k : Int) = (k : Int) := by omega
            have lw := hearW_len ps (0 + (j : Int)) k
            refine ⟨rfl, _, rfl, _, rfl, rfl, _, rfl, ?_⟩
            by_cases e : (0 : Int) + (k : Int) = 0 + (j : Int)
            · refine iteYes (decide_eq_true (by rw [e])) (iteYes rfl ?_)
              have ht : hearT ps (0 + (j : Int)) ((k : Nat) : Int) = true := by
                unfold hearT
                rw [decide_eq_true (by omega), Bool.true_or]
              obtain ⟨h1, M2⟩ := M.more (.int (0 + (k : Int))) na (Same.refl _)
              refine ⟨_, rfl, _, h1, by rw [List.length_map, sizeLine_eq]; omega, ?_⟩
              rw [hearW_more, if_pos ht, List.map_append]
              rw [k0] at M2
              rw [k0]
              exact M2
            · refine iteNo (decide_eq_false fun z => e (by injection z)) ?_
              refine ⟨_, rfl, _, rfl, (by show 2 ≤ sizeLine; decide), fun tp ntp => ?_⟩
              have S5 := same_new (o := .tup [.int (0 + (j : Int)), .int (0 + (k : Int))]) ntp
              have S35 := M.1.trans S5
              refine ⟨_, rfl, q, _, _, v, rfl, rfl, SqT.of (S35 _ _ hq3), atI_nat (j := 1) rfl, prD (0 + (j : Int), 0 + (k : Int)), ps.map prD, dp_shaped (by rfl) (.tup upd_same (.cons (.int _) (.cons (.int _) .nil))), dp_shaped (shaped_prs ps) (Dq.same S35 _ _ hv), by rfl, shaped_prs ps, _, rfl, ?_⟩
              have M5 : MadeTo H3 Da ((hearW ps (0 + (j : Int)) k).map V.int) (upd H4 tp (.tup [.int (0 + (j : Int)), .int (0 + (k : Int))])) := ⟨S35, S5 _ _ M.2⟩
              have same : hearT ps (0 + (j : Int)) ((k : Nat) : Int) = (ps.map prD).any fun z => PyData.eqv z (prD (0 + (j : Int), 0 + (k : Int))) := by
                unfold hearT
                rw [decide_eq_false (by omega), Bool.false_or, k0]
              rw [← same]
              by_cases ht : hearT ps (0 + (j : Int)) ((k : Nat) : Int) = true
              · refine iteYes ht ?_
                obtain ⟨h1, M2⟩ := M5.more (.int (0 + (k : Int))) na (Same.refl _)
                refine ⟨_, rfl, _, h1, by rw [List.length_map, sizeLine_eq]; omega, ?_⟩
                rw [hearW_more, if_pos ht, List.map_append]
                rw [k0] at M2
                rw [k0]
                exact M2
              · refine iteNo (by simpa using ht) ?_
                rw [hearW_more, if_neg ht, List.append_nil]
                exact M5
          · rintro H4 M
            refine .inl ⟨Da, _, rfl, SqL.of M.2, fun tp ntp => ?_⟩
            have D4 := (D.mono M.1).new (o := .tup ((hearW ps (0 + (j : Int)) m.toNat).map V.int)) ntp
            have Sn := same_new (o := .tup ((hearW ps (0 + (j : Int)) m.toNat).map V.int)) ((D.mono M.1).s.free ntp)
            exact ⟨tp, _, t, rfl, D4, t0, tb, ⟨Sn _ _ hq, hx.same Sn⟩, upd_same⟩
        clear D t0 tb H3 H0 t hq hx
        rintro σ4 H4 ⟨tp, H0, t, rfl, D, t0, tb, ⟨hq, hx⟩, htp⟩
        have polx := hx.same D.s
        obtain ⟨dx, hx1, hv⟩ := id polx
        have htp4 := D.s _ _ htp
        refine ⟨_, rfl, x, dx, _, rfl, hx1, pol_hear _ _, _, rfl, x, m, v, ps, 0 + (j : Int), rfl, polx, by omega, fun H5 q1 ns1 S5 h5 pm1 pw1 => ?_⟩
        obtain rfl := hear_same hp (by omega) (by omega) pm1 pw1
        refine ⟨_, rfl, x, dx, _, rfl, S5 _ _ hx1, pol_hear _ _, _, rfl, x, m, v, ps, 0 + (j : Int), rfl, polx.same S5, by omega, fun H6 q2 ns2 S6 h6 pm2 pw2 => ⟨(by show 2 ≤ sizeLine; decide), fun l7 nl7 => ?_⟩⟩
        obtain rfl := hear_same hp (by omega) (by omega) pm2 pw2
        have S7 := same_new (o := .lst [.ref q1, .ref q2]) nl7
        have all := fun {H : Hp} => dq_intsN (H := H) (hearW ps (0 + (j : Int)) m.toNat)
        refine ⟨l7, .ref q1, [.ref q2], _, _, rfl, upd_same, .cons (.tup ((S6.trans S7) _ _ h5) all) (.cons (.tup (S7 _ _ h6) all) .nil), two_seen gd gd, ?_⟩
        have S47 := S5.trans (S6.trans S7)
        revert S47
        generalize upd H6 l7 (.lst [.ref q1, .ref q2]) = H7
        intro S47
        refine ⟨_, rfl, _, rfl, (by show 2 ≤ sizeLine; decide), fun l8 nl8 => ?_⟩
        have S8 := same_new (o := .lst [.ref tp, .ref tp]) nl8
        have h8 := (S47.trans S8) _ _ htp4
        refine ⟨l8, .ref tp, [.ref tp], _, _, rfl, upd_same, .cons (.tup h8 all) (.cons (.tup h8 all) .nil), two_seen gd gd, rfl, _, rfl, iteNo ne_self' ?_⟩
        exact ⟨_, _, H0, t, rfl, D.mono (S47.trans S8), t0, tb, hq, hx⟩
      clear D t0 tb H3 H0 t hq hx o9 o10
      rintro σ3 H3 ⟨o9, o10, H0, t, rfl, D, t0, tb, hq, hx⟩
      refine ⟨_, rfl, _, rfl, _, rfl, _, rfl, q, _, _, v, rfl, rfl, SqT.of (D.s _ _ hq), atI_nat (j := 1) rfl, H0, p, l, t, x, m, v, ps, rfl, D, t0, by omega, hx, hp, few, fun B5 H5 t' g => ⟨true, rfl, iteNo rfl ?_⟩⟩
      have gt := g.t1
      have gt0 := g.t0
      refine ⟨_, rfl, _, rfl, _, rfl, _, rfl, q, _, _, v, rfl, rfl, SqT.of (g.d.s _ _ (g.s _ _ hq)), atI_nat (j := 1) rfl, B5, p, l, t', x, m, v, ps, rfl, g.d, by omega, by omega, hx.same g.s, hp, few, fun B6 H6 t'' g2 => ⟨true, rfl, iteNo rfl ?_⟩⟩
      have gt2 := g2.t1
      have gt20 := g2.t0
      exact ⟨_, _, _, _, _, _, _, _, _, B6, t'', rfl, g2.d, by omega, by omega, trivial⟩
    clear D H1
    rintro σ1 H1 ⟨o2, o3, o4, o5, o6, o7, o8, o9, o10, H0, t, rfl, D, t0, tb, _⟩
    refine asg_litsG (ds := lots7) D lits_7 (by decide) fun B3 A3 q3 vs g3 dvs hq qp ql lv => ?_
    refine ⟨_, rfl, lits_5 B3 A3 t _ g3.d (Same.refl _) fun B4 A4 ws g4 dws => ?_⟩
    have lw := dq_len dws
    have lv7 : vs.length = 7 := lv
    have lw5 : ws.length = 5 := lw
    refine ⟨by rw [sizeLine_eq]; omega, fun b nb => ⟨q3, b, vs, ws, rfl, rfl, (same_new nb) _ _ (g4.f _ _ qp ql hq), upd_same, by rw [sizeLine_eq]; omega, fun c nc => ?_⟩⟩
    have g5 := g4.put0 (o := .lst ws) nb
    have wc := Own.start (o := .lst (vs ++ ws)) g5 nc
    have g6 := g5.put0 (o := .lst (vs ++ ws)) nc
    revert wc g6
    generalize upd (upd A4 b (.lst ws)) c (.lst (vs ++ ws)) = A6
    intro wc g6
    refine ⟨_, rfl, .inl ⟨rfl, _, SqL.of wc.h⟩, ?_⟩
    refine litg_1 B4 A6 t _ g6.d (Same.refl _) fun B7 A7 u g7 du => ?_
    have w7 := wc.go g7
    refine ⟨c, _, _, rfl, rfl, w7.h, by rw [List.length_append, sizeLine_eq]; omega, ?_⟩
    have D8 := g7.d.put (o := .lst (vs ++ ws ++ [u])) w7.ap w7.al w7.n
    have all : DqAll (upd A7 c (.lst (vs ++ ws ++ [u]))) (vs ++ ws ++ [u]) (lots7 ++ lots5 ++ [lot1]) :=
      (((DqAll.same ((g4.s.trans g7.s).trans D8.s) _ _ dvs).app (DqAll.same (g7.s.trans D8.s) _ _ dws)).app (.cons (Dq.same D8.s _ _ du) .nil))
    have hc : upd A7 c (HO.lst (vs ++ ws ++ [u])) c = some (.lst (vs ++ ws ++ [u])) := upd_same
    revert all hc
    generalize upd A7 c (.lst (vs ++ ws ++ [u])) = A8
    generalize vs ++ ws ++ [u] = xs
    intro all hc
    refine ⟨_, rfl, c, rfl, ⟨_, SqL.of hc⟩, fun Da na => ?_⟩
    refine lc_list (K := K) (a := c) (xs := xs) (fun i H' => MadeTo A8 Da [] H') ⟨same_new na, upd_same⟩ (fun i H' _ M => SqL.of (M.1 _ _ hc)) ?_ ?_
    · rintro i y' H9 hy' M
      obtain ⟨d, hd, hqd⟩ := DqAll.at all hy'
      obtain ⟨d0, d1, rfl, LT⟩ := lot_of (List.all_eq_true.mp lots_ok d (List.mem_of_getElem? hd))
      have q9 := Dq.same M.1 _ _ hqd
      cases q9 with
      | @tup b9 xs9 _ e9 a9 =>
      cases a9 with
      | @cons v0 _ _ _ h0 a9 =>
      cases a9 with
      | @cons v1 _ _ _ h1 a9 =>
      cases a9
      exact ⟨rfl, _, rfl, b9, false, v0, v1, d0, d1, rfl, e9, h0, h1, LT, fun H' S' => ⟨true, rfl, iteNo rfl ⟨M.1.trans S', S' _ _ M.2⟩⟩⟩
    · rintro H9 ⟨S9, h9⟩
      refine ⟨(by show 0 ≤ sizeLine; decide), fun pa npa => ?_⟩
      have Sa := same_new (o := .lst []) npa
      refine ⟨Da, pa, [], rfl, rfl, Sa _ _ h9, upd_same, ?_⟩
      exact fin _
end
end KL
set_option Elab.async false
set_option linter.all false
set_option maxRecDepth 100000
set_option maxHeartbeats 4000000
namespace KL
open PySem L2 PySem.KX PySem.W PyProof.Rows
section
variable {P : Program} {w : World} {K : PySem.W.Frag} {mg : Str → Option Value} {base : Heap}
theorem ok_bent5 {f g1 g2 : Addr} {fd gd1 gd2 : FuncData} (F : Fun K "_law_bent" "_law_bent" lBent f fd) (T : TxtG mg) (c0 : Cal K mg "_law_bent" f fd ["_law_deck_here", "_law_it"])
    (G1 : FnOk P w K mg base CX0 1 g1 gd1 ["_law_deck_here", "_law_below"] spDraw) (c1 : Cal K mg "_law_draw" g1 gd1 ["_law_deck_here", "_law_below"])
    (G2 : FnOk P w K mg base CX0 2 g2 gd2 ["_law_deck_here", "_law_some"] spPick) (c2 : Cal K mg "_law_pick" g2 gd2 ["_law_deck_here", "_law_some"]) :
    FnOk P w K mg base CX0 8 f fd ["_law_deck_here", "_law_it"] (spBent 5) := by
  have no : ∀ {vs : List V} {H : Hp} {Q : VK} {E : XK}, ¬ spBent 0 vs H Q E := fun {vs H Q E} h => by
    obtain ⟨H0, p, l, t, v, d, w, pp, W, nn, _, _, _, _, _, _, _, z, _⟩ := h
    omega
  have z : FnOk P w K mg base CX0 3 f fd ["_law_deck_here", "_law_it"] (spBent 0) := F.ok scBent (fun vs H Q E h => absurd h no) (fun cdv A outer s H vs Q E hr h => absurd h no)
  exact ok_bent1 F T c0 G1 c1 G2 c2 (by decide) (ok_bent1 F T c0 G1 c1 G2 c2 (by decide) (ok_bent1 F T c0 G1 c1 G2 c2 (by decide) (ok_bent1 F T c0 G1 c1 G2 c2 (by decide) (ok_bent1 F T c0 G1 c1 G2 c2 (by decide) z))))
end
def chkE (K : Frag) (B C : Addr) : Bool :=
  excInitIn K C excB "Exception.__new__" && (excOver K C excB && (hasDictIn K C && (keepIn K (.ref C) && ((findIn K (.ref C) "__setattr__" == some (some (.builtin "object.__setattr__"))) && ((findIn K (.ref C) "__getattribute__" == some (some (.builtin "BaseException.__getattribute__"))) &&
  ((findIn K (.ref C) "__getattr__" == some none) && ((findIn K (.ref C) "__class__" == some (some (.builtin "object.__class__"))) && ((clsIn K C).any (fun cd => cd.mro == [.ref C, .ref B, .type "Exception", .type "BaseException", .type "object"]) && (typeIn K (.ref C) == some (.type "type"))))))))))
structure ChkE (K : Frag) (B C : Addr) : Prop where
  c1 : excInitIn K C excB "Exception.__new__" = true
  c2 : excOver K C excB = true
  c3 : hasDictIn K C = true
  c4 : keepIn K (.ref C) = true
  c5 : findIn K (.ref C) "__setattr__" = some (some (.builtin "object.__setattr__"))
  c6 : findIn K (.ref C) "__getattribute__" = some (some (.builtin "BaseException.__getattribute__"))
  c7 : findIn K (.ref C) "__getattr__" = some none
  c8 : findIn K (.ref C) "__class__" = some (some (.builtin "object.__class__"))
  c9 : ∃ cd, clsIn K C = some cd ∧ cd.mro = [.ref C, .ref B, .type "Exception", .type "BaseException", .type "object"]
  c10 : typeIn K (.ref C) = some (.type "type")
theorem chk_of {K : Frag} {B C : Addr} (h : chkE K B C = true) : ChkE K B C := by
  unfold chkE at h
  simp only [Bool.and_eq_true, beq_iff_eq] at h
  obtain ⟨h1, h2, h3, h4, h5, h6, h7, h8, h9, h10⟩ := h
  obtain ⟨cd, e, m⟩ := any_some h9
  exact ⟨h1, h2, h3, h4, h5, h6, h7, h8, ⟨cd, e, beq_iff_eq.mp m⟩, h10⟩
section
variable {K : Frag} {B C D : Addr}
theorem ChkE.mro (T : ChkE K B C) (v : Value) : subIn K (.ref C) v = some ([Value.ref C, .ref B, .type "Exception", .type "BaseException", .type "object"].contains v) := by
  obtain ⟨cd, e, m⟩ := T.c9
  show mroIn K C v = _
  unfold mroIn
  rw [e, Option.bind_some, m]
  rfl
theorem ChkE.ec (T : ChkE K B C) (hn : specialIn K (.builtin "object.__class__") "__get__" = some (some (.builtin "getset_descriptor.__get__"))) (ht : takesIn K (.builtin "object.__class__") = some true) : EC K C :=
  ⟨T.c1, T.c5, T.c2, T.c3, T.c4, ⟨T.c6, T.c7, by rw [T.mro]; rfl, T.c3, T.c8, hn, ht, T.mro _⟩⟩
theorem ChkE.ref (T : ChkE K B C) (h1 : (clsIn K D).isSome = true) (h2 : typeIn K (.ref D) = some (.type "type")) (hd : D ≠ C) (hb : D ≠ B) : kitOne K (.ref C) (.ref D) = some false := by
  unfold kitOne
  rw [if_neg (by simp [hd.symm])]
  unfold kitCls
  dsimp only
  rw [h1, h2, if_pos (by simp), T.mro]
  simp [hd, hb]
theorem ChkE.base (T : ChkE K B C) (h1 : (clsIn K B).isSome = true) (h2 : typeIn K (.ref B) = some (.type "type")) : kitOne K (.ref C) (.ref B) = some true := by
  unfold kitOne
  split
  · rfl
  · unfold kitCls
    dsimp only
    rw [h1, h2, if_pos (by simp), T.mro]
    simp
theorem ChkE.self : kitOne K (.ref C) (.ref C) = some true := by
  unfold kitOne
  rw [if_pos (by simp)]
theorem ChkE.typ (T : ChkE K B C) {n : String} {b : Bool} (h : (kitMeta n && ([Value.type "Exception", .type "BaseException", .type "object"].contains (.type n) == b)) = true) : kitOne K (.ref C) (.type n) = some b := by
  simp only [Bool.and_eq_true, beq_iff_eq] at h
  unfold kitOne
  rw [if_neg (by simp)]
  unfold kitCls
  dsimp only
  have z1 : (Value.type n == Value.ref C) = false := beq_eq_false_iff_ne.mpr fun q => nomatch q
  have z2 : (Value.type n == Value.ref B) = false := beq_eq_false_iff_ne.mpr fun q => nomatch q
  rw [h.1, if_pos rfl, T.mro, List.contains_cons, List.contains_cons, h.2, z1, z2]
  rfl
theorem ChkE.exm (T : ChkE K B C) (hs : subIn K (.ref D) (.type "BaseException") = some true) (h : kitCls K (.ref C) (.ref D) = some true) : exmOne K (.ref C) (.ref D) = some true := by
  unfold exmOne
  rw [hs, if_pos (by simp)]
  exact h
theorem ChkE.isSome (T : ChkE K B C) : (clsIn K C).isSome = true := by
  obtain ⟨cd, e, _⟩ := T.c9
  rw [e]
  rfl
end
end KL
set_option Elab.async false
set_option linter.all false
set_option maxRecDepth 100000
set_option maxHeartbeats 8000000
namespace KL
open PySem L2 PySem.KX PySem.W PyProof.Rows
theorem all_mk {l : PySem.W.OpenLaw} {w : World} {K : Frag} {h : Heap} {mg : Str → Option Value} {fa B CB IB CT IT CO C pR fI fN fQ fO fS fR fH : Addr} {gInt gBet gTup gAsc gPeople gNumIn gNumsIn gPair gPairs gBehind gPartsIn gDeck gDraw gPick gRule gBent gWhole gDue gHeard gMade gWritten gNumber gReadDue gRead gPageBent gTexts gJoined gTwo gLaw : Addr} {tk0 tk1 : Tok} {restR : List Value} (X : K.In h) (G : h.Ns mainGlobals mg) (hfa : mg "law" = some (.ref fa))
    {odxE anxE : Option Addr} {docxE pmxE cdvxE ctxE : Value} {oslxE : Array (Option Value)} {paE pbE qaE qbE qcE qdE : Pos}
    {odxT anxT : Option Addr} {docxT pmxT cdvxT ctxT : Value} {oslxT : Array (Option Value)} {paT pbT qaT qbT qcT qdT : Pos}
    {odI anI : Option Addr} {ocI kVI docI pmI cdvI ctI : Value} {oslI : Array (Option Value)}
    {odN anN : Option Addr} {ocN kVN docN pmN cdvN ctN : Value} {oslN : Array (Option Value)}
    {odQ anQ : Option Addr} {ocQ kVQ docQ pmQ cdvQ ctQ : Value} {oslQ : Array (Option Value)}
    {odO anO : Option Addr} {ocO kVO docO pmO cdvO ctO : Value} {oslO : Array (Option Value)}
    {odS anS : Option Addr} {ocS kVS docS pmS cdvS ctS : Value} {oslS : Array (Option Value)}
    {odR anR : Option Addr} {ocR kVR docR pmR cdvR ctR : Value} {oslR : Array (Option Value)}
    {odH anH : Option Addr} {ocH kVH docH pmH cdvH ctH : Value} {oslH : Array (Option Value)}
    {odInt anInt : Option Addr} {ocInt kVInt docInt pmInt cdvInt ctInt : Value} {oslInt : Array (Option Value)}
    {odBet anBet : Option Addr} {ocBet kVBet docBet pmBet cdvBet ctBet : Value} {oslBet : Array (Option Value)}
    {odTup anTup : Option Addr} {ocTup kVTup docTup pmTup cdvTup ctTup : Value} {oslTup : Array (Option Value)}
    {odAsc anAsc : Option Addr} {ocAsc kVAsc docAsc pmAsc cdvAsc ctAsc : Value} {oslAsc : Array (Option Value)}
    {odPeople anPeople : Option Addr} {ocPeople kVPeople docPeople pmPeople cdvPeople ctPeople : Value} {oslPeople : Array (Option Value)}
    {odNumIn anNumIn : Option Addr} {ocNumIn kVNumIn docNumIn pmNumIn cdvNumIn ctNumIn : Value} {oslNumIn : Array (Option Value)}
    {odNumsIn anNumsIn : Option Addr} {ocNumsIn kVNumsIn docNumsIn pmNumsIn cdvNumsIn ctNumsIn : Value} {oslNumsIn : Array (Option Value)}
    {odPair anPair : Option Addr} {ocPair kVPair docPair pmPair cdvPair ctPair : Value} {oslPair : Array (Option Value)}
    {odPairs anPairs : Option Addr} {ocPairs kVPairs docPairs pmPairs cdvPairs ctPairs : Value} {oslPairs : Array (Option Value)}
    {odBehind anBehind : Option Addr} {ocBehind kVBehind docBehind pmBehind cdvBehind ctBehind : Value} {oslBehind : Array (Option Value)}
    {odPartsIn anPartsIn : Option Addr} {ocPartsIn kVPartsIn docPartsIn pmPartsIn cdvPartsIn ctPartsIn : Value} {oslPartsIn : Array (Option Value)}
    {odDeck anDeck : Option Addr} {ocDeck kVDeck docDeck pmDeck cdvDeck ctDeck : Value} {oslDeck : Array (Option Value)}
    {odDraw anDraw : Option Addr} {ocDraw kVDraw docDraw pmDraw cdvDraw ctDraw : Value} {oslDraw : Array (Option Value)}
    {odPick anPick : Option Addr} {ocPick kVPick docPick pmPick cdvPick ctPick : Value} {oslPick : Array (Option Value)}
    {odRule anRule : Option Addr} {ocRule kVRule docRule pmRule cdvRule ctRule : Value} {oslRule : Array (Option Value)}
    {odBent anBent : Option Addr} {ocBent kVBent docBent pmBent cdvBent ctBent : Value} {oslBent : Array (Option Value)}
    {odWhole anWhole : Option Addr} {ocWhole kVWhole docWhole pmWhole cdvWhole ctWhole : Value} {oslWhole : Array (Option Value)}
    {odDue anDue : Option Addr} {ocDue kVDue docDue pmDue cdvDue ctDue : Value} {oslDue : Array (Option Value)}
    {odHeard anHeard : Option Addr} {ocHeard kVHeard docHeard pmHeard cdvHeard ctHeard : Value} {oslHeard : Array (Option Value)}
    {odMade anMade : Option Addr} {ocMade kVMade docMade pmMade cdvMade ctMade : Value} {oslMade : Array (Option Value)}
    {odWritten anWritten : Option Addr} {ocWritten kVWritten docWritten pmWritten cdvWritten ctWritten : Value} {oslWritten : Array (Option Value)}
    {odNumber anNumber : Option Addr} {ocNumber kVNumber docNumber pmNumber cdvNumber ctNumber : Value} {oslNumber : Array (Option Value)}
    {odReadDue anReadDue : Option Addr} {ocReadDue kVReadDue docReadDue pmReadDue cdvReadDue ctReadDue : Value} {oslReadDue : Array (Option Value)}
    {odRead anRead : Option Addr} {ocRead kVRead docRead pmRead cdvRead ctRead : Value} {oslRead : Array (Option Value)}
    {odPageBent anPageBent : Option Addr} {ocPageBent kVPageBent docPageBent pmPageBent cdvPageBent ctPageBent : Value} {oslPageBent : Array (Option Value)}
    {odTexts anTexts : Option Addr} {ocTexts kVTexts docTexts pmTexts cdvTexts ctTexts : Value} {oslTexts : Array (Option Value)}
    {odJoined anJoined : Option Addr} {ocJoined kVJoined docJoined pmJoined cdvJoined ctJoined : Value} {oslJoined : Array (Option Value)}
    {odTwo anTwo : Option Addr} {ocTwo kVTwo docTwo pmTwo cdvTwo ctTwo : Value} {oslTwo : Array (Option Value)}
    {odLaw anLaw : Option Addr} {ocLaw kVLaw docLaw pmLaw cdvLaw ctLaw : Value} {oslLaw : Array (Option Value)}
    (aB : nsIn K mainGlobals "HouseError" = some (some (.ref B)))
    (hB : ((clsIn K B).isSome && (typeIn K (.ref B) == some (.type "type"))) = true)
    (aEx : nsIn K mainGlobals "BadPolicy" = some (some (.ref CB)))
    (nEx : findIn K (.ref CB) "part" = some none)
    (jEx : findIn K (.ref CB) "__init__" = some (some (.ref IB)))
    (lEx : K.lookup IB = some ⟨.type "function", odxE, .func (fnOf "__init__" "BadPolicy.__init__" (iA "part" paE pbE) (iB "part" qaE qbE qcE qdE) (iS "part") .none .none docxE pmxE anxE cdvxE ctxE), oslxE⟩)
    (dEx : codeIn K cdvxE "BadPolicy.__init__" = true)
    (aTx : nsIn K mainGlobals "BadText" = some (some (.ref CT)))
    (nTx : findIn K (.ref CT) "line" = some none)
    (jTx : findIn K (.ref CT) "__init__" = some (some (.ref IT)))
    (lTx : K.lookup IT = some ⟨.type "function", odxT, .func (fnOf "__init__" "BadText.__init__" (iA "line" paT pbT) (iB "line" qaT qbT qcT qdT) (iS "line") .none .none docxT pmxT anxT cdvxT ctxT), oslxT⟩)
    (dTx : codeIn K cdvxT "BadText.__init__" = true)
    (aOx : nsIn K mainGlobals "OtherPeople" = some (some (.ref CO)))
    (exO : excIn K CO [.type "Exception", .type "BaseException", .type "object"] "Exception.__new__" = true)
    (kpO : keepIn K (.ref CO) = true)
    (subO : subIn K (.ref CO) (.type "BaseException") = some true)
    (tyO : typeIn K (.ref CO) = some (.type "type"))
    (aC : nsIn K mainGlobals "Policy" = some (some (.ref C)))
    (jI : findIn K (.ref C) "__init__" = some (some (.ref fI)))
    (iI : isFn K (.ref fI) = true)
    (jN : findIn K (.ref C) "__len__" = some (some (.ref fN)))
    (iN : isFn K (.ref fN) = true)
    (jQ : findIn K (.ref C) "__eq__" = some (some (.ref fQ)))
    (iQ : isFn K (.ref fQ) = true)
    (jO : findIn K (.ref C) "__or__" = some (some (.ref fO)))
    (iO : isFn K (.ref fO) = true)
    (jS : findIn K (.ref C) "__str__" = some (some (.ref fS)))
    (iS : isFn K (.ref fS) = true)
    (jH : findIn K (.ref C) "hearers" = some (some (.ref fH)))
    (iH : isFn K (.ref fH) = true)
    (rdC : readsIn K C (.type "type") = true)
    (gaC : specialIn K (.ref C) "__getattribute__" = some (some (.builtin "type.__getattribute__")))
    (atR : findCls K (.ref C) (.type "type") "read" = some (.get (.builtin "classmethod.__get__") (.ref pR) .none (.ref C)))
    (rcR : recIn K pR "classmethod" = some (.ref fR :: restR))
    (fiR : fnIn K fR = true)
    (sfC : selfFirst K C = true)
    (lk_I : K.lookup fI = some ⟨ocI, odI, .func (fnOf "__init__" "Policy.__init__" (defArgs sPInit) (defBody sPInit) (defScope sPInit) .none kVI docI pmI anI cdvI ctI), oslI⟩)
    (cI : codeIn K cdvI "Policy.__init__" = true)
    (kI : keepIn K (.ref fI) = true)
    (lk_N : K.lookup fN = some ⟨ocN, odN, .func (fnOf "__len__" "Policy.__len__" (defArgs sPLen) (defBody sPLen) (defScope sPLen) .none kVN docN pmN anN cdvN ctN), oslN⟩)
    (cN : codeIn K cdvN "Policy.__len__" = true)
    (kN : keepIn K (.ref fN) = true)
    (lk_Q : K.lookup fQ = some ⟨ocQ, odQ, .func (fnOf "__eq__" "Policy.__eq__" (defArgs sPEq) (defBody sPEq) (defScope sPEq) .none kVQ docQ pmQ anQ cdvQ ctQ), oslQ⟩)
    (cQ : codeIn K cdvQ "Policy.__eq__" = true)
    (kQ : keepIn K (.ref fQ) = true)
    (lk_O : K.lookup fO = some ⟨ocO, odO, .func (fnOf "__or__" "Policy.__or__" (defArgs sPOr) (defBody sPOr) (defScope sPOr) .none kVO docO pmO anO cdvO ctO), oslO⟩)
    (cO : codeIn K cdvO "Policy.__or__" = true)
    (kO : keepIn K (.ref fO) = true)
    (lk_S : K.lookup fS = some ⟨ocS, odS, .func (fnOf "__str__" "Policy.__str__" (defArgs sPStr) (defBody sPStr) (defScope sPStr) .none kVS docS pmS anS cdvS ctS), oslS⟩)
    (cS : codeIn K cdvS "Policy.__str__" = true)
    (kS : keepIn K (.ref fS) = true)
    (lk_R : K.lookup fR = some ⟨ocR, odR, .func (fnOf "read" "Policy.read" (defArgs sPRead) (defBody sPRead) (defScope sPRead) .none kVR docR pmR anR cdvR ctR), oslR⟩)
    (cR : codeIn K cdvR "Policy.read" = true)
    (kR : keepIn K (.ref fR) = true)
    (lk_H : K.lookup fH = some ⟨ocH, odH, .func (fnOf "hearers" "Policy.hearers" (defArgs sPHear) (defBody sPHear) (defScope sPHear) .none kVH docH pmH anH cdvH ctH), oslH⟩)
    (cH : codeIn K cdvH "Policy.hearers" = true)
    (kH : keepIn K (.ref fH) = true)
    (pg : plainGet K C Str.empty = true)
    (hd : hasDictIn K C = true)
    (po : plainOver K C = true)
    (sa : findIn K (.ref C) "__setattr__" = some (some (.builtin "object.__setattr__")))
    (mk : makesIn K C = true)
    (kc : keepIn K (.ref C) = true)
    (hac : findIn K (.ref C) "__class__" = some (some (.builtin "object.__class__")))
    (hmc : mroIn K C (.type "object") = some true)
    (hne : findIn K (.ref C) "__ne__" = some (some (.builtin "object.__ne__")))
    (hcl : ((clsIn K C).isSome && (typeIn K (.ref C) == some (.type "type"))) = true)
    (n_people : findIn K (.ref C) "people" = some none)
    (n_pairs : findIn K (.ref C) "pairs" = some none)
    (m0 : nsIn K mainGlobals "MOST_PEOPLE" = some (some (.int 3 tk0)))
    (m1 : nsIn K mainGlobals "MOST_DIGITS" = some (some (.int 40 tk1)))
    (aInt : nsIn K mainGlobals "is_int" = some (some (.ref gInt)))
    (lk_Int : K.lookup gInt = some ⟨ocInt, odInt, .func (fnOf "is_int" "is_int" (defArgs sIsInt) (defBody sIsInt) (defScope sIsInt) .none kVInt docInt pmInt anInt cdvInt ctInt), oslInt⟩)
    (cInt : codeIn K cdvInt "is_int" = true)
    (kInt : keepIn K (.ref gInt) = true)
    (aBet : nsIn K mainGlobals "is_between" = some (some (.ref gBet)))
    (lk_Bet : K.lookup gBet = some ⟨ocBet, odBet, .func (fnOf "is_between" "is_between" (defArgs sIsBet) (defBody sIsBet) (defScope sIsBet) .none kVBet docBet pmBet anBet cdvBet ctBet), oslBet⟩)
    (cBet : codeIn K cdvBet "is_between" = true)
    (kBet : keepIn K (.ref gBet) = true)
    (aTup : nsIn K mainGlobals "is_tuple_of" = some (some (.ref gTup)))
    (lk_Tup : K.lookup gTup = some ⟨ocTup, odTup, .func (fnOf "is_tuple_of" "is_tuple_of" (defArgs sIsTup) (defBody sIsTup) (defScope sIsTup) .none kVTup docTup pmTup anTup cdvTup ctTup), oslTup⟩)
    (cTup : codeIn K cdvTup "is_tuple_of" = true)
    (kTup : keepIn K (.ref gTup) = true)
    (aAsc : nsIn K mainGlobals "is_ascending" = some (some (.ref gAsc)))
    (lk_Asc : K.lookup gAsc = some ⟨ocAsc, odAsc, .func (fnOf "is_ascending" "is_ascending" (defArgs sIsAsc) (defBody sIsAsc) (defScope sIsAsc) .none kVAsc docAsc pmAsc anAsc cdvAsc ctAsc), oslAsc⟩)
    (cAsc : codeIn K cdvAsc "is_ascending" = true)
    (kAsc : keepIn K (.ref gAsc) = true)
    (aPeople : nsIn K mainGlobals "is_people" = some (some (.ref gPeople)))
    (lk_People : K.lookup gPeople = some ⟨ocPeople, odPeople, .func (fnOf "is_people" "is_people" (defArgs sIsPeople) (defBody sIsPeople) (defScope sIsPeople) .none kVPeople docPeople pmPeople anPeople cdvPeople ctPeople), oslPeople⟩)
    (cPeople : codeIn K cdvPeople "is_people" = true)
    (kPeople : keepIn K (.ref gPeople) = true)
    (aNumIn : nsIn K mainGlobals "number_in" = some (some (.ref gNumIn)))
    (lk_NumIn : K.lookup gNumIn = some ⟨ocNumIn, odNumIn, .func (fnOf "number_in" "number_in" (defArgs sNumIn) (defBody sNumIn) (defScope sNumIn) .none kVNumIn docNumIn pmNumIn anNumIn cdvNumIn ctNumIn), oslNumIn⟩)
    (cNumIn : codeIn K cdvNumIn "number_in" = true)
    (kNumIn : keepIn K (.ref gNumIn) = true)
    (aNumsIn : nsIn K mainGlobals "numbers_in" = some (some (.ref gNumsIn)))
    (lk_NumsIn : K.lookup gNumsIn = some ⟨ocNumsIn, odNumsIn, .func (fnOf "numbers_in" "numbers_in" (defArgs sNumsIn) (defBody sNumsIn) (defScope sNumsIn) .none kVNumsIn docNumsIn pmNumsIn anNumsIn cdvNumsIn ctNumsIn), oslNumsIn⟩)
    (cNumsIn : codeIn K cdvNumsIn "numbers_in" = true)
    (kNumsIn : keepIn K (.ref gNumsIn) = true)
    (aPair : nsIn K mainGlobals "is_pair" = some (some (.ref gPair)))
    (lk_Pair : K.lookup gPair = some ⟨ocPair, odPair, .func (fnOf "is_pair" "is_pair" (defArgs sIsPair) (defBody sIsPair) (defScope sIsPair) .none kVPair docPair pmPair anPair cdvPair ctPair), oslPair⟩)
    (cPair : codeIn K cdvPair "is_pair" = true)
    (kPair : keepIn K (.ref gPair) = true)
    (aPairs : nsIn K mainGlobals "are_pairs" = some (some (.ref gPairs)))
    (lk_Pairs : K.lookup gPairs = some ⟨ocPairs, odPairs, .func (fnOf "are_pairs" "are_pairs" (defArgs sArePairs) (defBody sArePairs) (defScope sArePairs) .none kVPairs docPairs pmPairs anPairs cdvPairs ctPairs), oslPairs⟩)
    (cPairs : codeIn K cdvPairs "are_pairs" = true)
    (kPairs : keepIn K (.ref gPairs) = true)
    (aBehind : nsIn K mainGlobals "numbers_behind_word" = some (some (.ref gBehind)))
    (lk_Behind : K.lookup gBehind = some ⟨ocBehind, odBehind, .func (fnOf "numbers_behind_word" "numbers_behind_word" (defArgs sBehind) (defBody sBehind) (defScope sBehind) .none kVBehind docBehind pmBehind anBehind cdvBehind ctBehind), oslBehind⟩)
    (cBehind : codeIn K cdvBehind "numbers_behind_word" = true)
    (kBehind : keepIn K (.ref gBehind) = true)
    (aPartsIn : nsIn K mainGlobals "parts_in" = some (some (.ref gPartsIn)))
    (lk_PartsIn : K.lookup gPartsIn = some ⟨ocPartsIn, odPartsIn, .func (fnOf "parts_in" "parts_in" (defArgs sPartsIn) (defBody sPartsIn) (defScope sPartsIn) .none kVPartsIn docPartsIn pmPartsIn anPartsIn cdvPartsIn ctPartsIn), oslPartsIn⟩)
    (cPartsIn : codeIn K cdvPartsIn "parts_in" = true)
    (kPartsIn : keepIn K (.ref gPartsIn) = true)
    (aDeck : nsIn K mainGlobals "_law_deck" = some (some (.ref gDeck)))
    (lk_Deck : K.lookup gDeck = some ⟨ocDeck, odDeck, .func (fnOf "_law_deck" "_law_deck" (defArgs lDeck) (defBody lDeck) (defScope lDeck) .none kVDeck docDeck pmDeck anDeck cdvDeck ctDeck), oslDeck⟩)
    (cDeck : codeIn K cdvDeck "_law_deck" = true)
    (kDeck : keepIn K (.ref gDeck) = true)
    (aDraw : nsIn K mainGlobals "_law_draw" = some (some (.ref gDraw)))
    (lk_Draw : K.lookup gDraw = some ⟨ocDraw, odDraw, .func (fnOf "_law_draw" "_law_draw" (defArgs lDraw) (defBody lDraw) (defScope lDraw) .none kVDraw docDraw pmDraw anDraw cdvDraw ctDraw), oslDraw⟩)
    (cDraw : codeIn K cdvDraw "_law_draw" = true)
    (kDraw : keepIn K (.ref gDraw) = true)
    (aPick : nsIn K mainGlobals "_law_pick" = some (some (.ref gPick)))
    (lk_Pick : K.lookup gPick = some ⟨ocPick, odPick, .func (fnOf "_law_pick" "_law_pick" (defArgs lPick) (defBody lPick) (defScope lPick) .none kVPick docPick pmPick anPick cdvPick ctPick), oslPick⟩)
    (cPick : codeIn K cdvPick "_law_pick" = true)
    (kPick : keepIn K (.ref gPick) = true)
    (aRule : nsIn K mainGlobals "_law_rule" = some (some (.ref gRule)))
    (lk_Rule : K.lookup gRule = some ⟨ocRule, odRule, .func (fnOf "_law_rule" "_law_rule" (defArgs lRule) (defBody lRule) (defScope lRule) .none kVRule docRule pmRule anRule cdvRule ctRule), oslRule⟩)
    (cRule : codeIn K cdvRule "_law_rule" = true)
    (kRule : keepIn K (.ref gRule) = true)
    (aBent : nsIn K mainGlobals "_law_bent" = some (some (.ref gBent)))
    (lk_Bent : K.lookup gBent = some ⟨ocBent, odBent, .func (fnOf "_law_bent" "_law_bent" (defArgs lBent) (defBody lBent) (defScope lBent) .none kVBent docBent pmBent anBent cdvBent ctBent), oslBent⟩)
    (cBent : codeIn K cdvBent "_law_bent" = true)
    (kBent : keepIn K (.ref gBent) = true)
    (aWhole : nsIn K mainGlobals "_law_is_whole" = some (some (.ref gWhole)))
    (lk_Whole : K.lookup gWhole = some ⟨ocWhole, odWhole, .func (fnOf "_law_is_whole" "_law_is_whole" (defArgs lWhole) (defBody lWhole) (defScope lWhole) .none kVWhole docWhole pmWhole anWhole cdvWhole ctWhole), oslWhole⟩)
    (cWhole : codeIn K cdvWhole "_law_is_whole" = true)
    (kWhole : keepIn K (.ref gWhole) = true)
    (aDue : nsIn K mainGlobals "_law_due" = some (some (.ref gDue)))
    (lk_Due : K.lookup gDue = some ⟨ocDue, odDue, .func (fnOf "_law_due" "_law_due" (defArgs lDue) (defBody lDue) (defScope lDue) .none kVDue docDue pmDue anDue cdvDue ctDue), oslDue⟩)
    (cDue : codeIn K cdvDue "_law_due" = true)
    (kDue : keepIn K (.ref gDue) = true)
    (aHeard : nsIn K mainGlobals "_law_heard" = some (some (.ref gHeard)))
    (lk_Heard : K.lookup gHeard = some ⟨ocHeard, odHeard, .func (fnOf "_law_heard" "_law_heard" (defArgs lHeard) (defBody lHeard) (defScope lHeard) .none kVHeard docHeard pmHeard anHeard cdvHeard ctHeard), oslHeard⟩)
    (cHeard : codeIn K cdvHeard "_law_heard" = true)
    (kHeard : keepIn K (.ref gHeard) = true)
    (aMade : nsIn K mainGlobals "_law_made_right" = some (some (.ref gMade)))
    (lk_Made : K.lookup gMade = some ⟨ocMade, odMade, .func (fnOf "_law_made_right" "_law_made_right" (defArgs lMade) (defBody lMade) (defScope lMade) .none kVMade docMade pmMade anMade cdvMade ctMade), oslMade⟩)
    (cMade : codeIn K cdvMade "_law_made_right" = true)
    (kMade : keepIn K (.ref gMade) = true)
    (aWritten : nsIn K mainGlobals "_law_written" = some (some (.ref gWritten)))
    (lk_Written : K.lookup gWritten = some ⟨ocWritten, odWritten, .func (fnOf "_law_written" "_law_written" (defArgs lWritten) (defBody lWritten) (defScope lWritten) .none kVWritten docWritten pmWritten anWritten cdvWritten ctWritten), oslWritten⟩)
    (cWritten : codeIn K cdvWritten "_law_written" = true)
    (kWritten : keepIn K (.ref gWritten) = true)
    (aNumber : nsIn K mainGlobals "_law_number" = some (some (.ref gNumber)))
    (lk_Number : K.lookup gNumber = some ⟨ocNumber, odNumber, .func (fnOf "_law_number" "_law_number" (defArgs lNumber) (defBody lNumber) (defScope lNumber) .none kVNumber docNumber pmNumber anNumber cdvNumber ctNumber), oslNumber⟩)
    (cNumber : codeIn K cdvNumber "_law_number" = true)
    (kNumber : keepIn K (.ref gNumber) = true)
    (aReadDue : nsIn K mainGlobals "_law_read_due" = some (some (.ref gReadDue)))
    (lk_ReadDue : K.lookup gReadDue = some ⟨ocReadDue, odReadDue, .func (fnOf "_law_read_due" "_law_read_due" (defArgs lReadDue) (defBody lReadDue) (defScope lReadDue) .none kVReadDue docReadDue pmReadDue anReadDue cdvReadDue ctReadDue), oslReadDue⟩)
    (cReadDue : codeIn K cdvReadDue "_law_read_due" = true)
    (kReadDue : keepIn K (.ref gReadDue) = true)
    (aRead : nsIn K mainGlobals "_law_read" = some (some (.ref gRead)))
    (lk_Read : K.lookup gRead = some ⟨ocRead, odRead, .func (fnOf "_law_read" "_law_read" (defArgs lRead) (defBody lRead) (defScope lRead) .none kVRead docRead pmRead anRead cdvRead ctRead), oslRead⟩)
    (cRead : codeIn K cdvRead "_law_read" = true)
    (kRead : keepIn K (.ref gRead) = true)
    (aPageBent : nsIn K mainGlobals "_law_page_bent" = some (some (.ref gPageBent)))
    (lk_PageBent : K.lookup gPageBent = some ⟨ocPageBent, odPageBent, .func (fnOf "_law_page_bent" "_law_page_bent" (defArgs lPageBent) (defBody lPageBent) (defScope lPageBent) .none kVPageBent docPageBent pmPageBent anPageBent cdvPageBent ctPageBent), oslPageBent⟩)
    (cPageBent : codeIn K cdvPageBent "_law_page_bent" = true)
    (kPageBent : keepIn K (.ref gPageBent) = true)
    (aTexts : nsIn K mainGlobals "_law_texts_right" = some (some (.ref gTexts)))
    (lk_Texts : K.lookup gTexts = some ⟨ocTexts, odTexts, .func (fnOf "_law_texts_right" "_law_texts_right" (defArgs lTexts) (defBody lTexts) (defScope lTexts) .none kVTexts docTexts pmTexts anTexts cdvTexts ctTexts), oslTexts⟩)
    (cTexts : codeIn K cdvTexts "_law_texts_right" = true)
    (kTexts : keepIn K (.ref gTexts) = true)
    (aJoined : nsIn K mainGlobals "_law_joined" = some (some (.ref gJoined)))
    (lk_Joined : K.lookup gJoined = some ⟨ocJoined, odJoined, .func (fnOf "_law_joined" "_law_joined" (defArgs lJoined) (defBody lJoined) (defScope lJoined) .none kVJoined docJoined pmJoined anJoined cdvJoined ctJoined), oslJoined⟩)
    (cJoined : codeIn K cdvJoined "_law_joined" = true)
    (kJoined : keepIn K (.ref gJoined) = true)
    (aTwo : nsIn K mainGlobals "_law_two_right" = some (some (.ref gTwo)))
    (lk_Two : K.lookup gTwo = some ⟨ocTwo, odTwo, .func (fnOf "_law_two_right" "_law_two_right" (defArgs lTwo) (defBody lTwo) (defScope lTwo) .none kVTwo docTwo pmTwo anTwo cdvTwo ctTwo), oslTwo⟩)
    (cTwo : codeIn K cdvTwo "_law_two_right" = true)
    (kTwo : keepIn K (.ref gTwo) = true)
    (aLaw : nsIn K mainGlobals "law" = some (some (.ref gLaw)))
    (lk_Law : K.lookup gLaw = some ⟨ocLaw, odLaw, .func (fnOf "law" "law" (defArgs lLaw) (defBody lLaw) (defScope lLaw) .none kVLaw docLaw pmLaw anLaw cdvLaw ctLaw), oslLaw⟩)
    (cLaw : codeIn K cdvLaw "law" = true)
    (kLaw : keepIn K (.ref gLaw) = true)
    (zisinstance : nsIn K mainGlobals "isinstance" = some none)
    (zint : nsIn K mainGlobals "int" = some none)
    (zbool : nsIn K mainGlobals "bool" = some none)
    (zstr : nsIn K mainGlobals "str" = some none)
    (ztuple : nsIn K mainGlobals "tuple" = some none)
    (zlen : nsIn K mainGlobals "len" = some none)
    (zall : nsIn K mainGlobals "all" = some none)
    (zzip : nsIn K mainGlobals "zip" = some none)
    (zrange : nsIn K mainGlobals "range" = some none)
    (zlist : nsIn K mainGlobals "list" = some none)
    (zrepr : nsIn K mainGlobals "repr" = some none)
    (zsorted : nsIn K mainGlobals "sorted" = some none)
    (zset : nsIn K mainGlobals "set" = some none)
    (zenumerate : nsIn K mainGlobals "enumerate" = some none)
    (zmin : nsIn K mainGlobals "min" = some none)
    (zmax : nsIn K mainGlobals "max" = some none)
    (sp : specialIn K (.builtin "object.__class__") "__get__" = some (some (.builtin "getset_descriptor.__get__")))
    (tk : takesIn K (.builtin "object.__class__") = some true)
    (chk : chkE K B CB = true)
    (chkT : chkE K B CT = true)
    (chkO : chkE K B CO = true)
    : ∃ fd : FuncData, (∀ (s : Shared) (u : Value), BindsTo s fd ⟨[u], []⟩ [("_law_script", u)]) ∧ ∀ base : Heap, K.In base → base.Ns mainGlobals mg → FnG l.prog w K mg base CX0 10 fa fd ["_law_script"] (spLaw K) := by
  have e := hfa.symm.trans (mg_of X G aLaw)
  cases e
  have ck := chk_of chk
  have ckT := chk_of chkT
  have ckO := chk_of chkO
  have hB' : (clsIn K B).isSome = true ∧ typeIn K (.ref B) = some (.type "type") := by
    simpa using hB
  have T : TxtB mg := ⟨mg_none_of X G zisinstance, mg_none_of X G zint, mg_none_of X G zbool, mg_none_of X G zstr, mg_none_of X G ztuple, mg_none_of X G zlen, mg_none_of X G zall, mg_none_of X G zzip⟩
  have TD : TxtD mg := ⟨mg_none_of X G zlist, T.int, T.len⟩
  have TG : TxtG mg := ⟨T, TD, mg_none_of X G zrange, mg_none_of X G zsorted, mg_none_of X G zset, mg_none_of X G zenumerate, mg_none_of X G zrepr⟩
  have mMin := mg_none_of X G zmin
  have mMax := mg_none_of X G zmax
  have cls : Cls K C := ⟨pg, hd, po, sa⟩
  have TP : TxtP K C := ⟨cls, n_people, n_pairs⟩
  have TE : TxtE K mg CB IB := ⟨{ c := ck.ec sp tk, fls := by unfold IsFl; simp, nf := nEx, iC := jEx, fn := ⟨_, _, _, _, _, _, _, _, _, _, _, _, _, lEx, dEx⟩ }, ck.c10, mg_of X G aEx⟩
  have TL : TxtL K mg CT IT := ⟨{ c := ckT.ec sp tk, fls := by unfold IsFl; simp, nf := nTx, iC := jTx, fn := ⟨_, _, _, _, _, _, _, _, _, _, _, _, _, lTx, dTx⟩ }, ckT.c10, mg_of X G aTx⟩
  have TOr : TxtOr K mg CO := ⟨exO, mg_of X G aOx, kpO, subO, tyO⟩
  have mC := mg_of X G aC
  have mH := mg_of X G aB
  have IC : C8.InsC K C := ⟨cls, hac, sp, tk, hmc, by unfold kitOne; rw [if_pos (by simp)]⟩
  have TQ : TxtQ K C := ⟨IC, hcl⟩
  have exm : ∀ {Z : Addr}, ChkE K B Z → exmOne K (.ref Z) (.ref Z) = some true := fun {Z} ck => ck.exm (by rw [ck.mro]; rfl) (by
      unfold kitCls
      dsimp only
      rw [ck.isSome, ck.c10, if_pos (by simp), ck.mro]
      simp)
  have FI := fun_mk (st := sPInit) lk_I cI kI
  have bI := FI.binds (ps := pInit2) fun _ _ _ _ _ _ us hl => match us, hl with | [_, _, _], _ => rfl
  have FN := fun_mk (st := sPLen) lk_N cN kN
  have bN := FN.binds (ps := ["self"]) fun _ _ _ _ _ _ us hl => match us, hl with | [_], _ => rfl
  have FQ := fun_mk (st := sPEq) lk_Q cQ kQ
  have bQ := FQ.binds (ps := ["self", "other"]) fun _ _ _ _ _ _ us hl => match us, hl with | [_, _], _ => rfl
  have FO := fun_mk (st := sPOr) lk_O cO kO
  have bO := FO.binds (ps := ["self", "other"]) fun _ _ _ _ _ _ us hl => match us, hl with | [_, _], _ => rfl
  have FS := fun_mk (st := sPStr) lk_S cS kS
  have bS := FS.binds (ps := ["self"]) fun _ _ _ _ _ _ us hl => match us, hl with | [_], _ => rfl
  have FR := fun_mk (st := sPRead) lk_R cR kR
  have bR := FR.binds (ps := ["cls", "text"]) fun _ _ _ _ _ _ us hl => match us, hl with | [_, _], _ => rfl
  have FH := fun_mk (st := sPHear) lk_H cH kH
  have bH := FH.binds (ps := ["self", "person"]) fun _ _ _ _ _ _ us hl => match us, hl with | [_, _], _ => rfl
  have FInt := fun_mk (st := sIsInt) lk_Int cInt kInt
  have bInt := FInt.binds (ps := ["thing"]) fun _ _ _ _ _ _ us hl => match us, hl with | [_], _ => rfl
  have FBet := fun_mk (st := sIsBet) lk_Bet cBet kBet
  have bBet := FBet.binds (ps := ["thing", "low", "high"]) fun _ _ _ _ _ _ us hl => match us, hl with | [_, _, _], _ => rfl
  have FTup := fun_mk (st := sIsTup) lk_Tup cTup kTup
  have bTup := FTup.binds (ps := ["thing", "low", "high"]) fun _ _ _ _ _ _ us hl => match us, hl with | [_, _, _], _ => rfl
  have FAsc := fun_mk (st := sIsAsc) lk_Asc cAsc kAsc
  have bAsc := FAsc.binds (ps := ["items"]) fun _ _ _ _ _ _ us hl => match us, hl with | [_], _ => rfl
  have FPeople := fun_mk (st := sIsPeople) lk_People cPeople kPeople
  have bPeople := FPeople.binds (ps := ["thing"]) fun _ _ _ _ _ _ us hl => match us, hl with | [_], _ => rfl
  have FNumIn := fun_mk (st := sNumIn) lk_NumIn cNumIn kNumIn
  have bNumIn := FNumIn.binds (ps := ["word"]) fun _ _ _ _ _ _ us hl => match us, hl with | [_], _ => rfl
  have FNumsIn := fun_mk (st := sNumsIn) lk_NumsIn cNumsIn kNumsIn
  have bNumsIn := FNumsIn.binds (ps := ["words"]) fun _ _ _ _ _ _ us hl => match us, hl with | [_], _ => rfl
  have FPair := fun_mk (st := sIsPair) lk_Pair cPair kPair
  have bPair := FPair.binds (ps := ["people", "thing"]) fun _ _ _ _ _ _ us hl => match us, hl with | [_, _], _ => rfl
  have FPairs := fun_mk (st := sArePairs) lk_Pairs cPairs kPairs
  have bPairs := FPairs.binds (ps := ["people", "thing"]) fun _ _ _ _ _ _ us hl => match us, hl with | [_, _], _ => rfl
  have FBehind := fun_mk (st := sBehind) lk_Behind cBehind kBehind
  have bBehind := FBehind.binds (ps := ["line", "word"]) fun _ _ _ _ _ _ us hl => match us, hl with | [_, _], _ => rfl
  have FPartsIn := fun_mk (st := sPartsIn) lk_PartsIn cPartsIn kPartsIn
  have bPartsIn := FPartsIn.binds (ps := ["text"]) fun _ _ _ _ _ _ us hl => match us, hl with | [_], _ => rfl
  have FDeck := fun_mk (st := lDeck) lk_Deck cDeck kDeck
  have bDeck := FDeck.binds (ps := ["_law_script"]) fun _ _ _ _ _ _ us hl => match us, hl with | [_], _ => rfl
  have FDraw := fun_mk (st := lDraw) lk_Draw cDraw kDraw
  have bDraw := FDraw.binds (ps := ["_law_deck_here", "_law_below"]) fun _ _ _ _ _ _ us hl => match us, hl with | [_, _], _ => rfl
  have FPick := fun_mk (st := lPick) lk_Pick cPick kPick
  have bPick := FPick.binds (ps := ["_law_deck_here", "_law_some"]) fun _ _ _ _ _ _ us hl => match us, hl with | [_, _], _ => rfl
  have FRule := fun_mk (st := lRule) lk_Rule cRule kRule
  have bRule := FRule.binds (ps := ["_law_deck_here", "_law_many"]) fun _ _ _ _ _ _ us hl => match us, hl with | [_, _], _ => rfl
  have FBent := fun_mk (st := lBent) lk_Bent cBent kBent
  have bBent := FBent.binds (ps := ["_law_deck_here", "_law_it"]) fun _ _ _ _ _ _ us hl => match us, hl with | [_, _], _ => rfl
  have FWhole := fun_mk (st := lWhole) lk_Whole cWhole kWhole
  have bWhole := FWhole.binds (ps := ["_law_it"]) fun _ _ _ _ _ _ us hl => match us, hl with | [_], _ => rfl
  have FDue := fun_mk (st := lDue) lk_Due cDue kDue
  have bDue := FDue.binds (ps := ["_law_lot"]) fun _ _ _ _ _ _ us hl => match us, hl with | [_], _ => rfl
  have FHeard := fun_mk (st := lHeard) lk_Heard cHeard kHeard
  have bHeard := FHeard.binds (ps := ["_law_lot", "_law_is_named"]) fun _ _ _ _ _ _ us hl => match us, hl with | [_, _], _ => rfl
  have FMade := fun_mk (st := lMade) lk_Made cMade kMade
  have bMade := FMade.binds (ps := ["_law_lot", "_law_is_named"]) fun _ _ _ _ _ _ us hl => match us, hl with | [_, _], _ => rfl
  have FWritten := fun_mk (st := lWritten) lk_Written cWritten kWritten
  have bWritten := FWritten.binds (ps := ["_law_many", "_law_pairs_now"]) fun _ _ _ _ _ _ us hl => match us, hl with | [_, _], _ => rfl
  have FNumber := fun_mk (st := lNumber) lk_Number cNumber kNumber
  have bNumber := FNumber.binds (ps := ["_law_word"]) fun _ _ _ _ _ _ us hl => match us, hl with | [_], _ => rfl
  have FReadDue := fun_mk (st := lReadDue) lk_ReadDue cReadDue kReadDue
  have bReadDue := FReadDue.binds (ps := ["_law_it"]) fun _ _ _ _ _ _ us hl => match us, hl with | [_], _ => rfl
  have FRead := fun_mk (st := lRead) lk_Read cRead kRead
  have bRead := FRead.binds (ps := ["_law_it", "_law_is_named"]) fun _ _ _ _ _ _ us hl => match us, hl with | [_, _], _ => rfl
  have FPageBent := fun_mk (st := lPageBent) lk_PageBent cPageBent kPageBent
  have bPageBent := FPageBent.binds (ps := ["_law_deck_here", "_law_page"]) fun _ _ _ _ _ _ us hl => match us, hl with | [_, _], _ => rfl
  have FTexts := fun_mk (st := lTexts) lk_Texts cTexts kTexts
  have bTexts := FTexts.binds (ps := ["_law_deck_here", "_law_code", "_law_many", "_law_pairs_now"]) fun _ _ _ _ _ _ us hl => match us, hl with | [_, _, _, _], _ => rfl
  have FJoined := fun_mk (st := lJoined) lk_Joined cJoined kJoined
  have bJoined := FJoined.binds (ps := ["_law_one", "_law_other"]) fun _ _ _ _ _ _ us hl => match us, hl with | [_, _], _ => rfl
  have FTwo := fun_mk (st := lTwo) lk_Two cTwo kTwo
  have bTwo := FTwo.binds (ps := ["_law_deck_here", "_law_code", "_law_many", "_law_pairs_now"]) fun _ _ _ _ _ _ us hl => match us, hl with | [_, _, _, _], _ => rfl
  have FLaw := fun_mk (st := lLaw) lk_Law cLaw kLaw
  have bLaw := FLaw.binds (ps := ["_law_script"]) fun _ _ _ _ _ _ us hl => match us, hl with | [_], _ => rfl
  have kb : ∀ (s2 : Shared) (a : Addr) (ws : List Value), K.In s2.heap → ws.length = kInit2.length → BindsTo s2 (fnOf "__init__" "Policy.__init__" (defArgs sPInit) (defBody sPInit) (defScope sPInit) .none kVI docI pmI anI cdvI ctI) ⟨[.ref a], kInit2.zip ws⟩ (pInit2.zip (.ref a :: ws.reverse)) := fun s2 a ws _ hl => match ws, hl with
    | [_, _], _ => .of_eq (fd := (fnOf "__init__" "Policy.__init__" (defArgs sPInit) (defBody sPInit) (defScope sPInit) .none kVI docI pmI anI cdvI ctI)) rfl
  have kbR : ∀ (s2 : Shared) (ws : List Value), K.In s2.heap → ws.length = ["text"].length → BindsTo s2 (fnOf "read" "Policy.read" (defArgs sPRead) (defBody sPRead) (defScope sPRead) .none kVR docR pmR anR cdvR ctR) ⟨[.ref C], (["text"] : List Str).zip ws⟩ ((["cls", "text"] : List Str).zip (.ref C :: ws.reverse)) := fun s2 ws _ hl => match ws, hl with
    | [_], _ => .of_eq (fd := (fnOf "read" "Policy.read" (defArgs sPRead) (defBody sPRead) (defScope sPRead) .none kVR docR pmR anR cdvR ctR)) rfl
  have kbH : KBinds K (fnOf "hearers" "Policy.hearers" (defArgs sPHear) (defBody sPHear) (defScope sPHear) .none kVH docH pmH anH cdvH ctH) ["self", "person"] ["person"] gApp gAppV := kb_person fun _ _ => rfl
  have M : Mk K C fI := ⟨mk, jI, iI, kc⟩
  have TH : TxtH K mg CB IB C B fI (fnOf "__init__" "Policy.__init__" (defArgs sPInit) (defBody sPInit) (defScope sPInit) .none kVI docI pmI anI cdvI ctI) := ⟨TE, exm ck, M, mC, bI, kb, mH, ck.base hB'.1 hB'.2⟩
  have TV : TxtV K mg CT IT C B fR (fnOf "read" "Policy.read" (defArgs sPRead) (defBody sPRead) (defScope sPRead) .none kVR docR pmR anR cdvR ctR) (.type "type") pR := ⟨TL, exm ckT, mC, ⟨rdC, gaC⟩, ⟨atR, ⟨_, rcR⟩, fiR⟩, bR, kbR, mH, ckT.base hB'.1 hB'.2⟩
  have TJ : TxtJ K mg CO C B fO _ := ⟨ckO.ec sp tk, mg_of X G aOx, exm ckO, jO, iO, bO, sfC, mH, ckO.base hB'.1 hB'.2⟩
  have MH : Meth K C "hearers" fH := ⟨jH, iH, kH⟩
  refine ⟨_, fun s u => .of_eq (fd := fnOf "law" "law" (defArgs lLaw) (defBody lLaw) (defScope lLaw) .none kVLaw docLaw pmLaw anLaw cdvLaw ctLaw) rfl, fun base _ _ => ?_⟩
  have CInt : Cal K mg "is_int" gInt _ ["thing"] := ⟨mg_of X G aInt, kInt, bInt⟩
  have CBet : Cal K mg "is_between" gBet _ ["thing", "low", "high"] := ⟨mg_of X G aBet, kBet, bBet⟩
  have CTup : Cal K mg "is_tuple_of" gTup _ ["thing", "low", "high"] := ⟨mg_of X G aTup, kTup, bTup⟩
  have CAsc : Cal K mg "is_ascending" gAsc _ ["items"] := ⟨mg_of X G aAsc, kAsc, bAsc⟩
  have CPeople : Cal K mg "is_people" gPeople _ ["thing"] := ⟨mg_of X G aPeople, kPeople, bPeople⟩
  have CNumIn : Cal K mg "number_in" gNumIn _ ["word"] := ⟨mg_of X G aNumIn, kNumIn, bNumIn⟩
  have CNumsIn : Cal K mg "numbers_in" gNumsIn _ ["words"] := ⟨mg_of X G aNumsIn, kNumsIn, bNumsIn⟩
  have CPair : Cal K mg "is_pair" gPair _ ["people", "thing"] := ⟨mg_of X G aPair, kPair, bPair⟩
  have CPairs : Cal K mg "are_pairs" gPairs _ ["people", "thing"] := ⟨mg_of X G aPairs, kPairs, bPairs⟩
  have CBehind : Cal K mg "numbers_behind_word" gBehind _ ["line", "word"] := ⟨mg_of X G aBehind, kBehind, bBehind⟩
  have CPartsIn : Cal K mg "parts_in" gPartsIn _ ["text"] := ⟨mg_of X G aPartsIn, kPartsIn, bPartsIn⟩
  have CDeck : Cal K mg "_law_deck" gDeck _ ["_law_script"] := ⟨mg_of X G aDeck, kDeck, bDeck⟩
  have CDraw : Cal K mg "_law_draw" gDraw _ ["_law_deck_here", "_law_below"] := ⟨mg_of X G aDraw, kDraw, bDraw⟩
  have CPick : Cal K mg "_law_pick" gPick _ ["_law_deck_here", "_law_some"] := ⟨mg_of X G aPick, kPick, bPick⟩
  have CRule : Cal K mg "_law_rule" gRule _ ["_law_deck_here", "_law_many"] := ⟨mg_of X G aRule, kRule, bRule⟩
  have CBent : Cal K mg "_law_bent" gBent _ ["_law_deck_here", "_law_it"] := ⟨mg_of X G aBent, kBent, bBent⟩
  have CWhole : Cal K mg "_law_is_whole" gWhole _ ["_law_it"] := ⟨mg_of X G aWhole, kWhole, bWhole⟩
  have CDue : Cal K mg "_law_due" gDue _ ["_law_lot"] := ⟨mg_of X G aDue, kDue, bDue⟩
  have CHeard : Cal K mg "_law_heard" gHeard _ ["_law_lot", "_law_is_named"] := ⟨mg_of X G aHeard, kHeard, bHeard⟩
  have CMade : Cal K mg "_law_made_right" gMade _ ["_law_lot", "_law_is_named"] := ⟨mg_of X G aMade, kMade, bMade⟩
  have CWritten : Cal K mg "_law_written" gWritten _ ["_law_many", "_law_pairs_now"] := ⟨mg_of X G aWritten, kWritten, bWritten⟩
  have CNumber : Cal K mg "_law_number" gNumber _ ["_law_word"] := ⟨mg_of X G aNumber, kNumber, bNumber⟩
  have CReadDue : Cal K mg "_law_read_due" gReadDue _ ["_law_it"] := ⟨mg_of X G aReadDue, kReadDue, bReadDue⟩
  have CRead : Cal K mg "_law_read" gRead _ ["_law_it", "_law_is_named"] := ⟨mg_of X G aRead, kRead, bRead⟩
  have CPageBent : Cal K mg "_law_page_bent" gPageBent _ ["_law_deck_here", "_law_page"] := ⟨mg_of X G aPageBent, kPageBent, bPageBent⟩
  have CTexts : Cal K mg "_law_texts_right" gTexts _ ["_law_deck_here", "_law_code", "_law_many", "_law_pairs_now"] := ⟨mg_of X G aTexts, kTexts, bTexts⟩
  have CJoined : Cal K mg "_law_joined" gJoined _ ["_law_one", "_law_other"] := ⟨mg_of X G aJoined, kJoined, bJoined⟩
  have CTwo : Cal K mg "_law_two_right" gTwo _ ["_law_deck_here", "_law_code", "_law_many", "_law_pairs_now"] := ⟨mg_of X G aTwo, kTwo, bTwo⟩
  have GInt := ok_int (P := l.prog) (w := w) (mg := mg) (base := base) FInt T
  have GBet := ok_bet (P := l.prog) (w := w) (mg := mg) (base := base) FBet T GInt CInt
  have GTup := ok_tup (P := l.prog) (w := w) (mg := mg) (base := base) FTup T
  have GAsc := ok_asc (P := l.prog) (w := w) (mg := mg) (base := base) FAsc T
  have GPeople := ok_people (P := l.prog) (w := w) (mg := mg) (base := base) FPeople ⟨_, mg_of X G m0⟩ GBet CBet
  have GNumIn := ok_numIn (P := l.prog) (w := w) (mg := mg) (base := base) FNumIn T.len T.int ⟨_, mg_of X G m1⟩
  have GNumsIn := ok_numsIn (P := l.prog) (w := w) (mg := mg) (base := base) FNumsIn T.tuple GNumIn CNumIn
  have GPair := ok_pair (P := l.prog) (w := w) (mg := mg) (base := base) FPair T GTup CTup GBet CBet
  have GPairs := ok_pairs (P := l.prog) (w := w) (mg := mg) (base := base) FPairs T GPair CPair GAsc CAsc
  have GBehind := ok_behind (P := l.prog) (w := w) (mg := mg) (base := base) FBehind GNumsIn CNumsIn
  have GPartsIn := ok_partsIn (P := l.prog) (w := w) (mg := mg) (base := base) FPartsIn T TL T.len TG.enum GBehind CBehind GPeople CPeople GPair CPair
  have GInit := ok_pinit (P := l.prog) (w := w) (mg := mg) (base := base) FI TP TE GPeople CPeople GPairs CPairs
  have GN := ok_plen (P := l.prog) (w := w) (mg := mg) (base := base) FN TP T.len
  have GQ := ok_peq (P := l.prog) (w := w) (mg := mg) (base := base) FQ TP TQ T mC
  have GO := ok_por (P := l.prog) (w := w) (mg := mg) (base := base) FO TP TOr GInit M bI mC T.tuple TG.sorted TG.set
  have GS := ok_pstr (P := l.prog) (w := w) (mg := mg) (base := base) FS TP
  have GR := ok_pread (P := l.prog) (w := w) (mg := mg) (base := base) FR GPartsIn CPartsIn GInit M bI
  have GH := ok_hear (P := l.prog) (w := w) (mg := mg) (base := base) FH TP T.tuple TG.sorted
  have RF : PolFns l.prog w K mg base C CB fI fQ fN _ _ _ := ⟨GInit, M, bI, GQ, jQ, iQ, bQ, hne, hmc, GN, jN, iN, bN⟩
  have GDeck := ok_deck (P := l.prog) (w := w) (mg := mg) (base := base) FDeck TD
  have GDraw := ok_draw (P := l.prog) (w := w) (mg := mg) (base := base) FDraw TD
  have GPick := ok_pick (P := l.prog) (w := w) (mg := mg) (base := base) FPick TD GDraw CDraw
  have GRule := ok_rule (P := l.prog) (w := w) (mg := mg) (base := base) FRule TG GDraw CDraw
  have GBent := ok_bent5 (P := l.prog) (w := w) (mg := mg) (base := base) FBent TG CBent GDraw CDraw GPick CPick
  have GWhole := ok_whole (P := l.prog) (w := w) (mg := mg) (base := base) FWhole T
  have GDue := ok_dueL (P := l.prog) (w := w) (mg := mg) (base := base) FDue TG GWhole CWhole
  have GHeard := ok_heard (P := l.prog) (w := w) (mg := mg) (base := base) FHeard TH T GInit
  have GMade := ok_made (P := l.prog) (w := w) (mg := mg) (base := base) FMade TG TP TQ mC RF GDue CDue GHeard CHeard
  have GWritten := ok_written (P := l.prog) (w := w) (mg := mg) (base := base) FWritten T
  have GNumber := ok_numL (P := l.prog) (w := w) (mg := mg) (base := base) FNumber T
  have GReadDue := ok_readDue (P := l.prog) (w := w) (mg := mg) (base := base) FReadDue TG mMin mMax GNumber CNumber
  have GRead := ok_readL (P := l.prog) (w := w) (mg := mg) (base := base) FRead TV TP T GR
  have GPageBent := ok_pageBent (P := l.prog) (w := w) (mg := mg) (base := base) FPageBent TG GDraw CDraw GPick CPick
  have GTexts := ok_texts (P := l.prog) (w := w) (mg := mg) (base := base) FTexts TG TQ mC RF GS jS iS bS TV GR GWritten CWritten GPageBent CPageBent GReadDue CReadDue GRead CRead
  have GJoined := ok_joined (P := l.prog) (w := w) (mg := mg) (base := base) FJoined TJ TP TQ T GO
  have GTwo := ok_two (P := l.prog) (w := w) (mg := mg) (base := base) FTwo TG TP TQ mC RF TJ GO GDraw CDraw GRule CRule GJoined CJoined
  have LF : LawFns l.prog w K mg base C gDeck gDraw gRule gDue gMade gBent gHeard gTwo gTexts fH _ _ _ _ _ _ _ _ _ _ := ⟨GDeck, CDeck, GDraw, CDraw, GRule, CRule, GDue, CDue, GMade, CMade, GBent, CBent, GHeard, CHeard, GTwo, CTwo, GTexts, CTexts, GH, MH, bH, kbH⟩
  exact ok_law FLaw TG TP LF
theorem walk {l : PySem.W.OpenLaw} {q : Program} {loose : List Str} {XP : (Str → Option Value) → Heap → Prop} {YP : World → Heap → Prop} {d : DefRec} {K : Params → Frag} (hn : l.most = some 63) (hdf : d.params.defaults = []) (hY : ∀ (w : World) (h : Heap), YP w h → (K w.params).In h)
    (F : ∀ (w : World) (mg : Str → Option Value) (fa : Addr) (h : Heap), (K w.params).In h → h.Ns mainGlobals mg → mg d.name = some (.ref fa) →
      ∃ fd : FuncData, (∀ (s : Shared) (u : Value), BindsTo s fd ⟨[u], []⟩ [("_law_script", u)]) ∧ ∀ base : Heap, (K w.params).In base → base.Ns mainGlobals mg → FnG l.prog w (K w.params) mg base CX0 10 fa fd ["_law_script"] (spLaw (K w.params))) : WalkO q loose XP YP l.row.toRowW d [] (fun f vs => PySem.call f vs) :=
  walkG (n := 63) (k := 10) (x := "_law_script") (CX := fun _ => CX0) (sp := fun w => spLaw (K w.params)) hn (by decide) hdf ⟨rfl, by decide, by decide⟩ hY F (fun _ _ a ns hl _ hS => ⟨a, ns, rfl, hS, hl, fun _ => rfl⟩) fun _ _ _ _ _ z => z
end KL
set_option Elab.async false
open PySem PySem.W PyProof.Rows in
set_option maxRecDepth 100000 in
set_option maxHeartbeats 0 in
theorem PySem.Challenge.cw_loghouse_k40_policies_holds : PySem.Challenge.rw_loghouse_k40_policies.Holds := by
  w_on; o_law; k_head; (case hw => w_witness2)
  k_fill
  refine KL.walk (l := PySem.Challenge.rw_loghouse_k40_policies) rfl rfl (fun w h Y => PySem.W.kIn_of Y) ?F
  case F =>
    intro w mg fa h KX G hmg
    refine' KL.all_mk KX G hmg ?aB ?hB ?aEx ?nEx ?jEx ?lEx ?dEx ?aTx ?nTx ?jTx ?lTx ?dTx ?aOx ?exO ?kpO ?subO ?tyO ?aC ?jI ?iI ?jN ?iN ?jQ ?iQ ?jO ?iO ?jS ?iS ?jH ?iH ?rdC ?gaC ?atR ?rcR ?fiR ?sfC ?lk_I ?cI ?kI ?lk_N ?cN ?kN ?lk_Q ?cQ ?kQ ?lk_O ?cO ?kO ?lk_S ?cS ?kS ?lk_R ?cR ?kR ?lk_H ?cH ?kH ?pg ?hd ?po ?sa ?mk ?kc ?hac ?hmc ?hne ?hcl ?n_people ?n_pairs ?m0 ?m1 ?aInt ?lk_Int ?cInt ?kInt ?aBet ?lk_Bet ?cBet ?kBet ?aTup ?lk_Tup ?cTup ?kTup ?aAsc ?lk_Asc ?cAsc ?kAsc ?aPeople ?lk_People ?cPeople ?kPeople ?aNumIn ?lk_NumIn ?cNumIn ?kNumIn ?aNumsIn ?lk_NumsIn ?cNumsIn ?kNumsIn ?aPair ?lk_Pair ?cPair ?kPair ?aPairs ?lk_Pairs ?cPairs ?kPairs ?aBehind ?lk_Behind ?cBehind ?kBehind ?aPartsIn ?lk_PartsIn ?cPartsIn ?kPartsIn ?aDeck ?lk_Deck ?cDeck ?kDeck ?aDraw ?lk_Draw ?cDraw ?kDraw ?aPick ?lk_Pick ?cPick ?kPick ?aRule ?lk_Rule ?cRule ?kRule ?aBent ?lk_Bent ?cBent ?kBent ?aWhole ?lk_Whole ?cWhole ?kWhole ?aDue ?lk_Due ?cDue ?kDue ?aHeard ?lk_Heard ?cHeard ?kHeard ?aMade ?lk_Made ?cMade ?kMade ?aWritten ?lk_Written ?cWritten ?kWritten ?aNumber ?lk_Number ?cNumber ?kNumber ?aReadDue ?lk_ReadDue ?cReadDue ?kReadDue ?aRead ?lk_Read ?cRead ?kRead ?aPageBent ?lk_PageBent ?cPageBent ?kPageBent ?aTexts ?lk_Texts ?cTexts ?kTexts ?aJoined ?lk_Joined ?cJoined ?kJoined ?aTwo ?lk_Two ?cTwo ?kTwo ?aLaw ?lk_Law ?cLaw ?kLaw ?zisinstance ?zint ?zbool ?zstr ?ztuple ?zlen ?zall ?zzip ?zrange ?zlist ?zrepr ?zsorted ?zset ?zenumerate ?zmin ?zmax ?sp ?tk ?chk ?chkT ?chkO
    (case aB => k_is)
    (case hB => kernel_rfl)
    (case aEx => k_is)
    (case nEx => k_is)
    (case jEx => k_is)
    (case lEx => k_is)
    (case dEx => k_is)
    (case aTx => k_is)
    (case nTx => k_is)
    (case jTx => k_is)
    (case lTx => k_is)
    (case dTx => k_is)
    (case aOx => k_is)
    (case exO => kernel_rfl)
    (case kpO => k_is)
    (case subO => k_is)
    (case tyO => k_is)
    (case aC => k_is)
    (case jI => k_is)
    (case iI => k_is)
    (case jN => k_is)
    (case iN => k_is)
    (case jQ => k_is)
    (case iQ => k_is)
    (case jO => k_is)
    (case iO => k_is)
    (case jS => k_is)
    (case iS => k_is)
    (case jH => k_is)
    (case iH => k_is)
    (case rdC => k_is)
    (case gaC => k_is)
    (case atR => k_is)
    (case rcR => k_is)
    (case fiR => k_is)
    (case sfC => k_is)
    (case lk_I => k_is)
    (case cI => k_is)
    (case kI => k_is)
    (case lk_N => k_is)
    (case cN => k_is)
    (case kN => k_is)
    (case lk_Q => k_is)
    (case cQ => k_is)
    (case kQ => k_is)
    (case lk_O => k_is)
    (case cO => k_is)
    (case kO => k_is)
    (case lk_S => k_is)
    (case cS => k_is)
    (case kS => k_is)
    (case lk_R => k_is)
    (case cR => k_is)
    (case kR => k_is)
    (case lk_H => k_is)
    (case cH => k_is)
    (case kH => k_is)
    (case pg => k_is)
    (case hd => k_is)
    (case po => k_is)
    (case sa => k_is)
    (case mk => k_is)
    (case kc => k_is)
    (case hac => k_is)
    (case hmc => k_is)
    (case hne => k_is)
    (case hcl => kernel_rfl)
    (case n_people => k_is)
    (case n_pairs => k_is)
    (case m0 => k_is)
    (case m1 => k_is)
    (case aInt => k_is)
    (case lk_Int => k_is)
    (case cInt => k_is)
    (case kInt => k_is)
    (case aBet => k_is)
    (case lk_Bet => k_is)
    (case cBet => k_is)
    (case kBet => k_is)
    (case aTup => k_is)
    (case lk_Tup => k_is)
    (case cTup => k_is)
    (case kTup => k_is)
    (case aAsc => k_is)
    (case lk_Asc => k_is)
    (case cAsc => k_is)
    (case kAsc => k_is)
    (case aPeople => k_is)
    (case lk_People => k_is)
    (case cPeople => k_is)
    (case kPeople => k_is)
    (case aNumIn => k_is)
    (case lk_NumIn => k_is)
    (case cNumIn => k_is)
    (case kNumIn => k_is)
    (case aNumsIn => k_is)
    (case lk_NumsIn => k_is)
    (case cNumsIn => k_is)
    (case kNumsIn => k_is)
    (case aPair => k_is)
    (case lk_Pair => k_is)
    (case cPair => k_is)
    (case kPair => k_is)
    (case aPairs => k_is)
    (case lk_Pairs => k_is)
    (case cPairs => k_is)
    (case kPairs => k_is)
    (case aBehind => k_is)
    (case lk_Behind => k_is)
    (case cBehind => k_is)
    (case kBehind => k_is)
    (case aPartsIn => k_is)
    (case lk_PartsIn => k_is)
    (case cPartsIn => k_is)
    (case kPartsIn => k_is)
    (case aDeck => k_is)
    (case lk_Deck => k_is)
    (case cDeck => k_is)
    (case kDeck => k_is)
    (case aDraw => k_is)
    (case lk_Draw => k_is)
    (case cDraw => k_is)
    (case kDraw => k_is)
    (case aPick => k_is)
    (case lk_Pick => k_is)
    (case cPick => k_is)
    (case kPick => k_is)
    (case aRule => k_is)
    (case lk_Rule => k_is)
    (case cRule => k_is)
    (case kRule => k_is)
    (case aBent => k_is)
    (case lk_Bent => k_is)
    (case cBent => k_is)
    (case kBent => k_is)
    (case aWhole => k_is)
    (case lk_Whole => k_is)
    (case cWhole => k_is)
    (case kWhole => k_is)
    (case aDue => k_is)
    (case lk_Due => k_is)
    (case cDue => k_is)
    (case kDue => k_is)
    (case aHeard => k_is)
    (case lk_Heard => k_is)
    (case cHeard => k_is)
    (case kHeard => k_is)
    (case aMade => k_is)
    (case lk_Made => k_is)
    (case cMade => k_is)
    (case kMade => k_is)
    (case aWritten => k_is)
    (case lk_Written => k_is)
    (case cWritten => k_is)
    (case kWritten => k_is)
    (case aNumber => k_is)
    (case lk_Number => k_is)
    (case cNumber => k_is)
    (case kNumber => k_is)
    (case aReadDue => k_is)
    (case lk_ReadDue => k_is)
    (case cReadDue => k_is)
    (case kReadDue => k_is)
    (case aRead => k_is)
    (case lk_Read => k_is)
    (case cRead => k_is)
    (case kRead => k_is)
    (case aPageBent => k_is)
    (case lk_PageBent => k_is)
    (case cPageBent => k_is)
    (case kPageBent => k_is)
    (case aTexts => k_is)
    (case lk_Texts => k_is)
    (case cTexts => k_is)
    (case kTexts => k_is)
    (case aJoined => k_is)
    (case lk_Joined => k_is)
    (case cJoined => k_is)
    (case kJoined => k_is)
    (case aTwo => k_is)
    (case lk_Two => k_is)
    (case cTwo => k_is)
    (case kTwo => k_is)
    (case aLaw => k_is)
    (case lk_Law => k_is)
    (case cLaw => k_is)
    (case kLaw => k_is)
    (case zisinstance => k_is)
    (case zint => k_is)
    (case zbool => k_is)
    (case zstr => k_is)
    (case ztuple => k_is)
    (case zlen => k_is)
    (case zall => k_is)
    (case zzip => k_is)
    (case zrange => k_is)
    (case zlist => k_is)
    (case zrepr => k_is)
    (case zsorted => k_is)
    (case zset => k_is)
    (case zenumerate => k_is)
    (case zmin => k_is)
    (case zmax => k_is)
    (case sp => k_is)
    (case tk => k_is)
    (case chk => kernel_rfl)
    (case chkT => kernel_rfl)
    (case chkO => kernel_rfl)
