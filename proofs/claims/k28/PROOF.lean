import PyProof.Rows.All
import Wide.All
import OpenK.AllK
import Wide.FinOn
import HandS.ForMost
import HandS.ForExc
import HandS.Style
import HandS.IsInst
import HandS.TupLe
import HandS.Zip
import PyProof.ReprRoads
import PyProof.EqAt
import PyProof.EqKinds
import HandS.Walk
import HandS.TupAny
import PyProof.NeKinds
import HandS.DictComp
import HandS.SortInts
import KE.SortData
import KE.KDictPairs
import HandS.SetKeys
import HandS.SetFor
import HandS.Conv
import HandS.TupMul
import PyProof.ListMulRoad
import PyProof.FactsAll.tuple_2
import HandS.Ends
import PyProof.StrLawsRepr
import PyProof.FitsInt
import HandS.Codes
import HandS.Iter
import PySem.Challenge.RW_loghouse_k28_written_and_begun
set_option Elab.async false
set_option linter.all false
set_option maxRecDepth 100000
set_option maxHeartbeats 2000000
namespace KL
open PySem L2 PySem.Spec PyProof.Rows
/-! ### data, dicts among them -/
mutual
inductive Dq (H : Hp) : V → PyData → Prop
  | non : Dq H .non .none
  | bl (b : Bool) : Dq H (.bl b) (.bool b)
  | int (i : Int) : Dq H (.int i) (.int i)
  | str (x : Str) : Dq H (.str x) (.str x)
  | lst {a : Addr} {xs : List V} {ds : List PyData} : H a = some (.lst xs) → DqAll H xs ds → Dq H (.ref a) (.list ds)
  | tup {a : Addr} {xs : List V} {ds : List PyData} : H a = some (.tup xs) → DqAll H xs ds → Dq H (.ref a) (.tuple ds)
  | dct0 {a : Addr} : H a = some (.dK []) → Dq H (.ref a) (.dict [])
  | dct1 {a : Addr} {x : Str} {i : Int} : H a = some (.dK [(Sum.inr x, V.int i)]) → Dq H (.ref a) (.dict [(.str x, .int i)])
inductive DqAll (H : Hp) : List V → List PyData → Prop
  | nil : DqAll H [] []
  | cons {v : V} {vs : List V} {d : PyData} {ds : List PyData} : Dq H v d → DqAll H vs ds → DqAll H (v :: vs) (d :: ds)
end
mutual
theorem Dq.same {H H' : Hp} (e : Same H H') : ∀ (d : PyData) (v : V), Dq H v d → Dq H' v d
  | .none, _, h => by
    cases h
    exact .non
  | .bool _, _, h => by
    cases h
    exact .bl _
  | .int _, _, h => by
    cases h
    exact .int _
  | .str _, _, h => by
    cases h
    exact .str _
  | .list ds, _, h => by
    cases h with
    | lst q r => exact .lst (e _ _ q) (DqAll.same e ds _ r)
  | .tuple ds, _, h => by
    cases h with
    | tup q r => exact .tup (e _ _ q) (DqAll.same e ds _ r)
  | .dict kvs, _, h => by
    cases h with
    | dct0 q => exact .dct0 (e _ _ q)
    | dct1 q => exact .dct1 (e _ _ q)
theorem DqAll.same {H H' : Hp} (e : Same H H') : ∀ (ds : List PyData) (vs : List V), DqAll H vs ds → DqAll H' vs ds
  | [], _, h => by
    cases h
    exact .nil
  | d :: ds, _, h => by
    cases h with
    | cons q r => exact .cons (Dq.same e d _ q) (DqAll.same e ds _ r)
end
theorem same_new {H : Hp} {p : Addr} {o : HO} (h : H p = none) : Same H (upd H p o) := fun b u e => by
  rw [upd_ne (ne_of_none e h)]
  exact e
theorem DqAll.get {H : Hp} : ∀ (ds : List PyData) (vs : List V) (i : Nat) (v : V), DqAll H vs ds → vs[i]? = some v → ∃ d, d ∈ ds ∧ Dq H v d
  | _, _, i, v, .nil, e => by simp at e
  | _, _, 0, v, .cons (d := d) h _, e => by
    simp at e
    subst e
    exact ⟨d, by simp, h⟩
  | _, _, i + 1, v, .cons _ r, e => by
    obtain ⟨d, hd, h⟩ := DqAll.get _ _ i v r (by simpa using e)
    exact ⟨d, by simp [hd], h⟩

theorem iteNo {b : Bool} {A B : Prop} (hb : b = false) (h : B) : if b = true then A else B := by
  subst hb
  exact iteF h
theorem iteYes {b : Bool} {A B : Prop} (hb : b = true) (h : A) : if b = true then A else B := by
  subst hb
  exact iteT h
/-! ### kinds -/
def tyName : PyData → String
  | .none => "NoneType"
  | .bool _ => "bool"
  | .int _ => "int"
  | .str _ => "str"
  | .list _ => "list"
  | .tuple _ => "tuple"
  | .dict _ => "dict"
theorem Dq.ty {K : PySem.W.Frag} {H : Hp} {v : V} {d : PyData} (h : Dq H v d) : TyX K H v (.type (tyName d)) := by
  cases h with
  | non => exact .base .non
  | bl b => exact .base (.bl b)
  | int i => exact .base (.int i)
  | str x => exact .base (.str x)
  | lst e _ => exact .base (.lst e)
  | tup e _ => exact .base (.tup e)
  | dct0 e => exact .base (.dK e)
  | dct1 e => exact .base (.dK e)
/-- isinstance of data, by the name of a built-in class -/
def isA (T : String) (d : PyData) : Bool := (kitB (tyName d) T).getD false
def kinds4 : List String := ["int", "bool", "str", "tuple", "list", "dict"]
theorem kit_data {K : PySem.W.Frag} {T : String} (hT : T ∈ kinds4) (d : PyData) : PySem.W.kitOne K (.type (tyName d)) (.type T) = some (isA T d) := by
  have z : (kinds4.all fun T => ["NoneType", "bool", "int", "str", "list", "tuple", "dict"].all fun n => (kitB n T).isSome) = true := by decide +kernel
  have y := List.all_eq_true.mp z T hT
  have n : tyName d ∈ ["NoneType", "bool", "int", "str", "list", "tuple", "dict"] := by cases d <;> simp [tyName]
  have x := List.all_eq_true.mp y _ n
  obtain ⟨b, hb⟩ := Option.isSome_iff_exists.mp x
  rw [kit_ty hb]
  unfold isA
  rw [hb]
  rfl
def rIsD : List V → Hp → VK → Prop := fun xs H Q => ∃ (v : V) (d : PyData) (T : String), xs = [v, .ty T] ∧ T ∈ kinds4 ∧ Dq H v d ∧ Q (.bl (isA T d)) H
theorem call_isD {X : Cx} : CallR X (.builtin "isinstance") rIsD := fun pins s σ H xs us Q I r h => by
  obtain ⟨v, d, T, rfl, hT, hd, q⟩ := h
  exact call_isi pins s σ H _ us Q I r ⟨v, .ty T, _, _, _, rfl, .ty T, hd.ty, kit_data hT d, q⟩
end KL
set_option Elab.async false
set_option linter.all false
set_option maxRecDepth 100000
set_option maxHeartbeats 2000000
namespace KL
open PySem L2 PySem.Spec PyProof.Rows
def top (i : Nat) : Stmt := PySem.Challenge.pw_loghouse_k28_written_and_begun.main.body.getD i (.Pass ⟨0, 0, 0, 0⟩)
abbrev sIsInt : Stmt := top 5
abbrev sIsBet : Stmt := top 6
abbrev sIsTup : Stmt := top 7
abbrev sIsAsc : Stmt := top 8
/-! ### the mirror -/
def intD : PyData → Bool
  | .int _ => true
  | _ => false
def betD (lo hi : Int) : PyData → Bool
  | .int i => decide (lo ≤ i) && decide (i ≤ hi)
  | _ => false
def letS (x : Str) : Bool := decide (x.length = 1) && (!decide (x.cps.toList < ("a" : Str).cps.toList) && !decide (("z" : Str).cps.toList < x.cps.toList))
def letD : PyData → Bool
  | .str x => letS x
  | _ => false
def tupD (lo hi : Int) : PyData → Bool
  | .tuple ds => decide (lo ≤ (ds.length : Int)) && decide ((ds.length : Int) ≤ hi)
  | _ => false
mutual
/-- sizes that nothing here comes near to -/
def smB : PyData → Bool
  | .none => true
  | .bool _ => true
  | .int i => decide (i.natAbs.log2 < 1900)
  | .str x => decide (x.length ≤ 1000)
  | .list ds => decide (ds.length ≤ 1000) && smAll ds
  | .tuple ds => decide (ds.length ≤ 1000) && smAll ds
  | .dict kvs => decide (kvs.length ≤ 1)
def smAll : List PyData → Bool
  | [] => true
  | d :: r => smB d && smAll r
end
/-- a test of one thing -/
def spTest (f : PyData → Bool) : Sp := fun vs H Q _ => ∃ (v : V) (d : PyData), vs = [v] ∧ Dq H v d ∧ smB d = true ∧ ∀ H', Same H H' → Q (.bl (f d)) H'
/-- a test of one thing with two numbers -/
def spTest2 (f : Int → Int → PyData → Bool) : Sp := fun vs H Q _ => ∃ (v : V) (d : PyData) (lo hi : Int), vs = [v, .int lo, .int hi] ∧ Dq H v d ∧ smB d = true ∧ ∀ H', Same H H' → Q (.bl (f lo hi d)) H'
structure TxtB (mg : Str → Option Value) : Prop where
  isi : mg "isinstance" = none
  int : mg "int" = none
  bool : mg "bool" = none
  str : mg "str" = none
  tuple : mg "tuple" = none
  len : mg "len" = none
  all : mg "all" = none
  zip : mg "zip" = none
/-- a def of the module, called by its name -/
structure Cal (K : PySem.W.Frag) (mg : Str → Option Value) (x : Str) (f : Addr) (fd : FuncData) (ps : List Str) : Prop where
  m : mg x = some (.ref f)
  k : PySem.W.keepIn K (.ref f) = true
  b : L2.Binds K fd ps []
section
variable {P : Program} {w : World} {K : PySem.W.Frag} {mg : Str → Option Value} {base : Heap}
theorem scIsInt : FnScope ["thing"] ["thing"] (defScope sIsInt) := ⟨rfl, rfl, rfl, by decide +kernel, rfl, by decide +kernel, by decide +kernel⟩
theorem ok_int {f : Addr} {fd : FuncData} (F : Fun K "is_int" "is_int" sIsInt f fd) (T : TxtB mg) : FnOk P w K mg base CX0 1 f fd ["thing"] (spTest intD) := by
  refine F.ok scIsInt (fun vs H Q E h => ?_) (fun cdv A outer s H vs Q E hr h => ?_)
  · obtain ⟨v, d, rfl, _⟩ := h
    rfl
  · obtain ⟨v, d, rfl, hd, _, k⟩ := h
    refine ⟨_, pss_one (ps_ret (pe_and (pe_callB call_isD (by rfl) T.isi (by decide +kernel) (pa_cons (pv 0) (pa_cons (pe_bltn (v := .ty "int") (by rfl) T.int (by decide +kernel) rfl) pa_nil)))
      (pe_one (pe_not (pe_callB call_isD (by rfl) T.isi (by decide +kernel) (pa_cons (pv 0) (pa_cons (pe_bltn (v := .ty "bool") (by rfl) T.bool (by decide +kernel) rfl) pa_nil))))))), ?_⟩
    have q := k H (Same.refl H)
    refine ⟨_, rfl, v, d, "int", rfl, by decide, hd, _, rfl, ?_⟩
    cases d <;> first | exact q | exact ⟨_, rfl, v, _, "bool", rfl, by decide, hd, _, rfl, q⟩
theorem scIsBet : FnScope ["thing", "low", "high"] ["thing", "low", "high"] (defScope sIsBet) := ⟨rfl, rfl, rfl, by decide +kernel, rfl, by decide +kernel, by decide +kernel⟩
theorem ok_bet {f g : Addr} {fd gd : FuncData} (F : Fun K "is_between" "is_between" sIsBet f fd) (T : TxtB mg) (G : FnOk P w K mg base CX0 1 g gd ["thing"] (spTest intD)) (c : Cal K mg "is_int" g gd ["thing"]) : FnOk P w K mg base CX0 2 f fd ["thing", "low", "high"] (spTest2 betD) := by
  refine F.ok scIsBet (fun vs H Q E h => ?_) (fun cdv A outer s H vs Q E hr h => ?_)
  · obtain ⟨v, d, lo, hi, rfl, _⟩ := h
    rfl
  · obtain ⟨v, d, lo, hi, rfl, hd, sm, k⟩ := h
    refine ⟨_, pss_one (ps_ret (pe_and (pe_call G hr (by rfl) c.m c.k c.b .nil pass0 (pa_cons (pv 0) pa_nil)) (pe_one (pe_chain op_le op_le (pv 1) (pv 0) (pv 2))))), ?_⟩
    refine ⟨_, rfl, v, d, rfl, hd, sm, fun H1 S1 => ⟨_, rfl, ?_⟩⟩
    have q := k H1 S1
    cases hd with
    | int i =>
      refine ⟨_, rfl, _, rfl, _, _, rfl, rfl, _, rfl, ?_⟩
      by_cases h1 : lo ≤ i
      · refine iteYes (decide_eq_true h1) ⟨_, rfl, _, _, rfl, rfl, ?_⟩
        have e : betD lo hi (.int i) = decide (i ≤ hi) := by simp [betD, h1]
        rw [e] at q
        exact q
      · refine iteNo (decide_eq_false h1) ?_
        have e : betD lo hi (.int i) = false := by simp [betD, h1]
        rw [e] at q
        exact q
    | non => exact q
    | bl _ => exact q
    | str _ => exact q
    | lst _ _ => exact q
    | tup _ _ => exact q
    | dct0 _ => exact q
    | dct1 _ => exact q
theorem scIsTup : FnScope ["thing", "low", "high"] ["thing", "low", "high"] (defScope sIsTup) := ⟨rfl, rfl, rfl, by decide +kernel, rfl, by decide +kernel, by decide +kernel⟩
theorem ok_tup {f : Addr} {fd : FuncData} (F : Fun K "is_tuple_of" "is_tuple_of" sIsTup f fd) (T : TxtB mg) : FnOk P w K mg base CX0 1 f fd ["thing", "low", "high"] (spTest2 tupD) := by
  refine F.ok scIsTup (fun vs H Q E h => ?_) (fun cdv A outer s H vs Q E hr h => ?_)
  · obtain ⟨v, d, lo, hi, rfl, _⟩ := h
    rfl
  · obtain ⟨v, d, lo, hi, rfl, hd, sm, k⟩ := h
    refine ⟨_, pss_one (ps_ret (pe_and (pe_callB call_isD (by rfl) T.isi (by decide +kernel) (pa_cons (pv 0) (pa_cons (pe_bltn (v := .ty "tuple") (by rfl) T.tuple (by decide +kernel) rfl) pa_nil)))
      (pe_one (pe_chain op_le op_le (pv 1) (pe_callB call_len_seq (by rfl) T.len PySem.boot_len (pa_cons (pv 0) pa_nil)) (pv 2))))), ?_⟩
    have q := k H (Same.refl H)
    refine ⟨_, rfl, v, d, "tuple", rfl, by decide, hd, _, rfl, ?_⟩
    cases hd with
    | tup e ha =>
      rename_i a xs ds
      have el : xs.length = ds.length := by
        clear q k sm e
        induction ds generalizing xs with
        | nil => cases ha; rfl
        | cons _ _ ih =>
          cases ha with
          | cons _ r => exact congrArg (· + 1) (ih r)
      refine ⟨_, rfl, _, rfl, a, xs, rfl, .inr (SqT.of e), _, _, rfl, rfl, _, rfl, ?_⟩
      rw [el]
      by_cases h1 : lo ≤ (ds.length : Int)
      · refine iteYes (decide_eq_true h1) ⟨_, rfl, _, _, rfl, rfl, ?_⟩
        have e : tupD lo hi (.tuple ds) = decide ((ds.length : Int) ≤ hi) := by simp [tupD, h1]
        rw [e] at q
        exact q
      · refine iteNo (decide_eq_false h1) ?_
        have e : tupD lo hi (.tuple ds) = false := by simp [tupD, h1]
        rw [e] at q
        exact q
    | non => exact q
    | bl _ => exact q
    | int _ => exact q
    | str _ => exact q
    | lst _ _ => exact q
    | dct0 _ => exact q
    | dct1 _ => exact q
end
end KL
set_option Elab.async false
set_option linter.all false
set_option maxRecDepth 100000
set_option maxHeartbeats 2000000
namespace KL
open PySem L2 PySem.Spec PyProof.Rows
theorem DqAll.len {H : Hp} : ∀ {ds : List PyData} {xs : List V}, DqAll H xs ds → xs.length = ds.length
  | [], _, h => by
    cases h
    rfl
  | _ :: _, _, h => by
    cases h with
    | cons _ r => exact congrArg (· + 1) (DqAll.len r)
theorem DqAll.at {H : Hp} : ∀ {ds : List PyData} {xs : List V} {i : Nat} {x : V}, DqAll H xs ds → xs[i]? = some x → ∃ d, ds[i]? = some d ∧ Dq H x d
  | [], _, i, x, h, e => by
    cases h
    simp at e
  | d :: ds, _, 0, x, h, e => by
    cases h with
    | cons q _ =>
      simp at e
      subst e
      exact ⟨d, rfl, q⟩
  | d :: ds, _, i + 1, x, h, e => by
    cases h with
    | cons _ r =>
      obtain ⟨d', h1, h2⟩ := DqAll.at r (by simpa using e)
      exact ⟨d', by simpa using h1, h2⟩
theorem sm_at : ∀ {ds : List PyData} {i : Nat} {d : PyData}, smAll ds = true → ds[i]? = some d → smB d = true
  | [], i, d, _, e => by simp at e
  | d :: ds, 0, d', h, e => by
    simp at e
    subst e
    exact (Bool.and_eq_true_iff.mp h).1
  | d :: ds, i + 1, d', h, e => sm_at (Bool.and_eq_true_iff.mp h).2 (by simpa using e)
/-- what a comprehension over data has made so far -/
def MadeTo (H0 : Hp) (D : Addr) (bs : List V) (H : Hp) : Prop := Same H0 H ∧ H D = some (.lst bs)
theorem MadeTo.more {H0 H H' : Hp} {D : Addr} {bs : List V} (b : V) (hD : H0 D = none) (M : MadeTo H0 D bs H) (S : Same H H') : H' D = some (.lst bs) ∧ MadeTo H0 D (bs ++ [b]) (upd H' D (.lst (bs ++ [b]))) := by
  refine ⟨S _ _ M.2, fun x o e => ?_, upd_same⟩
  have nx : x ≠ D := fun z => by
    rw [z, hD] at e
    cases e
  rw [upd_ne nx]
  exact S _ _ (M.1 _ _ e)
theorem take_map {β : Type} {g : PyData → β} {ds : List PyData} {i : Nat} {d : PyData} (h : ds[i]? = some d) : (ds.take (i + 1)).map g = (ds.take i).map g ++ [g d] := by
  rw [List.take_add_one, h, List.map_append]
  rfl
theorem sm_len {ds : List PyData} (h : smB (.tuple ds) = true) : ds.length ≤ 1000 := of_decide_eq_true (Bool.and_eq_true_iff.mp h).1
theorem sm_all {ds : List PyData} (h : smB (.tuple ds) = true) : smAll ds = true := (Bool.and_eq_true_iff.mp h).2
theorem take_size {β : Type} {g : PyData → β} {j : β → V} {ds : List PyData} (i : Nat) (h : ds.length ≤ 1000) : (((ds.take i).map g).map j).length < sizeLine := by
  rw [List.length_map, List.length_map, List.length_take]
  exact Nat.lt_of_le_of_lt (Nat.le_trans (Nat.min_le_right _ _) h) (by rw [sizeLine_eq]; omega)
/-- one more turn of a comprehension over data that makes truth values -/
theorem MadeTo.turn {H0 H H' : Hp} {D : Addr} {g : PyData → Bool} {ds : List PyData} {i : Nat} {d : PyData} (hD : H0 D = none) (M : MadeTo H0 D (((ds.take i).map g).map V.bl) H) (S : Same H H') (hl : ds.length ≤ 1000) (h : ds[i]? = some d) :
    ∃ acc, H' D = some (.lst acc) ∧ acc.length < sizeLine ∧ MadeTo H0 D (((ds.take (i + 1)).map g).map V.bl) (upd H' D (.lst (acc ++ [.bl (g d)]))) := by
  have m := M.more (.bl (g d)) hD S
  refine ⟨_, m.1, take_size i hl, ?_⟩
  rw [take_map h, List.map_append]
  exact m.2
end KL
set_option Elab.async false
set_option linter.all false
set_option maxRecDepth 100000
set_option maxHeartbeats 2000000
namespace KL
open PySem L2 PySem.Spec PyProof.Rows
mutual
/-- x < y of two things of one shape -/
def ltD : PyData → PyData → Bool
  | .int i, .int j => decide (i < j)
  | .str x, .str y => decide (x.cps.toList < y.cps.toList)
  | .tuple xs, .tuple ys => ltAll xs ys
  | _, _ => false
def ltAll : List PyData → List PyData → Bool
  | [], [] => false
  | [], _ :: _ => true
  | _ :: _, [] => false
  | x :: xs, y :: ys => if PyData.eqv x y = true then ltAll xs ys else ltD x y
end
mutual
/-- whether they can be compared -/
def cmpD : PyData → PyData → Bool
  | .int _, .int _ => true
  | .str _, .str _ => true
  | .tuple xs, .tuple ys => cmpAll xs ys
  | _, _ => false
def cmpAll : List PyData → List PyData → Bool
  | x :: xs, y :: ys => cmpD x y && cmpAll xs ys
  | _, _ => true
end
theorem lexAt_shift (e r : Nat → Bool) (z : Bool) : ∀ (k i : Nat), Ob.lexAt e r z (i + 1) k = Ob.lexAt (fun j => e (j + 1)) (fun j => r (j + 1)) z i k
  | 0, _ => rfl
  | k + 1, i => by
    rw [Ob.lexAt_succ, Ob.lexAt_succ, lexAt_shift e r z k (i + 1)]
def peq (xs ys : List PyData) (j : Nat) : Bool := PyData.eqv (xs.getD j .none) (ys.getD j .none)
theorem lex_all : ∀ (xs ys : List PyData), Ob.lexAt (peq xs ys) (fun j => ltD (xs.getD j .none) (ys.getD j .none)) (decide (xs.length < ys.length)) 0 (min xs.length ys.length) = ltAll xs ys
  | [], [] => rfl
  | [], _ :: _ => by simp [Ob.lexAt_zero, ltAll]
  | _ :: _, [] => by simp [Ob.lexAt_zero, ltAll]
  | x :: xs, y :: ys => by
    have m : min (x :: xs).length (y :: ys).length = min xs.length ys.length + 1 := by
      rw [List.length_cons, List.length_cons]
      omega
    rw [m, Ob.lexAt_succ, lexAt_shift]
    have z : decide ((x :: xs).length < (y :: ys).length) = decide (xs.length < ys.length) := by
      rw [List.length_cons, List.length_cons]
      by_cases q : xs.length < ys.length
      · rw [decide_eq_true q, decide_eq_true (by omega)]
      · rw [decide_eq_false q, decide_eq_false (by omega)]
    rw [z]
    show (if PyData.eqv x y = true then Ob.lexAt (peq xs ys) (fun j => ltD (xs.getD j .none) (ys.getD j .none)) (decide (xs.length < ys.length)) 0 (min xs.length ys.length) else ltD x y) = ltAll (x :: xs) (y :: ys)
    rw [lex_all xs ys, ltAll]
theorem reads_at {h : Heap} : ∀ {us : List Value} {ds : List PyData} {as : List Addr}, ReadsAll h us ds as → ∀ (j : Nat) (hj : j < us.length), ∃ bs, Reads h us[j] (ds.getD j .none) bs
  | _, _, _, .nil, j, hj => absurd hj (Nat.not_lt_zero _)
  | _, _, _, .cons r _, 0, _ => ⟨_, r⟩
  | _, _, _, .cons _ rs, j + 1, hj => reads_at rs j (Nat.lt_of_succ_lt_succ hj)
theorem reads_len {h : Heap} : ∀ {us : List Value} {ds : List PyData} {as : List Addr}, ReadsAll h us ds as → us.length = ds.length
  | _, _, _, .nil => rfl
  | _, _, _, .cons _ rs => congrArg (· + 1) (reads_len rs)
theorem lay_at : ∀ {ds : List PyData} (j : Nat), PyData.canLayAll0 ds = true → (ds.getD j .none).canLay0 = true
  | [], j, _ => by simp [PyData.canLay0]
  | d :: ds, 0, h => (Bool.and_eq_true_iff.mp h).1
  | d :: ds, j + 1, h => lay_at (ds := ds) j (Bool.and_eq_true_iff.mp h).2
theorem cmp_at : ∀ {xs ys : List PyData} (j : Nat), cmpAll xs ys = true → j < xs.length → j < ys.length → cmpD (xs.getD j .none) (ys.getD j .none) = true
  | [], _, _, _, h, _ => absurd h (Nat.not_lt_zero _)
  | _ :: _, [], _, _, _, h => absurd h (Nat.not_lt_zero _)
  | x :: xs, y :: ys, 0, h, _, _ => (Bool.and_eq_true_iff.mp (show (cmpD x y && cmpAll xs ys) = true from h)).1
  | x :: xs, y :: ys, j + 1, h, h1, h2 => cmp_at (xs := xs) (ys := ys) j (Bool.and_eq_true_iff.mp (show (cmpD x y && cmpAll xs ys) = true from h)).2 (Nat.lt_of_succ_lt_succ h1) (Nat.lt_of_succ_lt_succ h2)
theorem depth_at : ∀ {ds : List PyData} (j : Nat), (ds.getD j .none).depth ≤ PyData.depthAll ds
  | [], j => by simp [PyData.depth]
  | d :: ds, 0 => by
    show d.depth ≤ max d.depth (PyData.depthAll ds)
    omega
  | d :: ds, j + 1 => by
    have := depth_at (ds := ds) j
    show (ds.getD j .none).depth ≤ max d.depth (PyData.depthAll ds)
    omega
/-- x < y of two things that can be compared -/
theorem lt_data : ∀ (n : Nat) (d e : PyData) (A : Around) (s : Shared) (a b : Value) (as bs : List Addr), d.depth ≤ n → Reads s.heap a d as → Reads s.heap b e bs → d.canLay0 = true → e.canLay0 = true → cmpD d e = true → A.units + n < cLine → Ob.RcOp .Lt A s a b (ltD d e)
  | n, .int i, e, A, s, a, b, as, bs, hn, ra, rb, la, lb, c, hu => by
    cases ra
    cases rb <;> first | exact Ob.RcOp.lt_int _ _ _ _ | (exfalso; simp [cmpD] at c)
  | n, .str x, e, A, s, a, b, as, bs, hn, ra, rb, la, lb, c, hu => by
    cases ra
    cases rb with
    | str y t => exact fun _ _ _ _ h => lt_str h
    | _ => exfalso; simp [cmpD] at c
  | n + 1, .tuple xs, .tuple ys, A, s, _, _, _, _, hn, .tuple (a := l) (vs := us) h1 h2 h3 h4, .tuple (a := l') (vs := ws) k1 k2 k3 k4, la, lb, c, hu => by
    have hd : PyData.depthAll xs ≤ n := by
      have : PyData.depthAll xs + 1 ≤ n + 1 := hn
      omega
    have R := Ob.RcOp.tuples_lt (A := A) (s := s) (e := peq xs ys) (r := fun j => ltD (xs.getD j .none) (ys.getD j .none)) (l := l) (b := l') (items := us) (items2 := ws) ⟨_, h1, h2, _, h3⟩ ⟨_, k1, k2, _, k3⟩ (by omega)
      (fun j j1 j2 => by
        obtain ⟨_, q1⟩ := reads_at h4 j (by simpa using j1)
        obtain ⟨_, q2⟩ := reads_at k4 j (by simpa using j2)
        have q := SeqAt.eqAt_reads _ _ A.in1 s _ _ _ _ q1 q2 (lay_at j la) (lay_at j lb) (by
          have := depth_at (ds := xs) j
          show A.units + 1 + _ < _
          omega)
        simpa [peq] using q)
      (fun j j1 j2 _ => by
        obtain ⟨_, q1⟩ := reads_at h4 j (by simpa using j1)
        obtain ⟨_, q2⟩ := reads_at k4 j (by simpa using j2)
        have l1 : us.size = xs.length := by rw [← reads_len h4]; simp
        have l2 : ws.size = ys.length := by rw [← reads_len k4]; simp
        have q := lt_data n _ _ A.in1 s _ _ _ _ (Nat.le_trans (depth_at j) hd) q1 q2 (lay_at j la) (lay_at j lb) (cmp_at j c (by omega) (by omega)) (by show A.units + 1 + n < cLine; omega)
        simpa using q)
    have l1 : us.size = xs.length := by rw [← reads_len h4]; simp
    have l2 : ws.size = ys.length := by rw [← reads_len k4]; simp
    rw [l1, l2, lex_all] at R
    exact R
  | _, .none, _, _, _, _, _, _, _, _, _, _, _, _, c, _ => by simp [cmpD] at c
  | _, .bool _, _, _, _, _, _, _, _, _, _, _, _, _, c, _ => by simp [cmpD] at c
  | _, .list _, _, _, _, _, _, _, _, _, _, _, _, _, c, _ => by simp [cmpD] at c
  | _, .dict _, _, _, _, _, _, _, _, _, _, _, _, _, c, _ => by simp [cmpD] at c
  | 0, .tuple xs, _, _, _, _, _, _, _, hn, _, _, _, _, _, _ => by
    have : PyData.depthAll xs + 1 ≤ 0 := hn
    omega
  | _ + 1, .tuple _, .none, _, _, _, _, _, _, _, _, _, _, _, c, _ => by simp [cmpD] at c
  | _ + 1, .tuple _, .bool _, _, _, _, _, _, _, _, _, _, _, _, c, _ => by simp [cmpD] at c
  | _ + 1, .tuple _, .int _, _, _, _, _, _, _, _, _, _, _, _, c, _ => by simp [cmpD] at c
  | _ + 1, .tuple _, .str _, _, _, _, _, _, _, _, _, _, _, _, c, _ => by simp [cmpD] at c
  | _ + 1, .tuple _, .list _, _, _, _, _, _, _, _, _, _, _, _, c, _ => by simp [cmpD] at c
  | _ + 1, .tuple _, .dict _, _, _, _, _, _, _, _, _, _, _, _, c, _ => by simp [cmpD] at c
end KL
set_option Elab.async false
set_option linter.all false
set_option maxRecDepth 100000
set_option maxHeartbeats 2000000
namespace KL
open PySem L2 PySem.Spec PyProof.Rows
section
variable {X : Cx} {pins : List (Addr × Obj)} {σ : L2.St} {H : Hp} {s : Shared}
mutual
theorem Dq.reads0 (I : Inv X pins σ H s) : ∀ (d : PyData) (v : V) (u : Value), Dq H v d → d.canLay0 = true → RelV v u → ∃ as, Reads s.heap u d as
  | .none, _, _, h, _, r => by
    cases h
    cases r
    exact ⟨_, .none⟩
  | .bool b, _, _, h, _, r => by
    cases h
    cases r
    exact ⟨_, .bool b⟩
  | .int i, _, _, h, _, r => by
    cases h
    obtain ⟨t, rfl⟩ := r
    exact ⟨_, .int i t⟩
  | .str x, _, _, h, _, r => by
    cases h
    obtain ⟨t, rfl⟩ := r
    exact ⟨_, .str x t⟩
  | .list ds, _, _, h, l, r => by
    cases h with
    | lst q ha =>
      cases r
      obtain ⟨_, its, n, rv, ho⟩ := I.hok _ _ q
      obtain ⟨as, hr⟩ := DqAll.reads0 I ds _ its ha l rv
      exact ⟨_, .list ho rfl rfl hr⟩
  | .tuple ds, _, _, h, l, r => by
    cases h with
    | tup q ha =>
      cases r
      obtain ⟨_, its, rv, o, h1, h2, n, h3⟩ := I.hok _ _ q
      obtain ⟨as, hr⟩ := DqAll.reads0 I ds _ its ha l rv
      exact ⟨_, .tuple h1 h2 h3 hr⟩
  | .dict _, _, _, _, l, _ => by simp [PyData.canLay0] at l
theorem DqAll.reads0 (I : Inv X pins σ H s) : ∀ (ds : List PyData) (vs : List V) (us : List Value), DqAll H vs ds → PyData.canLayAll0 ds = true → Vals vs us → ∃ as, ReadsAll s.heap us ds as
  | [], _, _, h, _, r => by
    cases h
    cases r
    exact ⟨_, .nil⟩
  | d :: ds, _, _, h, l, r => by
    cases h with
    | cons h1 h2 =>
      cases r with
      | cons r1 r2 =>
        have l' := Bool.and_eq_true_iff.mp (show (d.canLay0 && PyData.canLayAll0 ds) = true from l)
        obtain ⟨as, q1⟩ := Dq.reads0 I d _ _ h1 l'.1 r1
        obtain ⟨bs, q2⟩ := DqAll.reads0 I ds _ _ h2 l'.2 r2
        exact ⟨_, .cons q1 q2⟩
end
end
/-- x < y of data -/
def rLtD : R2 := fun x y H Q => ∃ d e, Dq H x d ∧ Dq H y e ∧ d.canLay0 = true ∧ e.canLay0 = true ∧ cmpD d e = true ∧ d.depth ≤ 20 ∧ Q (.bl (ltD d e)) H
theorem op_ltD {X : Cx} (hu : X.A.units + 64 < cLine) : OpR X (compareOp .Lt) rLtD := by
  intro pins s σ H x y v u Q I rx ry h
  obtain ⟨d, e, hd, he, ld, le, c, hn, q⟩ := h
  obtain ⟨as, r1⟩ := Dq.reads0 I d x v hd ld rx
  obtain ⟨bs, r2⟩ := Dq.reads0 I e y u he le ry
  exact lt_data 20 d e X.A s v u as bs hn r1 r2 ld le c (by omega) _ _ _ _ ⟨.bl (ltD d e), H, I, rfl, q⟩
theorem walk_zipT {K : PySem.W.Frag} {a b : Addr} {xs ys : List V} {n : Nat} (hn : n = min xs.length ys.length) : Walk (RZ.ItzT K a b) n (fun H => SqT K H a xs ∧ SqT K H b ys) (YPair (fun i => xs[i]?) (fun i => ys[i]?)) := by
  subst hn
  refine ⟨fun i _ hi q => ?_, fun _ q => ⟨xs, ys, q.1, q.2, by omega⟩, fun i H v H' _ q y => ?_⟩
  · have h1 : i < xs.length := by omega
    have h2 : i < ys.length := by omega
    exact ⟨xs, ys, xs[i], ys[i], q.1, q.2, by simp [h1], by simp [h2]⟩
  · obtain ⟨T, x, z, h1, h2, h3, h4, h5⟩ := y
    exact ⟨T, x, z, h1, h2, h3, h4 xs q.1, h5 ys q.2⟩
def ascTo (ds : List PyData) (j : Nat) : List Bool := (List.range j).map fun i => ltD (ds.getD i .none) (ds.getD (i + 1) .none)
def ascD (ds : List PyData) : Bool := (ascTo ds (ds.length - 1)).all id
/-- a slice of a list or of a tuple -/
def rSlX (K : PySem.W.Frag) : V → Option Int → Option Int → Hp → VK → Prop := fun x lo hi H Q => rSlL K x lo hi H Q ∨ rSlA K x lo hi H Q
theorem sl_any {X : Cx} : SlR X (rSlX X.K) := by
  intro pins s σ H x v vl vu lo hi sl Q I rx hs pl pu h
  rcases h with h | h
  · exact sl_list pins s σ H x v vl vu lo hi sl Q I rx hs pl pu h
  · exact sl_tupA pins s σ H x v vl vu lo hi sl Q I rx hs pl pu h
def spAsc : Sp := fun vs H Q _ => ∃ (a : Addr) (xs : List V) (ds : List PyData), vs = [.ref a] ∧ (H a = some (.lst xs) ∨ H a = some (.tup xs)) ∧ DqAll H xs ds ∧ ds.length ≤ 1000 ∧ PyData.canLayAll0 ds = true ∧ PyData.depthAll ds ≤ 20 ∧
  (∀ i, i + 1 < ds.length → cmpD (ds.getD i .none) (ds.getD (i + 1) .none) = true) ∧ ∀ H', Same H H' → Q (.bl (ascD ds)) H'
theorem getD_of {ds : List PyData} {i : Nat} {d : PyData} (h : ds[i]? = some d) : ds.getD i .none = d := by
  rw [List.getD_eq_getElem?_getD, h, Option.getD_some]
theorem six_one (n : Nat) : HT.sIx n 0 (some 1) = min 1 n := HT.sIx_nat n 0 1
theorem cut_tail (xs : List V) : cutV xs (some 1) none = xs.drop 1 := by
  unfold cutV
  rw [six_one, HT.sIx_none]
  cases xs with
  | nil => rfl
  | cons x r =>
    have e : min 1 (x :: r).length = 1 := by
      rw [List.length_cons]
      omega
    rw [e]
    exact List.take_of_length_le (by rw [List.length_drop]; omega)
section
variable {P : Program} {w : World} {K : PySem.W.Frag} {mg : Str → Option Value} {base : Heap}
theorem scIsAsc : FnScope ["items", "ahead", "behind"] ["items"] (defScope sIsAsc) := ⟨rfl, rfl, rfl, by decide +kernel, rfl, by decide +kernel, by decide +kernel⟩
theorem ok_asc {f : Addr} {fd : FuncData} (F : Fun K "is_ascending" "is_ascending" sIsAsc f fd) (T : TxtB mg) : FnOk P w K mg base CX0 1 f fd ["items"] spAsc := by
  refine F.ok scIsAsc (fun vs H Q E h => ?_) (fun cdv A outer s H vs Q E hr h => ?_)
  · obtain ⟨a, xs, ds, rfl, _⟩ := h
    rfl
  · obtain ⟨a, xs, ds, rfl, hx, ha, hl, lay, dp, hc, k⟩ := h
    refine ⟨_, pss_one (ps_ret (pe_callB (cr_all rfl) (by rfl) T.all (by decide +kernel) (pa_cons (pe_lc (own := [("ahead", 1), ("behind", 2)]) (g := gTup K 2 (gCons (gName 1) (gCons (gName 2) gNil))) (tt := tYes) rfl scIsAsc.nd (RZ.pi_zipA (by rfl) T.zip (pa_cons (pv 0) (pa_cons (pe_slice sl_any (pv 0) (po_some pe_int) po_none) pa_nil)))
      (blkOk_by (N := ["items", "ahead", "behind"]) (sc := defScope sIsAsc) (by decide +kernel)) (fun _ _ _ _ _ => pg_tup rfl (pgs_cons (pg_name (i := 1) scIsAsc.nd rfl (.inl rfl)) (pgs_cons (pg_name (i := 2) scIsAsc.nd rfl (.inl rfl)) pgs_nil))) (fun _ _ _ _ _ => pts_nil)
      (fun _ _ _ _ _ => pe_cmpR (op_ltD hr.units) (pv 1) (pv 2) (nomark _))) pa_nil))), ?_⟩
    have len := ha.len
    have fin : ∀ (D : Addr) (H1 : Hp), Same H H1 → H1 D = none → ∀ (n : Nat), n = ds.length - 1 → ∀ H2, MadeTo H1 D ((ascTo ds n).map V.bl) H2 → ∃ (a : Addr) (bs : List Bool), [V.ref D] = [V.ref a] ∧ SqL K H2 a (bs.map V.bl) ∧ Q (.bl (bs.all id)) H2 := fun D H1 S1 nD n hn H2 M => by
      refine ⟨D, ascTo ds n, rfl, SqL.of M.2, ?_⟩
      have q := k H2 (S1.trans M.1)
      subst hn
      exact q
    rcases hx with hx | hx
    · refine ⟨_, rfl, _, rfl, _, rfl, .inl ⟨a, xs, rfl, SqL.of hx, fun b nb => ?_⟩⟩
      have S1 := same_new (o := .lst (cutV xs (some 1) none)) nb
      revert S1
      have hb : (upd H b (.lst (cutV xs (some 1) none))) b = some (.lst (xs.drop 1)) := by rw [upd_same, cut_tail]
      revert hb
      generalize upd H b (.lst (cutV xs (some 1) none)) = H1
      intro hb S1
      refine ⟨a, b, xs, xs.drop 1, rfl, .inl ⟨SqL.of (S1 _ _ hx), SqL.of hb, fun D nD => ?_⟩⟩
      have en : ds.length - 1 = min xs.length (xs.drop 1).length := by
        rw [List.length_drop]
        omega
      refine lc_it (walk_zip (K := K) (a := a) (b := b) en) (fun i H2 => MadeTo H1 D ((ascTo ds i).map V.bl) H2) ⟨same_new nD, upd_same⟩ (fun i H2 _ M => ⟨SqL.of (M.1 _ _ (S1 _ _ hx)), SqL.of (M.1 _ _ hb)⟩) ?_ (fun H2 M => fin D H1 S1 nD _ rfl H2 M)
      rintro i _ H2 _ hi M ⟨T, y, z, rfl, nT, rfl, ey, ez⟩
      obtain ⟨d1, e1, q1⟩ := DqAll.at ha ey
      have ez : xs[i + 1]? = some z := by
        have ez : (xs.drop 1)[i]? = some z := ez
        rw [List.getElem?_drop, Nat.add_comm] at ez
        exact ez
      obtain ⟨d2, e2, q2⟩ := DqAll.at ha ez
      have S2 := same_new (o := .tup [y, z]) nT
      have S := S1.trans (M.1.trans S2)
      have c := hc i (by omega)
      rw [getD_of e1, getD_of e2] at c
      have l1 := lay_at i lay
      have l2 := lay_at (i + 1) lay
      have p1 := Nat.le_trans (depth_at (ds := ds) i) dp
      rw [getD_of e1] at l1 p1
      rw [getD_of e2] at l2
      refine ⟨T, [y, z], rfl, SqT.of upd_same, rfl, y, [z], rfl, z, [], rfl, rfl, rfl, ?_⟩
      refine ⟨_, rfl, _, rfl, d1, d2, Dq.same S d1 y q1, Dq.same S d2 z q2, l1, l2, c, p1, ?_⟩
      have m := M.more (.bl (ltD d1 d2)) nD S2
      refine ⟨_, m.1, ?_, ?_⟩
      · rw [List.length_map, ascTo, List.length_map, List.length_range]
        exact Nat.lt_of_lt_of_le hi (Nat.le_trans (Nat.sub_le _ _) (Nat.le_trans hl (by rw [sizeLine_eq]; omega)))
      · have ea : ascTo ds (i + 1) = ascTo ds i ++ [ltD d1 d2] := by
          rw [ascTo, ascTo, List.range_succ, List.map_append, List.map_singleton, getD_of e1, getD_of e2]
        rw [ea, List.map_append]
        exact m.2
    · refine ⟨_, rfl, _, rfl, _, rfl, .inr ⟨a, xs, rfl, SqT.of hx, ?_, ?_⟩⟩
      · rintro ⟨w1, w2⟩
        have x0 : xs = [] := by
          rw [six_one] at w1
          cases xs with
          | nil => rfl
          | cons x r =>
            rw [List.length_cons] at w1
            omega
        subst x0
        have d0 : ds.length = 0 := len.symm
        refine ⟨a, a, [], [], rfl, .inr ⟨SqT.of hx, SqT.of hx, fun D nD => ?_⟩⟩
        refine lc_it (walk_zipT (K := K) (a := a) (b := a) (xs := []) (ys := []) (n := ds.length - 1) (by rw [d0]; rfl)) (fun i H2 => MadeTo H D ((ascTo ds i).map V.bl) H2) ⟨same_new nD, upd_same⟩ (fun i H2 _ M => ⟨SqT.of (M.1 _ _ hx), SqT.of (M.1 _ _ hx)⟩) ?_ (fun H2 M => fin D H (Same.refl H) nD _ rfl H2 M)
        intro i x H2 H3 hi
        omega
      · intro _ b nb
        have S1 := same_new (o := .tup (cutV xs (some 1) none)) nb
        revert S1
        have hb : (upd H b (.tup (cutV xs (some 1) none))) b = some (.tup (xs.drop 1)) := by rw [upd_same, cut_tail]
        revert hb
        generalize upd H b (.tup (cutV xs (some 1) none)) = H1
        intro hb S1
        refine ⟨a, b, xs, xs.drop 1, rfl, .inr ⟨SqT.of (S1 _ _ hx), SqT.of hb, fun D nD => ?_⟩⟩
        have en : ds.length - 1 = min xs.length (xs.drop 1).length := by
          rw [List.length_drop]
          omega
        refine lc_it (walk_zipT (K := K) (a := a) (b := b) en) (fun i H2 => MadeTo H1 D ((ascTo ds i).map V.bl) H2) ⟨same_new nD, upd_same⟩ (fun i H2 _ M => ⟨SqT.of (M.1 _ _ (S1 _ _ hx)), SqT.of (M.1 _ _ hb)⟩) ?_ (fun H2 M => fin D H1 S1 nD _ rfl H2 M)
        rintro i _ H2 _ hi M ⟨T, y, z, rfl, nT, rfl, ey, ez⟩
        obtain ⟨d1, e1, q1⟩ := DqAll.at ha ey
        have ez : xs[i + 1]? = some z := by
          have ez : (xs.drop 1)[i]? = some z := ez
          rw [List.getElem?_drop, Nat.add_comm] at ez
          exact ez
        obtain ⟨d2, e2, q2⟩ := DqAll.at ha ez
        have S2 := same_new (o := .tup [y, z]) nT
        have S := S1.trans (M.1.trans S2)
        have c := hc i (by omega)
        rw [getD_of e1, getD_of e2] at c
        have l1 := lay_at i lay
        have l2 := lay_at (i + 1) lay
        have p1 := Nat.le_trans (depth_at (ds := ds) i) dp
        rw [getD_of e1] at l1 p1
        rw [getD_of e2] at l2
        refine ⟨T, [y, z], rfl, SqT.of upd_same, rfl, y, [z], rfl, z, [], rfl, rfl, rfl, ?_⟩
        refine ⟨_, rfl, _, rfl, d1, d2, Dq.same S d1 y q1, Dq.same S d2 z q2, l1, l2, c, p1, ?_⟩
        have m := M.more (.bl (ltD d1 d2)) nD S2
        refine ⟨_, m.1, ?_, ?_⟩
        · rw [List.length_map, ascTo, List.length_map, List.length_range]
          exact Nat.lt_of_lt_of_le hi (Nat.le_trans (Nat.sub_le _ _) (Nat.le_trans hl (by rw [sizeLine_eq]; omega)))
        · have ea : ascTo ds (i + 1) = ascTo ds i ++ [ltD d1 d2] := by
            rw [ascTo, ascTo, List.range_succ, List.map_append, List.map_singleton, getD_of e1, getD_of e2]
          rw [ea, List.map_append]
          exact m.2
end
end KL
set_option Elab.async false
set_option linter.all false
set_option maxRecDepth 100000
set_option maxHeartbeats 2000000
namespace KL
open PySem L2 PySem.Spec PyProof.Rows
def itemD (i : Nat) : PyData → PyData
  | .tuple ds => ds.getD i .none
  | _ => .none
def allD (f : PyData → Bool) : PyData → Bool
  | .tuple ds => ds.all f
  | _ => true
def itemsD : PyData → List PyData
  | .tuple ds => ds
  | _ => []
def isTupD : PyData → Bool
  | .tuple _ => true
  | _ => false
theorem tup_of {lo hi : Int} {d : PyData} (h : tupD lo hi d = true) : ∃ ds, d = .tuple ds ∧ lo ≤ (ds.length : Int) ∧ (ds.length : Int) ≤ hi := by
  cases d with
  | tuple ds =>
    have q := Bool.and_eq_true_iff.mp h
    exact ⟨ds, rfl, of_decide_eq_true q.1, of_decide_eq_true q.2⟩
  | _ => cases h
theorem at_some {ds : List PyData} {xs : List V} {H : Hp} (ha : DqAll H xs ds) {i : Nat} (hi : i < ds.length) : ∃ x, xs[i]? = some x ∧ ds[i]? = some (ds.getD i .none) ∧ Dq H x (ds.getD i .none) := by
  have h1 : i < xs.length := by rw [ha.len]; exact hi
  have e : xs[i]? = some xs[i] := List.getElem?_eq_getElem h1
  obtain ⟨d, hd, q⟩ := DqAll.at ha e
  rw [getD_of hd]
  exact ⟨_, e, hd, q⟩
theorem allD_map (f : PyData → Bool) (ds : List PyData) : (ds.map f).all id = allD f (.tuple ds) := by
  show (ds.map f).all id = ds.all f
  rw [List.all_map]
  rfl
theorem getD_map {f : PyData → PyData} {ds : List PyData} {i : Nat} (hi : i < ds.length) : (ds.map f).getD i .none = f (ds.getD i .none) := by
  rw [List.getD_eq_getElem?_getD, List.getElem?_map, List.getElem?_eq_getElem hi, List.getD_eq_getElem?_getD, List.getElem?_eq_getElem hi]
  rfl
theorem all_at {f : PyData → Bool} {ds : List PyData} (h : ds.all f = true) {i : Nat} (hi : i < ds.length) : f (ds.getD i .none) = true := by
  rw [List.getD_eq_getElem?_getD, List.getElem?_eq_getElem hi]
  exact List.all_eq_true.mp h _ (List.getElem_mem hi)
theorem bet_of {lo hi : Int} {d : PyData} (h : betD lo hi d = true) : ∃ i, d = .int i ∧ lo ≤ i ∧ i ≤ hi := by
  cases d with
  | int i =>
    have q := Bool.and_eq_true_iff.mp h
    exact ⟨i, rfl, of_decide_eq_true q.1, of_decide_eq_true q.2⟩
  | _ => cases h
end KL
set_option Elab.async false
set_option linter.all false
set_option maxRecDepth 100000
set_option maxHeartbeats 2000000
namespace PySem
namespace SeqAt
open AutoSeq1 (wpAny_loadPart')
open MeetsSeq
theorem str_eq_dict (b : Str) (u : Tok) (l : Addr) (c : Value) (es : Array DictEntry) (n : Nat) (dd : Option Addr) (sl : Array (Option Value)) :
    Meets (Builtin.«str.__eq__» ⟨[.str b u, .ref l], []⟩) (fun _ R s => s.heap.get? l = some { cls := c, dict := dd, data := .dict es n, slots := sl } ∧ R (.ok (.ret .notImplemented)) s) :=
  .of_wp fun prog w A R s h => by obtain ⟨hp, g, d, tk, os⟩ := s; obtain ⟨hl, h⟩ := h; wp_walk using wpAny_loadPart' hl, wpAny_load hl; exact ⟨_, rfl, h⟩
theorem str_ne_dict (b : Str) (u : Tok) (l : Addr) (c : Value) (es : Array DictEntry) (n : Nat) (dd : Option Addr) (sl : Array (Option Value)) :
    Meets (Builtin.«str.__ne__» ⟨[.str b u, .ref l], []⟩) (fun _ R s => s.heap.get? l = some { cls := c, dict := dd, data := .dict es n, slots := sl } ∧ R (.ok (.ret .notImplemented)) s) :=
  .of_wp fun prog w A R s h => by obtain ⟨hp, g, d, tk, os⟩ := s; obtain ⟨hl, h⟩ := h; wp_walk using wpAny_loadPart' hl, wpAny_load hl; exact ⟨_, rfl, h⟩
section
variable {A : Around} {s : Shared}
theorem dict_eq_str {prog : Program} {w : World} {E : Value → Shared → Prop} {l : Addr} {o : Obj} {es : Array DictEntry} {n : Nat} (b : Str) (u : Tok) (ho : s.heap.get? l = some o) (hc : o.cls = .type "dict") (Q' : Value → Shared → Prop) (h : Q' .notImplemented s) :
    wpAny (model prog w) A (call (.builtin "dict.__eq__") [.ref l, .str b u]) Q' E s := by
  have ht : s.TypeIs (.ref l) "dict" := ⟨o, ho, hc⟩
  refine wpAny_call_entry PySem.F.slot_dict_eq ht PySem.F.entry_dict_eq ?_ (PySem.F.args_dict_eq_2 _ _)
  show wpAny _ _ (Builtin.Dict.dictSlotArgs "__eq__" ⟨[.ref l, .str b u], []⟩ >>= _) _ _ s
  refine wpAny_bind ?_
  unfold Builtin.Dict.dictSlotArgs
  refine wpAny_bind (wpAny_notOrdered_dict ht ?_)
  show wpAny _ _ (pure (Value.ref l, Value.str b u)) _ _ s
  refine wpAny_pure ?_
  refine wpAny_bind (wpAny_isInstance (T := "str") (typeIs_str s b u) PySem.F.sub_str_dict ?_)
  simp only [Bool.not_false, if_true]
  exact wpAny_bind (wpAny_rule (wpAny_bind (wpAny_pure (wpAny_pure ⟨_, rfl, h⟩))))
theorem dict_ne_str {prog : Program} {w : World} {E : Value → Shared → Prop} {l : Addr} {o : Obj} {es : Array DictEntry} {n : Nat} (b : Str) (u : Tok) (ho : s.heap.get? l = some o) (hc : o.cls = .type "dict") (Q' : Value → Shared → Prop) (h : Q' .notImplemented s) :
    wpAny (model prog w) A (call (.builtin "dict.__ne__") [.ref l, .str b u]) Q' E s := by
  have ht : s.TypeIs (.ref l) "dict" := ⟨o, ho, hc⟩
  refine wpAny_call_entry PySem.F.slot_dict_ne ht PySem.F.entry_dict_ne ?_ (PySem.F.args_dict_ne_2 _ _)
  show wpAny _ _ (Builtin.Dict.dictSlotArgs "__ne__" ⟨[.ref l, .str b u], []⟩ >>= _) _ _ s
  refine wpAny_bind ?_
  unfold Builtin.Dict.dictSlotArgs
  refine wpAny_bind (wpAny_notOrdered_dict ht ?_)
  show wpAny _ _ (pure (Value.ref l, Value.str b u)) _ _ s
  refine wpAny_pure ?_
  refine wpAny_bind (wpAny_isInstance (T := "str") (typeIs_str s b u) PySem.F.sub_str_dict ?_)
  simp only [Bool.not_false, if_true]
  exact wpAny_bind (wpAny_rule (wpAny_bind (wpAny_pure (wpAny_pure ⟨_, rfl, h⟩))))
theorem RcAt.str_dict {l : Addr} {cl : Value} {dd : Option Addr} {es : Array DictEntry} {n : Nat} {sl : Array (Option Value)} (b : Str) (u : Tok) (ho : s.heap.get? l = some ⟨.type "dict", dd, .dict es n, sl⟩) (hu : A.units < cLine) : RcAt A s (.str b u) (.ref l) false := fun prog w E Q h =>
  rc_eq_decline_or (k := false) (typeIs_str s b u) ⟨_, ho, rfl⟩ (by decide) F.sub_dict_str F.slot_str_eq F.slot_dict_eq_refl
    (fun _ hq => call_meets F.slot_str_eq (typeIs_str s b u) F.entry_str_eq (F.args_str_eq_2 _ _) (str_eq_dict b u l (.type "dict") es n dd sl) ⟨ho, hq⟩)
    (fun _ hq => dict_eq_str (es := es) (n := n) b u ho rfl _ hq)
    (fun _ hq => wpAny_of_eq (rfl : isSame (.str b u) (.ref l) = pure false) hq) (.inr hu) h
theorem EqAt.str_dict {l : Addr} {dd : Option Addr} {es : Array DictEntry} {n : Nat} {sl : Array (Option Value)} (b : Str) (u : Tok) (ho : s.heap.get? l = some ⟨.type "dict", dd, .dict es n, sl⟩) (hu : A.units < cLine) : EqAt A s (.str b u) (.ref l) false := fun prog w E Q h => by
  unfold eqBool
  refine wpAny_holding ?_
  refine wpAny_ite_split (fun hab => absurd (eq_of_beq hab) nofun) (fun _ => ?_)
  exact wpAny_bind (RcAt.str_dict (cl := .none) b u ho hu prog w E _ (wpAny_truthy_bool h))
theorem RcAt.dict_str {l : Addr} {dd : Option Addr} {es : Array DictEntry} {n : Nat} {sl : Array (Option Value)} (b : Str) (u : Tok) (ho : s.heap.get? l = some ⟨.type "dict", dd, .dict es n, sl⟩) (hu : A.units < cLine) : RcAt A s (.ref l) (.str b u) false := fun prog w E Q h =>
  rc_eq_decline_or (k := false) ⟨_, ho, rfl⟩ (typeIs_str s b u) (by decide) F.sub_str_dict F.slot_dict_eq F.slot_str_eq_refl
    (fun _ hq => dict_eq_str (es := es) (n := n) b u ho rfl _ hq)
    (fun _ hq => call_meets F.slot_str_eq_refl (typeIs_str s b u) F.entry_str_eq (F.args_str_eq_2 _ _) (str_eq_dict b u l (.type "dict") es n dd sl) ⟨ho, hq⟩)
    (fun _ hq => wpAny_of_eq (rfl : isSame (.ref l) (.str b u) = pure false) hq) (.inr hu) h
theorem RcNeAt.dict_str {l : Addr} {dd : Option Addr} {es : Array DictEntry} {n : Nat} {sl : Array (Option Value)} (b : Str) (u : Tok) (ho : s.heap.get? l = some ⟨.type "dict", dd, .dict es n, sl⟩) (hu : A.units < cLine) : RcNeAt A s (.ref l) (.str b u) true := fun prog w E Q h =>
  rc_ne_decline_or (k := false) ⟨_, ho, rfl⟩ (typeIs_str s b u) (by decide) F.sub_str_dict F.slot_dict_ne F.slot_str_ne_refl
    (fun _ hq => dict_ne_str (es := es) (n := n) b u ho rfl _ hq)
    (fun _ hq => call_meets F.slot_str_ne_refl (typeIs_str s b u) F.entry_str_ne (F.args_str_ne_2 _ _) (str_ne_dict b u l (.type "dict") es n dd sl) ⟨ho, hq⟩)
    (fun _ hq => wpAny_of_eq (rfl : isSame (.ref l) (.str b u) = pure false) hq) (.inr hu) h
end
end SeqAt
end PySem
namespace KL
open PySem L2 PySem.Spec PyProof.Rows
/-- whether a thing is this text -/
def isStrD (x : Str) : PyData → Bool
  | .str y => x == y
  | _ => false
section
variable {A : Around} {s : Shared}
theorem eqAt_str {v : Value} {d : PyData} {as : List Addr} (b : Str) (u : Tok) (r : Reads s.heap v d as) (hu : A.units < cLine) : SeqAt.EqAt A s (.str b u) v (isStrD b d) := by
  cases r with
  | none => exact .str_none b u
  | bool k => exact .str_bool b u k
  | int i t => exact .str_int b u i t
  | str x t => exact .str_str b u x t
  | list k1 k2 k3 k4 => exact .str_list b u ⟨_, k1, k2, _, k3⟩ hu
  | tuple k1 k2 k3 k4 => exact .str_tuple b u ⟨_, k1, k2, _, k3⟩ hu
  | dict k1 k2 k3 k4 k5 =>
    rename_i o _ _ _ _ _
    obtain ⟨cl, dd, dt, sl⟩ := o

    subst k2 k3
    exact .str_dict b u k1 hu
theorem rcAt_str {v : Value} {d : PyData} {as : List Addr} (b : Str) (u : Tok) (r : Reads s.heap v d as) (hu : A.units < cLine) : SeqAt.RcAt A s v (.str b u) (isStrD b d) := by
  cases r with
  | none => exact .none_str b u
  | bool k => exact .bool_str k b u
  | int i t => exact .int_str i t b u
  | str x t =>
    have q := SeqAt.RcAt.str_str (A := A) (s := s) x t b u
    have e : (x == b) = isStrD b (.str x) := by
      show (x == b) = (b == x)
      exact Bool.beq_comm
    rwa [e] at q
  | list k1 k2 k3 k4 => exact .list_str b u ⟨_, k1, k2, _, k3⟩ hu
  | tuple k1 k2 k3 k4 => exact .tuple_str b u ⟨_, k1, k2, _, k3⟩ hu
  | dict k1 k2 k3 k4 k5 =>
    rename_i o _ _ _ _ _
    obtain ⟨cl, dd, dt, sl⟩ := o

    subst k2 k3
    exact .dict_str b u k1 hu
theorem rcNeAt_str {v : Value} {d : PyData} {as : List Addr} (b : Str) (u : Tok) (r : Reads s.heap v d as) (hu : A.units < cLine) : SeqAt.RcNeAt A s v (.str b u) (!isStrD b d) := by
  cases r with
  | none => exact .none_str b u
  | bool k => exact .bool_str k b u
  | int i t => exact .int_str i t b u
  | str x t =>
    have q := SeqAt.RcNeAt.str_str (A := A) (s := s) x t b u
    have e : (x == b) = isStrD b (.str x) := by
      show (x == b) = (b == x)
      exact Bool.beq_comm
    rwa [e] at q
  | list k1 k2 k3 k4 => exact .list_str b u ⟨_, k1, k2, _, k3⟩ hu
  | tuple k1 k2 k3 k4 => exact .tuple_str b u ⟨_, k1, k2, _, k3⟩ hu
  | dict k1 k2 k3 k4 k5 =>
    rename_i o _ _ _ _ _
    obtain ⟨cl, dd, dt, sl⟩ := o

    subst k2 k3
    exact .dict_str b u k1 hu
end
end KL
set_option Elab.async false
set_option linter.all false
set_option maxRecDepth 100000
set_option maxHeartbeats 2000000
namespace KL
open PySem L2 PySem.Spec PyProof.Rows
def isTop : PyData → Bool
  | .dict _ => true
  | _ => false
section
variable {X : Cx} {pins : List (Addr × Obj)} {σ : L2.St} {H : Hp} {s : Shared}
mutual
theorem Dq.reads (I : Inv X pins σ H s) : ∀ (d : PyData) (v : V) (u : Value), Dq H v d → RelV v u → ∃ as, Reads s.heap u d as ∧ (isTop d = true → sysModules ∉ as)
  | .none, _, _, h, r => by
    cases h
    cases r
    exact ⟨_, .none, fun z => by cases z⟩
  | .bool b, _, _, h, r => by
    cases h
    cases r
    exact ⟨_, .bool b, fun z => by cases z⟩
  | .int i, _, _, h, r => by
    cases h
    obtain ⟨t, rfl⟩ := r
    exact ⟨_, .int i t, fun z => by cases z⟩
  | .str x, _, _, h, r => by
    cases h
    obtain ⟨t, rfl⟩ := r
    exact ⟨_, .str x t, fun z => by cases z⟩
  | .list ds, _, _, h, r => by
    cases h with
    | lst q ha =>
      cases r
      obtain ⟨_, its, n, rv, ho⟩ := I.hok _ _ q
      obtain ⟨as, hr⟩ := DqAll.reads I ds _ its ha rv
      exact ⟨_, .list ho rfl rfl hr, fun z => by cases z⟩
  | .tuple ds, _, _, h, r => by
    cases h with
    | tup q ha =>
      cases r
      obtain ⟨_, its, rv, o, h1, h2, n, h3⟩ := I.hok _ _ q
      obtain ⟨as, hr⟩ := DqAll.reads I ds _ its ha rv
      exact ⟨_, .tuple h1 h2 h3 hr, fun z => by cases z⟩
  | .dict kvs, _, _, h, r => by
    cases h with
    | dct0 q =>
      cases r
      obtain ⟨_, ns, vs, rv, o, es, ep, h1, h2, h3, _, h5, _⟩ := I.hok _ _ q
      cases rv
      have e0 : es.toList = [] := by
        cases e : es.toList with
        | nil => rfl
        | cons x y =>
          rw [e] at h5
          cases h5
      refine ⟨_, .dict h1 h2.1 h3 (as := []) (bs := []) (by rw [e0]; exact .nil) (by rw [e0]; exact .nil), fun _ z => ?_⟩
      simp at z
      rw [← z] at ns
      simp at ns
    | @dct1 a0 x0 i0 q =>
      cases r
      obtain ⟨_, ns, vs, rv, o, es, ep, h1, h2, h3, _, h5, _⟩ := I.hok _ _ q
      cases rv with
      | cons r1 r2 =>
        cases r2
        obtain ⟨r1, t, r3⟩ := r1
        have e1 : ∃ (e : DictEntry) (tk : Tok), es.toList = [e] ∧ e.key = .str x0 tk ∧ e.val = .int i0 t := by
          generalize es.toList = L at h5
          cases h5 with
          | cons k1 k2 k3 =>
            rename_i e es'
            cases k3
            have k1 : keyIs _ _ = true := k1
            rw [← r1] at k1
            rcases keyIs_shape k1 with ⟨_, _, z, _⟩ | ⟨y, tk, z, z2⟩
            · cases z
            · cases z
              exact ⟨e, tk, rfl, z2, k2.trans r3⟩
        obtain ⟨e, tk, e1, e2, e3⟩ := e1
        refine ⟨_, .dict h1 h2.1 h3 (as := [] ++ []) (bs := [] ++ []) ?_ ?_, fun _ z => ?_⟩
        · rw [e1, List.map_cons, e2]
          exact .cons (.str _ tk) .nil
        · rw [e1, List.map_cons, e3]
          exact .cons (.int _ t) .nil
        · simp at z
          rw [← z] at ns
          simp at ns
theorem DqAll.reads (I : Inv X pins σ H s) : ∀ (ds : List PyData) (vs : List V) (us : List Value), DqAll H vs ds → Vals vs us → ∃ as, ReadsAll s.heap us ds as
  | [], _, _, h, r => by
    cases h
    cases r
    exact ⟨_, .nil⟩
  | d :: ds, _, _, h, r => by
    cases h with
    | cons h1 h2 =>
      cases r with
      | cons r1 r2 =>
        obtain ⟨as, q1, _⟩ := Dq.reads I d _ _ h1 r1
        obtain ⟨bs, q2⟩ := DqAll.reads I ds _ _ h2 r2
        exact ⟨_, .cons q1 q2⟩
end
end
/-- x == y, y a text -/
def rEqStr (y0 : Bool) : R2 := fun x y H Q => ∃ d t, Dq H x d ∧ y = .str t ∧ Q (.bl (if y0 = true then isStrD t d else !isStrD t d)) H
section
variable {X : Cx}
theorem op_eqStr (hu : X.A.units + 64 < cLine) : OpR X (compareOp .Eq) (rEqStr true) := by
  intro pins s σ H x y v u Q I rx ry h
  obtain ⟨d, t, hd, rfl, q⟩ := h
  obtain ⟨as, r, _⟩ := Dq.reads I d x v hd rx
  obtain ⟨tk, rfl⟩ := ry
  exact rcAt_str t tk r (by omega) _ _ _ _ ⟨.bl _, H, I, rfl, q⟩
theorem op_neStr (hu : X.A.units + 64 < cLine) : OpR X (compareOp .NotEq) (rEqStr false) := by
  intro pins s σ H x y v u Q I rx ry h
  obtain ⟨d, t, hd, rfl, q⟩ := h
  obtain ⟨as, r, _⟩ := Dq.reads I d x v hd rx
  obtain ⟨tk, rfl⟩ := ry
  exact rcNeAt_str t tk r (by omega) _ _ _ _ ⟨.bl _, H, I, rfl, q⟩
end
/-- a text among texts -/
def strIs : PyData → PyData → Bool
  | .str x, d => isStrD x d
  | _, _ => false
def inD (es : List PyData) (d : PyData) : Bool := es.any fun e => strIs e d
def strB : PyData → Bool
  | .str _ => true
  | _ => false
def allStr (es : List PyData) : Bool := es.all strB
def vStr (d : PyData) : Value → Bool
  | .str x _ => isStrD x d
  | _ => false
theorem any_str {H : Hp} {d : PyData} : ∀ {es : List PyData} {ys : List V} {us : List Value}, DqAll H ys es → Vals ys us → allStr es = true → us.any (vStr d) = inD es d ∧ ∀ u ∈ us, ∃ x t, u = .str x t
  | [], _, _, h, r, _ => by
    cases h
    cases r
    exact ⟨rfl, fun u hu => by simp at hu⟩
  | e :: es, _, _, h, r, a => by
    cases h with
    | cons h1 h2 =>
      cases r with
      | cons r1 r2 =>
        rename_i u us
        have a' := Bool.and_eq_true_iff.mp (show (strB e && allStr es) = true from a)
        obtain ⟨q1, q2⟩ := any_str (d := d) h2 r2 a'.2
        cases h1 with
        | str x =>
          obtain ⟨t, rfl⟩ := r1
          refine ⟨?_, fun u' hu => ?_⟩
          · show (vStr d (.str x t) || us.any (vStr d)) = _
            rw [q1]
            rfl
          · rcases List.mem_cons.mp hu with rfl | hu
            · exact ⟨x, t, rfl⟩
            · exact q2 u' hu
        | _ => exact absurd a'.1 (by simp [strB])
def rInStr (neg : Bool) : R2 := fun x y H Q => ∃ d p ys es, Dq H x d ∧ y = .ref p ∧ H p = some (.lst ys) ∧ DqAll H ys es ∧ allStr es = true ∧ Q (.bl (if neg = true then !inD es d else inD es d)) H
section
variable {X : Cx}
theorem op_inStr (hu : X.A.units + 64 < cLine) : OpR X (compareOp .In) (rInStr false) := by
  intro pins s σ H x y v u Q I rx ry h
  obtain ⟨d, p, ys, es, hd, rfl, hp, he, ha, q⟩ := h
  obtain ⟨as, r, _⟩ := Dq.reads I d x v hd rx
  cases (show u = Value.ref p from ry)
  obtain ⟨_, its, n, rv, ho⟩ := I.hok _ _ hp
  obtain ⟨q1, q2⟩ := any_str (d := d) he rv ha
  refine SeqAt.in_listAt (vStr d) ⟨_, ho, rfl, n, rfl⟩ (fun y hy => ?_) ⟨.bl _, H, I, rfl, ?_⟩
  · obtain ⟨z, t, rfl⟩ := q2 y (by simpa using hy)
    exact eqAt_str z t r (by show X.A.units + 1 < cLine; omega)
  · rw [List.any_toArray, q1]
    exact q
theorem op_notInStr (hu : X.A.units + 64 < cLine) : OpR X (compareOp .NotIn) (rInStr true) := by
  intro pins s σ H x y v u Q I rx ry h
  obtain ⟨d, p, ys, es, hd, rfl, hp, he, ha, q⟩ := h
  obtain ⟨as, r, _⟩ := Dq.reads I d x v hd rx
  cases (show u = Value.ref p from ry)
  obtain ⟨_, its, n, rv, ho⟩ := I.hok _ _ hp
  obtain ⟨q1, q2⟩ := any_str (d := d) he rv ha
  refine SeqAt.notIn_listAt (vStr d) ⟨_, ho, rfl, n, rfl⟩ (fun y hy => ?_) ⟨.bl _, H, I, rfl, ?_⟩
  · obtain ⟨z, t, rfl⟩ := q2 y (by simpa using hy)
    exact eqAt_str z t r (by show X.A.units + 1 < cLine; omega)
  · rw [List.any_toArray, q1]
    exact q
end
theorem DqAll.snoc {H : Hp} : ∀ {es : List PyData} {ys : List V} {y : V} {e : PyData}, DqAll H ys es → Dq H y e → DqAll H (ys ++ [y]) (es ++ [e])
  | [], _, _, _, h, q => by
    cases h
    exact .cons q .nil
  | _ :: _, _, _, _, h, q => by
    cases h with
    | cons h1 h2 => exact .cons h1 (DqAll.snoc h2 q)
/-- a comprehension that has made these data so far -/
def MadeQ (H0 : Hp) (D : Addr) (es : List PyData) (H : Hp) : Prop := Same H0 H ∧ ∃ ys, H D = some (.lst ys) ∧ DqAll H0 ys es
theorem MadeQ.start {H0 : Hp} {D : Addr} (nD : H0 D = none) : MadeQ H0 D [] (upd H0 D (.lst [])) := ⟨same_new nD, [], upd_same, .nil⟩
theorem MadeQ.turn {H0 H H' : Hp} {D : Addr} {g : PyData → PyData} {ds : List PyData} {i : Nat} {d : PyData} {y : V} (hD : H0 D = none) (M : MadeQ H0 D ((ds.take i).map g) H) (S : Same H H') (hl : ds.length ≤ 1000) (h : ds[i]? = some d) (q : Dq H0 y (g d)) :
    ∃ acc, H' D = some (.lst acc) ∧ acc.length < sizeLine ∧ MadeQ H0 D ((ds.take (i + 1)).map g) (upd H' D (.lst (acc ++ [y]))) := by
  obtain ⟨S0, ys, hy, hq⟩ := M
  refine ⟨ys, S _ _ hy, ?_, fun x o e => ?_, ys ++ [y], upd_same, ?_⟩
  · rw [hq.len, List.length_map, List.length_take]
    exact Nat.lt_of_le_of_lt (Nat.le_trans (Nat.min_le_right _ _) hl) (by rw [sizeLine_eq]; omega)
  · have nx : x ≠ D := fun z => by
      rw [z, hD] at e
      cases e
    rw [upd_ne nx]
    exact S _ _ (S0 _ _ e)
  · rw [take_map h]
    exact hq.snoc q
theorem find_at {p : PyData → Bool} : ∀ {ds : List PyData} {i : Nat} {d : PyData}, (ds.take i).all p = true → ds[i]? = some d → p d = false → (ds.find? fun x => !p x) = some d
  | [], _, _, _, e, _ => by simp at e
  | x :: ds, 0, d, _, e, h => by
    simp at e
    subst e
    rw [List.find?_cons_of_pos]
    simp [h]
  | x :: ds, i + 1, d, a, e, h => by
    have a' := Bool.and_eq_true_iff.mp (show (p x && (ds.take i).all p) = true from a)
    rw [List.find?_cons_of_neg (by simp [a'.1])]
    exact find_at a'.2 (by simpa using e) h
theorem find_none {p : PyData → Bool} {ds : List PyData} (a : ds.all p = true) : (ds.find? fun x => !p x) = none := by
  rw [List.find?_eq_none]
  intro x hx
  simp [List.all_eq_true.mp a x hx]
theorem take_all {p : PyData → Bool} {ds : List PyData} {i : Nat} {d : PyData} (a : (ds.take i).all p = true) (e : ds[i]? = some d) (h : p d = true) : (ds.take (i + 1)).all p = true := by
  rw [List.take_add_one, e, List.all_append, a]
  simp [h]
/-- a comprehension that has made these data so far, some of them new -/
def MadeN (H0 : Hp) (D : Addr) (es : List PyData) (H : Hp) : Prop := ∃ (J : Hp) (ys : List V), Same H0 J ∧ J D = none ∧ Same J H ∧ H D = some (.lst ys) ∧ DqAll J ys es
theorem MadeN.start {H0 : Hp} {D : Addr} (nD : H0 D = none) : MadeN H0 D [] (upd H0 D (.lst [])) := ⟨H0, [], Same.refl _, nD, same_new nD, upd_same, .nil⟩
theorem MadeN.same {H0 H : Hp} {D : Addr} {es : List PyData} (M : MadeN H0 D es H) : Same H0 H := by
  obtain ⟨J, ys, S0, _, S1, _⟩ := M
  exact S0.trans S1
theorem MadeN.turn {H0 H : Hp} {D p : Addr} {es ds : List PyData} {us : List V} (M : MadeN H0 D es H) (np : H p = none) (q : DqAll H0 us ds) :
    ∃ acc, upd H p (.tup us) D = some (.lst acc) ∧ acc.length = es.length ∧ MadeN H0 D (es ++ [.tuple ds]) (upd (upd H p (.tup us)) D (.lst (acc ++ [.ref p]))) := by
  obtain ⟨J, ys, S0, nD, S1, hD, hq⟩ := M
  have pD : p ≠ D := fun z => by
    rw [z, hD] at np
    cases np
  have nJ : J p = none := by
    cases e : J p with
    | none => rfl
    | some o =>
      rw [S1 _ _ e] at np
      cases np
  have SJ := same_new (o := .tup us) nJ
  refine ⟨ys, by rw [upd_ne pD.symm]; exact hD, hq.len, upd J p (.tup us), ys ++ [.ref p], S0.trans SJ, by rw [upd_ne pD.symm]; exact nD, fun b o e => ?_, upd_same, ?_⟩
  · have bD : b ≠ D := fun z => by
      rw [z, upd_ne pD.symm, nD] at e
      cases e
    rw [upd_ne bD]
    by_cases bp : b = p
    · subst bp
      rw [upd_same] at e ⊢
      exact e
    · rw [upd_ne bp] at e ⊢
      exact S1 _ _ e
  · exact (DqAll.same SJ _ _ hq).snoc (.tup upd_same (DqAll.same (S0.trans SJ) _ _ q))
theorem DqAll.take {H : Hp} : ∀ {ds : List PyData} {xs : List V} (n : Nat), DqAll H xs ds → DqAll H (xs.take n) (ds.take n)
  | [], _, n, h => by
    cases h
    simp
    exact .nil
  | _ :: _, _, 0, h => .nil
  | _ :: _, _, n + 1, h => by
    cases h with
    | cons q r => exact .cons q (DqAll.take n r)
theorem cut_two (xs : List V) (h : 2 ≤ xs.length) : cutV xs none (some 2) = xs.take 2 := by
  unfold cutV
  rw [HT.sIx_none, show HT.sIx xs.length xs.length (some 2) = min 2 xs.length from HT.sIx_nat xs.length xs.length 2]
  rw [List.drop_zero, Nat.sub_zero, Nat.min_eq_left h]
theorem not_whole (xs : List V) (h : 2 < xs.length) : ¬ (HT.sIx xs.length 0 none = 0 ∧ HT.sIx xs.length xs.length (some 2) = xs.length) := fun z => by
  have q := z.2
  rw [show HT.sIx xs.length xs.length (some 2) = min 2 xs.length from HT.sIx_nat xs.length xs.length 2] at q
  omega
theorem isT_of {d : PyData} (h : isTupD d = true) : ∃ ds, d = .tuple ds := by
  cases d with
  | tuple ds => exact ⟨ds, rfl⟩
  | _ => cases h
theorem int_of {d : PyData} (h : intD d = true) : ∃ i, d = .int i := by
  cases d with
  | int i => exact ⟨i, rfl⟩
  | _ => cases h
theorem bool_ft (b : Bool) : b = false ∨ b = true := by cases b <;> simp
end KL
set_option Elab.async false
set_option linter.all false
set_option maxRecDepth 100000
set_option maxHeartbeats 2000000
namespace KL
open PySem L2 PySem.Spec PyProof.Rows
/-! ### sorted(xs) of a list of data that can be compared -/
def pairD (p : V × PyData) : PyData := p.2
def ItemQ (H : Hp) (u : Value) (p : V × PyData) : Prop := RelV p.1 u ∧ Dq H p.1 p.2
theorem each_items {H : Hp} : ∀ {ds : List PyData} {xs : List V} {us : List Value}, DqAll H xs ds → Vals xs us → PySem.W.EachIs (ItemQ H) us (xs.zip ds)
  | [], _, _, h, r => by
    cases h
    cases r
    exact .nil
  | d :: ds, _, _, h, r => by
    cases h with
    | cons h1 h2 =>
      cases r with
      | cons r1 r2 => exact .cons ⟨r1, h1⟩ (each_items h2 r2)
theorem each_reads {X : Cx} {pins : List (Addr × Obj)} {σ : L2.St} {H : Hp} {s : Shared} (I : Inv X pins σ H s) : ∀ {ds : List PyData} {xs : List V} {us : List Value}, DqAll H xs ds → Vals xs us → PyData.canLayAll0 ds = true → PySem.W.EachIs (fun u p => ∃ as, Reads s.heap u (pairD p) as) us (xs.zip ds)
  | [], _, _, h, r, _ => by
    cases h
    cases r
    exact .nil
  | d :: ds, _, _, h, r, l => by
    cases h with
    | cons h1 h2 =>
      cases r with
      | cons r1 r2 =>
        have l' := Bool.and_eq_true_iff.mp (show (d.canLay0 && PyData.canLayAll0 ds) = true from l)
        exact .cons (Dq.reads0 I d _ _ h1 l'.1 r1) (each_reads I h2 r2 l'.2)
theorem vals_of_each {H : Hp} : ∀ {us : List Value} {zs : List (V × PyData)}, PySem.W.EachIs (ItemQ H) us zs → Vals (zs.map (·.1)) us ∧ DqAll H (zs.map (·.1)) (zs.map (·.2))
  | _, _, .nil => ⟨.nil, .nil⟩
  | _, _, .cons h t => by
    obtain ⟨q1, q2⟩ := vals_of_each t
    exact ⟨.cons h.1 q1, .cons h.2 q2⟩
theorem zip_snd : ∀ {ds : List PyData} {xs : List V}, xs.length = ds.length → (xs.zip ds).map (·.2) = ds
  | [], [], _ => rfl
  | d :: ds, x :: xs, h => by
    show d :: (xs.zip ds).map (·.2) = d :: ds
    rw [zip_snd (ds := ds) (xs := xs) (Nat.succ.inj h)]
/-- the order of sorted -/
def leD : PyData → PyData → Bool := PySem.W.dataLe false id
def rSortedQ (K : PySem.W.Frag) : List V → Hp → VK → Prop := fun vs H Q => ∃ (Hd : Hp) (a : Addr) (xs : List V) (ds : List PyData), vs = [V.ref a] ∧ SqL K H a xs ∧ Same Hd H ∧ DqAll Hd xs ds ∧ PyData.canLayAll0 ds = true ∧ PySem.W.AllAlike ds ∧ PySem.W.Sortable ds ∧ PyData.depthAll ds ≤ 20 ∧
  ∀ (ys : List V) (p : Addr), DqAll Hd ys (ds.mergeSort leD) → H p = none → Q (.ref p) (upd H p (.lst ys))
theorem depth_mem1 : ∀ {ds : List PyData} {d : PyData}, d ∈ ds → d.depth ≤ PyData.depthAll ds
  | e :: ds, d, h => by
    show d.depth ≤ max e.depth (PyData.depthAll ds)
    rcases List.mem_cons.mp h with rfl | h
    · exact Nat.le_max_left _ _
    · exact Nat.le_trans (depth_mem1 h) (Nat.le_max_right _ _)
theorem sort_snd (zs : List (V × PyData)) : (zs.mergeSort (PySem.W.dataLe false pairD)).map (·.2) = (zs.map (·.2)).mergeSort leD := by
  rw [List.map_mergeSort]
  intro a _ b _
  rfl
theorem cr_sortedQ {X : Cx} (hu : X.A.units + 64 < cLine) : CallR X (.builtin "sorted") (rSortedQ X.K) := by
  intro pins s σ H vs us Q I r h
  obtain ⟨Hd, a, xs, ds, rfl, hs, S, hd, lay, al, so, dp, q⟩ := h
  obtain ⟨its, rv, hl, hz⟩ := I.list hs
  rw [Vals.ref1 r]
  have len := hd.len
  have e2 := zip_snd len
  have zl : (xs.zip ds).length = ds.length := by rw [List.length_zip, len, Nat.min_self]
  have e3 : (xs.zip ds).map pairD = ds := e2
  refine PySem.W.sorted_data (R := ItemQ Hd) (enc := pairD) (bs := xs.zip ds) hl.isList (each_items hd rv) (each_reads I (DqAll.same S _ _ hd) rv lay) (by rw [e3]; exact al) (by rw [e3]; exact so) (by rw [zl, ← len]; exact hz) (fun b hb => ?_) (fun out lo ho => ?_)
  · have hm : pairD b ∈ ds := by
      rw [← e3]
      exact List.mem_map.mpr ⟨b, hb, rfl⟩
    have := depth_mem1 hm
    omega
  · obtain ⟨q1, q2⟩ := vals_of_each ho
    rw [sort_snd, e2] at q2
    obtain ⟨ep, he'⟩ := PyProof.Rows.sortedAll_at s.heap its out.toArray
    have hlen : (((xs.zip ds).mergeSort (PySem.W.dataLe false pairD)).map (·.1)).length ≤ sizeLine := by
      rw [List.length_map, List.length_mergeSort, zl, ← len]
      exact hz
    exact ⟨.ref _, upd H (s.heap.objs.size + 1) (.lst _), I.laid (t' := s.toks) (fun _ _ => PyProof.Rows.sortedAll_old) (Nat.le_succ _) ⟨hlen, out, ep, q1, he'⟩, rfl, q _ _ q2 (I.hok.fresh (Nat.le_succ _))⟩
end KL
set_option Elab.async false
set_option linter.all false
set_option maxRecDepth 100000
set_option maxHeartbeats 4000000
namespace KL
open PySem L2 PySem.Spec PyProof.Rows
/-! ### xs.extend(t), t a tuple -/
theorem ext_tup (l : Addr) (us : Array Value) (n : Nat) (b : Addr) (ws : Array Value) (m : Nat) (dd : Option Addr) (sl : Array (Option Value)) (c0 : ¬(!us.isEmpty && Builtin.List.listTooLong (us.size + ws.size)) = true) (c1 : us.size ≤ sizeLine) (c2 : us.size + ws.size ≤ sizeLine + 1) :
    Meets (Builtin.«list.extend» ⟨[.ref l, .ref b], []⟩) (fun _ R s => s.heap.get? l = some { cls := .type "list", dict := none, data := .seq us n, slots := #[] } ∧ s.heap.get? b = some ⟨.type "tuple", dd, .seq ws m, sl⟩ ∧
      R (.ok (.ret .none)) { s with heap := s.heap.update l (Obj.mapSeq fun x => x ++ ws), toks := s.toks }) :=
  .of_wp fun prog w A R s hh => by
    obtain ⟨hp, g, d, tk, os⟩ := s
    obtain ⟨hl, hb, hh⟩ := hh
    have f3 := AutoSeq1.sub_list_list
    have f4 := AutoSeq1.sub_tuple_list
    have f2 := AutoSeq1.sub_tuple_tuple
    have f5 := AutoSeq1.sub_list_tuple
    have z : (us ++ ws).size ≤ sizeLine + 1 := by
      rw [Array.size_append]
      exact c2
    wp_walk using (wpAny_updateSeq hl rfl (hz := c1) (_hz' := z)), AutoSeq1.wpAny_loadPart' hl, AutoSeq1.wpAny_loadPart' hb
    exact ⟨_, rfl, hh⟩
def rExtT (K : PySem.W.Frag) : V → List V → Hp → VK → Prop := fun x vs H Q => ∃ l b xs zs, x = .ref l ∧ vs = [.ref b] ∧ H l = some (.lst xs) ∧ SqT K H b zs ∧ xs.length + zs.length ≤ sizeLine ∧ Q .non (upd H l (.lst (xs ++ zs)))
theorem mt_extT {X : Cx} : MtM X "list.extend" (rExtT X.K) := by
  intro pins s σ H x vs v us Q I rx rv h
  obtain ⟨l, b, xs, zs, rfl, rfl, hH, hB, hz, q⟩ := h
  cases rx
  obtain ⟨u, rfl, ru⟩ := rv.one
  cases ru
  obtain ⟨z, its, n, r, hl, e⟩ := I.lstM hH
  obtain ⟨its2, r2, ⟨⟨cls, dd, data, sl⟩, ho, hc, m, hd⟩, hs⟩ := I.tuple hB
  simp only at hc hd
  subst hc hd
  have s1 : its.toArray.size = xs.length := by rw [List.size_toArray, r.length]
  have s2 : its2.toArray.size = zs.length := by rw [List.size_toArray, r2.length]
  have hsz : its.toArray.size + its2.toArray.size ≤ sizeLine := by omega
  have hlong : ¬ (!its.toArray.isEmpty && Builtin.List.listTooLong (its.toArray.size + its2.toArray.size)) = true := by
    rw [notLongL hsz, Bool.and_false]
    exact Bool.false_ne_true
  refine call_meets F.slot_list_extend ⟨_, e, rfl⟩ F.entry_list_extend (F.args_list_extend_2 _ _) (ext_tup l its.toArray n b its2.toArray m dd sl hlong (by omega) (by omega)) ⟨e, ho, ?_⟩
  refine ⟨.non, _, I.lset (its' := its ++ its2) hH e (by simp) (r.append r2) ?_, rfl, q⟩
  rw [List.length_append]
  exact hz
/-! ### dict(xs), xs a list of pairs whose keys are tuples of ints and texts -/
def mergeT (kvs more : List (List Key × V)) : List (List Key × V) := more.foldl (fun acc kv => putK acc kv.1 kv.2) kvs
def rDictT (K : PySem.W.Frag) : List V → Hp → VK → Prop := fun xs H Q => ∃ (a : Addr) (ps : List Addr) (kvs : List (List Key × V)), xs = [.ref a] ∧ SqL K H a (ps.map V.ref) ∧
  Paired (fun p kv => ∃ b, SqT K H p [.ref b, kv.2] ∧ H b = some (.tup (kv.1.map kV))) ps kvs ∧ ∀ p, H p = none → Q (.ref p) (upd H p (.dT (mergeT [] kvs)))
section
variable {X : Cx}
theorem pairs_ofT {pins : List (Addr × Obj)} {σ : L2.St} {H : Hp} {s : Shared} (I : Inv X pins σ H s) : ∀ {ps : List Addr} {kvs : List (List Key × V)}, Paired (fun p kv => ∃ b, SqT X.K H p [.ref b, kv.2] ∧ H b = some (.tup (kv.1.map kV))) ps kvs →
    ∃ xs : List (List Key × Addr × Value), KT H kvs xs ∧ xs.length = ps.length ∧ ∀ (j : Nat) (q : List Key × Addr × Value), xs[j]? = some q → ∃ p, ps[j]? = some p ∧ IsTup s.heap p #[.ref q.2.1, q.2.2] ∧ (tupleKind (mixKind X.prog X.w)).is s.heap q.1 q.2.1
  | _, _, .nil => ⟨[], .nil, rfl, fun j q e => by simp at e⟩
  | _, _, .cons (a := p) (b := kv) h t => by
    obtain ⟨xs, r, hl, hp⟩ := pairs_ofT I t
    obtain ⟨b, h, hb⟩ := h
    obtain ⟨its, rv, ht, _⟩ := I.tuple h
    obtain ⟨u, y, ei, ru, ry⟩ := vals2 rv
    subst ei
    cases (show u = Value.ref b from ru)
    refine ⟨(kv.1, b, y) :: xs, .cons ⟨rfl, hb, ry⟩ r, by rw [List.length_cons, List.length_cons, hl], fun j q e => ?_⟩
    cases j with
    | zero =>
      have e' : (kv.1, b, y) = q := Option.some.inj e
      subst e'
      exact ⟨p, rfl, ht, key_of I.hok hb⟩
    | succ j =>
      obtain ⟨p', e1, e2, e3⟩ := hp j q (by simpa using e)
      exact ⟨p', by simpa using e1, e2, e3⟩
theorem merge_keyed {H : Hp} : ∀ {kvs : List (List Key × V)} {xs : List (List Key × Addr × Value)} {acc : List (List Key × V)} {ys : List (List Key × Addr × Value)}, KT H kvs xs → KT H acc ys → KT H (mergeT acc kvs) (storedAllH ys xs)
  | _, _, _, _, .nil, r => r
  | _, _, _, _, .cons (a := kv) (b := x) h t, r => by
    obtain ⟨h1, h2, h3⟩ := h
    have q := r.put kv.1 h2 h3
    have m := merge_keyed t q
    show KT H (mergeT (putK _ kv.1 kv.2) _) (storedAllH (storedH _ x.1 x.2.1 x.2.2) _)
    rw [← h1]
    exact m
theorem merge_len : ∀ (kvs acc : List (List Key × V)), (mergeT acc kvs).length ≤ acc.length + kvs.length
  | [], acc => Nat.le_refl _
  | kv :: kvs, acc => by
    have h1 := merge_len kvs (putK acc kv.1 kv.2)
    have h2 := length_putK acc kv.1 kv.2
    show (mergeT (putK acc kv.1 kv.2) kvs).length ≤ _
    rw [List.length_cons]
    omega
theorem call_dictT (hc : X.calm = true) (hu : X.A.units + 64 < cLine) : CallR X (.type "dict") (rDictT X.K) := by
  intro pins s σ H xs us Q I r h
  obtain ⟨a, ps, kvs, rfl, hs, hp, q⟩ := h
  obtain ⟨its, rv, pl, hz⟩ := I.list hs
  rw [Vals.ref1 r]
  have ei := refs_at rv
  subst ei
  rw [List.length_map] at hz
  obtain ⟨prs, rel, hl, hpr⟩ := pairs_ofT I hp
  obtain ⟨o, n, ho, hcl, hd, hdat⟩ := pl
  have hm : (s.heap.objs.size == sysModules) = false := beq_eq_false_iff_ne.mpr (Nat.ne_of_gt I.big)
  have lp : (prs.map fun x => (Value.ref x.2.1, x.2.2)).length = prs.length := List.length_map _
  refine call_dict_pairsH (knd := tupleKind (mixKind X.prog X.w)) (ps := prs) (PairArg.list a (ps.map Value.ref).toArray (fun j => ps.getD j 0) (prs.map fun x => (Value.ref x.2.1, x.2.2))) (I.ok.hd hc) (show X.A.units + 1 + 1 < cLine by omega)
    ⟨⟨o, n, ho, hcl, hd, hdat⟩, ?_, fun j k v e => ?_⟩ ⟨lp.symm, fun i key v e => ?_⟩ (fun h' hk x hx => ?_) (by rw [lp, hl]; exact hz) fun h' tk hd' k => ?_
  · rw [lp, hl]
    simp
  · rw [List.getElem?_map] at e
    cases ex : prs[j]? with
    | none =>
      rw [ex] at e
      cases e
    | some x =>
      rw [ex] at e
      have e := Option.some.inj e
      obtain ⟨p, e1, e2, e3⟩ := hpr j x ex
      cases e
      refine ⟨by simp [e1], ?_⟩
      show PairAt s.heap (ps.getD j 0) _ _
      rw [List.getD_eq_getElem?_getD, e1]
      obtain ⟨o', h1, h2, m, h3⟩ := e2
      exact .inl ⟨o', h1, h2, m, h3⟩
  · have e : (prs.map fun x => (Value.ref x.2.1, x.2.2))[i]? = some (key, v) := e
    rw [List.getElem?_map] at e
    cases ex : prs[i]? with
    | none =>
      rw [ex] at e
      cases e
    | some x =>
      rw [ex] at e
      have e := Option.some.inj e
      cases e
      exact ⟨x.1, x.2.1, rfl, rfl⟩
  · obtain ⟨j, hj⟩ := List.mem_iff_getElem?.mp hx
    obtain ⟨p, e1, e2, o', its', m, h1, h2, h3, h4⟩ := hpr j x hj
    refine ⟨o', its', m, hk _ _ (Nat.ne_of_lt (Heap.lt_size h1)) (fun z => nomatch z) h1, h2, h3, h4⟩
  · have hlen : (mergeT [] kvs).length ≤ sizeLine := by
      have h1 := merge_len kvs []
      have h2 : kvs.length = prs.length := Paired.length rel
      rw [List.length_nil] at h1
      omega
    have keep : ∀ b o, s.heap.get? b = some o → h'.get? b = some o := fun b o e => k b o (fun z => nomatch z) e
    have m := merge_keyed rel (.nil : KT H [] [])
    obtain ⟨o', es, ep, d1, d2, d3, d4, _, d5⟩ := hd'
    refine ⟨.ref s.heap.objs.size, upd H s.heap.objs.size (.dT (mergeT [] kvs)), I.laid (t' := tk) keep (Nat.le_refl _) (show ObjOk X.prog X.w _ _ _ (.dT (mergeT [] kvs)) from ⟨hlen, hm, _, m.keeps fun b ys e => ?_, o', es, ep, d1, d2, d3, d4, d5⟩), rfl, q _ (I.hok.fresh (Nat.le_refl _))⟩
    rw [upd_ne (ne_of_none e (I.hok.fresh (Nat.le_refl _)))]
    exact e
end
end KL
set_option Elab.async false
set_option linter.all false
set_option maxRecDepth 100000
set_option maxHeartbeats 4000000
namespace KL
open PySem L2 PySem.Spec PyProof.Rows
/-! ### sets of ints and texts, their order too -/
theorem paired_perm {α β : Type} {R : α → β → Prop} {l l' : List α} (p : l'.Perm l) : ∀ {m : List β}, Paired R l m → ∃ m', m'.Perm m ∧ Paired R l' m' := by
  induction p with
  | nil => intro m h; exact ⟨m, .refl _, h⟩
  | cons x _ ih =>
    intro m h
    cases h with
    | cons h1 h2 =>
      obtain ⟨m', p', q'⟩ := ih h2
      exact ⟨_ :: m', p'.cons _, .cons h1 q'⟩
  | swap x y l =>
    intro m h
    cases h with
    | cons h1 h2 =>
      cases h2 with
      | cons h3 h4 => exact ⟨_ :: _ :: _, .swap _ _ _, .cons h3 (.cons h1 h4)⟩
  | trans _ _ ih1 ih2 =>
    intro m h
    obtain ⟨m', p', q'⟩ := ih2 h
    obtain ⟨m'', p'', q''⟩ := ih1 q'
    exact ⟨m'', p''.trans p', q''⟩
def KeyE (P : Program) (w : World) (e : Int × Value) (k : Key) : Prop := RelV (kV k) e.2 ∧ e.1 = (mixKind P w).hash k
/-- a set that has the keys ks, in some order -/
structure SetKs (P : Program) (w : World) (h : Heap) (a : Addr) (ks : List Key) : Prop where
  ex : ∃ o es ep t, h.get? a = some o ∧ o.ExactSet ∧ o.data = .set es ep t ∧ Paired (KeyE P w) es.toList ks ∧ es.size < scanBound ∧ t.fits es.size = true ∧ Ris t.place.toList ∧ (w.params.followText "set-order" = true ∨ t.led = true)
  nd : ks.Nodup
section
variable {P : Program} {w : World} {A : Around} {E : Value → Shared → Prop} {s : Shared} {a : Addr} {ks : List Key} {h h' : Heap}
theorem SetKs.at (R : SetKs P w h a ks) (k : ∀ o, h.get? a = some o → h'.get? a = some o) : SetKs P w h' a ks := by
  obtain ⟨⟨o, es, ep, t, ho, r⟩, nd⟩ := R
  exact ⟨⟨o, es, ep, t, k o ho, r⟩, nd⟩
theorem elems_of : ∀ {l : List (Int × Value)} {ks : List Key}, Paired (KeyE P w) l ks → ElemsOf (mixKind P w) l
  | _, _, .nil => fun e he => nomatch he
  | _, _, .cons h t => fun e he => by
    rcases List.mem_cons.mp he with z | z
    · subst z
      exact ⟨⟨_, kV_is h.1, h.2⟩, key_scan h.1⟩
    · exact elems_of t e z
theorem is_only {k j : Key} {v : Value} (r : RelV (kV j) v) : (mixKind P w).is k v = true ↔ k = j := by
  constructor
  · intro h
    exact (mixKind P w).inj v k j h (kV_is r)
  · rintro rfl
    exact kV_is r
theorem mem_is {k : Key} : ∀ {l : List (Int × Value)} {ks : List Key}, Paired (KeyE P w) l ks → (k ∈ ks ↔ ∃ e ∈ l, (mixKind P w).is k e.2 = true)
  | _, _, .nil => ⟨fun z => (nomatch z), fun ⟨_, z, _⟩ => (nomatch z)⟩
  | _, _, .cons h t => by
    rw [List.mem_cons, mem_is t]
    constructor
    · rintro (z | ⟨e, h1, h2⟩)
      · exact ⟨_, List.mem_cons_self, (is_only h.1).2 z⟩
      · exact ⟨e, List.mem_cons_of_mem _ h1, h2⟩
    · rintro ⟨e, h1, h2⟩
      rcases List.mem_cons.mp h1 with z | z
      · subst z
        exact .inl ((is_only h.1).1 h2)
      · exact .inr ⟨e, z, h2⟩
/-- what stands in the place of ks when k is put in -/
def PutIn (k : Key) (ks ks' : List Key) : Prop := (k ∈ ks ∧ ks' = ks) ∨ (k ∉ ks ∧ ks'.Perm (k :: ks))
theorem PutIn.mem {k j : Key} {ks ks' : List Key} (h : PutIn k ks ks') : j ∈ ks' ↔ j = k ∨ j ∈ ks := by
  rcases h with ⟨h1, rfl⟩ | ⟨_, h2⟩
  · exact ⟨.inr, fun z => z.elim (fun e => e ▸ h1) id⟩
  · rw [h2.mem_iff, List.mem_cons]
theorem PutIn.len {k : Key} {ks ks' : List Key} (h : PutIn k ks ks') : ks'.length ≤ ks.length + 1 := by
  rcases h with ⟨_, rfl⟩ | ⟨_, h2⟩
  · exact Nat.le_succ _
  · rw [h2.length_eq]
    exact Nat.le_refl _
/-- the entries are stored, and laid anew where the table is too full -/
theorem ks_tail {g : Bool → Sem Unit} {o : Obj} {es es1 : Array (Int × Value)} {ep : Nat} {t t2 : SetTable} {ls : List Key} {dm : Bool} {R : Option Bool → Shared → Prop}
    (hg : ∀ (b : Bool) (s₁ : Shared) (Q' : Unit → Shared → Prop), Q' () s₁ → wpAny (model P w) A (g b) Q' E s₁) (ho : s.heap.get? a = some o) (hx : o.ExactSet) (hd : o.data = .set es ep t)
    (pr : Paired (KeyE P w) es1.toList ls) (nd : ls.Nodup) (hb : es1.size < scanBound) (hf : t2.fits es1.size = true) (hr : Ris t2.place.toList) (hl : w.params.followText "set-order" = true ∨ t2.led = true)
    (hR : ∀ h' ms, Heap.SameBut a s.heap h' → SetKs P w h' a ms → ms.Perm ls → R (some true) { s with heap := h' }) :
    wpAny (model P w) A (do
        storeSet a es1 t2
        if (!dm && t2.tooFull) = true then do
            g (relayAll t2 es1 (SetTable.grown es1.size)).2.2
            storeSet a (relayAll t2 es1 (SetTable.grown es1.size)).1 (relayAll t2 es1 (SetTable.grown es1.size)).2.1
            pure (some true)
          else pure (some true)) R E s := by
  have stored := store_at (es' := es1) (t' := t2) ho hd
  have same := Heap.SameBut.update s.heap a (Obj.putSet es1 t2)
  refine wpAny_bind (wpAny_storeSet_of ho hd ?_ (fits_of_scanBound hb))
  by_cases full : (!dm && t2.tooFull) = true
  · rw [if_pos full]
    have k1 := relayAll_perm t2 es1 (SetTable.grown es1.size)
    have k2 := relayAll_fits t2 es1 (SetTable.grown es1.size)
    have k3 := relayAll_ris t2 es1 (SetTable.grown es1.size)
    have k4 := relayAll_led t2 es1 (SetTable.grown es1.size)
    revert k1 k2 k3 k4
    generalize relayAll t2 es1 (SetTable.grown es1.size) = Z
    obtain ⟨es2, t3, gv⟩ := Z
    intro k1 k2 k3 k4
    dsimp only at k1 k2 k3 k4 ⊢
    obtain ⟨ms, m1, m2⟩ := paired_perm k1 pr
    have sz : es2.size = es1.size := by rw [← Array.length_toList, k1.length_eq, Array.length_toList]
    have b2 : es2.size < scanBound := by omega
    refine wpAny_bind (hg _ _ _ (wpAny_bind (wpAny_storeSet_of stored rfl (wpAny_pure ?_) (fits_of_scanBound b2))))
    refine hR _ ms (same.trans (Heap.SameBut.update _ a _)) ⟨⟨_, es2, _, t3, store_at (es' := es2) (t' := t3) stored rfl, hx, rfl, m2, b2, k2, k3, hl.imp id fun z => ?_⟩, m1.nodup_iff.mpr nd⟩ m1
    rw [k4]
    exact z
  · rw [if_neg full]
    exact wpAny_pure (hR _ ls same ⟨⟨_, es1, _, t2, stored, hx, rfl, pr, hb, hf, hr, hl⟩, nd⟩ (.refl _))
theorem ks_put {k : Key} {u : Value} {Q : Bool → Shared → Prop} (ru : RelV (kV k) u) (R : SetKs P w s.heap a ks) (room : ks.length + 1 < scanBound)
    (hQ : ∀ h' ks' b, Heap.SameBut a s.heap h' → SetKs P w h' a ks' → PutIn k ks ks' → Q b { s with heap := h' }) : wpAny (model P w) A (setAddHashed a u ((mixKind P w).hash k)) Q E s := by
  obtain ⟨⟨o, es, ep, t, ho, hx, hd, pr, hb, hf, hr, hl⟩, nd⟩ := R
  have len : es.size = ks.length := by rw [← Array.length_toList]; exact Paired.length pr
  have isk := kV_is (P := P) (w := w) ru
  have scn := key_scan ru
  have el := elems_of pr
  unfold setAddHashed setAddHashedIn
  refine wpAny_holding (wpAny_bind (wpAny_setState_of ho hd hf ?_))
  dsimp only
  rw [byScan_of scn hb el]
  simp only [↓reduceIte]
  unfold setAddByScan
  refine wpAny_bind (wpAny_bind (wpAny_rule (wpAny_bind (wpAny_setScan_of isk ho hd hf el ?_))))
  cases hfi : List.findIdx? (fun e => (mixKind P w).is k e.2) es.toList with
  | some j =>
    dsimp only
    obtain ⟨hj, pj, _⟩ := List.findIdx?_eq_some_iff_getElem.mp hfi
    have hm : k ∈ ks := (mem_is pr).2 ⟨es.toList[j], List.getElem_mem hj, pj⟩
    exact wpAny_pure (wpAny_pure (hQ s.heap ks _ (Heap.SameBut.refl a s.heap) ⟨⟨o, es, ep, t, ho, hx, hd, pr, hb, hf, hr, hl⟩, nd⟩ (.inl ⟨hm, rfl⟩)))
  | none =>
    dsimp only
    have hm : k ∉ ks := fun z => by
      obtain ⟨e, he, q⟩ := (mem_is pr).1 z
      have c := List.findIdx?_eq_none_iff.mp hfi e he
      rw [q] at c
      cases c
    have gw : ∀ (b : Bool) {s₁ : Shared} {Q' : Unit → Shared → Prop}, Q' () s₁ → wpAny (model P w) A (match b with | true => rule "set.scan.the-table-gave-way" | false => pure ()) Q' E s₁ := fun b s₁ Q' q => by
      cases b
      · exact wpAny_pure q
      · exact wpAny_rule q
    have k1 := layNew_perm t es ((mixKind P w).hash k) u
    have k2 := layNew_fits t es ((mixKind P w).hash k) u
    have k3 := layNew_ris t es ((mixKind P w).hash k) u hr
    have k4 := layNew_led t es ((mixKind P w).hash k) u
    revert k1 k2 k3 k4
    generalize layNew t es ((mixKind P w).hash k) u = Z
    obtain ⟨es1, t1, dm, gv⟩ := Z
    intro k1 k2 k3 k4
    dsimp only at k1 k2 k3 k4 ⊢
    rw [Array.toList_push] at k1
    have k1 : es1.toList.Perm (((mixKind P w).hash k, u) :: es.toList) := k1.trans (List.perm_append_singleton _ _)
    obtain ⟨ls, m1, m2⟩ := paired_perm k1 (m := k :: ks) (.cons ⟨ru, rfl⟩ pr)
    have sz : es1.size = ks.length + 1 := by rw [← Array.length_toList, k1.length_eq, List.length_cons, Array.length_toList, len]
    have b1 : es1.size < scanBound := by omega
    have nd1 : ls.Nodup := m1.nodup_iff.mpr (List.nodup_cons.mpr ⟨hm, nd⟩)
    have led : w.params.followText "set-order" = true ∨ t1.led = true := hl.imp id fun z => by
      rw [k4]
      exact z
    have fin : ∀ b h' ms, Heap.SameBut a s.heap h' → SetKs P w h' a ms → ms.Perm ls → Q b { s with heap := h' } := fun b h' ms sb r pm => hQ h' ms b sb r (.inr ⟨hm, pm.trans m1⟩)
    refine wpAny_bind (gw _ ?_)
    split
    · refine wpAny_bind ?_
      rw [hashByValue_scannable 8 scn]
      refine wpAny_pure ?_
      refine ks_tail (fun b s₁ Q' q => gw b q) ho hx hd m2 nd1 b1 ?_ ?_ ?_ fun h' ms sb r pm => ?_
      · first | exact k2 | (split <;> first | exact k2 | exact SetTable.fits_plain_off k2)
      · first | exact k3 | (split <;> exact k3)
      · first | exact led | (split <;> exact led)
      · dsimp only
        exact wpAny_pure (fin _ h' ms sb r pm)
    · refine wpAny_bind (wpAny_pure ?_)
      simp only [↓reduceIte]
      refine ks_tail (fun b s₁ Q' q => gw b q) ho hx hd m2 nd1 b1 k2 k3 led fun h' ms sb r pm => ?_
      dsimp only
      exact wpAny_pure (fin _ h' ms sb r pm)
end
end KL
set_option Elab.async false
set_option linter.all false
set_option maxRecDepth 100000
set_option maxHeartbeats 4000000
namespace KL
open PySem L2 PySem.Spec PyProof.Rows
section
variable {P : Program} {w : World} {A : Around} {E : Value → Shared → Prop} {s : Shared} {a : Addr}
theorem keep_run {Wn : World} {h : Heap} {a : Addr} {ks : List Key} (R : SetKs P Wn h a ks) {h' : Heap} (e : ∀ o, h.get? a = some o → h'.get? a = some o) : SetKs P Wn h' a ks := R.at e
/-- the items of an iterator are put into the set at D, one behind the other -/
theorem ks_fill {I D : Addr} {fp wr : List Addr} {G : Array GenState → Array GenState → Prop} {n : Nat} {Pv : Nat → Value → Prop} {St : Nat → Shared → Prop} {R : Result → Shared → Prop} (W : WalksS P w A.in1 I fp wr G n Pv St) (hD : D ∉ fp)
    (xs : List Key) (hn : xs.length = n) (hb : n + 1 < scanBound) (hv : ∀ i v, Pv i v → ∃ k, xs[i]? = some k ∧ RelV (kV k) v) (left : Nat) :
    ∀ (i : Nat) (s : Shared) (ks : List Key), i + left = n → St i s → SetKs P w s.heap D ks → (∀ j, j ∈ ks ↔ j ∈ xs.take i) → ks.length ≤ i →
      (∀ s' ks', Moved (D :: wr) G s s' → SetKs P w s'.heap D ks' → (∀ j, j ∈ ks' ↔ j ∈ xs) → ks'.length ≤ n → R (.ok (.ret .none)) s') → codeAny (model P w) A (.builtin "set.update.loop" ⟨[.ref D, .ref I], []⟩) R s := by
  have off : D ∉ wr := fun z => hD (W.sub _ z)
  have more : ∀ b ∈ wr, b ∈ D :: wr := fun b z => List.mem_cons_of_mem _ z
  induction left with
  | zero =>
    intro i s ks e st S hm hl k
    have e : i = n := e
    subst e
    refine codeAny_builtin F.entry_set_update_loop ?_
    rw [Around.under_plainId F.plain_set_update_loop _]
    show wpAny _ A.in1 (pyNext (.ref I) >>= _) _ _ s
    refine wpAny_bind (W.done s _ _ st fun s' mv => ?_)
    show wpAny _ A.in1 (ret Value.none) _ _ s'
    rw [List.take_of_length_le (by omega)] at hm
    exact wpAny_pure (k s' ks (mv.mono more) (S.at fun o q => mv.heap D o off q) hm hl)
  | succ left ih =>
    intro i s ks e st S hm hl k
    refine codeAny_builtin F.entry_set_update_loop ?_
    rw [Around.under_plainId F.plain_set_update_loop _]
    show wpAny _ A.in1 (pyNext (.ref I) >>= _) _ _ s
    refine wpAny_bind (W.item i s _ _ (by omega) st fun v s' hp st' mv => ?_)
    obtain ⟨z, hz, rz⟩ := hv i v hp
    show wpAny _ A.in1 (holding [v] (setAdd D v) >>= _) _ _ s'
    refine wpAny_bind (wpAny_holding ?_)
    unfold setAdd
    refine wpAny_holding (wpAny_bind ((mixKind P w).pyHash (k := z) (kV_is rz) ?_))
    refine ks_put (s := { s' with toks := s'.toks + 1 }) rz (S.at fun o q => mv.heap D o off q) (by omega) fun h' ks' bb sb S2 pu => ?_
    have hm2 : ∀ j, j ∈ ks' ↔ j ∈ xs.take (i + 1) := fun j => by
      rw [pu.mem, hm, List.take_add_one, hz, List.mem_append]
      exact ⟨fun q => q.elim (fun c => .inr (by rw [c]; exact List.mem_singleton.mpr rfl)) .inl, fun q => q.elim .inr fun c => .inl (List.mem_singleton.mp c)⟩
    have hl2 : ks'.length ≤ i + 1 := Nat.le_trans pu.len (by omega)
    refine wpAny_pure ⟨plainId_quiet F.plain_set_update_loop _, ih (i + 1) _ ks' (by omega) (W.frame _ s' _ _ st' (Nat.le_succ _) fun b hb o e => ?_) S2 hm2 hl2 fun s2 ks2 mv2 S3 hm3 hl3 => ?_⟩
    · have nb : b ≠ D := fun c => hD (by rw [← c]; exact hb)
      rw [sb.2 b nb]
      exact e
    · refine k s2 ks2 (Moved.trans W.gtrans ((mv.mono more).then_heap (Nat.le_succ _) fun b o hb e => ?_) mv2) S3 hm3 hl3
      have nb : b ≠ D := fun c => hb (by rw [c]; exact List.mem_cons_self)
      rw [sb.2 b nb]
      exact e
/-- a built-in class called, the check of its __init__ by itself -/
theorem type_made {T newId initId : String} {Bi : Builtin} {args : List Value} {Q Q₁ : Value → Shared → Prop} (tc : TypeCalled T newId initId) (ct : checkTypeCall T ⟨args, []⟩ = pure ()) (en : entryFor table initId = some Bi)
    (nw : codeAny (model P w) A.in1 (.call (.builtin newId) ⟨.type T :: args, []⟩) (wants Q₁ E) s)
    (nx : ∀ obj s₁, Q₁ obj s₁ → s₁.TypeIs obj T ∧ (∀ {A' : Around} {E' : Value → Shared → Prop} {Q' : Unit → Shared → Prop}, Q' () s₁ → wpAny (model P w) A' (checkBuiltinCall initId ⟨obj :: args, []⟩) Q' E' s₁) ∧
      wpAny (model P w) A.in1.in1 (Bi ⟨obj :: args, []⟩)
        (fun fin s' => match fin with | .done f => wants (fun r s₂ => r = .none ∧ Q obj s₂) E (.ok f) s' | .again c' => c'.quiet = true ∧ codeAny (model P w) A.in1 c' (wants (fun r s₂ => r = .none ∧ Q obj s₂) E) s')
        (fun e s' => wants (fun r s₂ => r = .none ∧ Q obj s₂) E (.error e) s') s₁) : wpAny (model P w) A (call (.type T) args) Q E s := by
  obtain ⟨c0, cs, mro⟩ := tc.mro
  have m1 := tc.made
  have m2 := tc.sub
  have m3 := tc.notType
  have m4 := tc.canCreate
  refine wpAny_call (codeAny_of_tree (show wpAny _ _ (callAny (.type T) _) _ _ _ from ?_))
  refine wpAny_pure ⟨Code.quiet_builtin _ (by decide +kernel), codeAny_builtin F.entry_type_call ?_⟩
  rw [Around.under_plain (weight_type_call_type T args []) rfl]
  repeat any_goals (first | assumption | wp_step)

  refine codeAny_mono nw fun r s₁ hr => ?_
  rcases r with e | f
  · exact hr
  · cases f with
    | ret obj =>
      obtain ⟨q1, q2, q3⟩ := nx _ _ hr
      have l1 := tc.init.lookup
      have l2 := tc.init.bind obj
      repeat any_goals (first | assumption | wp_step)

      refine codeAny_mono (codeAny_call_builtin tc.init.plain en (q2 q3)) fun r₂ s₂ h2 => ?_
      rcases r₂ with e | f
      · exact h2
      · cases f with
        | ret r =>
          obtain ⟨rfl, q⟩ := h2
          repeat any_goals (first | assumption | wp_step)
        | _ => exact h2.elim
    | _ => exact hr.elim
theorem back_get : ∀ {xs : List V} {us : List Value} {i : Nat} {v : Value}, Vals xs us → us[i]? = some v → ∃ y, xs[i]? = some y ∧ RelV y v
  | _, _, i, v, .nil, e => by simp at e
  | _, _, 0, v, .cons h _, e => by
    simp at e
    subst e
    exact ⟨_, rfl, h⟩
  | _, _, i + 1, v, .cons _ t, e => by
    obtain ⟨y, q1, q2⟩ := back_get t (i := i) (by simpa using e)
    exact ⟨y, by simpa using q1, q2⟩
theorem call_set_ks {l : Addr} {us : Array Value} {xs : List Key} {Q : Value → Shared → Prop} (hh : A.handled = none) (hl : s.heap.IsList l us) (rv : Vals (xs.map kV) us.toList) (hb : xs.length + 1 < scanBound)
    (h : ∀ h' tk ks, SetKs P w h' s.heap.objs.size ks → (∀ j, j ∈ ks ↔ j ∈ xs) → ks.length ≤ xs.length → (∀ b o, s.heap.get? b = some o → h'.get? b = some o) → Q (.ref s.heap.objs.size) { s with heap := h', toks := tk }) :
    wpAny (model P w) A (call (.type "set") [.ref l]) Q E s := by
  have sz : us.size = xs.length := by
    have := rv.length
    rw [List.length_map] at this
    rw [← Array.length_toList, ← this]
  refine type_made (Q₁ := fun obj s₁ => obj = .ref s.heap.objs.size ∧ s₁ = { s with heap := s.heap.push { cls := .type "set", dict := none, data := .set #[] 0 (.fresh 0 0 (!w.params.followText "set-order")) } }) F.called_set (F.typeCall_set_1 _) F.entry_set_init (code_set_led1 _ ⟨rfl, rfl⟩) ?_
  rintro obj s₁ ⟨rfl, rfl⟩
  have new : (s.heap.push { cls := .type "set", dict := none, data := .set #[] 0 (.fresh 0 0 (!w.params.followText "set-order")) }).get? s.heap.objs.size = some { cls := .type "set", dict := none, data := .set #[] 0 (.fresh 0 0 (!w.params.followText "set-order")) } := Heap.get?_push_size _ rfl
  refine ⟨⟨_, new, rfl⟩, fun q => check_set_init_1 ⟨_, new, rfl⟩ q, ?_⟩
  have hT : Shared.TypeIs { s with heap := s.heap.push { cls := .type "set", dict := none, data := .set #[] 0 (.fresh 0 0 (!w.params.followText "set-order")) } } (.ref s.heap.objs.size) "set" := ⟨_, new, rfl⟩
  obtain ⟨⟨cls, dd, dat, sl⟩, ho, hc, n, hd⟩ := hl
  simp only at hc hd
  subst hc hd
  have ho' : (s.heap.push { cls := .type "set", dict := none, data := .set #[] 0 (.fresh 0 0 (!w.params.followText "set-order")) }).get? l = some { cls := .type "list", dict := dd, data := .seq us n, slots := sl } := Heap.get?_push_of_some _ ho
  have hl' : (s.heap.push { cls := .type "set", dict := none, data := .set #[] 0 (.fresh 0 0 (!w.params.followText "set-order")) }).IsList l us := ⟨_, ho', rfl, n, rfl⟩
  have hz : (s.heap.push { cls := .type "set", dict := none, data := .set #[] 0 (.fresh 0 0 (!w.params.followText "set-order")) }).objs.size = s.heap.objs.size + 1 := Heap.size_push ..
  have b1 := F.sub_list_set
  have b2 := F.sub_list_frozenset
  have b3 : (Value.type "list" == Value.type "dict") = false := by decide
  unfold Builtin.«set.__init__» noKeywords Builtin.Frozenset.updateFrom
  generalize hPI : pyIter = PI
  wp_walk
  subst hPI
  have lS : l < s.heap.objs.size := Heap.lt_size ho
  have nI : l ≠ (s.heap.push { cls := .type "set", dict := none, data := .set #[] 0 (.fresh 0 0 (!w.params.followText "set-order")) }).objs.size := by
    rw [hz]
    exact Nat.ne_of_lt (Nat.lt_succ_of_lt lS)
  have hD : s.heap.objs.size ∉ [(s.heap.push { cls := .type "set", dict := none, data := .set #[] 0 (.fresh 0 0 (!w.params.followText "set-order")) }).objs.size, l] := fun z => by
    rcases List.mem_cons.mp z with z | z
    · rw [hz] at z
      exact Nat.ne_of_lt (Nat.lt_succ_self _) z
    · have := List.mem_singleton.mp z
      exact Nat.ne_of_gt lS this
  have hv : ∀ (i : Nat) (v : Value), us[i]? = some v → ∃ k, xs[i]? = some k ∧ RelV (kV k) v := fun i v e => by
    obtain ⟨k, q, r⟩ : ∃ y, (xs.map kV)[i]? = some y ∧ RelV y v := by
      have e : us.toList[i]? = some v := by rw [Array.getElem?_toList]; exact e
      exact back_get rv e
    rw [List.getElem?_map] at q
    cases ex : xs[i]? with
    | none =>
      rw [ex] at q
      cases q
    | some x =>
      rw [ex] at q
      cases q
      exact ⟨x, rfl, r⟩
  refine wpAny_pyIter_list hl' ?_
  refine wpAny_bind (wpAny_runValue ?_)
  refine ks_fill ((Walks.list (show A.in1.in1.in1.handled = none by simp [hh]) _ l nI us).toS) hD xs sz.symm (by omega) hv us.size 0 _ [] (by omega)
    ⟨⟨_, Heap.get?_push_size _ rfl, rfl, rfl⟩, hl'.push _⟩ ⟨⟨_, #[], 0, _, Heap.get?_push_of_some _ new, ⟨rfl, rfl, rfl⟩, rfl, .nil, by decide, rfl, List.Pairwise.nil, ?_⟩, List.nodup_nil⟩ (fun j => by simp) (Nat.le_refl _) ?_
  · show _ ∨ (!w.params.followText "set-order") = true
    cases w.params.followText "set-order"
    · exact .inr rfl
    · exact .inl rfl
  · intro s' ks mv S hm hk
    obtain ⟨h', g', d', tk', os'⟩ := s'
    have eg : g' = s.gens := mv.gens
    have ed : d' = s.drawn := mv.drawn
    have eo : os' = s.os := mv.os
    subst eg ed eo
    show wpAny _ _ _ _ _ _
    refine wpAny_pure ?_
    show wpAny _ _ (ret Value.none) _ _ _
    refine wpAny_pure ⟨rfl, h h' tk' ks S hm (by omega) fun b o e => ?_⟩
    have bS : b < s.heap.objs.size := Heap.lt_size e
    refine mv.heap b o (fun z => ?_) (Heap.get?_push_of_some _ (Heap.get?_push_of_some _ e))
    rcases List.mem_cons.mp z with z | z
    · exact Nat.ne_of_lt bS z
    · have z := List.mem_singleton.mp z
      rw [hz] at z
      exact Nat.ne_of_lt (Nat.lt_succ_of_lt bS) z
end
end KL
set_option Elab.async false
set_option linter.all false
set_option maxRecDepth 100000
set_option maxHeartbeats 4000000
namespace KL
open PySem L2 PySem.Spec PyProof.Rows
/-- the set of the keys ks -/
def KsO (P : Program) (w : World) (a : Addr) (ks : List Key) : HO := .ext fun h => SetKs P w h a ks
theorem ksO_ok {P : Program} {w : World} {H : Hp} {h : Heap} {a : Addr} {ks : List Key} (R : SetKs P w h a ks) : ObjOk P w H h a (KsO P w a ks) := by
  obtain ⟨⟨o, _, _, _, ho, _⟩, _⟩ := id R
  exact ⟨R, ⟨o, ho⟩, fun _ _ p k => p.at k⟩
def rSetK (K : PySem.W.Frag) (P : Program) (w : World) : List V → Hp → VK → Prop := fun vs H Q => ∃ (a : Addr) (xs : List Key), vs = [V.ref a] ∧ SqL K H a (xs.map kV) ∧ xs.length ≤ 2000 ∧
  ∀ p ks, H p = none → ks.Nodup → (∀ j, j ∈ ks ↔ j ∈ xs) → ks.length ≤ xs.length → Q (.ref p) (upd H p (KsO P w p ks))
/-- sorted(s), s a set of texts -/
def rSortK (P : Program) (w : World) : List V → Hp → VK → Prop := fun vs H Q => ∃ (a : Addr) (ss : List Str), vs = [V.ref a] ∧ H a = some (KsO P w a (ss.map Sum.inr)) ∧
  ∀ (ys : List Str) (p : Addr), ys.Perm ss → ys.Nodup → ys.Pairwise (fun x y => x.cps.toList ≤ y.cps.toList) → H p = none → Q (.ref p) (upd H p (.lst (ys.map V.str)))
theorem paired_map {α β γ : Type} {R : α → γ → Prop} {f : β → γ} : ∀ {l : List α} {m : List β}, Paired R l (m.map f) → Paired (fun x y => R x (f y)) l m
  | _, [], h => by
    cases h
    exact .nil
  | _, y :: m, h => by
    cases h with
    | cons h1 h2 => exact .cons h1 (paired_map h2)
def StrE (u : Value) (x : Str) : Prop := ∃ t, u = .str x t
theorem strs_each : ∀ {l : List (Int × Value)} {ss : List Str} {P : Program} {w : World}, Paired (KeyE P w) l (ss.map Sum.inr) → Paired StrE (l.map (·.2)) ss
  | _, [], _, _, h => by
    cases h
    exact .nil
  | _, x :: ss, _, _, h => by
    cases h with
    | cons h1 h2 => exact .cons h1.1 (strs_each h2)
theorem each_str {h : Heap} {a : Addr} : ∀ {us : List Value} {ss : List Str}, Paired StrE us ss → PySem.W.EachIs StrE us ss ∧ PySem.W.EachIs (fun v b => ∃ as, Reads h v (PyData.str b) as ∧ a ∉ as) us ss
  | _, _, .nil => ⟨.nil, .nil⟩
  | _, _, .cons h t => by
    obtain ⟨q1, q2⟩ := each_str t
    obtain ⟨tk, rfl⟩ := h
    exact ⟨.cons ⟨tk, rfl⟩ q1, .cons ⟨[], .str _ _, fun z => nomatch z⟩ q2⟩
theorem vals_strs : ∀ {us : List Value} {ss : List Str}, PySem.W.EachIs StrE us ss → Vals (ss.map V.str) us
  | _, _, .nil => .nil
  | _, _, .cons h t => .cons h (vals_strs t)
theorem str_le_total (x y : Str) : (decide (x.cps.toList ≤ y.cps.toList) || decide (y.cps.toList ≤ x.cps.toList)) = true := by
  rcases List.le_total x.cps.toList y.cps.toList with h | h
  · rw [decide_eq_true h]
    rfl
  · rw [decide_eq_true h, Bool.or_true]
section
variable {X : Cx}
theorem cr_setK (hc : X.calm = true) : CallR X (.type "set") (rSetK X.K X.prog X.w) := by
  intro pins s σ H vs us Q I r h
  obtain ⟨a, xs, rfl, hs, hz, q⟩ := h
  obtain ⟨its, rv, hl, _⟩ := I.list hs
  rw [Vals.ref1 r]
  refine call_set_ks (xs := xs) (I.ok.hd hc) hl.isList (by simpa using rv) (by unfold scanBound; omega) fun h' tk ks S hm hk keep => ?_
  exact ⟨.ref s.heap.objs.size, upd H s.heap.objs.size (KsO X.prog X.w s.heap.objs.size ks), I.laid (t' := tk) keep (Nat.le_refl _) (ksO_ok S), rfl, q _ ks (I.hok.fresh (Nat.le_refl _)) S.nd hm hk⟩
theorem cr_sortK (hc : X.calm = true) (hu : X.A.units + 64 < cLine) : CallR X (.builtin "sorted") (rSortK X.prog X.w) := by
  intro pins s σ H vs us Q I r h
  obtain ⟨a, ss, rfl, ha, q⟩ := h
  have R : SetKs X.prog X.w s.heap a (ss.map Sum.inr) := (I.hok a _ ha).1
  rw [Vals.ref1 r]
  obtain ⟨⟨o, es, ep, t, ho, hx, hd, pr, hb, hf, hr, hl⟩, nd⟩ := R
  have nds : ss.Nodup := by
    have := nd
    unfold List.Nodup at this ⊢
    rw [List.pairwise_map] at this
    exact this.imp fun h e => h (by rw [e])
  refine Calls.call_function_entry kind_sorted plain_sorted entry_sorted (args_sorted1 _) ?_
  unfold Builtin.«sorted»
  refine wpAny_bind (m := checkCount "sorted" 1 1 _) (wpAny_pure ?_)
  refine wpAny_bind (collect_set (A := X.A.in1) (I.ok.hd hc) ⟨o, ho, hx.1, hd⟩ hf hb hr hl fun s1 out k1 z1 g1 o1 pm => ?_)
  obtain ⟨ms, pms, prm⟩ := paired_perm pm (strs_each pr)
  have lo : out.length = ms.length := Paired.length prm
  have lm : ms.length = es.size := by
    rw [pms.length_eq, ← Array.length_toList, Paired.length pr, List.length_map]
  have lz : out.length ≤ sizeLine := by
    rw [lo, lm]
    exact fits_of_scanBound hb
  refine wpAny_bind (wpAny_newList ?_ lz)
  have hoL : (s1.heap.push (seqObj "list" out.toArray 0)).get? s1.heap.objs.size = some (seqObj "list" out.toArray 0) := Heap.get?_push_size _ rfl
  obtain ⟨e1, e2⟩ := each_str (h := s1.heap.push (seqObj "list" out.toArray 0)) (a := s1.heap.objs.size) prm
  have al : PySem.W.AllAlike (ms.map PyData.str) := PySem.W.AllAlike.of fun _ _ => rfl
  have so : PySem.W.Sortable (ms.map PyData.str) := PySem.W.Sortable.others fun _ => ⟨fun z => (nomatch z), fun _ z => nomatch z⟩
  refine wpAny_bind (wpAny_holding (PySem.W.list_sort_data hoL e1 e2 al so (by rw [← lo]; exact lz) (fun b _ => (by show X.A.units + 1 + 1 + 0 < cLine; omega)) fun srt ls es' => ?_))
  have vv := vals_strs es'
  rw [PySem.W.dataLe_str (k := fun x => x)] at vv
  have pmm : (ms.mergeSort fun a b => decide (a.cps.toList ≤ b.cps.toList)).Perm ms := List.mergeSort_perm _ _
  have pw := List.pairwise_mergeSort (le := fun (a b : Str) => decide (a.cps.toList ≤ b.cps.toList)) (fun x y z h1 h2 => decide_eq_true (List.le_trans (of_decide_eq_true h1) (of_decide_eq_true h2))) (fun x y => str_le_total x y) ms
  obtain ⟨c, hcc⟩ := sortedHeap_at (vs := out) (out := srt.toArray) hoL
  have len : ((ms.mergeSort fun a b => decide (a.cps.toList ≤ b.cps.toList)).map V.str).length ≤ sizeLine := by
    rw [List.length_map, pmm.length_eq, ← lo]
    exact lz
  have keep : ∀ b u, s.heap.get? b = some u → (sortedHeap (s1.heap.push (seqObj "list" out.toArray 0)) s1.heap.objs.size out srt.toArray).get? b = some u := fun b u e => by
    have e1 := k1 b u e
    have lt := Heap.lt_size e1
    rw [sortedHeap_old (Nat.ne_of_lt lt) (by rw [size_push']; exact Nat.lt_succ_of_lt lt)]
    exact Heap.get?_push_of_some _ e1
  have hn : H s1.heap.objs.size = none := I.hok.fresh z1
  have J : Inv X pins σ (upd H s1.heap.objs.size (.lst ((ms.mergeSort fun a b => decide (a.cps.toList ≤ b.cps.toList)).map V.str))) { s with heap := sortedHeap (s1.heap.push (seqObj "list" out.toArray 0)) s1.heap.objs.size out srt.toArray, gens := s1.gens, drawn := s1.drawn, toks := s1.toks } :=
    I.call (ch := []) (Un.laid keep z1 hn) (I.hok.laid keep z1 ⟨len, srt, c, vv, hcc⟩) (by rw [g1]; exact I.bare) (fun _ z => nomatch z)
  have es1 : ({ s1 with heap := sortedHeap (s1.heap.push (seqObj "list" out.toArray 0)) s1.heap.objs.size out srt.toArray } : Shared) = { s with heap := sortedHeap (s1.heap.push (seqObj "list" out.toArray 0)) s1.heap.objs.size out srt.toArray, gens := s1.gens, drawn := s1.drawn, toks := s1.toks } := by
    cases s1
    cases s
    cases o1
    rfl
  refine wpAny_pure ⟨_, rfl, ?_⟩
  rw [es1]
  exact ⟨.ref _, _, J, rfl, q _ _ (pmm.trans pms) ((pmm.trans pms).nodup_iff.mpr nds) (pw.imp fun h => of_decide_eq_true h) hn⟩
end
end KL
set_option Elab.async false
set_option linter.all false
set_option maxRecDepth 100000
set_option maxHeartbeats 2000000
namespace KL
open PySem L2 PySem.Spec PyProof.Rows
abbrev sIsMark : Stmt := top 10
abbrev sAreMarks : Stmt := top 11
abbrev sIsMove : Stmt := top 18
abbrev sAreMoves : Stmt := top 19
abbrev sAreEnds : Stmt := top 20
/-! ### the mirror: marks, moves, ends -/
def okS (x : Str) : Bool := PyData.strOk x
mutual
/-- all texts in it can be laid -/
def okD : PyData → Bool
  | .str x => okS x
  | .list ds => okAll ds
  | .tuple ds => okAll ds
  | _ => true
def okAll : List PyData → Bool
  | [] => true
  | d :: r => okD d && okAll r
end
theorem ok_at : ∀ {ds : List PyData} {i : Nat} {d : PyData}, okAll ds = true → ds[i]? = some d → okD d = true
  | [], _, _, _, e => by simp at e
  | d :: ds, 0, d', h, e => by
    simp at e
    subst e
    exact (Bool.and_eq_true_iff.mp (show (okD d && okAll ds) = true from h)).1
  | d :: ds, i + 1, d', h, e => ok_at (Bool.and_eq_true_iff.mp (show (okD d && okAll ds) = true from h)).2 (by simpa using e)
def markD (d : PyData) : Bool := strB d && !isStrD "" d
def marksD (d : PyData) : Bool := isTupD d && allD markD d
def moveD (n : Int) (d : PyData) : Bool := tupD 4 4 d && (betD 0 (n - 1) (itemD 0 d) && (markD (itemD 1 d) && (marksD (itemD 2 d) && betD 0 (n - 1) (itemD 3 d))))
def cut2 : PyData → PyData
  | .tuple ds => .tuple (ds.take 2)
  | d => d
def movesD (n : Int) (d : PyData) : Bool := isTupD d && (allD (moveD n) d && ascD ((itemsD d).map cut2))
def endD (n : Int) (d : PyData) : Bool := betD 0 (n - 1) (itemD 0 d) && marksD (itemD 1 d)
def endsD (n : Int) (d : PyData) : Bool := isTupD d && (allD (tupD 2 2) d && (allD (endD n) d && ascD ((itemsD d).map (itemD 0))))
/-- a test of one thing behind a number -/
def spTestN (f : Int → PyData → Bool) : Sp := fun vs H Q _ => ∃ (v : V) (d : PyData) (n : Int), vs = [.int n, v] ∧ Dq H v d ∧ smB d = true ∧ okD d = true ∧ ∀ H', Same H H' → Q (.bl (f n d)) H'
theorem four {ds : List PyData} (h1 : (4 : Int) ≤ (ds.length : Int)) (h2 : (ds.length : Int) ≤ 4) : ∃ a b c d, ds = [a, b, c, d] := by
  match ds, h1, h2 with
  | [a, b, c, d], _, _ => exact ⟨a, b, c, d, rfl⟩
  | [], h, _ => simp at h
  | [_], h, _ => simp at h
  | [_, _], h, _ => simp at h
  | [_, _, _], h, _ => simp at h
  | _ :: _ :: _ :: _ :: _ :: _, _, h =>
    simp at h
    omega
theorem two {ds : List PyData} (h1 : (2 : Int) ≤ (ds.length : Int)) (h2 : (ds.length : Int) ≤ 2) : ∃ a b, ds = [a, b] := by
  match ds, h1, h2 with
  | [a, b], _, _ => exact ⟨a, b, rfl⟩
  | [], h, _ => simp at h
  | [_], h, _ => simp at h
  | _ :: _ :: _ :: _, _, h =>
    simp at h
    omega
theorem mark_of {d : PyData} (h : markD d = true) : ∃ x, d = .str x ∧ x ≠ "" := by
  cases d with
  | str x =>
    refine ⟨x, rfl, fun e => ?_⟩
    subst e
    have h : (true && !((("" : Str) == ("" : Str)))) = true := h
    simp at h
  | _ => cases h
theorem move_of {n : Int} {d : PyData} (h : moveD n d = true) : ∃ i x w t, d = .tuple [.int i, .str x, w, .int t] := by
  simp only [moveD, Bool.and_eq_true] at h
  obtain ⟨h1, h2, h3, h4, h5⟩ := h
  obtain ⟨ds, rfl, l1, l2⟩ := tup_of h1
  obtain ⟨a, b, c, d, rfl⟩ := four l1 l2
  obtain ⟨i, rfl, _⟩ := bet_of (show betD 0 (n - 1) a = true from h2)
  obtain ⟨x, rfl, _⟩ := mark_of (show markD b = true from h3)
  obtain ⟨t, rfl, _⟩ := bet_of (show betD 0 (n - 1) d = true from h5)
  exact ⟨i, x, c, t, rfl⟩
theorem lay_cuts {n : Int} : ∀ {ds : List PyData}, ds.all (moveD n) = true → okAll ds = true → PyData.canLayAll0 (ds.map cut2) = true ∧ PyData.depthAll (ds.map cut2) ≤ 1
  | [], _, _ => ⟨rfl, Nat.zero_le _⟩
  | d :: ds, h, o => by
    have h' := Bool.and_eq_true_iff.mp (show (moveD n d && ds.all (moveD n)) = true from h)
    have o' := Bool.and_eq_true_iff.mp (show (okD d && okAll ds) = true from o)
    obtain ⟨q1, q2⟩ := lay_cuts h'.2 o'.2
    obtain ⟨i, x, w, t, rfl⟩ := move_of h'.1
    have ox : PyData.strOk x = true := ok_at (i := 1) (d := .str x) (show okAll _ = true from o'.1) rfl
    refine ⟨?_, ?_⟩
    · show ((true && (PyData.strOk x && true)) && PyData.canLayAll0 (ds.map cut2)) = true
      rw [ox, q1]
      rfl
    · show max 1 (PyData.depthAll (ds.map cut2)) ≤ 1
      omega
theorem cmp_cuts {n : Int} {ds : List PyData} (h : ds.all (moveD n) = true) (i : Nat) (hi : i + 1 < (ds.map cut2).length) : cmpD ((ds.map cut2).getD i .none) ((ds.map cut2).getD (i + 1) .none) = true := by
  rw [List.length_map] at hi
  rw [getD_map (by omega), getD_map hi]
  obtain ⟨i1, x1, w1, t1, e1⟩ := move_of (all_at (f := moveD n) h (show i < ds.length by omega))
  obtain ⟨i2, x2, w2, t2, e2⟩ := move_of (all_at (f := moveD n) h hi)
  rw [e1, e2]
  rfl
section
variable {P : Program} {w : World} {K : PySem.W.Frag} {mg : Str → Option Value} {base : Heap}
theorem scIsMark : FnScope ["thing"] ["thing"] (defScope sIsMark) := ⟨rfl, rfl, rfl, by decide +kernel, rfl, by decide +kernel, by decide +kernel⟩
theorem ok_mark {f : Addr} {fd : FuncData} (F : Fun K "is_mark" "is_mark" sIsMark f fd) (T : TxtB mg) : FnOk P w K mg base CX0 1 f fd ["thing"] (spTest markD) := by
  refine F.ok scIsMark (fun vs H Q E h => ?_) (fun cdv A outer s H vs Q E hr h => ?_)
  · obtain ⟨v, d, rfl, _⟩ := h
    rfl
  · obtain ⟨v, d, rfl, hd, sm, k⟩ := h
    refine ⟨_, pss_one (ps_ret (pe_and (pe_callB call_isD (by rfl) T.isi (by decide +kernel) (pa_cons (pv 0) (pa_cons (pe_bltn (v := .ty "str") (by rfl) T.str (by decide +kernel) rfl) pa_nil)))
      (pe_one (pe_cmpR (op_neStr hr.units) (pv 0) pe_str (nomark _))))), ?_⟩
    have q := k H (Same.refl H)
    refine ⟨_, rfl, v, d, "str", rfl, by decide, hd, _, rfl, ?_⟩
    cases hd with
    | str x =>
      refine iteYes rfl ?_
      exact ⟨_, rfl, .str x, "", .str x, rfl, q⟩
    | non => exact q
    | bl _ => exact q
    | int _ => exact q
    | lst _ _ => exact q
    | tup _ _ => exact q
    | dct0 _ => exact q
    | dct1 _ => exact q
theorem scAreMarks : FnScope ["thing", "mark"] ["thing"] (defScope sAreMarks) := ⟨rfl, rfl, rfl, by decide +kernel, rfl, by decide +kernel, by decide +kernel⟩
theorem ok_marks {f g : Addr} {fd gd : FuncData} (F : Fun K "are_marks" "are_marks" sAreMarks f fd) (T : TxtB mg) (G : FnOk P w K mg base CX0 1 g gd ["thing"] (spTest markD)) (c : Cal K mg "is_mark" g gd ["thing"]) : FnOk P w K mg base CX0 2 f fd ["thing"] (spTest marksD) := by
  refine F.ok scAreMarks (fun vs H Q E h => ?_) (fun cdv A outer s H vs Q E hr h => ?_)
  · obtain ⟨v, d, rfl, _⟩ := h
    rfl
  · obtain ⟨v, d, rfl, hd, sm, k⟩ := h
    refine ⟨_, pss_one (ps_ret (pe_and (pe_callB call_isD (by rfl) T.isi (by decide +kernel) (pa_cons (pv 0) (pa_cons (pe_bltn (v := .ty "tuple") (by rfl) T.tuple (by decide +kernel) rfl) pa_nil)))
      (pe_one (pe_callB (cr_all rfl) (by rfl) T.all (by decide +kernel) (pa_cons (pe_lc (own := [("mark", 1)]) (g := gName 1) (tt := tYes) rfl scAreMarks.nd (pi_tup (pv 0)) (blkOk_by (N := ["thing", "mark"]) (sc := defScope sAreMarks) (by decide +kernel)) (fun _ _ _ _ _ => pg_name (i := 1) scAreMarks.nd rfl (.inl rfl)) (fun _ _ _ _ _ => pts_nil)
        (fun _ _ _ _ _ => pe_call G hr (by rfl) c.m c.k c.b .nil pass0 (pa_cons (pv 1) pa_nil))) pa_nil))))), ?_⟩
    have q := k H (Same.refl H)
    refine ⟨_, rfl, v, d, "tuple", rfl, by decide, hd, _, rfl, ?_⟩
    cases hd with
    | @tup b ys ds e hda =>
      refine iteYes rfl ?_
      refine ⟨_, rfl, b, rfl, ⟨_, SqT.of e⟩, fun D nD => ?_⟩
      refine lc_tup (K := K) (a := b) (xs := ys) (fun i H2 => MadeTo H D (((ds.take i).map markD).map V.bl) H2) ⟨same_new nD, upd_same⟩ (fun i H2 _ M => SqT.of (M.1 _ _ e)) ?_ ?_
      · rintro i x H2 hx M
        obtain ⟨d', hd', hq⟩ := DqAll.at hda hx
        exact ⟨rfl, _, rfl, x, d', rfl, Dq.same M.1 d' x hq, sm_at (sm_all sm) hd', fun H3 S3 => M.turn nD S3 (sm_len sm) hd'⟩
      · rintro H2 M
        rw [hda.len, List.take_length] at M
        refine ⟨D, _, rfl, SqL.of M.2, ?_⟩
        have q := k H2 M.1
        have e : marksD (.tuple ds) = (ds.map markD).all id := by simp only [marksD, isTupD, Bool.true_and, allD_map]
        rw [e] at q
        exact q
    | non => exact q
    | bl _ => exact q
    | int _ => exact q
    | str _ => exact q
    | lst _ _ => exact q
    | dct0 _ => exact q
    | dct1 _ => exact q
theorem scMove : FnScope ["states", "thing"] ["states", "thing"] (defScope sIsMove) := ⟨rfl, rfl, rfl, by decide +kernel, rfl, by decide +kernel, by decide +kernel⟩
theorem ok_move {f g1 g2 g3 g4 : Addr} {fd gd1 gd2 gd3 gd4 : FuncData} (F : Fun K "is_move" "is_move" sIsMove f fd) (T : TxtB mg) (G1 : FnOk P w K mg base CX0 1 g1 gd1 ["thing", "low", "high"] (spTest2 tupD)) (c1 : Cal K mg "is_tuple_of" g1 gd1 ["thing", "low", "high"])
    (G2 : FnOk P w K mg base CX0 2 g2 gd2 ["thing", "low", "high"] (spTest2 betD)) (c2 : Cal K mg "is_between" g2 gd2 ["thing", "low", "high"]) (G3 : FnOk P w K mg base CX0 1 g3 gd3 ["thing"] (spTest markD)) (c3 : Cal K mg "is_mark" g3 gd3 ["thing"])
    (G4 : FnOk P w K mg base CX0 2 g4 gd4 ["thing"] (spTest marksD)) (c4 : Cal K mg "are_marks" g4 gd4 ["thing"]) : FnOk P w K mg base CX0 3 f fd ["states", "thing"] (spTestN moveD) := by
  refine F.ok scMove (fun vs H Q E h => ?_) (fun cdv A outer s H vs Q E hr h => ?_)
  · obtain ⟨v, d, n, rfl, _⟩ := h
    rfl
  · obtain ⟨v, d, n, rfl, hd, sm, ok, k⟩ := h
    have hr1 : Room 1 _ := hr.mono (by decide)
    have at_ : ∀ i : Int, True := fun _ => trivial
    refine ⟨_, pss_cons (ps_if (PW.pt (pw_or (pt_not (pt_val (pe_call G1 hr1 (by rfl) c1.m c1.k c1.b .nil pass0 (pa_cons (pv 1) (pa_cons pe_int (pa_cons pe_int pa_nil))))))
        (pw_or (pt_not (pt_val (pe_call G2 hr (by rfl) c2.m c2.k c2.b .nil pass0 (pa_cons (pe_ix ix_tup (pv 1) pe_int (fun _ _ => rfl)) (pa_cons pe_int (pa_cons (pe_op op_sub (pv 0) pe_int) pa_nil))))))
        (pw_or1 (pt_not (pt_val (pe_call G3 hr1 (by rfl) c3.m c3.k c3.b .nil pass0 (pa_cons (pe_ix ix_tup (pv 1) pe_int (fun _ _ => rfl)) pa_nil)))))))) (pss_one (ps_ret pe_bl)) pss_nil)
      (pss_one (ps_ret (pe_and (pe_call G4 hr (by rfl) c4.m c4.k c4.b .nil pass0 (pa_cons (pe_ix ix_tup (pv 1) pe_int (fun _ _ => rfl)) pa_nil))
        (pe_one (pe_call G2 hr (by rfl) c2.m c2.k c2.b .nil pass0 (pa_cons (pe_ix ix_tup (pv 1) pe_int (fun _ _ => rfl)) (pa_cons pe_int (pa_cons (pe_op op_sub (pv 0) pe_int) pa_nil)))))))), ?_⟩
    refine ⟨_, rfl, v, d, 4, 4, rfl, hd, sm, fun H1 S1 => ⟨_, rfl, ?_⟩⟩
    rcases bool_ft (tupD 4 4 d) with hb | hb
    · refine iteYes (by rw [hb]; rfl) (iteYes rfl ?_)
      have q := k H1 S1
      have e : moveD n d = false := by simp only [moveD, hb, Bool.false_and]
      rw [e] at q
      exact q
    refine iteNo (by rw [hb]; rfl) ?_
    obtain ⟨ds, rfl, l1, l2⟩ := tup_of hb
    obtain ⟨d0, d1, d2, d3, rfl⟩ := four l1 l2
    cases hd with
    | @tup b xs _ e hda =>
      cases hda with
      | @cons y0 _ _ _ q0 hda =>
      cases hda with
      | @cons y1 _ _ _ q1 hda =>
      cases hda with
      | @cons y2 _ _ _ q2 hda =>
      cases hda with
      | @cons y3 _ _ _ q3 hda =>
      cases hda
      have sA := sm_all sm
      have s0 : smB d0 = true := sm_at (i := 0) sA rfl
      have s1 : smB d1 = true := sm_at (i := 1) sA rfl
      have s2 : smB d2 = true := sm_at (i := 2) sA rfl
      have s3 : smB d3 = true := sm_at (i := 3) sA rfl
      have key : moveD n (.tuple [d0, d1, d2, d3]) = (betD 0 (n - 1) d0 && (markD d1 && (marksD d2 && betD 0 (n - 1) d3))) := by
        show (tupD 4 4 _ && (betD 0 (n - 1) d0 && (markD d1 && (marksD d2 && betD 0 (n - 1) d3)))) = _
        rw [hb, Bool.true_and]
      refine ⟨_, rfl, b, _, _, y0, rfl, rfl, SqT.of (S1 _ _ e), rfl, _, rfl, _, _, rfl, rfl, y0, d0, 0, n - 1, rfl, Dq.same S1 _ _ q0, s0, fun H2 S2 => ⟨_, rfl, ?_⟩⟩
      have S12 := S1.trans S2
      rcases bool_ft (betD 0 (n - 1) d0) with h1 | h1
      · refine iteYes (by rw [h1]; rfl) (iteYes rfl ?_)
        have q := k H2 S12
        rw [key, h1] at q
        exact q
      refine iteNo (by rw [h1]; rfl) ?_
      refine ⟨_, rfl, b, _, _, y1, rfl, rfl, SqT.of (S12 _ _ e), rfl, y1, d1, rfl, Dq.same S12 _ _ q1, s1, fun H3 S3 => ⟨_, rfl, ?_⟩⟩
      have S13 := S12.trans S3
      rcases bool_ft (markD d1) with h2 | h2
      · refine iteYes (by rw [h2]; rfl) ?_
        have q := k H3 S13
        rw [key, h1, h2] at q
        exact q
      refine iteNo (by rw [h2]; rfl) ?_
      refine ⟨_, rfl, b, _, _, y2, rfl, rfl, SqT.of (S13 _ _ e), rfl, y2, d2, rfl, Dq.same S13 _ _ q2, s2, fun H4 S4 => ⟨_, rfl, ?_⟩⟩
      have S14 := S13.trans S4
      rcases bool_ft (marksD d2) with h3 | h3
      · refine iteNo h3 ?_
        have q := k H4 S14
        rw [key, h1, h2, h3] at q
        exact q
      refine iteYes h3 ?_
      refine ⟨_, rfl, b, _, _, y3, rfl, rfl, SqT.of (S14 _ _ e), rfl, _, rfl, _, _, rfl, rfl, y3, d3, 0, n - 1, rfl, Dq.same S14 _ _ q3, s3, fun H5 S5 => ?_⟩
      have q := k H5 (S14.trans S5)
      rw [key, h1, h2, h3] at q
      exact q
end
end KL
set_option Elab.async false
set_option linter.all false
set_option maxRecDepth 100000
set_option maxHeartbeats 2000000
namespace KL
open PySem L2 PySem.Spec PyProof.Rows
theorem lay_int : ∀ {ds : List PyData}, (∀ i, i < ds.length → ∃ j, ds.getD i .none = PyData.int j) → PyData.canLayAll0 ds = true ∧ PyData.depthAll ds = 0
  | [], _ => ⟨rfl, rfl⟩
  | d :: ds, h => by
    obtain ⟨j, e⟩ := h 0 (Nat.succ_pos _)
    have e : d = .int j := e
    subst e
    obtain ⟨q1, q2⟩ := lay_int (ds := ds) fun i hi => h (i + 1) (Nat.succ_lt_succ hi)
    refine ⟨?_, ?_⟩
    · show (true && PyData.canLayAll0 ds) = true
      rw [q1]
      rfl
    · show max 0 (PyData.depthAll ds) = 0
      rw [q2]
      rfl
section
variable {P : Program} {w : World} {K : PySem.W.Frag} {mg : Str → Option Value} {base : Heap}
theorem scMoves : FnScope ["states", "thing", "item"] ["states", "thing"] (defScope sAreMoves) := ⟨rfl, rfl, rfl, by decide +kernel, rfl, by decide +kernel, by decide +kernel⟩
theorem ok_moves {f g1 g2 : Addr} {fd gd1 gd2 : FuncData} (F : Fun K "are_moves" "are_moves" sAreMoves f fd) (T : TxtB mg) (G1 : FnOk P w K mg base CX0 3 g1 gd1 ["states", "thing"] (spTestN moveD)) (c1 : Cal K mg "is_move" g1 gd1 ["states", "thing"])
    (G2 : FnOk P w K mg base CX0 1 g2 gd2 ["items"] spAsc) (c2 : Cal K mg "is_ascending" g2 gd2 ["items"]) : FnOk P w K mg base CX0 4 f fd ["states", "thing"] (spTestN movesD) := by
  refine F.ok scMoves (fun vs H Q E h => ?_) (fun cdv A outer s H vs Q E hr h => ?_)
  · obtain ⟨v, d, n, rfl, _⟩ := h
    rfl
  · obtain ⟨v, d, n, rfl, hd, sm, ok, k⟩ := h
    have hr1 : Room 1 _ := hr.mono (by decide)
    refine ⟨_, pss_cons (ps_if (PW.pt (pw_or (pt_not (pt_val (pe_callB call_isD (by rfl) T.isi (by decide +kernel) (pa_cons (pv 1) (pa_cons (pe_bltn (v := .ty "tuple") (by rfl) T.tuple (by decide +kernel) rfl) pa_nil)))))
        (pw_or1 (pt_not (pt_val (pe_callB (cr_all rfl) (by rfl) T.all (by decide +kernel) (pa_cons (pe_lc (own := [("item", 2)]) (g := gName 2) (tt := tYes) rfl scMoves.nd (pi_tup (pv 1)) (blkOk_by (N := ["states", "thing", "item"]) (sc := defScope sAreMoves) (by decide +kernel)) (fun _ _ _ _ _ => pg_name (i := 2) scMoves.nd rfl (.inl rfl)) (fun _ _ _ _ _ => pts_nil)
          (fun _ _ _ _ _ => pe_call G1 hr (by rfl) c1.m c1.k c1.b .nil pass0 (pa_cons (pv 0) (pa_cons (pv 2) pa_nil)))) pa_nil))))))) (pss_one (ps_ret pe_bl)) pss_nil)
      (pss_one (ps_ret (pe_call G2 hr1 (by rfl) c2.m c2.k c2.b .nil pass0 (pa_cons (pe_lc (own := [("item", 2)]) (g := gName 2) (tt := tYes) rfl scMoves.nd (pi_tup (pv 1)) (blkOk_by (N := ["states", "thing", "item"]) (sc := defScope sAreMoves) (by decide +kernel)) (fun _ _ _ _ _ => pg_name (i := 2) scMoves.nd rfl (.inl rfl)) (fun _ _ _ _ _ => pts_nil)
          (fun _ _ _ _ _ => pe_slice (r := rSlT K) sl_tup (pv 2) po_none (po_some pe_int))) pa_nil)))), ?_⟩
    refine ⟨_, rfl, v, d, "tuple", rfl, by decide, hd, _, rfl, ?_⟩
    have no : isTupD d = false → Q (.bl false) H := fun z => by
      have q := k H (Same.refl H)
      have e : movesD n d = false := by simp only [movesD, z, Bool.false_and]
      rw [e] at q
      exact q
    cases hd with
    | @tup b xs ds e hda =>
      refine iteNo rfl ?_
      refine ⟨_, rfl, b, rfl, ⟨_, SqT.of e⟩, fun D nD => ?_⟩
      refine lc_tup (K := K) (a := b) (xs := xs) (fun i H2 => MadeTo H D (((ds.take i).map (moveD n)).map V.bl) H2) ⟨same_new nD, upd_same⟩ (fun i H2 _ M => SqT.of (M.1 _ _ e)) ?_ ?_
      · rintro i x H2 hx M
        obtain ⟨d', hd', hq⟩ := DqAll.at hda hx
        exact ⟨rfl, _, rfl, _, rfl, x, d', n, rfl, Dq.same M.1 d' x hq, sm_at (sm_all sm) hd', ok_at ok hd', fun H3 S3 => M.turn nD S3 (sm_len sm) hd'⟩
      · rintro H2 M
        rw [hda.len, List.take_length] at M
        refine ⟨D, _, rfl, SqL.of M.2, _, rfl, ?_⟩
        rw [allD_map]
        rcases bool_ft (allD (moveD n) (.tuple ds)) with a1 | a1
        · refine iteYes (by rw [a1]; rfl) ?_
          have q := k H2 M.1
          have e : movesD n (.tuple ds) = false := by simp only [movesD, isTupD, a1, Bool.true_and, Bool.false_and]
          rw [e] at q
          exact q
        refine iteNo (by rw [a1]; rfl) ?_
        have S1 := M.1
        have a1 : ds.all (moveD n) = true := a1
        refine ⟨_, rfl, b, rfl, ⟨_, SqT.of (S1 _ _ e)⟩, fun B nB => ?_⟩
        refine lc_tup (K := K) (a := b) (xs := xs) (fun i H3 => MadeN H2 B ((ds.take i).map cut2) H3) (MadeN.start nB) (fun i H3 _ M => SqT.of (M.same _ _ (S1 _ _ e))) ?_ ?_
        · rintro i x H3 hx M3
          obtain ⟨d', hd', hq⟩ := DqAll.at hda hx
          obtain ⟨i1, x1, w1, t1, rfl⟩ := move_of (List.all_eq_true.mp a1 d' (List.mem_of_getElem? hd'))
          cases hq with
          | @tup c zs _ e' hza =>
            have hl : zs.length = 4 := hza.len
            refine ⟨rfl, _, rfl, _, rfl, c, zs, rfl, SqT.of (M3.same _ _ (S1 _ _ e')), not_whole zs (by omega), fun p np => ?_⟩
            rw [cut_two zs (by omega)]
            obtain ⟨acc, h1, h2, h3⟩ := M3.turn np (DqAll.same S1 _ _ (hza.take 2))
            refine ⟨acc, h1, ?_, ?_⟩
            · rw [h2, List.length_map, List.length_take]
              have := sm_len sm
              rw [sizeLine_eq]
              omega
            · rw [take_map hd']
              exact h3
        · rintro H3 M3
          rw [hda.len, List.take_length] at M3
          obtain ⟨J, ys, S2, _, S3, hy, hq⟩ := M3
          obtain ⟨z1, z2⟩ := lay_cuts a1 ok
          refine ⟨B, ys, ds.map cut2, rfl, .inl hy, DqAll.same S3 _ ys hq, by rw [List.length_map]; exact sm_len sm, z1, Nat.le_trans z2 (by decide), cmp_cuts a1, fun H4 S4 => ?_⟩
          have q := k H4 (S1.trans (S2.trans (S3.trans S4)))
          have e : movesD n (.tuple ds) = ascD (ds.map cut2) := by
            show (true && (ds.all (moveD n) && ascD (ds.map cut2))) = _
            rw [a1]
            rfl
          rw [e] at q
          exact q
    | non => exact iteYes rfl (no rfl)
    | bl _ => exact iteYes rfl (no rfl)
    | int _ => exact iteYes rfl (no rfl)
    | str _ => exact iteYes rfl (no rfl)
    | lst _ _ => exact iteYes rfl (no rfl)
    | dct0 _ => exact iteYes rfl (no rfl)
    | dct1 _ => exact iteYes rfl (no rfl)
theorem pair_of {d : PyData} (h : tupD 2 2 d = true) : ∃ a b, d = .tuple [a, b] := by
  obtain ⟨ds, rfl, l1, l2⟩ := tup_of h
  obtain ⟨a, b, rfl⟩ := two l1 l2
  exact ⟨a, b, rfl⟩
abbrev nEnds : List Str := ["states", "thing", "item", "state", "written"]
theorem scEnds : FnScope nEnds ["states", "thing"] (defScope sAreEnds) := ⟨rfl, rfl, rfl, by decide +kernel, rfl, by decide +kernel, by decide +kernel⟩
theorem ok_ends {f g1 g2 g3 g4 : Addr} {fd gd1 gd2 gd3 gd4 : FuncData} (F : Fun K "are_ends" "are_ends" sAreEnds f fd) (T : TxtB mg) (G1 : FnOk P w K mg base CX0 1 g1 gd1 ["thing", "low", "high"] (spTest2 tupD)) (c1 : Cal K mg "is_tuple_of" g1 gd1 ["thing", "low", "high"])
    (G2 : FnOk P w K mg base CX0 2 g2 gd2 ["thing", "low", "high"] (spTest2 betD)) (c2 : Cal K mg "is_between" g2 gd2 ["thing", "low", "high"]) (G3 : FnOk P w K mg base CX0 2 g3 gd3 ["thing"] (spTest marksD)) (c3 : Cal K mg "are_marks" g3 gd3 ["thing"])
    (G4 : FnOk P w K mg base CX0 1 g4 gd4 ["items"] spAsc) (c4 : Cal K mg "is_ascending" g4 gd4 ["items"]) : FnOk P w K mg base CX0 3 f fd ["states", "thing"] (spTestN endsD) := by
  refine F.ok scEnds (fun vs H Q E h => ?_) (fun cdv A outer s H vs Q E hr h => ?_)
  · obtain ⟨v, d, n, rfl, _⟩ := h
    rfl
  · obtain ⟨v, d, n, rfl, hd, sm, ok, k⟩ := h
    have hr1 : Room 1 _ := hr.mono (by decide)
    refine ⟨_, pss_cons (ps_if (PW.pt (pw_or (pt_not (pt_val (pe_callB call_isD (by rfl) T.isi (by decide +kernel) (pa_cons (pv 1) (pa_cons (pe_bltn (v := .ty "tuple") (by rfl) T.tuple (by decide +kernel) rfl) pa_nil)))))
        (pw_or1 (pt_not (pt_val (pe_callB (cr_all rfl) (by rfl) T.all (by decide +kernel) (pa_cons (pe_lc (own := [("item", 2)]) (g := gName 2) (tt := tYes) rfl scEnds.nd (pi_tup (pv 1)) (blkOk_by (N := nEnds) (sc := defScope sAreEnds) (by decide +kernel)) (fun _ _ _ _ _ => pg_name (i := 2) scEnds.nd rfl (.inl rfl)) (fun _ _ _ _ _ => pts_nil)
          (fun _ _ _ _ _ => pe_call G1 hr1 (by rfl) c1.m c1.k c1.b .nil pass0 (pa_cons (pv 2) (pa_cons pe_int (pa_cons pe_int pa_nil))))) pa_nil))))))) (pss_one (ps_ret pe_bl)) pss_nil)
      (pss_cons (ps_if (pt_not (pt_val (pe_callB (cr_all rfl) (by rfl) T.all (by decide +kernel) (pa_cons (pe_lc (own := [("state", 3), ("written", 4)]) (g := gTup K 2 (gCons (gName 3) (gCons (gName 4) gNil))) (tt := tYes) rfl scEnds.nd (pi_tup (pv 1)) (blkOk_by (N := nEnds) (sc := defScope sAreEnds) (by decide +kernel)) (fun _ _ _ _ _ => pg_tup rfl (pgs_cons (pg_name (i := 3) scEnds.nd rfl (.inl rfl)) (pgs_cons (pg_name (i := 4) scEnds.nd rfl (.inl rfl)) pgs_nil))) (fun _ _ _ _ _ => pts_nil)
          (fun _ _ _ _ _ => pe_and (pe_call G2 hr (by rfl) c2.m c2.k c2.b .nil pass0 (pa_cons (pv 3) (pa_cons pe_int (pa_cons (pe_op op_sub (pv 0) pe_int) pa_nil)))) (pe_one (pe_call G3 hr (by rfl) c3.m c3.k c3.b .nil pass0 (pa_cons (pv 4) pa_nil))))) pa_nil)))) (pss_one (ps_ret pe_bl)) pss_nil)
      (pss_one (ps_ret (pe_call G4 hr1 (by rfl) c4.m c4.k c4.b .nil pass0 (pa_cons (pe_lc (own := [("state", 3), ("written", 4)]) (g := gTup K 2 (gCons (gName 3) (gCons (gName 4) gNil))) (tt := tYes) rfl scEnds.nd (pi_tup (pv 1)) (blkOk_by (N := nEnds) (sc := defScope sAreEnds) (by decide +kernel)) (fun _ _ _ _ _ => pg_tup rfl (pgs_cons (pg_name (i := 3) scEnds.nd rfl (.inl rfl)) (pgs_cons (pg_name (i := 4) scEnds.nd rfl (.inl rfl)) pgs_nil))) (fun _ _ _ _ _ => pts_nil)
          (fun _ _ _ _ _ => pv 3)) pa_nil))))), ?_⟩
    refine ⟨_, rfl, v, d, "tuple", rfl, by decide, hd, _, rfl, ?_⟩
    have no : isTupD d = false → Q (.bl false) H := fun z => by
      have q := k H (Same.refl H)
      have e : endsD n d = false := by simp only [endsD, z, Bool.false_and]
      rw [e] at q
      exact q
    cases hd with
    | @tup b xs ds e hda =>
      refine iteNo rfl ?_
      refine ⟨_, rfl, b, rfl, ⟨_, SqT.of e⟩, fun D nD => ?_⟩
      refine lc_tup (K := K) (a := b) (xs := xs) (fun i H2 => MadeTo H D (((ds.take i).map (tupD 2 2)).map V.bl) H2) ⟨same_new nD, upd_same⟩ (fun i H2 _ M => SqT.of (M.1 _ _ e)) ?_ ?_
      · rintro i x H2 hx M
        obtain ⟨d', hd', hq⟩ := DqAll.at hda hx
        exact ⟨rfl, _, rfl, x, d', 2, 2, rfl, Dq.same M.1 d' x hq, sm_at (sm_all sm) hd', fun H3 S3 => M.turn nD S3 (sm_len sm) hd'⟩
      · rintro H2 M
        rw [hda.len, List.take_length] at M
        refine ⟨D, _, rfl, SqL.of M.2, _, rfl, ?_⟩
        rw [allD_map]
        rcases bool_ft (allD (tupD 2 2) (.tuple ds)) with a1 | a1
        · refine iteYes (by rw [a1]; rfl) ?_
          have q := k H2 M.1
          have e : endsD n (.tuple ds) = false := by simp only [endsD, isTupD, a1, Bool.true_and, Bool.false_and]
          rw [e] at q
          exact q
        refine iteNo (by rw [a1]; rfl) ?_
        have S1 := M.1
        have a1 : ds.all (tupD 2 2) = true := a1
        refine ⟨_, rfl, b, rfl, ⟨_, SqT.of (S1 _ _ e)⟩, fun B nB => ?_⟩
        refine lc_tup (K := K) (a := b) (xs := xs) (fun i H3 => MadeTo H2 B (((ds.take i).map (endD n)).map V.bl) H3) ⟨same_new nB, upd_same⟩ (fun i H3 _ M => SqT.of (M.1 _ _ (S1 _ _ e))) ?_ ?_
        · rintro i x H3 hx M3
          obtain ⟨d', hd', hq⟩ := DqAll.at hda hx
          obtain ⟨u1, u2, rfl⟩ := pair_of (List.all_eq_true.mp a1 d' (List.mem_of_getElem? hd'))
          have smd := sm_all (sm_at (sm_all sm) hd')
          cases hq with
          | @tup c zs _ e' hza =>
            cases hza with
            | @cons y0 _ _ _ q0 hza =>
            cases hza with
            | @cons y1 _ _ _ q1 hza =>
            cases hza
            refine ⟨c, _, rfl, SqT.of (M3.1 _ _ (S1 _ _ e')), rfl, y0, _, rfl, y1, _, rfl, rfl, rfl, ?_⟩
            refine ⟨_, rfl, _, rfl, _, _, rfl, rfl, y0, u1, 0, n - 1, rfl, Dq.same (S1.trans M3.1) _ _ q0, sm_at (i := 0) smd rfl, fun H4 S4 => ⟨_, rfl, ?_⟩⟩
            rcases bool_ft (betD 0 (n - 1) u1) with h1 | h1
            · refine iteNo h1 ?_
              have q := M3.turn (g := endD n) nB S4 (sm_len sm) hd'
              have e : endD n (.tuple [u1, u2]) = false := by
                show (betD 0 (n - 1) u1 && marksD u2) = false
                rw [h1]
                rfl
              rw [e] at q
              exact q
            refine iteYes h1 ?_
            refine ⟨_, rfl, y1, u2, rfl, Dq.same (S1.trans (M3.1.trans S4)) _ _ q1, sm_at (i := 1) smd rfl, fun H5 S5 => ?_⟩
            have q := M3.turn (g := endD n) nB (S4.trans S5) (sm_len sm) hd'
            have e : endD n (.tuple [u1, u2]) = marksD u2 := by
              show (betD 0 (n - 1) u1 && marksD u2) = _
              rw [h1, Bool.true_and]
            rw [e] at q
            exact q
        · rintro H3 M3
          rw [hda.len, List.take_length] at M3
          have S2 := M3.1
          refine ⟨B, _, rfl, SqL.of M3.2, _, rfl, ?_⟩
          rw [allD_map]
          rcases bool_ft (allD (endD n) (.tuple ds)) with a2 | a2
          · refine iteYes (by rw [a2]; rfl) ?_
            have q := k H3 (S1.trans S2)
            have e : endsD n (.tuple ds) = false := by
              show (true && (ds.all (tupD 2 2) && (allD (endD n) (.tuple ds) && _))) = false
              rw [a1, a2]
              rfl
            rw [e] at q
            exact q
          refine iteNo (by rw [a2]; rfl) ?_
          have a2 : ds.all (endD n) = true := a2
          have S12 := S1.trans S2
          refine ⟨_, rfl, b, rfl, ⟨_, SqT.of (S12 _ _ e)⟩, fun C nC => ?_⟩
          refine lc_tup (K := K) (a := b) (xs := xs) (fun i H4 => MadeQ H3 C ((ds.take i).map (itemD 0)) H4) (MadeQ.start nC) (fun i H4 _ M => SqT.of (M.1 _ _ (S12 _ _ e))) ?_ ?_
          · rintro i x H4 hx M4
            obtain ⟨d', hd', hq⟩ := DqAll.at hda hx
            obtain ⟨u1, u2, rfl⟩ := pair_of (List.all_eq_true.mp a1 d' (List.mem_of_getElem? hd'))
            cases hq with
            | @tup c zs _ e' hza =>
              cases hza with
              | @cons y0 _ _ _ q0 hza =>
              cases hza with
              | @cons y1 _ _ _ q1 hza =>
              cases hza
              refine ⟨c, _, rfl, SqT.of (M4.1 _ _ (S12 _ _ e')), rfl, y0, _, rfl, y1, _, rfl, rfl, rfl, ?_⟩
              exact ⟨_, rfl, M4.turn nC (Same.refl _) (sm_len sm) hd' (Dq.same S12 _ y0 q0)⟩
          · rintro H4 M4
            rw [hda.len, List.take_length] at M4
            obtain ⟨S3, ys, hy, hq⟩ := M4
            have alli : ∀ i, i < (ds.map (itemD 0)).length → ∃ j, (ds.map (itemD 0)).getD i .none = .int j := fun i hi => by
              rw [List.length_map] at hi
              rw [getD_map hi]
              have q := all_at (f := endD n) a2 hi
              obtain ⟨j, e, _⟩ := bet_of (Bool.and_eq_true_iff.mp (show (betD 0 (n - 1) (itemD 0 (ds.getD i .none)) && _) = true from q)).1
              exact ⟨j, e⟩
            obtain ⟨l1, l2⟩ := lay_int alli
            refine ⟨C, ys, ds.map (itemD 0), rfl, .inl hy, DqAll.same S3 _ ys hq, by rw [List.length_map]; exact sm_len sm, l1, by rw [l2]; decide, fun i hi => ?_, fun H5 S5 => ?_⟩
            · obtain ⟨x, ex⟩ := alli i (by omega)
              obtain ⟨y, ey⟩ := alli (i + 1) hi
              rw [ex, ey]
              rfl
            · have q := k H5 (S12.trans (S3.trans S5))
              have e : endsD n (.tuple ds) = ascD (ds.map (itemD 0)) := by
                show (true && (ds.all (tupD 2 2) && (ds.all (endD n) && ascD (ds.map (itemD 0))))) = _
                rw [a1, a2]
                rfl
              rw [e] at q
              exact q
    | non => exact iteYes rfl (no rfl)
    | bl _ => exact iteYes rfl (no rfl)
    | int _ => exact iteYes rfl (no rfl)
    | str _ => exact iteYes rfl (no rfl)
    | lst _ _ => exact iteYes rfl (no rfl)
    | dct0 _ => exact iteYes rfl (no rfl)
    | dct1 _ => exact iteYes rfl (no rfl)
end
end KL
set_option Elab.async false
set_option linter.all false
set_option maxRecDepth 100000
set_option maxHeartbeats 2000000
namespace KL
open PySem L2 PySem.Spec PyProof.Rows
abbrev sMoveTable : Stmt := top 13
abbrev sReadOn : Stmt := top 14
/-- a move -/
structure Mv where
  s : Int
  m : Str
  w : List Str
  t : Int
def strsD (w : List Str) : PyData := .tuple (w.map .str)
def mvD (x : Mv) : PyData := .tuple [.int x.s, .str x.m, strsD x.w, .int x.t]
/-- the last move of a state and a mark -/
def lastM (mv : List Mv) (s : Int) (m : Str) : Option Mv := mv.reverse.find? fun x => decide (x.s = s) && decide (x.m = m)
theorem last_snoc (mv : List Mv) (x : Mv) (s : Int) (m : Str) : lastM (mv ++ [x]) s m = if x.s = s ∧ x.m = m then some x else lastM mv s m := by
  unfold lastM
  rw [List.reverse_append]
  show (x :: mv.reverse).find? _ = _
  by_cases h : x.s = s ∧ x.m = m
  · rw [if_pos h, List.find?_cons_of_pos]
    simp [h.1, h.2]
  · rw [if_neg h, List.find?_cons_of_neg]
    simp
    exact fun a b => h ⟨a, b⟩
/-- what stands in the table for a move -/
def CellAt (Hb H0 H : Hp) (u : V) (x : Mv) : Prop := ∃ b wv, u = .ref b ∧ H0 b = none ∧ H b = some (.tup [wv, .int x.t]) ∧ Dq Hb wv (strsD x.w)
def InnerAt (Hb H0 H : Hp) (a : Addr) (n : Nat) (f : Str → Option Mv) : Prop := ∃ ks, H a = some (.dK ks) ∧ ks.length ≤ n ∧ ∀ m, (f m = none ∧ valV ks (Sum.inr m) = none) ∨ ∃ x u, f m = some x ∧ valV ks (Sum.inr m) = some u ∧ CellAt Hb H0 H u x
structure Tab (Hb H0 H : Hp) (tb : Addr) (n : Nat) (f : Int → Str → Option Mv) : Prop where
  s : Same H0 H
  n0 : H0 tb = none
  ex : ∃ kvs, H tb = some (.dK kvs) ∧ kvs.length ≤ n ∧ (∀ k v, valV kvs k = some v → ∃ i a, k = Sum.inl i ∧ v = .ref a ∧ H0 a = none ∧ a ≠ tb) ∧ (∀ k k' v, valV kvs k = some v → valV kvs k' = some v → k = k') ∧
    ∀ i, ((∀ m, f i m = none) ∧ valV kvs (Sum.inl i) = none) ∨ ∃ a, valV kvs (Sum.inl i) = some (.ref a) ∧ InnerAt Hb H0 H a n (f i)
def spTable : Sp := fun vs H Q _ => ∃ (Hb : Hp) (a : Addr) (xs : List V) (mv : List Mv), vs = [.ref a] ∧ Same Hb H ∧ H a = some (.tup xs) ∧ DqAll Hb xs (mv.map mvD) ∧ mv.length ≤ 1000 ∧ ∀ H' tb, Tab Hb H H' tb mv.length (lastM mv) → Q (.ref tb) H'
theorem CellAt.keep {Hb H0 H H' : Hp} {u : V} {x : Mv} (c : CellAt Hb H0 H u x) (e : ∀ b ys, H b = some (.tup ys) → H' b = some (.tup ys)) : CellAt Hb H0 H' u x := by
  obtain ⟨b, wv, rfl, n, h, d⟩ := c
  exact ⟨b, wv, rfl, n, e _ _ h, d⟩
theorem InnerAt.keep {Hb H0 H H' : Hp} {a : Addr} {n n' : Nat} {f : Str → Option Mv} (c : InnerAt Hb H0 H a n f) (hn : n ≤ n') (e : ∀ b ys, H b = some (.tup ys) → H' b = some (.tup ys)) (ha : H' a = H a) : InnerAt Hb H0 H' a n' f := by
  obtain ⟨ks, h, l, r⟩ := c
  refine ⟨ks, by rw [ha]; exact h, Nat.le_trans l hn, fun m => ?_⟩
  rcases r m with q | ⟨x, u, q1, q2, q3⟩
  · exact .inl q
  · exact .inr ⟨x, u, q1, q2, q3.keep e⟩
theorem Tab.start {Hb H0 : Hp} {tb : Addr} (n0 : H0 tb = none) : Tab Hb H0 (upd H0 tb (.dK [])) tb 0 (lastM []) :=
  ⟨same_new n0, n0, [], upd_same, Nat.le_refl _, fun k v e => (nomatch e), fun k k' v e => (nomatch e), fun i => .inl ⟨fun _ => rfl, rfl⟩⟩
/-- one more cell in an inner table -/
theorem inner_put {Hb H0 H' : Hp} {a b : Addr} {n : Nat} {mv : List Mv} {x : Mv} {ks : List (Key × V)} (l : ks.length ≤ n) (hb : CellAt Hb H0 H' (.ref b) x) (r : ∀ m, (lastM mv x.s m = none ∧ valV ks (Sum.inr m) = none) ∨ ∃ y u, lastM mv x.s m = some y ∧ valV ks (Sum.inr m) = some u ∧ CellAt Hb H0 H' u y)
    (ha : H' a = some (.dK (putK ks (Sum.inr x.m) (.ref b)))) : InnerAt Hb H0 H' a (n + 1) (lastM (mv ++ [x]) x.s) := by
  refine ⟨_, ha, Nat.le_trans (length_putK _ _ _) (by omega), fun m => ?_⟩
  by_cases e : x.m = m
  · subst e
    refine .inr ⟨x, .ref b, ?_, by rw [valV_put, if_pos rfl], hb⟩
    rw [last_snoc, if_pos ⟨rfl, rfl⟩]
  · have e1 : lastM (mv ++ [x]) x.s m = lastM mv x.s m := by
      rw [last_snoc, if_neg fun z => e z.2]
    have e2 : valV (putK ks (Sum.inr x.m) (.ref b)) (Sum.inr m) = valV ks (Sum.inr m) := by rw [valV_put, if_neg fun z => e (by injection z with z; exact z.symm)]
    rw [e1, e2]
    exact r m
/-- the heap behind one more move, its state known already -/
theorem Tab.old {Hb H0 H : Hp} {tb a b q : Addr} {n : Nat} {mv : List Mv} {x : Mv} {wv : V} {kvs ks : List (Key × V)} (T : Tab Hb H0 H tb n (lastM mv)) (hw : Dq Hb wv (strsD x.w)) (hb : H b = none) (hq : upd H b (.tup [wv, .int x.t]) q = none)
    (hk : H tb = some (.dK kvs)) (hv : valV kvs (Sum.inl x.s) = some (.ref a)) (ha : H a = some (.dK ks)) :
    Tab Hb H0 (upd (upd (upd H b (.tup [wv, .int x.t])) q (.dK [])) a (.dK (putK ks (Sum.inr x.m) (.ref b)))) tb (n + 1) (lastM (mv ++ [x])) := by
  obtain ⟨S, n0, kvs', hk', hl, sh, inj, look⟩ := T
  rw [hk] at hk'
  cases hk'
  have qb : q ≠ b := fun z => by
    rw [z, upd_same] at hq
    cases hq
  have hq0 : H q = none := by
    rw [upd_ne qb] at hq
    exact hq
  have ab : a ≠ b := ne_of_none ha hb
  have aq : a ≠ q := ne_of_none ha hq0
  have tb_b : tb ≠ b := ne_of_none hk hb
  have tb_q : tb ≠ q := ne_of_none hk hq0
  obtain ⟨_, a', _, ea, a0, atb⟩ := sh _ _ hv
  cases ea
  have keep : ∀ c ys, H c = some (.tup ys) → upd (upd (upd H b (.tup [wv, .int x.t])) q (.dK [])) a (.dK (putK ks (Sum.inr x.m) (.ref b))) c = some (.tup ys) := fun c ys e => by
    rw [upd_ne (ne_of e ha (fun z => nomatch z)), upd_ne (ne_of_none e hq0), upd_ne (ne_of_none e hb)]
    exact e
  refine ⟨fun c o e => ?_, n0, kvs, ?_, Nat.le_succ_of_le hl, sh, inj, fun i => ?_⟩
  · have e1 := S _ _ e
    rw [upd_ne (ne_of_none e a0), upd_ne (ne_of_none e1 hq0), upd_ne (ne_of_none e1 hb)]
    exact e1
  · rw [upd_ne atb.symm, upd_ne tb_q, upd_ne tb_b]
    exact hk
  · by_cases hi : i = x.s
    · subst hi
      refine .inr ⟨a, hv, ?_⟩
      rcases look x.s with ⟨_, z⟩ | ⟨a2, z, ks', hks, lks, r⟩
      · rw [hv] at z
        cases z
      · rw [hv] at z
        cases z
        rw [ha] at hks
        cases hks
        refine inner_put lks ⟨b, wv, rfl, S.free hb, ?_, hw⟩ (fun m => ?_) upd_same
        · rw [upd_ne ab.symm, upd_ne qb.symm, upd_same]
        · rcases r m with r | ⟨y, u, r1, r2, r3⟩
          · exact .inl r
          · exact .inr ⟨y, u, r1, r2, r3.keep keep⟩
    · have e1 : ∀ m, lastM (mv ++ [x]) i m = lastM mv i m := fun m => by
        rw [last_snoc, if_neg fun z => hi z.1.symm]
      rcases look i with ⟨z1, z2⟩ | ⟨a2, z, ks', hks, lks, r⟩
      · exact .inl ⟨fun m => by rw [e1]; exact z1 m, z2⟩
      · have na : a2 ≠ a := fun q => by
          subst q
          have := inj _ _ _ z hv
          injection this with this
          exact hi this
        refine .inr ⟨a2, z, ks', ?_, Nat.le_succ_of_le lks, fun m => ?_⟩
        · rw [upd_ne na, upd_ne (ne_of_none hks hq0), upd_ne (ne_of_none hks hb)]
          exact hks
        · rw [e1]
          rcases r m with r | ⟨y, u, r1, r2, r3⟩
          · exact .inl r
          · exact .inr ⟨y, u, r1, r2, r3.keep keep⟩
/-- .. and the first one of its state -/
theorem Tab.new {Hb H0 H : Hp} {tb b q : Addr} {n : Nat} {mv : List Mv} {x : Mv} {wv : V} {kvs : List (Key × V)} (T : Tab Hb H0 H tb n (lastM mv)) (hw : Dq Hb wv (strsD x.w)) (hb : H b = none) (hq : upd H b (.tup [wv, .int x.t]) q = none)
    (hk : H tb = some (.dK kvs)) (hv : valV kvs (Sum.inl x.s) = none) :
    Tab Hb H0 (upd (upd (upd (upd H b (.tup [wv, .int x.t])) q (.dK [])) tb (.dK (putK kvs (Sum.inl x.s) (.ref q)))) q (.dK (putK [] (Sum.inr x.m) (.ref b)))) tb (n + 1) (lastM (mv ++ [x])) := by
  obtain ⟨S, n0, kvs', hk', hl, sh, inj, look⟩ := T
  rw [hk] at hk'
  cases hk'
  have qb : q ≠ b := fun z => by
    rw [z, upd_same] at hq
    cases hq
  have hq0 : H q = none := by
    rw [upd_ne qb] at hq
    exact hq
  have tb_b : tb ≠ b := ne_of_none hk hb
  have tb_q : tb ≠ q := ne_of_none hk hq0
  have free : ∀ c, H c = none → H0 c = none := fun c e => S.free e
  have keep : ∀ c ys, H c = some (.tup ys) → upd (upd (upd (upd H b (.tup [wv, .int x.t])) q (.dK [])) tb (.dK (putK kvs (Sum.inl x.s) (.ref q)))) q (.dK (putK [] (Sum.inr x.m) (.ref b))) c = some (.tup ys) := fun c ys e => by
    rw [upd_ne (ne_of_none e hq0), upd_ne (ne_of e hk (fun z => nomatch z)), upd_ne (ne_of_none e hq0), upd_ne (ne_of_none e hb)]
    exact e
  have val : ∀ k v, valV (putK kvs (Sum.inl x.s) (.ref q)) k = some v → (k = Sum.inl x.s ∧ v = .ref q) ∨ valV kvs k = some v := fun k v e => by
    rw [valV_put] at e
    by_cases z : k = Sum.inl x.s
    · rw [if_pos z] at e
      exact .inl ⟨z, (Option.some.inj e).symm⟩
    · rw [if_neg z] at e
      exact .inr e
  have notq : ∀ k, valV kvs k ≠ some (.ref q) := fun k e => by
    obtain ⟨i, a, rfl, ea, _, _⟩ := sh _ _ e
    cases ea
    rcases look i with ⟨_, z2⟩ | ⟨a2, z, ks', hks, _⟩
    · rw [e] at z2
      cases z2
    · rw [e] at z
      cases z
      rw [hq0] at hks
      cases hks
  refine ⟨fun c o e => ?_, n0, putK kvs (Sum.inl x.s) (.ref q), ?_, Nat.le_trans (length_putK _ _ _) (by omega), fun k v e => ?_, fun k k' v e e' => ?_, fun i => ?_⟩
  · have e1 := S _ _ e
    rw [upd_ne (ne_of_none e1 hq0), upd_ne (ne_of_none e n0), upd_ne (ne_of_none e1 hq0), upd_ne (ne_of_none e1 hb)]
    exact e1
  · rw [upd_ne tb_q, upd_same]
  · rcases val _ _ e with ⟨z, rfl⟩ | e
    · exact ⟨_, q, z, rfl, free q hq0, tb_q.symm⟩
    · exact sh _ _ e
  · rcases val _ _ e with ⟨z1, z2⟩ | e
    · rcases val _ _ e' with ⟨z3, _⟩ | e'
      · rw [z1, z3]
      · rw [z2] at e'
        exact absurd e' (notq _)
    · rcases val _ _ e' with ⟨_, z4⟩ | e'
      · rw [z4] at e
        exact absurd e (notq _)
      · exact inj _ _ _ e e'
  · by_cases hi : i = x.s
    · subst hi
      refine .inr ⟨q, by rw [valV_put, if_pos rfl], ?_⟩
      have none_ : ∀ m, lastM mv x.s m = none := by
        rcases look x.s with ⟨z, _⟩ | ⟨a2, z, _⟩
        · exact z
        · rw [hv] at z
          cases z
      refine inner_put (ks := []) (Nat.zero_le n) ⟨b, wv, rfl, S.free hb, ?_, hw⟩ (fun m => .inl ⟨none_ m, rfl⟩) upd_same
      rw [upd_ne qb.symm, upd_ne tb_b.symm, upd_ne qb.symm, upd_same]
    · have e1 : ∀ m, lastM (mv ++ [x]) i m = lastM mv i m := fun m => by
        rw [last_snoc, if_neg fun z => hi z.1.symm]
      have e2 : valV (putK kvs (Sum.inl x.s) (.ref q)) (Sum.inl i) = valV kvs (Sum.inl i) := by
        rw [valV_put, if_neg fun z => hi (by injection z)]
      rcases look i with ⟨z1, z2⟩ | ⟨a2, z, ks', hks, lks, r⟩
      · exact .inl ⟨fun m => by rw [e1]; exact z1 m, by rw [e2]; exact z2⟩
      · obtain ⟨_, a3, _, ea, _, na⟩ := sh _ _ z
        cases ea
        refine .inr ⟨a2, by rw [e2]; exact z, ks', ?_, Nat.le_succ_of_le lks, fun m => ?_⟩
        · rw [upd_ne (ne_of_none hks hq0), upd_ne na, upd_ne (ne_of_none hks hq0), upd_ne (ne_of_none hks hb)]
          exact hks
        · rw [e1]
          rcases r m with r | ⟨y, u, r1, r2, r3⟩
          · exact .inl r
          · exact .inr ⟨y, u, r1, r2, r3.keep keep⟩
section
variable {P : Program} {w : World} {K : PySem.W.Frag} {mg : Str → Option Value} {base : Heap}
abbrev nTab : List Str := ["moves", "table", "state", "mark", "written", "target"]
theorem scTab : FnScope nTab ["moves"] (defScope sMoveTable) := ⟨rfl, rfl, rfl, by decide +kernel, rfl, by decide +kernel, by decide +kernel⟩
theorem ok_table {f : Addr} {fd : FuncData} (F : Fun K "move_table" "move_table" sMoveTable f fd) : FnOk P w K mg base CX0 1 f fd ["moves"] spTable := by
  refine F.ok scTab (fun vs H Q E h => ?_) (fun cdv A outer s H vs Q E hr h => ?_)
  · obtain ⟨Hb, a, xs, mv, rfl, _⟩ := h
    rfl
  · obtain ⟨Hb, a, xs, mv, rfl, SB, ha, hda, hn, k⟩ := h
    have hu := hu_of hr
    refine ⟨_, pss_cons (ps_set (i := 1) scTab.nd rfl (.inl rfl) pe_dnewK)
      (pss_cons (ps_for PassesOwn.never rfl (pi_tup (pv 0)) (pg_tup rfl (pgs_cons (pg_name (i := 2) scTab.nd rfl (.inl rfl)) (pgs_cons (pg_name (i := 3) scTab.nd rfl (.inl rfl)) (pgs_cons (pg_name (i := 4) scTab.nd rfl (.inl rfl)) (pgs_cons (pg_name (i := 5) scTab.nd rfl (.inl rfl)) pgs_nil)))))
        (pss_one (ps_dput hu (pe_dsetd (pv 1) (pv 2) pe_dnewK ⟨rfl, rfl, rfl, rfl⟩) (pv 3) (pe_tup (pa_cons (pv 4) (pa_cons (pv 5) pa_nil))) rfl)))
      (pss_one (ps_ret (pv 1)))), ?_⟩
    refine fun tb ntb => ⟨_, rfl, a, rfl, ⟨xs, SqT.of (same_new ntb _ _ ha)⟩, for_tup (K := K) (a := a) (xs := xs) (fun i σ H1 => Tab Hb H H1 tb i (lastM (mv.take i)) ∧ ∃ o1 o2 o3 o4, σ = [some (.ref a), some (.ref tb), o1, o2, o3, o4]) ⟨Tab.start ntb, _, _, _, _, rfl⟩ (fun i σ H1 _ M => SqT.of (M.1.s _ _ ha)) ?_ ?_⟩
    · rintro i y σ H1 hy ⟨T, o1, o2, o3, o4, rfl⟩
      obtain ⟨d', hd', hq⟩ := DqAll.at hda hy
      obtain ⟨x, hx, rfl⟩ : ∃ x, mv[i]? = some x ∧ mvD x = d' := by
        rw [List.getElem?_map] at hd'
        cases e : mv[i]? with
        | none =>
          rw [e] at hd'
          cases hd'
        | some x =>
          rw [e] at hd'
          exact ⟨x, rfl, Option.some.inj hd'⟩
      have hi : i < mv.length := (List.getElem?_eq_some_iff.mp hx).1
      have et : mv.take (i + 1) = mv.take i ++ [x] := by
        rw [List.take_add_one, hx]
        rfl
      cases hq with
      | @tup c zs _ e hza =>
        cases hza with
        | @cons y0 _ _ _ q0 hza =>
        cases hza with
        | @cons y1 _ _ _ q1 hza =>
        cases hza with
        | @cons y2 _ _ _ q2 hza =>
        cases hza with
        | @cons y3 _ _ _ q3 hza =>
        cases hza
        cases q0
        cases q1
        cases q3
        obtain ⟨kvs, hk, hl, sh, inj, look⟩ := T.ex
        have lz : ∀ n, n ≤ i → n < sizeLine := fun n h => Nat.lt_of_le_of_lt (Nat.le_trans h (Nat.le_trans (Nat.le_of_lt hi) hn)) (by rw [sizeLine_eq]; omega)
        refine ⟨c, _, rfl, SqT.of (T.s _ _ (SB _ _ e)), rfl, _, _, rfl, _, _, rfl, _, _, rfl, _, _, rfl, rfl, ?_⟩
        refine ⟨_, rfl, _, rfl, (by show 2 ≤ sizeLine; decide), fun b nb => ?_⟩
        have tb_b : tb ≠ b := ne_of_none hk nb
        have hk1 : upd H1 b (.tup [y2, .int x.t]) tb = some (.dK kvs) := by
          rw [upd_ne tb_b]
          exact hk
        refine ⟨_, rfl, tb, rfl, .inl ⟨kvs, .inl hk1⟩, _, rfl, fun q nq => ?_⟩
        have tb_q : tb ≠ q := ne_of_none hk1 nq
        have hk2 : upd (upd H1 b (.tup [y2, .int x.t])) q (.dK []) tb = some (.dK kvs) := by
          rw [upd_ne tb_q]
          exact hk1
        refine ⟨kvs, Sum.inl x.s, hk2, rfl, lz _ hl, fun v hv => ?_, fun hv => ?_⟩
        · rcases look x.s with ⟨_, z⟩ | ⟨a2, z, ks, hks, lks, r⟩
          · rw [hv] at z
            cases z
          · rw [hv] at z
            cases z
            have T2 := T.old (x := x) q2 nb nq hk hv hks
            refine ⟨_, rfl, a2, _, rfl, DPut.k (k := Sum.inr x.m) ?_ (lz _ lks), ?_⟩
            · rw [upd_ne (ne_of_none (show upd H1 b (.tup [y2, .int x.t]) a2 = some (.dK ks) by rw [upd_ne (ne_of_none hks nb)]; exact hks) nq), upd_ne (ne_of_none hks nb)]
              exact hks
            · rw [et]
              exact ⟨T2, _, _, _, _, rfl⟩
        · have T2 := T.new (x := x) q2 nb nq hk hv
          refine ⟨_, rfl, q, _, rfl, DPut.k (k := Sum.inr x.m) (kvs := []) ?_ (by rw [sizeLine_eq]; decide), ?_⟩
          · rw [upd_ne tb_q.symm, upd_same]
          · rw [et]
            exact ⟨T2, _, _, _, _, rfl⟩
    · rintro σ H1 ⟨T, o1, o2, o3, o4, rfl⟩
      have len : xs.length = mv.length := by
        rw [hda.len, List.length_map]
      rw [len, List.take_length] at T
      exact ⟨_, rfl, k H1 tb T⟩
end
end KL
set_option Elab.async false
set_option linter.all false
set_option maxRecDepth 100000
set_option maxHeartbeats 2000000
namespace KL
open PySem L2 PySem.Spec PyProof.Rows
/-! ### a table that stands, read -/
def CellR (H : Hp) (u : V) (x : Mv) : Prop := ∃ b wv, u = .ref b ∧ H b = some (.tup [wv, .int x.t]) ∧ Dq H wv (strsD x.w)
def InnerR (H : Hp) (a : Addr) (f : Str → Option Mv) : Prop := ∃ ks, H a = some (.dK ks) ∧ ∀ m, (f m = none ∧ valV ks (Sum.inr m) = none) ∨ ∃ x u, f m = some x ∧ valV ks (Sum.inr m) = some u ∧ CellR H u x
def TabR (H : Hp) (tb : Addr) (f : Int → Str → Option Mv) : Prop := ∃ kvs, H tb = some (.dK kvs) ∧ ∀ i, ((∀ m, f i m = none) ∧ valV kvs (Sum.inl i) = none) ∨ ∃ a, valV kvs (Sum.inl i) = some (.ref a) ∧ InnerR H a (f i)
theorem CellR.same {H H' : Hp} {u : V} {x : Mv} (h : CellR H u x) (S : Same H H') : CellR H' u x := by
  obtain ⟨b, wv, rfl, h1, h2⟩ := h
  exact ⟨b, wv, rfl, S _ _ h1, Dq.same S _ _ h2⟩
theorem TabR.same {H H' : Hp} {tb : Addr} {f : Int → Str → Option Mv} (h : TabR H tb f) (S : Same H H') : TabR H' tb f := by
  obtain ⟨kvs, h1, h2⟩ := h
  refine ⟨kvs, S _ _ h1, fun i => ?_⟩
  rcases h2 i with h | ⟨a, h3, ks, h4, h5⟩
  · exact .inl h
  · refine .inr ⟨a, h3, ks, S _ _ h4, fun m => ?_⟩
    rcases h5 m with h | ⟨x, u, h6, h7, h8⟩
    · exact .inl h
    · exact .inr ⟨x, u, h6, h7, h8.same S⟩
/-- in a heap that has what is new in it -/
theorem Tab.stands {Hb H0 H Hk : Hp} {tb : Addr} {n : Nat} {f : Int → Str → Option Mv} (T : Tab Hb H0 H tb n f) (SB : Same Hb Hk) (nw : ∀ c o, H0 c = none → H c = some o → Hk c = some o) : TabR Hk tb f := by
  obtain ⟨S, n0, kvs, h1, _, sh, _, h2⟩ := T
  refine ⟨kvs, nw _ _ n0 h1, fun i => ?_⟩
  rcases h2 i with h | ⟨a, h3, ks, h4, _, h5⟩
  · exact .inl h
  · obtain ⟨_, _, _, ea, na, _⟩ := sh _ _ h3
    cases ea
    refine .inr ⟨a, h3, ks, nw _ _ na h4, fun m => ?_⟩
    rcases h5 m with h | ⟨x, u, h6, h7, b, wv, h8, n8, h9, h10⟩
    · exact .inl h
    · exact .inr ⟨x, u, h6, h7, b, wv, h8, nw _ _ n8 h9, Dq.same SB _ _ h10⟩
/-- what is written, and the state, behind one mark more -/
def stepM (f : Int → Str → Option Mv) (r : Option (List Str × Int)) (m : Str) : Option (List Str × Int) := r.bind fun p => (f p.2 m).map fun x => (p.1 ++ x.w, x.t)
def readM (f : Int → Str → Option Mv) (w : List Str) (s : Int) (ms : List Str) : Option (List Str × Int) := ms.foldl (stepM f) (some (w, s))
theorem step_none (f : Int → Str → Option Mv) : ∀ ms : List Str, ms.foldl (stepM f) none = none
  | [] => rfl
  | _ :: ms => step_none f ms
theorem read_take {f : Int → Str → Option Mv} {w : List Str} {s : Int} {ms : List Str} {i : Nat} {m : Str} (h : ms[i]? = some m) : readM f w s (ms.take (i + 1)) = stepM f (readM f w s (ms.take i)) m := by
  unfold readM
  rw [List.take_add_one, h, List.foldl_append]
  rfl
theorem read_dead {f : Int → Str → Option Mv} {w : List Str} {s : Int} {ms : List Str} {i : Nat} (h : readM f w s (ms.take i) = none) : readM f w s ms = none := by
  unfold readM at h ⊢
  rw [← List.take_append_drop i ms, List.foldl_append, h, step_none]
theorem strs_dq {H : Hp} : ∀ w : List Str, DqAll H (w.map V.str) (w.map .str)
  | [] => .nil
  | x :: w => .cons (.str x) (strs_dq w)
theorem strs_of {H : Hp} : ∀ {w : List Str} {xs : List V}, DqAll H xs (w.map .str) → xs = w.map V.str
  | [], _, h => by
    cases h
    rfl
  | x :: w, _, h => by
    cases h with
    | cons h1 h2 =>
      cases h1
      rw [strs_of h2]
      rfl
theorem strsD_of {H : Hp} {v : V} {w : List Str} (h : Dq H v (strsD w)) : ∃ a, v = .ref a ∧ H a = some (.tup (w.map V.str)) := by
  cases h with
  | @tup a xs _ e h => exact ⟨a, rfl, by rw [e, strs_of h]⟩
def spRead : Sp := fun vs H Q _ => ∃ (tb a : Addr) (s : Int) (ms : List Str) (f : Int → Str → Option Mv), vs = [.ref tb, .int s, .ref a] ∧ TabR H tb f ∧ H a = some (.tup (ms.map V.str)) ∧ ms.length ≤ 1000 ∧ (∀ i m x, f i m = some x → x.w.length ≤ 1000) ∧
  (readM f [] s ms = none → ∀ H', Same H H' → Q .non H') ∧ ∀ w e, readM f [] s ms = some (w, e) → ∀ H' p q, Same H H' → H' p = some (.tup [.ref q, .int e]) → H' q = some (.tup (w.map V.str)) → w.length ≤ 1000000 → Q (.ref p) H'
section
variable {P : Program} {w : World} {K : PySem.W.Frag} {mg : Str → Option Value} {base : Heap}
abbrev nRead : List Str := ["moves", "state", "marks", "written", "mark", "move"]
theorem scRead : FnScope nRead ["moves", "state", "marks"] (defScope sReadOn) := ⟨rfl, rfl, rfl, by decide +kernel, rfl, by decide +kernel, by decide +kernel⟩
theorem ok_read {f : Addr} {fd : FuncData} (F : Fun K "read_on" "read_on" sReadOn f fd) (tup : mg "tuple" = none) : FnOk P w K mg base CX0 1 f fd ["moves", "state", "marks"] spRead := by
  refine F.ok scRead (fun vs H Q E h => ?_) (fun cdv A outer s H vs Q E hr h => ?_)
  · obtain ⟨tb, a, st, ms, g, rfl, _⟩ := h
    rfl
  · obtain ⟨tb, a, st, ms, g, rfl, hT, ha, hn, hg, kN, kS⟩ := h
    have hu := hu_of hr
    refine ⟨_, pss_cons (ps_set (i := 3) scRead.nd rfl (.inl rfl) (pe_lst pa_nil))
      (pss_cons (ps_for PassesOwn.never rfl (pi_tup (pv 2)) (pg_name (i := 4) scRead.nd rfl (.inl rfl))
        (pss_cons (ps_set (i := 5) scRead.nd rfl (.inl rfl) (pe_dget1 hu (pe_dget2 hu (pv 0) (pv 1) pe_dnewK ⟨rfl, rfl, rfl, rfl⟩) (pv 4) ⟨rfl, rfl, rfl, rfl⟩))
        (pss_cons (ps_if (pt_cmpR op_isN (pv 5) pe_non (nomark _)) (pss_one (ps_ret pe_non)) pss_nil)
        (pss_cons (ps_expr (pe_bm PySem.F.plainAttrs_list PySem.F.slot_list_extend PySem.F.type_list_extend mt_extT (pv 3) (pa_cons (pe_ix ix_tup (pv 5) pe_int (fun _ _ => rfl)) pa_nil)))
        (pss_one (ps_set (i := 1) scRead.nd rfl (.inl rfl) (pe_ix ix_tup (pv 5) pe_int (fun _ _ => rfl))))))))
      (pss_one (ps_ret (pe_tup (pa_cons (pe_tupleOf (by rfl) tup (pv 3)) (pa_cons (pv 1) pa_nil)))))), ?_⟩
    refine ⟨Nat.zero_le _, fun L nL => ⟨_, rfl, a, rfl, ⟨_, SqT.of (same_new nL _ _ ha)⟩, for_tup (K := K) (a := a) (xs := ms.map V.str) (fun i σ H1 => Same H H1 ∧ ∃ w e o1 o2, readM g [] st (ms.take i) = some (w, e) ∧ w.length ≤ i * 1000 ∧ H1 L = some (.lst (w.map V.str)) ∧ σ = [some (.ref tb), some (.int e), some (.ref a), some (.ref L), o1, o2])
      ⟨same_new nL, [], st, none, none, rfl, Nat.zero_le _, upd_same, rfl⟩ (fun i σ H1 _ M => SqT.of (M.1 _ _ ha)) ?_ ?_⟩⟩
    · rintro i y σ H1 hy ⟨S1, w, e, o1, o2, hw, lw, hL, rfl⟩
      obtain ⟨m, hm, rfl⟩ : ∃ m, ms[i]? = some m ∧ V.str m = y := by
        rw [List.getElem?_map] at hy
        cases ex : ms[i]? with
        | none =>
          rw [ex] at hy
          cases hy
        | some x =>
          rw [ex] at hy
          exact ⟨x, rfl, Option.some.inj hy⟩
      have hi : i < ms.length := (List.getElem?_eq_some_iff.mp hm).1
      obtain ⟨kvs, hk, look⟩ := hT.same S1
      have next := read_take (f := g) (w := []) (s := st) hm
      rw [hw] at next
      refine ⟨_, rfl, tb, rfl, .inl ⟨kvs, .inl hk⟩, _, rfl, fun q nq => ?_⟩
      have Sq := same_new (o := .dK []) nq
      have dead : g e m = none → readM g [] st ms = none := fun z => by
        refine read_dead (i := i + 1) ?_
        rw [next]
        show ((g e m).map fun x => (w ++ x.w, x.t)) = none
        rw [z]
        rfl
      rcases look e with ⟨z1, z2⟩ | ⟨a2, z, ks, hks, r⟩
      · refine ⟨_, DGet.k (k := Sum.inl e) (Sq _ _ hk), ?_⟩
        rw [z2]
        refine ⟨q, rfl, .inl ⟨[], .inl upd_same⟩, _, rfl, _, DGet.k (k := Sum.inr m) upd_same, ?_⟩
        refine ⟨_, rfl, rfl, _, rfl, ?_⟩
        refine iteYes rfl ?_
        exact kN (dead (z1 m)) _ (S1.trans Sq)
      · refine ⟨_, DGet.k (k := Sum.inl e) (Sq _ _ hk), ?_⟩
        rw [z]
        refine ⟨a2, rfl, .inl ⟨ks, .inl (Sq _ _ hks)⟩, _, rfl, _, DGet.k (k := Sum.inr m) (Sq _ _ hks), ?_⟩
        rcases r m with ⟨r1, r2⟩ | ⟨x, u, r1, r2, b, wv, rfl, r3, r4⟩
        · rw [r2]
          refine ⟨_, rfl, rfl, _, rfl, ?_⟩
          refine iteYes rfl ?_
          exact kN (dead r1) _ (S1.trans Sq)
        · rw [r2]
          refine ⟨_, rfl, rfl, _, rfl, ?_⟩
          refine iteNo rfl ?_
          obtain ⟨c, rfl, hc⟩ := strsD_of r4
          have hz := hg e m x r1
          have hL2 : upd H1 q (.dK []) L = some (.lst (w.map V.str)) := Sq _ _ hL
          have S2 := S1.trans Sq
          have lz : (w.map V.str).length + (x.w.map V.str).length ≤ sizeLine := by
            rw [List.length_map, List.length_map, sizeLine_eq]
            have : i * 1000 ≤ 1000 * 1000 := Nat.mul_le_mul_right 1000 (by omega)
            omega
          refine ⟨_, rfl, .inl ⟨rfl, _, SqL.of hL2⟩, _, rfl, b, _, _, .ref c, rfl, rfl, SqT.of (Sq _ _ r3), rfl, L, c, _, _, rfl, rfl, hL2, SqT.of (Sq _ _ hc), lz, ?_⟩
          have S3 : Same H (upd (upd H1 q (.dK [])) L (.lst (w.map V.str ++ x.w.map V.str))) := fun d o ed => by
            rw [upd_ne (ne_of_none ed nL)]
            exact S2 _ _ ed
          have bL : b ≠ L := ne_of (Sq _ _ r3) hL2 (fun z => nomatch z)
          refine ⟨_, rfl, b, _, _, .int x.t, rfl, rfl, SqT.of (by rw [upd_ne bL]; exact Sq _ _ r3), rfl, S3, w ++ x.w, x.t, _, _, ?_, ?_, ?_, rfl⟩
          · rw [next]
            show ((g e m).map fun x => (w ++ x.w, x.t)) = _
            rw [r1]
            rfl
          · rw [List.length_append]
            have : (i + 1) * 1000 = i * 1000 + 1000 := by omega
            omega
          · rw [upd_same, List.map_append]
    · rintro σ H1 ⟨S1, w, e, o1, o2, hw, lw, hL, rfl⟩
      rw [List.length_map, List.take_length] at hw
      rw [List.length_map] at lw
      refine ⟨_, rfl, .inl ⟨L, _, rfl, SqL.of hL, fun q nq => ⟨_, rfl, by show 2 ≤ sizeLine; decide, fun p np => ?_⟩⟩⟩
      have Sq := same_new (o := .tup (w.map V.str)) nq
      have Sp := same_new (o := .tup [.ref q, .int e]) np
      exact kS w e hw _ p q (S1.trans (Sq.trans Sp)) upd_same (Sp _ _ upd_same) (by
        have : ms.length * 1000 ≤ 1000 * 1000 := Nat.mul_le_mul_right 1000 hn
        omega)
end
end KL
set_option Elab.async false
set_option linter.all false
set_option maxRecDepth 100000
set_option maxHeartbeats 4000000
namespace KL
open PySem L2 PySem.Spec PyProof.Rows
def inClass (st : Stmt) (i : Nat) : Stmt := match st with
  | .ClassDef (body := b) .. => b.getD i (.Pass ⟨0, 0, 0, 0⟩)
  | _ => .Pass ⟨0, 0, 0, 0⟩
abbrev sRInit : Stmt := inClass (top 17) 0
abbrev sRLen : Stmt := inClass (top 17) 1
abbrev sREq : Stmt := inClass (top 17) 2
abbrev sRWritten : Stmt := inClass (top 17) 3
abbrev sRBegun : Stmt := inClass (top 17) 4
/-- a suite that nothing comes to -/
theorem pss_dead {X : Cx} {st : List Stmt} : PSs X st (fun _ _ _ => False) := ⟨fun _ _ _ _ _ _ h => h.elim⟩
/-- what is written at the end in a state -/
def enD (e : Int × List Str) : PyData := .tuple [.int e.1, strsD e.2]
def lastE (en : List (Int × List Str)) (i : Int) : Option (List Str) := (en.reverse.find? fun e => decide (e.1 = i)).map (·.2)
theorem lastE_snoc (en : List (Int × List Str)) (e : Int × List Str) (i : Int) : lastE (en ++ [e]) i = if e.1 = i then some e.2 else lastE en i := by
  unfold lastE
  rw [List.reverse_append]
  show ((e :: en.reverse).find? _).map _ = _
  by_cases h : e.1 = i
  · rw [if_pos h, List.find?_cons_of_pos]
    · rfl
    · simp [h]
  · rw [if_neg h, List.find?_cons_of_neg]
    simpa using h
def EndsR (H : Hp) (te : Addr) (f : Int → Option (List Str)) : Prop := ∃ kvs, H te = some (.dK kvs) ∧ ∀ i, (f i = none ∧ valV kvs (Sum.inl i) = none) ∨ ∃ w v, f i = some w ∧ valV kvs (Sum.inl i) = some v ∧ Dq H v (strsD w)
theorem EndsR.same {H H' : Hp} {te : Addr} {f : Int → Option (List Str)} (h : EndsR H te f) (S : Same H H') : EndsR H' te f := by
  obtain ⟨kvs, h1, h2⟩ := h
  refine ⟨kvs, S _ _ h1, fun i => ?_⟩
  rcases h2 i with h | ⟨w, v, h3, h4, h5⟩
  · exact .inl h
  · exact .inr ⟨w, v, h3, h4, Dq.same S _ _ h5⟩
/-- tuples and dicts stay -/
structure KeepD (H H' : Hp) : Prop where
  t : ∀ a ys, H a = some (.tup ys) → H' a = some (.tup ys)
  k : ∀ a ks, H a = some (.dK ks) → H' a = some (.dK ks)
theorem KeepD.ins {H : Hp} {x C dx : Addr} {fs gs : List (Str × V)} (h : H x = some (.ins C dx fs)) : KeepD H (upd H x (.ins C dx gs)) :=
  ⟨fun a ys e => by rw [upd_ne (ne_of e h (fun z => nomatch z))]; exact e, fun a ks e => by rw [upd_ne (ne_of e h (fun z => nomatch z))]; exact e⟩
theorem strs_keep {H H' : Hp} {v : V} {w : List Str} (h : Dq H v (strsD w)) (S : KeepD H H') : Dq H' v (strsD w) := by
  obtain ⟨a, rfl, e⟩ := strsD_of h
  exact .tup (S.t _ _ e) (strs_dq w)
theorem TabR.keep {H H' : Hp} {tb : Addr} {f : Int → Str → Option Mv} (h : TabR H tb f) (S : KeepD H H') : TabR H' tb f := by
  obtain ⟨kvs, h1, h2⟩ := h
  refine ⟨kvs, S.k _ _ h1, fun i => ?_⟩
  rcases h2 i with h | ⟨a, h3, ks, h4, h5⟩
  · exact .inl h
  · refine .inr ⟨a, h3, ks, S.k _ _ h4, fun m => ?_⟩
    rcases h5 m with h | ⟨x, u, h6, h7, b, wv, h8, h9, h10⟩
    · exact .inl h
    · exact .inr ⟨x, u, h6, h7, b, wv, h8, S.t _ _ h9, strs_keep h10 S⟩
theorem EndsR.keep {H H' : Hp} {te : Addr} {f : Int → Option (List Str)} (h : EndsR H te f) (S : KeepD H H') : EndsR H' te f := by
  obtain ⟨kvs, h1, h2⟩ := h
  refine ⟨kvs, S.k _ _ h1, fun i => ?_⟩
  rcases h2 i with h | ⟨w, v, h3, h4, h5⟩
  · exact .inl h
  · exact .inr ⟨w, v, h3, h4, strs_keep h5 S⟩
/-- a reader's parts -/
structure Rdr where
  n : Int
  first : List Str
  mv : List Mv
  en : List (Int × List Str)
def mvsD (r : Rdr) : PyData := .tuple (r.mv.map mvD)
def ensD (r : Rdr) : PyData := .tuple (r.en.map enD)
/-- the parts are right, and none too large -/
structure Right (r : Rdr) : Prop where
  n : betD 1 10000 (.int r.n) = true
  first : marksD (strsD r.first) = true
  mv : movesD r.n (mvsD r) = true
  en : endsD r.n (ensD r) = true
  sm : smB (.int r.n) = true ∧ smB (strsD r.first) = true ∧ smB (mvsD r) = true ∧ smB (ensD r) = true
  ok : okD (mvsD r) = true ∧ okD (ensD r) = true
structure TxtR (K : PySem.W.Frag) (mg : Str → Option Value) (C : Addr) : Prop where
  c : Cls K C
  states : NoAttr K C "states"
  first : NoAttr K C "first"
  moves : NoAttr K C "moves"
  ends : NoAttr K C "ends"
  mv : NoAttr K C "_moves"
  en : NoAttr K C "_ends"
  most : ∃ t, mg "MOST_STATES" = some (.int 10000 t)
/-- a reader that stands -/
structure RdrAt (C : Addr) (H : Hp) (x : Addr) (r : Rdr) (v1 v2 v3 : V) : Prop where
  ex : ∃ dx fs tb te, H x = some (.ins C dx fs) ∧ fs.lookup ("states" : Str) = some (.int r.n) ∧ fs.lookup ("first" : Str) = some v1 ∧ fs.lookup ("moves" : Str) = some v2 ∧ fs.lookup ("ends" : Str) = some v3 ∧
    fs.lookup ("_moves" : Str) = some (.ref tb) ∧ fs.lookup ("_ends" : Str) = some (.ref te) ∧ fs.lookup ("written" : Str) = none ∧ fs.lookup ("begun" : Str) = none ∧ TabR H tb (lastM r.mv) ∧ EndsR H te (lastE r.en)
  q1 : Dq H v1 (strsD r.first)
  q2 : Dq H v2 (mvsD r)
  q3 : Dq H v3 (ensD r)
theorem RdrAt.same {C : Addr} {H H' : Hp} {x : Addr} {r : Rdr} {v1 v2 v3 : V} (h : RdrAt C H x r v1 v2 v3) (S : Same H H') : RdrAt C H' x r v1 v2 v3 := by
  obtain ⟨⟨dx, fs, tb, te, h1, h2, h3, h4, h5, h6, h7, h8, h9, h10, h11⟩, q1, q2, q3⟩ := h
  exact ⟨⟨dx, fs, tb, te, S _ _ h1, h2, h3, h4, h5, h6, h7, h8, h9, h10.same S, h11.same S⟩, Dq.same S _ _ q1, Dq.same S _ _ q2, Dq.same S _ _ q3⟩
def spRInit (C : Addr) : Sp := fun vs H Q _ => ∃ (H0 : Hp) (x dx : Addr) (v1 v2 v3 : V) (r : Rdr), vs = [.ref x, .int r.n, v1, v2, v3] ∧ Same H0 H ∧ H0 x = none ∧ H x = some (.ins C dx []) ∧ Dq H0 v1 (strsD r.first) ∧ Dq H0 v2 (mvsD r) ∧ Dq H0 v3 (ensD r) ∧ Right r ∧
  ∀ H' Hk, Same H0 Hk → Same Hk H' → (∀ c o, c ≠ x → H c = some o → H' c = some o) → (∀ c, Hk c ≠ none → H0 c ≠ none ∨ c = x ∨ H c = none) → RdrAt C Hk x r v1 v2 v3 → Q .non H'
/-- what stood in H0, x, and what is new -/
def kept (H0 Hc : Hp) (x : Addr) (G : Hp) : Hp := fun c => match H0 c with
  | some o => some o
  | none => if c = x then G c else match Hc c with
    | some _ => none
    | none => G c
theorem kept_same {H0 Hc G : Hp} {x : Addr} : Same H0 (kept H0 Hc x G) := fun c o e => by
  show (match H0 c with | some o => some o | none => _) = some o
  rw [e]
theorem kept_new {H0 Hc G : Hp} {x c : Addr} {o : HO} (h0 : H0 c = none) (hc : Hc c = none) (h : G c = some o) : kept H0 Hc x G c = some o := by
  unfold kept
  rw [h0, hc]
  dsimp only
  rw [h]
  split <;> rfl
theorem kept_x {H0 Hc G : Hp} {x : Addr} {o : HO} (h0 : H0 x = none) (h : G x = some o) : kept H0 Hc x G x = some o := by
  unfold kept
  rw [h0]
  dsimp only
  rw [if_pos rfl, h]
theorem kept_up {H0 Hc G : Hp} {x : Addr} (S : Same H0 G) : Same (kept H0 Hc x G) G := fun c o e => by
  unfold kept at e
  cases h0 : H0 c with
  | some u =>
    rw [h0] at e
    cases e
    exact S _ _ h0
  | none =>
    rw [h0] at e
    dsimp only at e
    by_cases cx : c = x
    · rw [if_pos cx] at e
      exact e
    · rw [if_neg cx] at e
      cases hc : Hc c with
      | some u =>
        rw [hc] at e
        cases e
      | none =>
        rw [hc] at e
        exact e
theorem kept_out {H0 Hc G : Hp} {x c : Addr} (h : kept H0 Hc x G c ≠ none) : H0 c ≠ none ∨ c = x ∨ Hc c = none := by
  cases h0 : H0 c with
  | some u => exact .inl (by simp)
  | none =>
    by_cases cx : c = x
    · exact .inr (.inl cx)
    · cases hc : Hc c with
      | none => exact .inr (.inr rfl)
      | some u =>
        refine absurd ?_ h
        unfold kept
        rw [h0, hc]
        dsimp only
        rw [if_neg cx]
theorem free_upd {G Hc : Hp} {x : Addr} {o : HO} (N : ∀ c, G c = none → Hc c = none) : ∀ c, upd G x o c = none → Hc c = none := fun c e => N c (by
  by_cases cx : c = x
  · rw [cx, upd_same] at e
    cases e
  · rw [upd_ne cx] at e
    exact e)
theorem put_but {G Hc : Hp} {x : Addr} {o : HO} (N : ∀ c u, c ≠ x → Hc c = some u → G c = some u) : ∀ c u, c ≠ x → Hc c = some u → upd G x o c = some u := fun c u cx e => by
  rw [upd_ne cx]
  exact N c u cx e
theorem same_put {H0 H : Hp} {x : Addr} {o : HO} (S : Same H0 H) (n : H0 x = none) : Same H0 (upd H x o) := fun b u e => by
  rw [upd_ne (ne_of_none e n)]
  exact S _ _ e
section
variable {P : Program} {w : World} {K : PySem.W.Frag} {mg : Str → Option Value} {base : Heap} {C : Addr}
abbrev nInit : List Str := ["self", "states", "first", "moves", "ends", "state", "written"]
theorem scInit : FnScope nInit ["self", "states", "first", "moves", "ends"] (defScope sRInit) := ⟨rfl, rfl, rfl, by decide +kernel, rfl, by decide +kernel, by decide +kernel⟩
theorem ok_rinit {f g1 g2 g3 g4 g5 : Addr} {fd gd1 gd2 gd3 gd4 gd5 : FuncData} (F : Fun K "__init__" "Reader.__init__" sRInit f fd) (T : TxtR K mg C)
    (G1 : FnOk P w K mg base CX0 2 g1 gd1 ["thing", "low", "high"] (spTest2 betD)) (c1 : Cal K mg "is_between" g1 gd1 ["thing", "low", "high"]) (G2 : FnOk P w K mg base CX0 2 g2 gd2 ["thing"] (spTest marksD)) (c2 : Cal K mg "are_marks" g2 gd2 ["thing"])
    (G3 : FnOk P w K mg base CX0 4 g3 gd3 ["states", "thing"] (spTestN movesD)) (c3 : Cal K mg "are_moves" g3 gd3 ["states", "thing"]) (G4 : FnOk P w K mg base CX0 3 g4 gd4 ["states", "thing"] (spTestN endsD)) (c4 : Cal K mg "are_ends" g4 gd4 ["states", "thing"])
    (G5 : FnOk P w K mg base CX0 1 g5 gd5 ["moves"] spTable) (c5 : Cal K mg "move_table" g5 gd5 ["moves"]) : FnOk P w K mg base CX0 5 f fd ["self", "states", "first", "moves", "ends"] (spRInit C) := by
  obtain ⟨tM, hM⟩ := T.most
  refine F.ok scInit (fun vs H Q E h => ?_) (fun cdv A outer s H vs Q E hr h => ?_)
  · obtain ⟨H0, x, dx, v1, v2, v3, r, rfl, _⟩ := h
    rfl
  · obtain ⟨H0, x, dx, v1, v2, v3, r, rfl, S0, nx, hx, q1, q2, q3, R, k⟩ := h
    obtain ⟨m0, m1, m2, m3⟩ := R.sm
    obtain ⟨o2, o3⟩ := R.ok
    have hr1 : Room 1 _ := hr.mono (by decide)
    have hr2 : Room 2 _ := hr.mono (by decide)
    have hr3 : Room 3 _ := hr.mono (by decide)
    refine ⟨_, pss_cons (ps_if (pt_not (pt_val (pe_call G1 hr2 (by rfl) c1.m c1.k c1.b .nil pass0 (pa_cons (pv 1) (pa_cons pe_int (pa_cons (pe_glob (v := .int 10000) (by rfl) hM ⟨_, rfl⟩) pa_nil)))))) pss_dead pss_nil)
      (pss_cons (ps_if (pt_not (pt_val (pe_call G2 hr2 (by rfl) c2.m c2.k c2.b .nil pass0 (pa_cons (pv 2) pa_nil)))) pss_dead pss_nil)
      (pss_cons (ps_if (pt_not (pt_val (pe_call G3 hr (by rfl) c3.m c3.k c3.b .nil pass0 (pa_cons (pv 1) (pa_cons (pv 3) pa_nil))))) pss_dead pss_nil)
      (pss_cons (ps_if (pt_not (pt_val (pe_call G4 hr3 (by rfl) c4.m c4.k c4.b .nil pass0 (pa_cons (pv 1) (pa_cons (pv 4) pa_nil))))) pss_dead pss_nil)
      (pss_cons (ps_fld (pv 0) (pv 1) (by rfl)) (pss_cons (ps_fld (pv 0) (pv 2) (by rfl)) (pss_cons (ps_fld (pv 0) (pv 3) (by rfl)) (pss_cons (ps_fld (pv 0) (pv 4) (by rfl))
      (pss_cons (ps_fld (pv 0) (pe_call G5 hr1 (by rfl) c5.m c5.k c5.b .nil pass0 (pa_cons (pv 3) pa_nil)) (by rfl))
      (pss_one (ps_fld (pv 0) (pe_dc (own := [("state", 5), ("written", 6)]) (g := gTup K 2 (gCons (gName 5) (gCons (gName 6) gNil))) (tt := tYes) rfl scInit.nd (pi_tup (pv 4)) (blkOk_by (N := nInit) (sc := defScope sRInit) (by decide +kernel)) (fun _ _ _ _ _ => pg_tup rfl (pgs_cons (pg_name (i := 5) scInit.nd rfl (.inl rfl)) (pgs_cons (pg_name (i := 6) scInit.nd rfl (.inl rfl)) pgs_nil))) (fun _ _ _ _ _ => pts_nil)
        (fun _ _ _ _ _ => pv 5) (fun _ _ _ _ _ => pv 6)) (by rfl))))))))))), ?_⟩
    refine ⟨_, rfl, _, .int r.n, 1, 10000, rfl, .int _, m0, fun H1 S1 => ⟨_, rfl, iteNo (by rw [R.n]; rfl) ?_⟩⟩
    have T1 := S0.trans S1
    refine ⟨_, rfl, v1, _, rfl, Dq.same T1 _ _ q1, m1, fun H2 S2 => ⟨_, rfl, iteNo (by rw [R.first]; rfl) ?_⟩⟩
    have T2 := T1.trans S2
    refine ⟨_, rfl, _, rfl, v2, _, r.n, rfl, Dq.same T2 _ _ q2, m2, o2, fun H3 S3 => ⟨_, rfl, iteNo (by rw [R.mv]; rfl) ?_⟩⟩
    have T3 := T2.trans S3
    refine ⟨_, rfl, _, rfl, v3, _, r.n, rfl, Dq.same T3 _ _ q3, m3, o3, fun H4 S4 => ⟨_, rfl, iteNo (by rw [R.en]; rfl) ?_⟩⟩
    have T4 := T3.trans S4
    obtain ⟨Hc, eHc⟩ : ∃ Hc, Hc = H := ⟨H, rfl⟩
    have N4 : ∀ c, H4 c = none → Hc c = none := fun c e => by
      rw [eHc]
      exact (S1.trans (S2.trans (S3.trans S4))).free e
    have M4 : ∀ c u, c ≠ x → Hc c = some u → H4 c = some u := fun c u _ e => by
      rw [eHc] at e
      exact (S1.trans (S2.trans (S3.trans S4))) _ _ e
    have hx4 : H4 x = some (.ins C dx []) := S4 _ _ (S3 _ _ (S2 _ _ (S1 _ _ hx)))
    refine ⟨_, rfl, _, rfl, x, C, dx, _, rfl, hx4, T.c, T.states, (by show 0 < 1000; decide), ?_⟩
    have f5 : (upd H4 x (.ins C dx (putF "states" (.int r.n) []))) x = some (.ins C dx (putF "states" (.int r.n) [])) := upd_same
    have T5 : Same H0 (upd H4 x (.ins C dx (putF "states" (.int r.n) []))) := same_put T4 nx
    have N5 : ∀ c, (upd H4 x (.ins C dx (putF "states" (.int r.n) []))) c = none → Hc c = none := free_upd N4
    have M5 : ∀ c u, c ≠ x → Hc c = some u → (upd H4 x (.ins C dx (putF "states" (.int r.n) []))) c = some u := put_but M4
    revert f5 T5 N5 M5
    generalize upd H4 x (.ins C dx (putF "states" (.int r.n) [])) = H5
    intro f5 T5 N5 M5
    refine ⟨_, rfl, _, rfl, x, C, dx, _, rfl, f5, T.c, T.first, (by show 1 < 1000; decide), ?_⟩
    have f6 : (upd H5 x (.ins C dx (putF "first" v1 (putF "states" (.int r.n) [])))) x = some (.ins C dx (putF "first" v1 (putF "states" (.int r.n) []))) := upd_same
    have T6 : Same H0 (upd H5 x (.ins C dx (putF "first" v1 (putF "states" (.int r.n) [])))) := same_put T5 nx
    have N6 : ∀ c, (upd H5 x (.ins C dx (putF "first" v1 (putF "states" (.int r.n) [])))) c = none → Hc c = none := free_upd N5
    have M6 : ∀ c u, c ≠ x → Hc c = some u → (upd H5 x (.ins C dx (putF "first" v1 (putF "states" (.int r.n) [])))) c = some u := put_but M5
    revert f6 T6 N6 M6
    generalize upd H5 x (.ins C dx (putF "first" v1 (putF "states" (.int r.n) []))) = H6
    intro f6 T6 N6 M6
    refine ⟨_, rfl, _, rfl, x, C, dx, _, rfl, f6, T.c, T.moves, (by show 2 < 1000; decide), ?_⟩
    have f7 : (upd H6 x (.ins C dx (putF "moves" v2 (putF "first" v1 (putF "states" (.int r.n) []))))) x = some (.ins C dx (putF "moves" v2 (putF "first" v1 (putF "states" (.int r.n) [])))) := upd_same
    have T7 : Same H0 (upd H6 x (.ins C dx (putF "moves" v2 (putF "first" v1 (putF "states" (.int r.n) []))))) := same_put T6 nx
    have N7 : ∀ c, (upd H6 x (.ins C dx (putF "moves" v2 (putF "first" v1 (putF "states" (.int r.n) []))))) c = none → Hc c = none := free_upd N6
    have M7 : ∀ c u, c ≠ x → Hc c = some u → (upd H6 x (.ins C dx (putF "moves" v2 (putF "first" v1 (putF "states" (.int r.n) []))))) c = some u := put_but M6
    revert f7 T7 N7 M7
    generalize upd H6 x (.ins C dx (putF "moves" v2 (putF "first" v1 (putF "states" (.int r.n) [])))) = H7
    intro f7 T7 N7 M7
    refine ⟨_, rfl, _, rfl, x, C, dx, _, rfl, f7, T.c, T.ends, (by show 3 < 1000; decide), ?_⟩
    have f8 : (upd H7 x (.ins C dx (putF "ends" v3 (putF "moves" v2 (putF "first" v1 (putF "states" (.int r.n) [])))))) x = some (.ins C dx (putF "ends" v3 (putF "moves" v2 (putF "first" v1 (putF "states" (.int r.n) []))))) := upd_same
    have T8 : Same H0 (upd H7 x (.ins C dx (putF "ends" v3 (putF "moves" v2 (putF "first" v1 (putF "states" (.int r.n) [])))))) := same_put T7 nx
    have N8 : ∀ c, (upd H7 x (.ins C dx (putF "ends" v3 (putF "moves" v2 (putF "first" v1 (putF "states" (.int r.n) [])))))) c = none → Hc c = none := free_upd N7
    have M8 : ∀ c u, c ≠ x → Hc c = some u → (upd H7 x (.ins C dx (putF "ends" v3 (putF "moves" v2 (putF "first" v1 (putF "states" (.int r.n) [])))))) c = some u := put_but M7
    revert f8 T8 N8 M8
    generalize upd H7 x (.ins C dx (putF "ends" v3 (putF "moves" v2 (putF "first" v1 (putF "states" (.int r.n) []))))) = H8
    intro f8 T8 N8 M8
    have q2' := q2
    have q3' := q3
    cases q2 with
    | @tup a2 xs2 _ e2 d2 =>
    cases q3 with
    | @tup a3 xs3 _ e3 d3 =>
    have l2 : r.mv.length ≤ 1000 := by
      have := sm_len m2
      rwa [List.length_map] at this
    have l3 : r.en.length ≤ 1000 := by
      have := sm_len m3
      rwa [List.length_map] at this
    refine ⟨_, rfl, H0, a2, xs2, r.mv, rfl, T8, T8 _ _ e2, d2, l2, fun H9 tb TB => ⟨_, rfl, x, C, dx, _, rfl, TB.s _ _ f8, T.c, T.mv, (by show 4 < 1000; decide), ?_⟩⟩
    have xtb : x ≠ tb := ne_of_none f8 TB.n0
    have S9 : Same H8 H9 := TB.s
    have T9 := T8.trans S9
    have KD := KeepD.ins (gs := putF "_moves" (.ref tb) (putF "ends" (.ref a3) (putF "moves" (.ref a2) (putF "first" v1 (putF "states" (.int r.n) []))))) (TB.s _ _ f8)
    have f10 : (upd H9 x (.ins C dx (putF "_moves" (.ref tb) (putF "ends" (.ref a3) (putF "moves" (.ref a2) (putF "first" v1 (putF "states" (.int r.n) []))))))) x = some (.ins C dx (putF "_moves" (.ref tb) (putF "ends" (.ref a3) (putF "moves" (.ref a2) (putF "first" v1 (putF "states" (.int r.n) [])))))) := upd_same
    have T10 : Same H0 (upd H9 x (.ins C dx (putF "_moves" (.ref tb) (putF "ends" (.ref a3) (putF "moves" (.ref a2) (putF "first" v1 (putF "states" (.int r.n) []))))))) := same_put T9 nx
    have N10 : ∀ c, (upd H9 x (.ins C dx (putF "_moves" (.ref tb) (putF "ends" (.ref a3) (putF "moves" (.ref a2) (putF "first" v1 (putF "states" (.int r.n) []))))))) c = none → Hc c = none := free_upd fun c e => N8 c (S9.free e)
    have K10 : ∀ c o, c ≠ x → H9 c = some o → (upd H9 x (.ins C dx (putF "_moves" (.ref tb) (putF "ends" (.ref a3) (putF "moves" (.ref a2) (putF "first" v1 (putF "states" (.int r.n) []))))))) c = some o := fun c o cx e => by
      rw [upd_ne cx]
      exact e
    revert f10 T10 N10 K10
    generalize upd H9 x (.ins C dx (putF "_moves" (.ref tb) (putF "ends" (.ref a3) (putF "moves" (.ref a2) (putF "first" v1 (putF "states" (.int r.n) [])))))) = H10
    intro f10 T10 N10 K10
    have e3 := T10 _ _ e3
    refine ⟨_, rfl, a3, rfl, ⟨_, SqT.of e3⟩, fun te nte => ?_⟩
    refine dc_tup (K := K) (a := a3) (xs := xs3) (fun i H => Same H10 H ∧ ∃ kvs, H te = some (.dK kvs) ∧ kvs.length ≤ i ∧ ∀ j, (lastE (r.en.take i) j = none ∧ valV kvs (Sum.inl j) = none) ∨ ∃ w v, lastE (r.en.take i) j = some w ∧ valV kvs (Sum.inl j) = some v ∧ Dq H0 v (strsD w))
      ⟨same_new nte, [], upd_same, Nat.le_refl _, fun j => .inl ⟨rfl, rfl⟩⟩ (fun i H _ M => SqT.of (M.1 _ _ e3)) ?_ ?_
    · rintro i y H hy ⟨SH, kvs, hk, hl, look⟩
      obtain ⟨d', hd', hq⟩ := DqAll.at d3 hy
      obtain ⟨e, he, rfl⟩ : ∃ e, r.en[i]? = some e ∧ enD e = d' := by
        rw [List.getElem?_map] at hd'
        cases ex : r.en[i]? with
        | none =>
          rw [ex] at hd'
          cases hd'
        | some e =>
          rw [ex] at hd'
          exact ⟨e, rfl, Option.some.inj hd'⟩
      have hi : i < r.en.length := (List.getElem?_eq_some_iff.mp he).1
      have et : r.en.take (i + 1) = r.en.take i ++ [e] := by
        rw [List.take_add_one, he]
        rfl
      cases hq with
      | @tup c zs _ ec hza =>
        cases hza with
        | @cons w0 _ _ _ p0 hza =>
        cases hza with
        | @cons w1 _ _ _ p1 hza =>
        cases hza
        cases p0
        refine ⟨c, _, rfl, SqT.of (SH _ _ (T10 _ _ ec)), rfl, _, _, rfl, w1, _, rfl, rfl, rfl, ?_⟩
        refine ⟨_, rfl, _, rfl, kvs, Sum.inl e.1, rfl, hk, Nat.lt_of_le_of_lt (Nat.le_trans hl (Nat.le_trans (Nat.le_of_lt hi) l3)) (by rw [sizeLine_eq]; omega), ?_⟩
        refine ⟨fun b o eb => ?_, _, upd_same, Nat.le_trans (length_putK _ _ _) (by omega), fun j => ?_⟩
        · rw [upd_ne (ne_of_none eb nte)]
          exact SH _ _ eb
        · rw [et, lastE_snoc, valV_put]
          by_cases hj : e.1 = j
          · subst hj
            rw [if_pos rfl, if_pos rfl]
            exact .inr ⟨_, _, rfl, rfl, p1⟩
          · rw [if_neg hj, if_neg fun z => hj (by injection z with z; exact z.symm)]
            exact look j
    · rintro H ⟨SH, kvs, hk, hl, look⟩
      have len : xs3.length = r.en.length := by
        rw [d3.len, List.length_map]
      rw [len, List.take_length] at look
      refine ⟨_, rfl, x, C, dx, _, rfl, SH _ _ f10, T.c, T.en, (by show 5 < 1000; decide), ?_⟩
      have T11 := same_put (o := .ins C dx (putF "_ends" (.ref te) (putF "_moves" (.ref tb) (putF "ends" (.ref a3) (putF "moves" (.ref a2) (putF "first" v1 (putF "states" (.int r.n) []))))))) (T10.trans SH) nx
      subst eHc
      have nte0 : H0 te = none := T10.free nte
      have xte : te ≠ x := fun z => by
        rw [z, f10] at nte
        cases nte
      refine k _ (kept H0 Hc x _) kept_same (kept_up T11) (fun c o cx e => by rw [upd_ne cx]; exact SH _ _ (K10 _ _ cx (S9 _ _ (M8 c o cx e)))) (fun c h => kept_out h) ⟨⟨dx, _, tb, te, kept_x nx upd_same, rfl, rfl, rfl, rfl, rfl, rfl, rfl, rfl, TB.stands kept_same (fun c o n8 h9 => ?_), _, kept_new nte0 (N10 _ nte) (by rw [upd_ne xte]; exact hk), fun j => ?_⟩, Dq.same kept_same _ _ q1, Dq.same kept_same _ _ q2', Dq.same kept_same _ _ q3'⟩
      · have cx : c ≠ x := fun z => by
          rw [z, f8] at n8
          cases n8
        refine kept_new (T8.free n8) (N8 c n8) ?_
        rw [upd_ne cx]
        exact SH _ _ (K10 _ _ cx h9)
      · rcases look j with h | ⟨w, v, h1, h2, h3⟩
        · exact .inl h
        · exact .inr ⟨w, v, h1, h2, Dq.same kept_same _ _ h3⟩
end
end KL
set_option Elab.async false
set_option linter.all false
set_option maxRecDepth 100000
set_option maxHeartbeats 4000000
namespace KL
open PySem L2 PySem.Spec PyProof.Rows
/-- t + u, whatever they are -/
theorem cat_of {K : PySem.W.Frag} {H : Hp} {Q : VK} {a b : Addr} {xs ys : List V} (h1 : H a = some (.tup xs)) (h2 : H b = some (.tup ys)) (hz : xs.length + ys.length ≤ sizeLine) (k : ∀ p H', Same H H' → H' p = some (.tup (xs ++ ys)) → Q (.ref p) H') : rCatA K (.ref a) (.ref b) H Q := by
  refine ⟨a, b, xs, ys, rfl, rfl, SqT.of h1, SqT.of h2, hz, fun e => ?_, fun _ e => ?_, fun _ _ p np => ?_⟩
  · subst e
    exact k b H (Same.refl H) h2
  · subst e
    refine k a H (Same.refl H) ?_
    rw [List.append_nil]
    exact h1
  · exact k p _ (same_new np) upd_same
def begunM (r : Rdr) (ms : List Str) : Option (List Str) := (readM (lastM r.mv) [] 0 ms).map fun p => r.first ++ p.1
def writtenM (r : Rdr) (ms : List Str) : Option (List Str) := (readM (lastM r.mv) [] 0 ms).bind fun p => (lastE r.en p.2).map fun u => r.first ++ p.1 ++ u
/-- no word too long -/
structure Short (r : Rdr) : Prop where
  f : r.first.length ≤ 1000
  m : ∀ i m x, lastM r.mv i m = some x → x.w.length ≤ 1000
  e : ∀ i w, lastE r.en i = some w → w.length ≤ 1000
def spTape (C : Addr) (g : Rdr → List Str → Option (List Str)) : Sp := fun vs H Q _ => ∃ (x a : Addr) (r : Rdr) (v1 v2 v3 : V) (ms : List Str), vs = [.ref x, .ref a] ∧ RdrAt C H x r v1 v2 v3 ∧ Short r ∧ H a = some (.tup (ms.map V.str)) ∧ ms.length ≤ 1000 ∧
  (g r ms = none → ∀ H', Same H H' → Q .non H') ∧ ∀ u, g r ms = some u → ∀ H' p, Same H H' → H' p = some (.tup (u.map V.str)) → Q (.ref p) H'
section
variable {P : Program} {w : World} {K : PySem.W.Frag} {mg : Str → Option Value} {base : Heap} {C : Addr}
theorem scBegun : FnScope ["self", "marks", "found"] ["self", "marks"] (defScope sRBegun) := ⟨rfl, rfl, rfl, by decide +kernel, rfl, by decide +kernel, by decide +kernel⟩
theorem scWritten : FnScope ["self", "marks", "found"] ["self", "marks"] (defScope sRWritten) := ⟨rfl, rfl, rfl, by decide +kernel, rfl, by decide +kernel, by decide +kernel⟩
theorem ok_begun {f g : Addr} {fd gd : FuncData} (F : Fun K "begun" "Reader.begun" sRBegun f fd) (T : TxtR K mg C) (G : FnOk P w K mg base CX0 1 g gd ["moves", "state", "marks"] spRead) (c : Cal K mg "read_on" g gd ["moves", "state", "marks"]) :
    FnOk P w K mg base CX0 2 f fd ["self", "marks"] (spTape C begunM) := by
  refine F.ok scBegun (fun vs H Q E h => ?_) (fun cdv A outer s H vs Q E hr h => ?_)
  · obtain ⟨x, a, r, v1, v2, v3, ms, rfl, _⟩ := h
    rfl
  · obtain ⟨x, a, r, v1, v2, v3, ms, rfl, R, Sh, ha, hn, kN, kS⟩ := h
    refine ⟨_, pss_cons (ps_set (i := 2) scBegun.nd rfl (.inl rfl) (pe_call G hr (by rfl) c.m c.k c.b .nil pass0 (pa_cons (pe_fld (pv 0) (by rfl)) (pa_cons pe_int (pa_cons (pv 1) pa_nil)))))
      (pss_one (ps_ret (pe_ifExp (pt_cmpR op_isN (pv 2) pe_non (nomark _)) pe_non (pe_op op_catA (pe_fld (pv 0) (by rfl)) (pe_ix ix_tup (pv 2) pe_int (fun _ _ => rfl)))))), ?_⟩
    obtain ⟨dx, fs, tb, te, hx, f1, f2, f3, f4, f5, f6, _, _, TR, ER⟩ := R.ex
    refine ⟨_, rfl, x, C, dx, fs, _, rfl, hx, T.c, T.mv, f5, _, rfl, tb, a, 0, ms, lastM r.mv, rfl, TR, ha, hn, Sh.m, fun z H1 S1 => ?_, fun w e z H1 p q S1 hp hq lw => ?_⟩
    · refine ⟨_, rfl, rfl, _, rfl, ?_⟩
      refine iteYes rfl ?_
      refine kN ?_ H1 S1
      unfold begunM
      rw [z]
      rfl
    · refine ⟨_, rfl, rfl, _, rfl, ?_⟩
      refine iteNo rfl ?_
      obtain ⟨c1, rfl, hc1⟩ := strsD_of R.q1
      refine ⟨_, rfl, x, C, dx, fs, _, rfl, S1 _ _ hx, T.c, T.first, f2, _, rfl, p, _, _, .ref q, rfl, rfl, SqT.of hp, rfl, cat_of (S1 _ _ hc1) hq ?_ fun b H2 S2 hb => ?_⟩
      · rw [List.length_map, List.length_map, sizeLine_eq]
        have := Sh.f
        omega
      · refine kS (r.first ++ w) ?_ H2 b (S1.trans S2) (by rw [List.map_append]; exact hb)
        unfold begunM
        rw [z]
        rfl
theorem ok_written {f g : Addr} {fd gd : FuncData} (F : Fun K "written" "Reader.written" sRWritten f fd) (T : TxtR K mg C) (G : FnOk P w K mg base CX0 1 g gd ["moves", "state", "marks"] spRead) (c : Cal K mg "read_on" g gd ["moves", "state", "marks"]) :
    FnOk P w K mg base CX0 2 f fd ["self", "marks"] (spTape C writtenM) := by
  refine F.ok scWritten (fun vs H Q E h => ?_) (fun cdv A outer s H vs Q E hr h => ?_)
  · obtain ⟨x, a, r, v1, v2, v3, ms, rfl, _⟩ := h
    rfl
  · obtain ⟨x, a, r, v1, v2, v3, ms, rfl, R, Sh, ha, hn, kN, kS⟩ := h
    have hu := hu_of hr
    refine ⟨_, pss_cons (ps_set (i := 2) scWritten.nd rfl (.inl rfl) (pe_call G hr (by rfl) c.m c.k c.b .nil pass0 (pa_cons (pe_fld (pv 0) (by rfl)) (pa_cons pe_int (pa_cons (pv 1) pa_nil)))))
      (pss_cons (ps_if (PW.pt (pw_or (pt_cmpR op_isN (pv 2) pe_non (nomark _)) (pw_or1 (pt_cmp (pc_dnotin hu (pe_ix ix_tup (pv 2) pe_int (fun _ _ => rfl)) (pe_fld (pv 0) (by rfl))))))) (pss_one (ps_ret pe_non)) pss_nil)
      (pss_one (ps_ret (pe_op op_catA (pe_op op_catA (pe_fld (pv 0) (by rfl)) (pe_ix ix_tup (pv 2) pe_int (fun _ _ => rfl))) (pe_dget hu (pe_fld (pv 0) (by rfl)) (pe_ix ix_tup (pv 2) pe_int (fun _ _ => rfl)) (fun _ _ => rfl)))))), ?_⟩
    obtain ⟨dx, fs, tb, te, hx, f1, f2, f3, f4, f5, f6, _, _, TR, ER⟩ := R.ex
    refine ⟨_, rfl, x, C, dx, fs, _, rfl, hx, T.c, T.mv, f5, _, rfl, tb, a, 0, ms, lastM r.mv, rfl, TR, ha, hn, Sh.m, fun z H1 S1 => ?_, fun w e z H1 p q S1 hp hq lw => ?_⟩
    · refine ⟨_, rfl, rfl, _, rfl, ?_⟩
      refine iteYes rfl (iteYes rfl ?_)
      refine kN ?_ H1 S1
      unfold writtenM
      rw [z]
      rfl
    · obtain ⟨kvs, hk, look⟩ := ER.same S1
      refine ⟨_, rfl, rfl, _, rfl, ?_⟩
      refine iteNo rfl ?_
      refine ⟨_, rfl, p, _, _, .int e, rfl, rfl, SqT.of hp, rfl, _, rfl, x, C, dx, fs, _, rfl, S1 _ _ hx, T.c, T.en, f6, te, _, rfl, DGet.k (k := Sum.inl e) hk, _, rfl, ?_⟩
      rcases look e with ⟨l1, l2⟩ | ⟨u, v, l1, l2, l3⟩
      · rw [l2]
        refine iteYes rfl ?_
        refine kN ?_ H1 S1
        unfold writtenM
        rw [z]
        show (lastE r.en e).map _ = none
        rw [l1]
        rfl
      · rw [l2]
        refine iteNo rfl ?_
        obtain ⟨c1, rfl, hc1⟩ := strsD_of R.q1
        obtain ⟨c2, rfl, hc2⟩ := strsD_of l3
        have lu := Sh.e e u l1
        have lf := Sh.f
        refine ⟨_, rfl, x, C, dx, fs, _, rfl, S1 _ _ hx, T.c, T.first, f2, _, rfl, p, _, _, .ref q, rfl, rfl, SqT.of hp, rfl, cat_of (S1 _ _ hc1) hq ?_ fun b H2 S2 hb => ?_⟩
        · rw [List.length_map, List.length_map, sizeLine_eq]
          omega
        refine ⟨_, rfl, x, C, dx, fs, _, rfl, S2 _ _ (S1 _ _ hx), T.c, T.en, f6, _, rfl, p, _, _, .int e, rfl, rfl, SqT.of (S2 _ _ hp), rfl, te, .ref c2, rfl, ?_, cat_of hb (S2 _ _ hc2) ?_ fun d H3 S3 hd => ?_⟩
        · have q := DGet.k (k := Sum.inl e) (S2 _ _ hk)
          rw [l2] at q
          exact q
        · rw [List.length_append, List.length_map, List.length_map, List.length_map, sizeLine_eq]
          omega
        · refine kS (r.first ++ w ++ u) ?_ H3 d (S1.trans (S2.trans S3)) (by rw [List.map_append, List.map_append]; exact hd)
          unfold writtenM
          rw [z]
          show (lastE r.en e).map _ = _
          rw [l1]
          rfl
end
end KL
set_option Elab.async false
set_option linter.all false
set_option maxRecDepth 100000
set_option maxHeartbeats 2000000
namespace KL
open PySem L2
/-! ### the deck -/
def dk (l : Addr) (m t : Int) : List (Key × V) := [(Sum.inr "cells", V.ref l), (Sum.inr "blend", V.int m), (Sum.inr "draws", V.int t)]
theorem dk_cells (l : Addr) (m t : Int) : valV (dk l m t) (Sum.inr "cells") = some (V.ref l) := by rfl
theorem dk_mixed (l : Addr) (m t : Int) : valV (dk l m t) (Sum.inr "blend") = some (V.int m) := by rfl
theorem dk_turn (l : Addr) (m t : Int) : valV (dk l m t) (Sum.inr "draws") = some (V.int t) := by rfl
theorem dk_put (l : Addr) (m t u : Int) : putK (dk l m t) (Sum.inr "draws") (V.int u) = dk l m u := by rfl
/-- H0 is what stays in H: neither the deck nor its list -/
structure DeckAt (H0 H : Hp) (p l : Addr) (t : Int) : Prop where
  s : Same H0 H
  p0 : H0 p = none
  l0 : H0 l = none
  d : ∃ (ns : List Int) (m : Int), H p = some (.dK (dk l m t)) ∧ H l = some (.lst (ns.map V.int)) ∧ ns.length ≤ 63 ∧ 0 ≤ m ∧ m < 2147483629
theorem DeckAt.notP {H0 H : Hp} {p l a : Addr} {t : Int} (D : DeckAt H0 H p l t) (n : H a = none) : a ≠ p ∧ a ≠ l := by
  obtain ⟨ns, m, hp, hl, _⟩ := D.d
  refine ⟨?_, ?_⟩
  · rintro rfl
    rw [hp] at n
    cases n
  · rintro rfl
    rw [hl] at n
    cases n
theorem DeckAt.ne {H0 H : Hp} {p l : Addr} {t : Int} (D : DeckAt H0 H p l t) : l ≠ p := by
  obtain ⟨ns, m, hp, hl, _⟩ := D.d
  exact ne_of hl hp (by intro q; cases q)
/-- something new, that stays -/
theorem DeckAt.new {H0 H : Hp} {p l a : Addr} {t : Int} {o : HO} (D : DeckAt H0 H p l t) (n : H a = none) : DeckAt (upd H0 a o) (upd H a o) p l t := by
  obtain ⟨ap, al⟩ := D.notP n
  obtain ⟨ns, m, hp, hl, r⟩ := D.d
  refine ⟨fun b u e => ?_, ?_, ?_, ns, m, ?_, ?_, r⟩
  · by_cases z : b = a
    · subst z
      rw [upd_same] at e ⊢
      exact e
    · rw [upd_ne z] at e ⊢
      exact D.s _ _ e
  · rw [upd_ne ap.symm]
    exact D.p0
  · rw [upd_ne al.symm]
    exact D.l0
  · rw [upd_ne ap.symm]
    exact hp
  · rw [upd_ne al.symm]
    exact hl
/-- something that does not stay: new, or changed -/
theorem DeckAt.put {H0 H : Hp} {p l a : Addr} {t : Int} {o : HO} (D : DeckAt H0 H p l t) (ap : a ≠ p) (al : a ≠ l) (n : H0 a = none) : DeckAt H0 (upd H a o) p l t := by
  obtain ⟨ns, m, hp, hl, r⟩ := D.d
  refine ⟨fun b u e => ?_, D.p0, D.l0, ns, m, ?_, ?_, r⟩
  · rw [upd_ne (ne_of_none e n)]
    exact D.s _ _ e
  · rw [upd_ne ap.symm]
    exact hp
  · rw [upd_ne al.symm]
    exact hl
theorem DeckAt.put0 {H0 H : Hp} {p l a : Addr} {t : Int} {o : HO} (D : DeckAt H0 H p l t) (n : H a = none) : DeckAt H0 (upd H a o) p l t :=
  D.put (D.notP n).1 (D.notP n).2 (D.s.free n)
/-- something that stood and stays from now on -/
theorem DeckAt.keep {H0 H : Hp} {p l a : Addr} {t : Int} {o : HO} (D : DeckAt H0 H p l t) (ap : a ≠ p) (al : a ≠ l) (h : H a = some o) : DeckAt (upd H0 a o) H p l t := by
  refine ⟨fun b u e => ?_, ?_, ?_, D.d⟩
  · by_cases z : b = a
    · subst z
      rw [upd_same] at e
      rw [h]
      exact e
    · rw [upd_ne z] at e
      exact D.s _ _ e
  · rw [upd_ne ap.symm]
    exact D.p0
  · rw [upd_ne al.symm]
    exact D.l0
theorem DeckAt.less {H0 H1 H : Hp} {p l : Addr} {t : Int} (D : DeckAt H1 H p l t) (S : Same H0 H1) : DeckAt H0 H p l t :=
  ⟨S.trans D.s, S.free D.p0, S.free D.l0, D.d⟩
/-- from a state (kept H0, heap H, turn t) to another one, by at most n draws -/
structure Go (p l : Addr) (H0 H : Hp) (t : Int) (H1 H' : Hp) (t' : Int) (n : Int) : Prop where
  s : Same H0 H1
  d : DeckAt H1 H' p l t'
  f : ∀ b o, b ≠ p → b ≠ l → H b = some o → H' b = some o
  o : ∀ b, H0 b = none → H b ≠ none → H1 b = none
  t0 : t ≤ t'
  t1 : t' ≤ t + n
theorem Go.refl {p l : Addr} {H0 H : Hp} {t : Int} (D : DeckAt H0 H p l t) : Go p l H0 H t H0 H t 0 := ⟨Same.refl _, D, fun _ _ _ _ e => e, fun _ e _ => e, by omega, by omega⟩
theorem Go.trans {p l : Addr} {H0 H H1 H' H2 H'' : Hp} {t t' t'' n n' : Int} (a : Go p l H0 H t H1 H' t' n) (b : Go p l H1 H' t' H2 H'' t'' n') : Go p l H0 H t H2 H'' t'' (n + n') := by
  refine ⟨a.s.trans b.s, b.d, fun c o cp cl e => b.f _ _ cp cl (a.f _ _ cp cl e), fun c e h => ?_, Int.le_trans a.t0 b.t0, ?_⟩
  · have h1 := a.o c e h
    by_cases cp : c = p
    · subst cp
      exact b.d.p0
    by_cases cl : c = l
    · subst cl
      exact b.d.l0
    cases z : H c with
    | none => exact absurd z h
    | some o => exact b.o c h1 (by rw [a.f c o cp cl z]; simp)
  · have := a.t1
    have := b.t1
    omega
theorem Go.more {p l : Addr} {H0 H H1 H' : Hp} {t t' n n' : Int} (a : Go p l H0 H t H1 H' t' n) (h : n ≤ n') : Go p l H0 H t H1 H' t' n' :=
  ⟨a.s, a.d, a.f, a.o, a.t0, Int.le_trans a.t1 (by omega)⟩
/-- something new that stays -/
theorem Go.new {p l a : Addr} {H0 H H1 H' : Hp} {t t' n : Int} {o : HO} (g : Go p l H0 H t H1 H' t' n) (na : H' a = none) : Go p l H0 H t (upd H1 a o) (upd H' a o) t' n := by
  have n1 : H1 a = none := g.d.s.free na
  refine ⟨fun b u e => ?_, g.d.new na, fun b u bp bl e => ?_, fun b e h => ?_, g.t0, g.t1⟩
  · have e1 := g.s _ _ e
    rw [upd_ne (ne_of_none e1 n1)]
    exact e1
  · have e1 := g.f _ _ bp bl e
    rw [upd_ne (ne_of_none e1 na)]
    exact e1
  · have e1 := g.o b e h
    by_cases z : b = a
    · subst z
      exfalso
      obtain ⟨bp, bl⟩ := g.d.notP na
      cases y : H b with
      | none => exact h y
      | some u =>
        have := g.f _ _ bp bl y
        rw [na] at this
        cases this
    · rw [upd_ne z]
      exact e1
/-- something new that does not stay as it is -/
theorem Go.put0 {p l a : Addr} {H0 H H1 H' : Hp} {t t' n : Int} {o : HO} (g : Go p l H0 H t H1 H' t' n) (na : H' a = none) : Go p l H0 H t H1 (upd H' a o) t' n :=
  ⟨g.s, g.d.put0 na, fun b u bp bl e => by
    have e1 := g.f _ _ bp bl e
    rw [upd_ne (ne_of_none e1 na)]
    exact e1, g.o, g.t0, g.t1⟩
/-- something of one's own that is changed -/
theorem Go.put {p l a : Addr} {H0 H H1 H' : Hp} {t t' n : Int} {o : HO} (g : Go p l H0 H t H1 H' t' n) (na : H a = none) (ap : a ≠ p) (al : a ≠ l) (n1 : H1 a = none) : Go p l H0 H t H1 (upd H' a o) t' n :=
  ⟨g.s, g.d.put ap al n1, fun b u bp bl e => by
    rw [upd_ne (ne_of_none e na)]
    exact g.f _ _ bp bl e, g.o, g.t0, g.t1⟩
/-- something of one's own that stays from now on -/
theorem Go.keep {p l a : Addr} {H0 H H1 H' : Hp} {t t' n : Int} {o : HO} (g : Go p l H0 H t H1 H' t' n) (na : H a = none) (ap : a ≠ p) (al : a ≠ l) (h : H' a = some o) (h1 : H1 a = none) : Go p l H0 H t (upd H1 a o) H' t' n :=
  ⟨fun b u e => by
    have e1 := g.s _ _ e
    rw [upd_ne (ne_of_none e1 h1)]
    exact e1, g.d.keep ap al h, g.f, fun b e hb => by
    rw [upd_ne (show b ≠ a from fun z => hb (by rw [z]; exact na))]
    exact g.o b e hb, g.t0, g.t1⟩
theorem Go.own {p l a : Addr} {H0 H H1 H' : Hp} {t t' n : Int} {o : HO} (g : Go p l H0 H t H1 H' t' n) (D : DeckAt H0 H p l t) (h : H a = some o) (n0 : H0 a = none) (ap : a ≠ p) (al : a ≠ l) : H' a = some o ∧ H1 a = none :=
  ⟨g.f _ _ ap al h, g.o _ n0 (by rw [h]; simp)⟩
def spDeck (K : PySem.W.Frag) : Sp := fun vs H Q _ => ∃ (a : Addr) (ns : List Int), vs = [.ref a] ∧ SqL K H a (ns.map V.int) ∧ ns.length ≤ 63 ∧ ∀ H' p l, DeckAt H H' p l 0 → Q (.ref p) H'
def spDrawS : Sp := fun vs H Q _ => ∃ (H0 : Hp) (p l : Addr) (t b : Int), vs = [.ref p, .int b] ∧ DeckAt H0 H p l t ∧ 0 ≤ t ∧ t < 1048576 ∧ 0 < b ∧ b < 1048576 ∧ ∀ H' r, DeckAt H0 H' p l (t + 1) → 0 ≤ r → r < b → Q (.int r) H'
def spDraw : Sp := fun vs H Q _ => ∃ (H0 : Hp) (p l : Addr) (t b : Int), vs = [.ref p, .int b] ∧ DeckAt H0 H p l t ∧ 0 ≤ t ∧ t < 1048576 ∧ 0 < b ∧ b < 1048576 ∧ ∀ H' r, Go p l H0 H t H0 H' (t + 1) 1 → 0 ≤ r → r < b → Q (.int r) H'
theorem draw_go {vs : List V} {H : Hp} {Q : VK} {E : XK} (h : spDraw vs H Q E) : spDrawS vs H Q E := by
  obtain ⟨H0, p, l, t, b, rfl, D, t0, t1, b0, b1, k⟩ := h
  refine ⟨fun c => if c = p ∨ c = l then none else H c, p, l, t, b, rfl, ⟨fun c o e => ?_, if_pos (.inl rfl), if_pos (.inr rfl), D.d⟩, t0, t1, b0, b1, fun H' r D' r0 rb => k H' r ?_ r0 rb⟩
  · have e : (if c = p ∨ c = l then none else H c) = some o := e
    by_cases z : c = p ∨ c = l
    · rw [if_pos z] at e
      cases e
    · rw [if_neg z] at e
      exact e
  · have f : ∀ c o, c ≠ p → c ≠ l → H c = some o → H' c = some o := fun c o cp cl e => D'.s _ _ (by
      show (if c = p ∨ c = l then none else H c) = some o
      rw [if_neg (by rintro (z | z); exact cp z; exact cl z), e])
    refine ⟨Same.refl _, ⟨fun c o e => ?_, D.p0, D.l0, D'.d⟩, f, fun _ e _ => e, by omega, by omega⟩
    refine f c o ?_ ?_ (D.s _ _ e)
    · rintro rfl
      rw [D.p0] at e
      cases e
    · rintro rfl
      rw [D.l0] at e
      cases e
end KL
set_option Elab.async false
set_option linter.all false
set_option maxRecDepth 100000
set_option maxHeartbeats 4000000
namespace KL
open PySem L2
abbrev lDeck : Stmt := top 22
abbrev lDraw : Stmt := top 23
structure TxtD (mg : Str → Option Value) : Prop where
  list : mg "list" = none
  int : mg "int" = none
  len : mg "len" = none
section
variable {P : Program} {w : World} {K : PySem.W.Frag} {mg : Str → Option Value} {base : Heap}
theorem scDeck : FnScope ["_law_script", "_law_cells", "_law_blend", "_law_cell"] ["_law_script"] (defScope lDeck) := ⟨rfl, rfl, rfl, by decide +kernel, rfl, by decide +kernel, by decide +kernel⟩
theorem cut_ints (ns : List Int) (lo hi : Option Int) : ∃ ms : List Int, cutV (ns.map V.int) lo hi = ms.map V.int ∧ ms.length ≤ ns.length :=
  ⟨(ns.drop (HT.sIx (ns.map V.int).length 0 lo)).take (HT.sIx (ns.map V.int).length (ns.map V.int).length hi - HT.sIx (ns.map V.int).length 0 lo), by unfold cutV; rw [List.map_take, List.map_drop], by rw [List.length_take, List.length_drop]; omega⟩
theorem ok_deck {f : Addr} {fd : FuncData} (F : Fun K "_law_deck" "_law_deck" lDeck f fd) (T : TxtD mg) : FnOk P w K mg base CX0 1 f fd ["_law_script"] (spDeck K) := by
  refine F.ok scDeck (fun vs H Q E h => ?_) (fun cdv A outer s H vs Q E hr h => ?_)
  · obtain ⟨a, ns, rfl, _⟩ := h
    rfl
  · obtain ⟨a, ns, rfl, hS, hlen, k⟩ := h
    refine ⟨_, pss_cons (ps_par (i := 1) (j := 2) (by rfl) scDeck.nd rfl rfl (by decide) rfl rfl (pa_cons (pe_callTy call_list_of (by rfl) T.list (by decide +kernel) (pa_cons (pe_slice sl_list (pv 0) po_none (po_some pe_int)) pa_nil)) (pa_cons pe_int pa_nil)) (by rfl))
      (pss_cons (ps_for PassesOwn.never rfl (pi_list (pv 1)) (pg_name (i := 3) scDeck.nd rfl (.inl rfl))
        (pss_one (ps_set (i := 2) scDeck.nd rfl (.inl rfl) (pe_op op_mod (pe_callTy call_int1 (by rfl) T.int (by decide +kernel) (pa_cons (pe_op op_add (pe_op op_add (pe_op op_mul (pv 2) pe_int) (pe_op op_mod (pe_callTy call_int1 (by rfl) T.int (by decide +kernel) (pa_cons (pv 3) pa_nil)) pe_int)) pe_int) pa_nil)) pe_int))))
      (pss_one (ps_ret (pe_disp (pps_cons pe_str (pe_revL (pv 1)) (pps_cons pe_str (pv 2) (pps_cons pe_str pe_int pps_nil))) (by rfl) (by rfl) (fun z => by cases z) (by decide))))), ?_⟩
    refine ⟨_, rfl, _, rfl, a, _, rfl, hS, fun p0 hp0 => ?_⟩
    obtain ⟨ms, ems, hms⟩ := cut_ints ns none (some 63)
    refine ⟨p0, ms.map V.int, rfl, .inl (SqL.of (by rw [upd_same]; exact congrArg some (congrArg HO.lst ems))), fun l hl => ?_⟩
    have npl : l ≠ p0 := fun q => by
      rw [q, upd_same] at hl
      cases hl
    have hl0 : H l = none := by
      rw [upd_ne npl] at hl
      exact hl
    refine ⟨_, _, rfl, ?_⟩
    have hSm : SqL K (upd (upd H p0 (HO.lst (cutV (List.map V.int ns) none (some 63)))) l (HO.lst (List.map V.int ms))) l (ms.map V.int) := SqL.of upd_same
    refine ⟨_, rfl, l, rfl, ⟨_, hSm⟩, for_list (K := K) (a := l) (xs := ms.map V.int) (fun i σ H' => H' = upd (upd H p0 (HO.lst (cutV (List.map V.int ns) none (some 63)))) l (HO.lst (List.map V.int ms)) ∧ ∃ (m : Int) (v : Option V), σ = [some (.ref a), some (.ref l), some (.int m), v] ∧ 0 ≤ m ∧ m < 2147483629)
      ⟨rfl, 10863028, none, rfl, by decide, by decide⟩ (fun i σ H' _ ⟨e, _⟩ => e ▸ hSm) ?_ ?_⟩
    · rintro i y σ H' hi ⟨rfl, m, v, rfl, m0, m1⟩
      obtain ⟨u, rfl⟩ : ∃ u, y = V.int u := by
        rw [List.getElem?_map] at hi
        cases e : ms[i]? with
        | none =>
          rw [e] at hi
          cases hi
        | some u =>
          rw [e] at hi
          exact ⟨u, (Option.some.inj hi).symm⟩
      refine ⟨_, rfl, _, _, rfl, rfl, .inl ⟨by omega, by omega⟩, ?_⟩
      refine ⟨_, rfl, .inl ⟨_, rfl, ?_⟩⟩
      refine ⟨_, _, rfl, rfl, (by show (0 : Int) < 2147483587; decide), ?_⟩
      refine ⟨_, _, rfl, rfl, _, _, rfl, rfl, .inl ⟨_, rfl, ?_⟩⟩
      refine ⟨_, _, rfl, rfl, (by show (0 : Int) < 2147483629; decide), ?_⟩
      exact ⟨rfl, _, _, rfl, Int.emod_nonneg _ (by decide), Int.emod_lt_of_pos _ (by decide)⟩
    · rintro σ H' ⟨rfl, m, v, rfl, m0, m1⟩
      have same1 : Same H (upd (upd H p0 (HO.lst (cutV (List.map V.int ns) none (some 63)))) l (HO.lst (List.map V.int ms))) := fun b o e => by
        rw [upd_ne (ne_of_none e hl0), upd_ne (ne_of_none e hp0)]
        exact e
      revert hSm same1
      generalize upd (upd H p0 (HO.lst (cutV (List.map V.int ns) none (some 63)))) l (HO.lst (List.map V.int ms)) = H1
      intro hSm same1 p hp
      refine ⟨_, rfl, l, _, rfl, Same.seq (fun b o e => by rw [upd_ne (ne_of_none e hp)]; exact e) hSm, fun q hq => ?_⟩
      have nqp : q ≠ p := fun z => by
        rw [z, upd_same] at hq
        cases hq
      have hq1 : H1 q = none := by
        rw [upd_ne nqp] at hq
        exact hq
      refine ⟨_, rfl, (by rw [upd_ne nqp.symm, upd_same]), [(Sum.inr "cells", V.ref q), (Sum.inr "blend", V.int m), (Sum.inr "draws", V.int 0)], rfl, (by show 3 ≤ 15; decide), k _ _ _ ⟨fun b o e => ?_, same1.free hp, same1.free hq1, ms.reverse, m, upd_same, ?_, ?_, m0, m1⟩⟩
      · have e1 := same1 b o e
        rw [upd_ne (ne_of_none e1 hp), upd_ne (ne_of_none e1 hq1), upd_ne (ne_of_none e1 hp)]
        exact e1
      · rw [upd_ne nqp, upd_same, List.map_reverse]
      · rw [List.length_reverse]
        exact Nat.le_trans hms hlen
end
theorem dg_cells {H : Hp} {p l : Addr} {m t : Int} (h : H p = some (.dK (dk l m t))) : DGet H p (.str "cells") (some (.ref l)) := DGet.k (k := Sum.inr "cells") h
theorem dg_mixed {H : Hp} {p l : Addr} {m t : Int} (h : H p = some (.dK (dk l m t))) : DGet H p (.str "blend") (some (.int m)) := DGet.k (k := Sum.inr "blend") h
theorem dg_turn {H : Hp} {p l : Addr} {m t : Int} (h : H p = some (.dK (dk l m t))) : DGet H p (.str "draws") (some (.int t)) := DGet.k (k := Sum.inr "draws") h
theorem dp_turn {H : Hp} {p l : Addr} {m t u : Int} (h : H p = some (.dK (dk l m t))) : DPut H p (.str "draws") (.int u) (upd H p (.dK (dk l m u))) := DPut.k (k := Sum.inr "draws") h (by show 3 < sizeLine; decide)
theorem dp_ints {K : PySem.W.Frag} {H : Hp} : ∀ ns : List Int, DpAll K H (ns.map V.int) (ns.map PyData.int)
  | [] => .nil
  | n :: r => .cons (.int n) (dp_ints r)
theorem lay_ints : ∀ ns : List Int, PyData.canLayAll0 (ns.map PyData.int) = true
  | [] => rfl
  | n :: r => by
    show (true && PyData.canLayAll0 (r.map PyData.int)) = true
    rw [lay_ints r]
    rfl
theorem depth_ints : ∀ ns : List Int, PyData.depthAll (ns.map PyData.int) = 0
  | [] => rfl
  | n :: r => by
    show max 0 (PyData.depthAll (r.map PyData.int)) = 0
    rw [depth_ints r]
    rfl
theorem shaped_ints (ns : List Int) : SeqAt.shaped (PyData.list (ns.map PyData.int)) = true := by
  show (PyData.canLayAll0 (ns.map PyData.int) && decide (PyData.depthAll (ns.map PyData.int) + 1 ≤ 64)) = true
  rw [lay_ints, depth_ints]
  rfl
section
variable {P : Program} {w : World} {K : PySem.W.Frag} {mg : Str → Option Value} {base : Heap}
abbrev nDraw : List Str := ["_law_deck_here", "_law_below", "_law_turn", "_law_figure", "_law_cell"]
theorem scDraw : FnScope nDraw ["_law_deck_here", "_law_below"] (defScope lDraw) := ⟨rfl, rfl, rfl, by decide +kernel, rfl, by decide +kernel, by decide +kernel⟩
theorem ok_drawS {f : Addr} {fd : FuncData} (F : Fun K "_law_draw" "_law_draw" lDraw f fd) (T : TxtD mg) : FnOk P w K mg base CX0 1 f fd ["_law_deck_here", "_law_below"] spDrawS := by
  refine F.ok scDraw (fun vs H Q E h => ?_) (fun cdv A outer s H vs Q E hr h => ?_)
  · obtain ⟨H0, p, l, t, b, rfl, _⟩ := h
    rfl
  · obtain ⟨H0, p, l, t, b, rfl, ⟨s0, p0, l0, ns, m, hp, hl, hlen, m0, m1⟩, t0, t1, b0, b1, k⟩ := h
    have hu := hu_of hr
    have nlp : l ≠ p := ne_of hl hp (by intro q; cases q)
    refine ⟨_, pss_cons (ps_dput hu (pv 0) pe_str (pe_op op_add (pe_dget hu (pv 0) pe_str (fun _ _ => rfl)) pe_int) rfl)
      (pss_cons (ps_par (i := 2) (j := 3) (by rfl) scDraw.nd rfl rfl (by decide) rfl rfl (pa_cons (pe_dget hu (pv 0) pe_str (fun _ _ => rfl)) (pa_cons (pe_dget hu (pv 0) pe_str (fun _ _ => rfl)) pa_nil)) (by rfl))
      (pss_cons (ps_if (pt_cmpR (op_neD hr.units) (pe_dget hu (pv 0) pe_str (fun _ _ => rfl)) (pe_lst pa_nil) (nomark _))
        (pss_cons (ps_set (i := 4) scDraw.nd rfl (.inl rfl) (pe_bm0 PySem.F.plainAttrs_list PySem.F.slot_list_pop PySem.F.type_list_pop mt_pop (pe_dget hu (pv 0) pe_str (fun _ _ => rfl))))
        (pss_cons (ps_if (pt_cmpR op_ge (pv 4) (pe_op op_pow pe_int pe_int) (nomark _))
          (pss_cons (ps_expr (pe_bm PySem.F.plainAttrs_list PySem.F.slot_list_append PySem.F.type_list_append mt_append (pe_dget hu (pv 0) pe_str (fun _ _ => rfl)) (pa_cons (pe_op op_fdiv (pv 4) (pv 1)) pa_nil)))
          (pss_one (ps_ret (pe_op op_mod (pe_callTy call_int1 (by rfl) T.int (by decide +kernel) (pa_cons (pv 4) pa_nil)) (pv 1))))) pss_nil)
        (pss_one (ps_set (i := 3) scDraw.nd rfl (.inl rfl) (pe_op op_add (pv 3) (pe_op op_mod (pe_callTy call_int1 (by rfl) T.int (by decide +kernel) (pa_cons (pv 4) pa_nil)) pe_int)))))) pss_nil)
      (pss_cons (ps_set (i := 3) scDraw.nd rfl (.inl rfl) (pe_op op_mod (pe_op op_mul (pe_callTy call_int1 (by rfl) T.int (by decide +kernel) (pa_cons (pe_op op_add (pe_op op_add (pe_op op_mod (pv 3) pe_int) (pe_op op_mul (pe_op op_mul pe_int (pv 2)) (pv 2))) pe_int) pa_nil)) pe_int) pe_int))
      (pss_cons (ps_set (i := 3) scDraw.nd rfl (.inl rfl) (pe_op op_mod (pe_callTy call_int1 (by rfl) T.int (by decide +kernel) (pa_cons (pe_op op_add (pe_op op_add (pe_op op_mul (pv 3) (pv 3)) (pe_op op_mul pe_int (pv 2))) pe_int) pa_nil)) pe_int))
      (pss_one (ps_ret (pe_op op_mod (pe_op op_fdiv (pe_op op_mod (pe_callTy call_int1 (by rfl) T.int (by decide +kernel) (pa_cons (pe_op op_mul (pv 3) pe_int) pa_nil)) pe_int) pe_int) (pv 1)))))))), ?_⟩
    refine ⟨_, rfl, p, _, rfl, dg_turn hp, _, _, rfl, rfl, _, rfl, p, _, rfl, dp_turn hp, ?_⟩
    have hp1 : (upd H p (.dK (dk l m (t + 1)))) p = some (.dK (dk l m (t + 1))) := upd_same
    have hl1 : (upd H p (.dK (dk l m (t + 1)))) l = some (.lst (ns.map V.int)) := by rw [upd_ne nlp]; exact hl
    have s1 : Same H0 (upd H p (.dK (dk l m (t + 1)))) := fun b o e => by
      rw [upd_ne (ne_of_none e p0)]
      exact s0 b o e
    clear hp hl s0
    revert hp1 hl1 s1
    generalize upd H p (.dK (dk l m (t + 1))) = H1
    intro hp hl s0
    refine ⟨_, rfl, p, _, rfl, dg_turn hp, _, rfl, p, _, rfl, dg_mixed hp, ?_⟩
    refine ⟨_, _, rfl, ?_⟩
    refine ⟨_, rfl, p, _, rfl, dg_cells hp, Nat.zero_le _, fun q hq => ?_⟩
    have hp1 : (upd H1 q (.lst [])) p = some (.dK (dk l m (t + 1))) := by rw [upd_ne (ne_of_none hp hq)]; exact hp
    have hl1 : (upd H1 q (.lst [])) l = some (.lst (ns.map V.int)) := by rw [upd_ne (ne_of_none hl hq)]; exact hl
    have hq1 : (upd H1 q (.lst [])) q = some (.lst []) := upd_same
    have s1 : Same H0 (upd H1 q (.lst [])) := fun b o e => by
      have e1 := s0 b o e
      rw [upd_ne (ne_of_none e1 hq)]
      exact e1
    clear hp hl s0 hq
    revert hp1 hl1 s1 hq1
    generalize upd H1 q (.lst []) = H2
    intro hp hl hq s0
    refine ⟨.list (ns.map .int), .list [], .lst (SqL.of hl) (dp_ints ns), .lst (SqL.of hq) .nil, shaped_ints ns, by decide, _, rfl, ?_⟩
    revert hl
    rcases ns with _ | ⟨n0, nr⟩
    · intro hl
      refine iteF ?_
      have hM : ∃ M, M = m := ⟨m, rfl⟩
      obtain ⟨M, eM⟩ := hM
      rw [← eM]
      refine ⟨_, rfl, _, _, rfl, rfl, (by show (0 : Int) < 2147483579; decide), _, rfl, _, _, rfl, rfl, .inl ⟨by decide, by decide⟩, _, rfl, _, _, rfl, rfl, .inr ⟨by omega, by omega⟩, _, _, rfl, rfl, _, _, rfl, rfl, .inl ⟨_, rfl, _, _, rfl, rfl, .inr ⟨by decide, by decide⟩, _, _, rfl, rfl, (by show (0 : Int) < 2147483647; decide), ?_⟩⟩
      generalize (M % 2147483579 + 60397 * (t + 1) * (t + 1) + 28) * 48271 = M1
      have c0 := Int.emod_nonneg M1 (b := 2147483647) (by decide)
      have c1 := Int.emod_lt_of_pos M1 (b := 2147483647) (by decide)
      revert c0 c1
      generalize M1 % 2147483647 = M2
      intro c0 c1
      refine ⟨_, rfl, _, rfl, _, _, rfl, rfl, .inl ⟨by omega, by omega⟩, _, rfl, _, _, rfl, rfl, .inl ⟨by decide, by decide⟩, _, _, rfl, rfl, _, _, rfl, rfl, .inl ⟨_, rfl, _, _, rfl, rfl, (by show (0 : Int) < 2147483587; decide), ?_⟩⟩
      refine ⟨_, rfl, _, _, rfl, rfl, .inr ⟨by decide, by decide⟩, .inl ⟨_, rfl, _, _, rfl, rfl, (by show (0 : Int) < 2147483563; decide), _, _, rfl, rfl, ⟨by decide, by decide⟩, _, rfl, _, _, rfl, rfl, b0, ?_⟩⟩
      exact k _ _ ⟨s0, p0, l0, [], m, hp, hl, hlen, m0, m1⟩ (Int.emod_nonneg _ (by omega)) (Int.emod_lt_of_pos _ b0)
    · intro hl
      refine iteT ?_
      have hne : n0 :: nr ≠ [] := fun z => by cases z
      have elast : (List.map V.int (n0 :: nr))[(List.map V.int (n0 :: nr)).length - 1]? = some (V.int ((n0 :: nr).getLast hne)) := by
        rw [List.getElem?_map, List.length_map, ← List.getLast?_eq_getElem?, List.getLast?_eq_some_getLast hne]
        rfl
      refine ⟨_, rfl, p, _, rfl, dg_cells hp, .inl ⟨rfl, _, SqL.of hl⟩, l, _, _, rfl, rfl, hl, elast, ?_⟩
      have edrop : (List.map V.int (n0 :: nr)).dropLast = ((n0 :: nr).dropLast).map V.int := by
        rw [List.map_dropLast]
      have hd63 : (n0 :: nr).dropLast.length + 1 ≤ 63 := by
        rw [List.length_dropLast]
        have : 1 ≤ (n0 :: nr).length := by simp
        omega
      rw [edrop]
      generalize (n0 :: nr).getLast hne = c
      have hp1 : (upd H2 l (.lst (((n0 :: nr).dropLast).map V.int))) p = some (.dK (dk l m (t + 1))) := by rw [upd_ne nlp.symm]; exact hp
      have hl1 : (upd H2 l (.lst (((n0 :: nr).dropLast).map V.int))) l = some (.lst (((n0 :: nr).dropLast).map V.int)) := upd_same
      have s1 : Same H0 (upd H2 l (.lst (((n0 :: nr).dropLast).map V.int))) := fun b o e => by
        rw [upd_ne (ne_of_none e l0)]
        exact s0 b o e
      clear hp hl s0 hq
      revert hp1 hl1 s1 hd63
      generalize upd H2 l (.lst (((n0 :: nr).dropLast).map V.int)) = H3
      generalize (n0 :: nr).dropLast = ns
      intro hlen hp hl s0
      refine ⟨_, rfl, _, _, rfl, rfl, ⟨by decide, by decide, by decide⟩, _, _, rfl, rfl, _, rfl, ?_⟩
      refine ite2 (fun _ => ?_) (fun _ => ?_)
      · refine ⟨_, rfl, p, _, rfl, dg_cells hp, .inl ⟨rfl, _, SqL.of hl⟩, _, rfl, _, rfl, _, _, rfl, rfl, ⟨b0, by omega⟩, l, _, _, rfl, rfl, hl, ?_, ?_⟩
        · rw [List.length_map]
          exact Nat.lt_of_le_of_lt (Nat.le_of_succ_le hlen) (by decide)
        · refine ⟨_, rfl, .inl ⟨_, rfl, _, rfl, _, _, rfl, rfl, b0, ?_⟩⟩
          refine k _ _ ⟨fun b o e => ?_, p0, l0, ns ++ [c / b], m, ?_, ?_, ?_, m0, m1⟩ (Int.emod_nonneg _ (by omega)) (Int.emod_lt_of_pos _ b0)
          · rw [upd_ne (ne_of_none e l0)]
            exact s0 b o e
          · rw [upd_ne nlp.symm]
            exact hp
          · rw [upd_same, List.map_append]
            rfl
          · rw [List.length_append]
            exact hlen
      · refine ⟨_, rfl, _, rfl, .inl ⟨_, rfl, _, _, rfl, rfl, (by show (0 : Int) < 2147483563; decide), _, _, rfl, rfl, ?_⟩⟩
        have hlen : ns.length ≤ 63 := by omega
        generalize m + c % 2147483563 = M
        refine ⟨_, rfl, _, _, rfl, rfl, (by show (0 : Int) < 2147483579; decide), _, rfl, _, _, rfl, rfl, .inl ⟨by decide, by decide⟩, _, rfl, _, _, rfl, rfl, .inr ⟨by omega, by omega⟩, _, _, rfl, rfl, _, _, rfl, rfl, .inl ⟨_, rfl, _, _, rfl, rfl, .inr ⟨by decide, by decide⟩, _, _, rfl, rfl, (by show (0 : Int) < 2147483647; decide), ?_⟩⟩
        generalize (M % 2147483579 + 60397 * (t + 1) * (t + 1) + 28) * 48271 = M1
        have c0 := Int.emod_nonneg M1 (b := 2147483647) (by decide)
        have c1 := Int.emod_lt_of_pos M1 (b := 2147483647) (by decide)
        revert c0 c1
        generalize M1 % 2147483647 = M2
        intro c0 c1
        refine ⟨_, rfl, _, rfl, _, _, rfl, rfl, .inl ⟨by omega, by omega⟩, _, rfl, _, _, rfl, rfl, .inl ⟨by decide, by decide⟩, _, _, rfl, rfl, _, _, rfl, rfl, .inl ⟨_, rfl, _, _, rfl, rfl, (by show (0 : Int) < 2147483587; decide), ?_⟩⟩
        refine ⟨_, rfl, _, _, rfl, rfl, .inr ⟨by decide, by decide⟩, .inl ⟨_, rfl, _, _, rfl, rfl, (by show (0 : Int) < 2147483563; decide), _, _, rfl, rfl, ⟨by decide, by decide⟩, _, rfl, _, _, rfl, rfl, b0, ?_⟩⟩
        exact k _ _ ⟨s0, p0, l0, ns, m, hp, hl, hlen, m0, m1⟩ (Int.emod_nonneg _ (by omega)) (Int.emod_lt_of_pos _ b0)
theorem ok_draw {f : Addr} {fd : FuncData} (F : Fun K "_law_draw" "_law_draw" lDraw f fd) (T : TxtD mg) : FnOk P w K mg base CX0 1 f fd ["_law_deck_here", "_law_below"] spDraw :=
  (ok_drawS F T).imp fun _ _ _ _ => draw_go
end
end KL
set_option Elab.async false
set_option linter.all false
set_option maxRecDepth 100000
set_option maxHeartbeats 4000000
namespace KL
open PySem L2 PySem.Spec PyProof.Rows
/-- once: the tuple itself -/
theorem tuple_once (l : Addr) (its : Array Value) (n : Nat) (dd : Option Addr) (sl : Array (Option Value)) (x : Int) (u : Tok) (c0 : (decide (x < -(2 ^ 63)) || decide (x ≥ 2 ^ 63)) = false) (c1 : (its.isEmpty || x == 1) = true) :
    Meets (Builtin.«tuple.__mul__» ⟨[.ref l, .int x u], []⟩) (fun _ R s => s.heap.get? l = some ⟨.type "tuple", dd, .seq its n, sl⟩ ∧ R (.ok (.ret (.ref l))) s) :=
  .of_wp fun prog w A R s hh => by
    obtain ⟨hp, g, d, tk, os⟩ := s
    obtain ⟨hl, hh⟩ := hh
    have f1 := AutoSeq1.idx_int
    wp_walk using wpAny_loadPart' hl
    repeat (first
      | (refine wpAny_ite_false (decide_eq_false (by rw [c0]; exact Bool.false_ne_true)) ?_; wp_walk using wpAny_loadPart' hl)
      | (refine wpAny_ite_true (decide_eq_true c1) ?_; wp_walk using wpAny_loadPart' hl))
    exact ⟨_, rfl, hh⟩
def rRepU (K : PySem.W.Frag) : R2 := fun x y H Q => ∃ l k xs, x = .ref l ∧ y = .int k ∧ SqT K H l xs ∧ xs ≠ [] ∧ 1 ≤ k ∧ k ≤ 1000 ∧ xs.length ≤ 1000 ∧ (k = 1 → Q (.ref l) H) ∧ (k ≠ 1 → ∀ p, H p = none → Q (.ref p) (upd H p (.tup (List.replicate k.toNat xs).flatten)))
theorem op_repU {X : Cx} : OpR X (binaryOp .Mult) (rRepU X.K) := by
  intro pins s σ H x y v u Q I rx ry h
  obtain ⟨l, k, xs, rfl, rfl, hT, hne, h1, h2, hz, q1, q2⟩ := h
  by_cases e : k = 1
  · subst e
    cases rx
    obtain ⟨t, rfl⟩ := ry
    obtain ⟨its, r, ⟨⟨cls, dd, data, sl⟩, ho, hc, n, hd⟩, hs⟩ := I.tuple hT
    simp only at hc hd
    subst hc hd
    refine wpAny_binaryOp_repeat_ref (T := "tuple") (U := "int") (by decide) ⟨_, ho, rfl⟩ (fun s' => typeIs_int s' 1 t) noFill_tuple_mul F.fills_int_mul F.slot_int_rmul repeat_tuple F.slot_int_index.lookup ?_
    refine call_meets F.slot_int_rmul (typeIs_int s 1 t) F.entry_int_rmul (F.args_int_rmul_2 _ _) (int_rmul_tuple 1 t l its.toArray n dd sl) ⟨ho, rfl, ⟨_, ho, rfl⟩, ?_⟩
    refine call_meets F.slot_tuple_mul ⟨_, ho, rfl⟩ F.entry_tuple_mul (F.args_tuple_mul_2 _ _) (tuple_once l its.toArray n dd sl 1 t (by decide) (by simp)) ⟨ho, ?_⟩
    exact ⟨.ref l, H, I, rfl, q1 rfl⟩
  · exact op_repT pins s σ H _ _ v u Q I rx ry ⟨l, k, xs, rfl, rfl, hT, hne, by omega, h2, hz, q2 e⟩
end KL
set_option Elab.async false
set_option linter.all false
set_option maxRecDepth 100000
set_option maxHeartbeats 4000000
namespace KL
open PySem L2
abbrev lPick : Stmt := top 24
abbrev lLines : Stmt := top 25
abbrev lScribe : Stmt := top 26
abbrev lMade : Stmt := top 27
abbrev lTold : Stmt := top 28
abbrev lLed : Stmt := top 29
abbrev lWritten : Stmt := top 30
abbrev lLots : Stmt := top 31
abbrev lRight : Stmt := top 32
abbrev lLaw : Stmt := top 33
/-- an object of one's own, that changes -/
structure Own (p l a : Addr) (Hb H0 H : Hp) (o : HO) : Prop where
  b : Hb a = none
  ap : a ≠ p
  al : a ≠ l
  n : H0 a = none
  h : H a = some o
section
variable {p l a b : Addr} {Hs Hb H0 H H1 H' : Hp} {t t' t'' n c : Int} {o o' ob : HO}
theorem Own.start (g : Go p l Hs Hb t H0 H t' n) (na : H a = none) : Own p l a Hb H0 (upd H a o) o := by
  obtain ⟨ap, al⟩ := g.d.notP na
  refine ⟨?_, ap, al, g.d.s.free na, upd_same⟩
  cases z : Hb a with
  | none => rfl
  | some u =>
    have := g.f _ _ ap al z
    rw [na] at this
    cases this
theorem Own.go (w : Own p l a Hb H0 H o) (g : Go p l H0 H t H1 H' t' c) : Own p l a Hb H1 H' o :=
  ⟨w.b, w.ap, w.al, g.o _ w.n (by rw [w.h]; simp), g.f _ _ w.ap w.al w.h⟩
theorem Own.upd (w : Own p l a Hb H0 H o) (ne : a ≠ b) : Own p l a Hb H0 (upd H b o') o :=
  ⟨w.b, w.ap, w.al, w.n, by rw [upd_ne ne]; exact w.h⟩
theorem Own.ne (w : Own p l a Hb H0 H o) (nb : H b = none) : a ≠ b := fun z => by
  subst z
  rw [w.h] at nb
  cases nb
theorem Own.put (w : Own p l a Hb H0 H o) (nb : H b = none) : Own p l a Hb H0 (L2.upd H b o') o := w.upd (w.ne nb)
theorem Own.new (w : Own p l a Hb H0 H o) (nb : H b = none) : Own p l a Hb (L2.upd H0 b ob) (L2.upd H b ob) o :=
  ⟨w.b, w.ap, w.al, by rw [upd_ne (w.ne nb)]; exact w.n, by rw [upd_ne (w.ne nb)]; exact w.h⟩
theorem Own.set (w : Own p l a Hb H0 H o) : Own p l a Hb H0 (L2.upd H a o') o' := ⟨w.b, w.ap, w.al, w.n, upd_same⟩
theorem Own.freeze (w : Own p l a Hb H0 H o) (ne : a ≠ b) : Own p l a Hb (L2.upd H0 b ob) H o := ⟨w.b, w.ap, w.al, by rw [upd_ne ne]; exact w.n, w.h⟩
theorem Go.setO (g : Go p l Hs Hb t H0 H t' n) (w : Own p l a Hb H0 H o) : Go p l Hs Hb t H0 (L2.upd H a o') t' n := g.put w.b w.ap w.al w.n
theorem Go.keepO (g : Go p l Hs Hb t H0 H t' n) (w : Own p l a Hb H0 H o) : Go p l Hs Hb t (L2.upd H0 a o) H t' n := g.keep w.b w.ap w.al w.h w.n
end
/-- a list that is being made, behind i turns of at most c draws -/
def Making (p l D : Addr) (Hs Hb : Hp) (t c : Int) (P : Nat → List PyData → Prop) (i : Nat) (H : Hp) : Prop :=
  ∃ H0 t' ys ds, Go p l Hs Hb t H0 H t' ((i : Int) * c) ∧ Own p l D Hb H0 H (.lst ys) ∧ DqAll H0 ys ds ∧ P i ds
theorem dq_len {H : Hp} {ys : List V} {ds : List PyData} (q : DqAll H ys ds) : ys.length = ds.length := q.len
section
variable {p l D : Addr} {Hs Hb H0 H H1 H' : Hp} {t t' t'' n c : Int} {P : Nat → List PyData → Prop} {i : Nat} {ys : List V} {ds : List PyData}
theorem Making.start (dk : DeckAt Hs Hb p l t) (nD : Hb D = none) (h : P 0 []) : Making p l D Hs Hb t c P 0 (upd Hb D (.lst [])) :=
  ⟨Hs, t, [], [], ((Go.refl dk).put0 nD).more (by omega), Own.start (Go.refl dk) nD, .nil, h⟩
theorem Making.turn (g : Go p l Hs Hb t H0 H t' ((i : Int) * c)) (w : Own p l D Hb H0 H (.lst ys)) (q : DqAll H0 ys ds) (g2 : Go p l H0 H t' H1 H' t'' c) {v : V} {d : PyData} (hd : Dq H1 v d) (hn : ds.length < 1000) (hp : P (i + 1) (ds ++ [d])) :
    ∃ acc, H' D = some (.lst acc) ∧ acc.length < sizeLine ∧ Making p l D Hs Hb t c P (i + 1) (upd H' D (.lst (acc ++ [v]))) := by
  have w2 := w.go g2
  refine ⟨ys, w2.h, by rw [dq_len q, sizeLine_eq]; omega, H1, t'', ys ++ [v], ds ++ [d], ?_, w2.set, (DqAll.same g2.s _ _ q).snoc hd, hp⟩
  refine ((g.trans g2).more ?_).setO w2
  rw [Int.natCast_add, Int.add_mul]
  omega
theorem Making.skip (g : Go p l Hs Hb t H0 H t' ((i : Int) * c)) (w : Own p l D Hb H0 H (.lst ys)) (q : DqAll H0 ys ds) (g2 : Go p l H0 H t' H1 H' t'' c) (hp : P (i + 1) ds) : Making p l D Hs Hb t c P (i + 1) H' := by
  refine ⟨H1, t'', ys, ds, (g.trans g2).more ?_, w.go g2, DqAll.same g2.s _ _ q, hp⟩
  rw [Int.natCast_add, Int.add_mul]
  omega
theorem dq_new {H : Hp} {q : Addr} {ys : List V} {ds : List PyData} (nq : H q = none) (h : DqAll H ys ds) : Dq (upd H q (.tup ys)) (.ref q) (.tuple ds) := .tup upd_same (DqAll.same (same_new nq) _ _ h)
end
/-- what a def hands back that draws at most n times -/
def Gives (p l : Addr) (H0 H : Hp) (t n : Int) (G : PyData → Prop) (Q : VK) : Prop := ∀ H1 H' t' v d, Go p l H0 H t H1 H' t' n → Dq H1 v d → G d → Q v H'
theorem Gives.of {p l : Addr} {Hs Hb H0 H : Hp} {t t' n m k : Int} {G : PyData → Prop} {Q : VK} (h : Gives p l Hs Hb t k G Q) (g : Go p l Hs Hb t H0 H t' n) (e : n + m ≤ k) : Gives p l H0 H t' m G Q :=
  fun _ _ _ _ _ g2 hd hG => h _ _ _ _ _ ((g.trans g2).more e) hd hG
def spPick : Sp := fun vs H Q _ => ∃ (H0 : Hp) (p l : Addr) (t : Int) (a : Addr) (xs : List V), vs = [.ref p, .ref a] ∧ DeckAt H0 H p l t ∧ 0 ≤ t ∧ t < 1048576 ∧ H a = some (.lst xs) ∧ a ≠ p ∧ a ≠ l ∧ 0 < xs.length ∧ xs.length < 1000 ∧ ∀ H' (i : Nat) v, Go p l H0 H t H0 H' (t + 1) 1 → xs[i]? = some v → Q v H'
section
variable {P : Program} {w : World} {K : PySem.W.Frag} {mg : Str → Option Value} {base : Heap}
theorem scPick : FnScope ["_law_deck_here", "_law_some"] ["_law_deck_here", "_law_some"] (defScope lPick) := ⟨rfl, rfl, rfl, by decide +kernel, rfl, by decide +kernel, by decide +kernel⟩
theorem ok_pick {f g : Addr} {fd gd : FuncData} (F : Fun K "_law_pick" "_law_pick" lPick f fd) (T : TxtD mg) (G : FnOk P w K mg base CX0 1 g gd ["_law_deck_here", "_law_below"] spDraw) (c : Cal K mg "_law_draw" g gd ["_law_deck_here", "_law_below"]) :
    FnOk P w K mg base CX0 2 f fd ["_law_deck_here", "_law_some"] spPick := by
  refine F.ok scPick (fun vs H Q E h => ?_) (fun cdv A outer s H vs Q E hr h => ?_)
  · obtain ⟨H0, p, l, t, a, xs, rfl, _⟩ := h
    rfl
  · obtain ⟨H0, p, l, t, a, xs, rfl, D, t0, t1, ha, ap, al, hx0, hx1, k⟩ := h
    refine ⟨_, pss_one (ps_ret (pe_ix ix_list (pv 1) (pe_call G hr rfl c.m c.k c.b .nil pass0 (pa_cons (pv 0) (pa_cons (pe_callB call_len_seq (by rfl) T.len PySem.boot_len (pa_cons (pv 1) pa_nil)) pa_nil))) (fun _ _ => rfl))), ?_⟩
    refine ⟨_, rfl, _, rfl, _, rfl, a, xs, rfl, .inl (SqL.of ha), H0, p, l, t, _, rfl, D, t0, t1, by omega, by omega, fun H' r g r0 rb => ?_⟩
    obtain ⟨j, rfl⟩ := Int.eq_ofNat_of_zero_le r0
    have hj : j < xs.length := by omega
    exact ⟨a, xs, _, xs[j], rfl, rfl, SqL.of (g.f _ _ ap al ha), atI_nat (List.getElem?_eq_getElem hj), k H' j _ g (List.getElem?_eq_getElem hj)⟩
end
end KL
set_option Elab.async false
set_option linter.all false
set_option maxRecDepth 100000
set_option maxHeartbeats 4000000
namespace KL
open PySem L2 PySem.Spec PyProof.Rows
/-- a pick of a written list -/
theorem pick_lit {H0 H : Hp} {p l q : Addr} {t : Int} {xs : List V} {Q : VK} {E : XK} (D : DeckAt H0 H p l t) (t0 : 0 ≤ t) (t1 : t < 1048576) (hx0 : 0 < xs.length) (hx1 : xs.length < 1000) (nq : H q = none) (k : ∀ H' v, Go p l H0 H t H0 H' (t + 1) 1 → v ∈ xs → Q v H') :
    spPick [.ref p, .ref q] (upd H q (.lst xs)) Q E :=
  ⟨H0, p, l, t, q, xs, rfl, D.put0 nq, t0, t1, upd_same, (D.notP nq).1, (D.notP nq).2, hx0, hx1, fun H' i v g hv => k H' v ((((Go.refl D).put0 nq).trans g).more (by omega)) (List.mem_of_getElem? hv)⟩
/-- words of drawn marks -/
def Wd (n : Nat) (al w : List Str) : Prop := w.length = n ∧ ∀ y ∈ w, y ∈ al
theorem Wd.zero {al : List Str} : Wd 0 al [] := ⟨rfl, fun _ h => nomatch h⟩
theorem Wd.snoc {n : Nat} {al w : List Str} {y : Str} (h : Wd n al w) (hy : y ∈ al) : Wd (n + 1) al (w ++ [y]) := by
  refine ⟨by simp [h.1], fun z hz => ?_⟩
  rcases List.mem_append.mp hz with q | q
  · exact h.2 z q
  · rw [List.mem_singleton.mp q]
    exact hy
def WdD (al : List Str) (n : Nat) (ds : List PyData) : Prop := ∃ w, ds = w.map .str ∧ Wd n al w
theorem WdD.zero {al : List Str} : WdD al 0 [] := ⟨[], rfl, Wd.zero⟩
theorem WdD.snoc {n : Nat} {al : List Str} {ds : List PyData} {y : Str} (h : WdD al n ds) (hy : y ∈ al) : WdD al (n + 1) (ds ++ [.str y]) := by
  obtain ⟨w, rfl, h⟩ := h
  exact ⟨w ++ [y], by simp, h.snoc hy⟩
/-- the order of moves -/
def Mv.Lt (a b : Mv) : Prop := a.s < b.s ∨ (a.s = b.s ∧ a.m.cps.toList < b.m.cps.toList)
/-- a drawn move: its state, its mark, its word, its next state -/
structure MvOk (size : Int) (ks : List Str) (x : Mv) : Prop where
  s0 : 0 ≤ x.s
  s1 : x.s < size
  m : x.m ∈ ks
  w : x.w.length ≤ 2
  ws : ∀ y ∈ x.w, y ∈ (["x", "y"] : List Str)
  t0 : 0 ≤ x.t
  t1 : x.t < size
structure Lines (size : Int) (ks : List Str) (i j : Nat) (mv : List Mv) : Prop where
  lt : mv.Pairwise Mv.Lt
  all : ∀ x ∈ mv, MvOk size ks x ∧ (x.s < i ∨ (x.s = i ∧ x.m ∈ ks.take j))
  len : mv.length ≤ 2 * i + j
def Rise (ks : List Str) : Prop := ks.Pairwise fun a b => a.cps.toList < b.cps.toList
theorem Rise.at {ks : List Str} (h : Rise ks) {j : Nat} {y z : Str} (hy : ks[j]? = some y) (hz : z ∈ ks.take j) : z.cps.toList < y.cps.toList := by
  obtain ⟨i, hi⟩ := List.mem_iff_getElem?.mp hz
  rw [List.getElem?_take] at hi
  split at hi
  · rename_i lt
    obtain ⟨h1, e1⟩ := List.getElem?_eq_some_iff.mp hi
    obtain ⟨h2, e2⟩ := List.getElem?_eq_some_iff.mp hy
    rw [← e1, ← e2]
    exact List.pairwise_iff_getElem.mp h i j h1 h2 lt
  · cases hi
theorem Lines.zero {size : Int} {ks : List Str} : Lines size ks 0 0 [] := ⟨.nil, fun _ h => (nomatch h), Nat.le_refl _⟩
theorem Lines.skip {size : Int} {ks : List Str} {i j : Nat} {mv : List Mv} (h : Lines size ks i j mv) : Lines size ks i (j + 1) mv :=
  ⟨h.lt, fun x hx => ⟨(h.all x hx).1, (h.all x hx).2.imp id fun z => ⟨z.1, (List.take_subset_take_left ks (Nat.le_succ j)) z.2⟩⟩, by have := h.len; omega⟩
theorem Lines.snoc {size : Int} {ks : List Str} {i j : Nat} {mv : List Mv} {x : Mv} {y : Str} (h : Lines size ks i j mv) (r : Rise ks) (hy : ks[j]? = some y) (e1 : x.s = i) (e2 : x.m = y) (ok : MvOk size ks x) : Lines size ks i (j + 1) (mv ++ [x]) := by
  have hs := h.skip
  refine ⟨List.pairwise_append.mpr ⟨h.lt, List.pairwise_singleton _ _, fun a ha b hb => ?_⟩, fun z hz => ?_, by have := h.len; simp; omega⟩
  · rw [List.mem_singleton.mp hb]
    rcases (h.all a ha).2 with q | ⟨q1, q2⟩
    · left
      rw [e1]
      exact q
    · right
      rw [e1, e2]
      exact ⟨q1, r.at hy q2⟩
  · rcases List.mem_append.mp hz with q | q
    · exact hs.all z q
    · rw [List.mem_singleton.mp q]
      refine ⟨ok, .inr ⟨e1, ?_⟩⟩
      rw [e2, List.take_add_one, hy]
      simp
theorem Lines.up {size : Int} {ks : List Str} {i : Nat} {mv : List Mv} (h : Lines size ks i ks.length mv) (hk : ks.length ≤ 2) : Lines size ks (i + 1) 0 mv :=
  ⟨h.lt, fun x hx => ⟨(h.all x hx).1, .inl (by rcases (h.all x hx).2 with q | ⟨q, _⟩ <;> omega)⟩, by have := h.len; omega⟩
/-! ### sorted lines are sorted -/
theorem alike_strs : ∀ xs ys : List Str, PySem.W.alikeAll (xs.map .str) (ys.map .str) = true
  | [], _ => by simp [PySem.W.alikeAll]
  | _ :: _, [] => by simp [PySem.W.alikeAll]
  | x :: xs, y :: ys => by
    show PySem.W.alikeAll (.str x :: xs.map .str) (.str y :: ys.map .str) = true
    rw [PySem.W.alikeAll, alike_strs xs ys]
    simp [PySem.W.alike]
theorem alike_mv (x y : Mv) : PySem.W.alike (mvD x) (mvD y) = true := by
  have h := alike_strs x.w y.w
  simp [mvD, strsD, PySem.W.alike, PySem.W.alikeAll, h]
theorem lt_mv {x y : Mv} (h : x.Lt y) : PySem.W.dataLt (mvD y) (mvD x) = false := by
  unfold mvD
  rw [PySem.W.dataLt_tuple, PySem.W.dataLt_cons (by simp [PySem.W.alike])]
  rcases h with h | ⟨h1, h2⟩
  · have e : PyData.eqv (.int y.s) (.int x.s) = false := by
      simp [PyData.eqv]
      omega
    rw [e]
    simp only [Bool.false_eq_true, if_false]
    rw [PySem.W.dataLt_int]
    exact decide_eq_false (by omega)
  · rw [if_pos (by simp [PyData.eqv, h1]), PySem.W.dataLt_cons (by simp [PySem.W.alike])]
    have ne : y.m ≠ x.m := fun e => by
      rw [e] at h2
      exact absurd h2 (List.lt_irrefl _)
    rw [if_neg (by simp [PyData.eqv]; exact ne), PySem.W.dataLt_str]
    exact decide_eq_false (fun z => absurd (List.lt_trans h2 z) (List.lt_irrefl _))
theorem sorted_mv {mv : List Mv} (h : mv.Pairwise Mv.Lt) : (mv.map mvD).mergeSort leD = mv.map mvD := by
  refine List.mergeSort_of_pairwise ?_
  rw [List.pairwise_map]
  refine h.imp fun {a b} q => ?_
  show (!PySem.W.dataLt (mvD b) (mvD a)) = true
  rw [lt_mv q]
  rfl
end KL
set_option Elab.async false
set_option linter.all false
set_option maxRecDepth 100000
set_option maxHeartbeats 4000000
namespace KL
open PySem L2 PySem.Spec PyProof.Rows
structure TxtG (mg : Str → Option Value) : Prop where
  d : TxtD mg
  range : mg "range" = none
  tuple : mg "tuple" = none
  sorted : mg "sorted" = none
  set : mg "set" = none
  dict : mg "dict" = none
  repr : mg "repr" = none
  enum : mg "enumerate" = none
def GoodK (ks : List Str) : Prop := Rise ks ∧ ks.length ≤ 2 ∧ ∀ y ∈ ks, PyData.strOk y = true
def spLines : Sp := fun vs H Q _ => ∃ (H0 : Hp) (p l kn : Addr) (t size : Int) (ks : List Str), vs = [.ref p, .int size, .ref kn] ∧ DeckAt H0 H p l t ∧ 0 ≤ t ∧ t < 1000000 ∧ 1 ≤ size ∧ size ≤ 4 ∧ H0 kn = some (.lst (ks.map V.str)) ∧ GoodK ks ∧
  ∀ H1 H' t' v (mv : List Mv), Go p l H0 H t H1 H' t' 40 → Dq H1 v (.tuple (mv.map mvD)) → mv.Pairwise Mv.Lt → (∀ x ∈ mv, MvOk size ks x) → mv.length ≤ 8 → Q v H'
/-- the list of found moves, in the midst -/
def Found (p l D : Addr) (Hs Hb : Hp) (t n : Int) (size : Int) (ks : List Str) (i j : Nat) (H : Hp) : Prop :=
  ∃ H0 t' ys mv, Go p l Hs Hb t H0 H t' n ∧ Own p l D Hb H0 H (.lst ys) ∧ DqAll H0 ys (mv.map mvD) ∧ Lines size ks i j mv
theorem lay_strs {al : List Str} (ok : ∀ y ∈ al, PyData.strOk y = true) : ∀ w : List Str, (∀ y ∈ w, y ∈ al) → PyData.canLayAll0 (w.map .str) = true ∧ PyData.depthAll (w.map PyData.str) = 0
  | [], _ => ⟨rfl, rfl⟩
  | x :: w, h => by
    obtain ⟨q1, q2⟩ := lay_strs ok w fun y hy => h y (List.mem_cons_of_mem _ hy)
    refine ⟨?_, ?_⟩
    · show (PyData.strOk x && PyData.canLayAll0 (w.map .str)) = true
      rw [ok x (h x List.mem_cons_self), q1]
      rfl
    · show max 0 (PyData.depthAll (w.map .str)) = 0
      rw [q2]
      rfl
theorem lay_mv {size : Int} {ks : List Str} (ok : ∀ y ∈ ks, PyData.strOk y = true) : ∀ mv : List Mv, (∀ x ∈ mv, MvOk size ks x) → PyData.canLayAll0 (mv.map mvD) = true ∧ PyData.depthAll (mv.map mvD) ≤ 2
  | [], _ => ⟨rfl, Nat.zero_le _⟩
  | x :: mv, h => by
    obtain ⟨q1, q2⟩ := lay_mv ok mv fun y hy => h y (List.mem_cons_of_mem _ hy)
    have hx := h x List.mem_cons_self
    obtain ⟨r1, r2⟩ := lay_strs (al := ["x", "y"]) (by decide +kernel) x.w hx.ws
    refine ⟨?_, ?_⟩
    · show ((true && (PyData.strOk x.m && (PyData.canLayAll0 (x.w.map .str) && (true && true)))) && PyData.canLayAll0 (mv.map mvD)) = true
      rw [ok x.m hx.m, r1, q1]
      rfl
    · show max (max 0 (max 0 (max (PyData.depthAll (x.w.map .str) + 1) (max 0 0))) + 1) (PyData.depthAll (mv.map mvD)) ≤ 2
      rw [r2]
      omega
section
variable {P : Program} {w : World} {K : PySem.W.Frag} {mg : Str → Option Value} {base : Heap}
abbrev nLines : List Str := ["_law_deck_here", "_law_size", "_law_kinds", "_law_found", "_law_here", "_law_kind", "_law_bits", "_law_k"]
theorem scLines : FnScope nLines ["_law_deck_here", "_law_size", "_law_kinds"] (defScope lLines) := ⟨rfl, rfl, rfl, by decide +kernel, rfl, by decide +kernel, by decide +kernel⟩
theorem ok_lines {f g1 g2 : Addr} {fd gd1 gd2 : FuncData} (F : Fun K "_law_lines" "_law_lines" lLines f fd) (T : TxtG mg) (G1 : FnOk P w K mg base CX0 1 g1 gd1 ["_law_deck_here", "_law_below"] spDraw) (c1 : Cal K mg "_law_draw" g1 gd1 ["_law_deck_here", "_law_below"])
    (G2 : FnOk P w K mg base CX0 2 g2 gd2 ["_law_deck_here", "_law_some"] spPick) (c2 : Cal K mg "_law_pick" g2 gd2 ["_law_deck_here", "_law_some"]) : FnOk P w K mg base CX0 3 f fd ["_law_deck_here", "_law_size", "_law_kinds"] spLines := by
  refine F.ok scLines (fun vs H Q E h => ?_) (fun cdv A outer s H vs Q E hr h => ?_)
  · obtain ⟨H0, p, l, kn, t, size, ks, rfl, _⟩ := h
    rfl
  · obtain ⟨Hs, p, l, kn, t, size, ks, rfl, D, t0, t1, s0, s1, hk, ⟨gr, gl, go⟩, k⟩ := h
    have hr1 : Room 1 _ := hr.mono (by decide)
    refine ⟨_, pss_cons (ps_set (i := 3) scLines.nd rfl (.inl rfl) (pe_lst pa_nil))
      (pss_cons (ps_for PassesOwn.never rfl (pi_range1 (by rfl) T.range (pa_cons (pv 1) pa_nil)) (pg_name (i := 4) scLines.nd rfl (.inl rfl))
        (pss_one (ps_for PassesOwn.never rfl (pi_list (pv 2)) (pg_name (i := 5) scLines.nd rfl (.inl rfl))
          (pss_one (ps_if (pt_cmpR op_gt (pe_call G1 hr1 (by rfl) c1.m c1.k c1.b .nil pass0 (pa_cons (pv 0) (pa_cons pe_int pa_nil))) pe_int (nomark _))
            (pss_cons (ps_set (i := 6) scLines.nd rfl (.inl rfl) (pe_tupleOf (by rfl) T.tuple (pe_lc (own := [("_law_k", 7)]) (g := gName 7) (tt := tYes) rfl scLines.nd (pi_range1 (by rfl) T.range (pa_cons (pe_call G2 hr (by rfl) c2.m c2.k c2.b .nil pass0 (pa_cons (pv 0) (pa_cons (pe_lst (pa_cons pe_int (pa_cons pe_int (pa_cons pe_int (pa_cons pe_int pa_nil))))) pa_nil))) pa_nil))
              (blkOk_by (N := nLines) (sc := defScope lLines) (by decide +kernel)) (fun _ _ _ _ _ => pg_name (i := 7) scLines.nd rfl (.inl rfl)) (fun _ _ _ _ _ => pts_nil)
              (fun _ _ _ _ _ => pe_call G2 hr (by rfl) c2.m c2.k c2.b .nil pass0 (pa_cons (pv 0) (pa_cons (pe_lst (pa_cons pe_str (pa_cons pe_str (pa_cons pe_str pa_nil)))) pa_nil))))))
            (pss_one (ps_expr (pe_bm PySem.F.plainAttrs_list PySem.F.slot_list_append PySem.F.type_list_append mt_append (pv 3) (pa_cons (pe_tup (pa_cons (pv 4) (pa_cons (pv 5) (pa_cons (pv 6) (pa_cons (pe_call G1 hr1 (by rfl) c1.m c1.k c1.b .nil pass0 (pa_cons (pv 0) (pa_cons (pv 1) pa_nil))) pa_nil))))) pa_nil))))) pss_nil)))))
      (pss_one (ps_ret (pe_tupleOf (by rfl) T.tuple (pe_callB (cr_sortedQ hr.units) (by rfl) T.sorted (by decide +kernel) (pa_cons (pv 3) pa_nil)))))), ?_⟩
    have kp : kn ≠ p ∧ kn ≠ l := ⟨ne_of_none hk D.p0, ne_of_none hk D.l0⟩
    refine ⟨Nat.zero_le _, fun L nL => ?_⟩
    have start : Found p l L Hs H t 0 size ks 0 0 (upd H L (.lst [])) := ⟨Hs, t, [], [], ((Go.refl D).put0 nL), Own.start (Go.refl D) nL, .nil, Lines.zero⟩
    refine ⟨_, rfl, size, rfl, by omega, by omega, for_range (fun i σ H1 => Found p l L Hs H t (i * 10) size ks i 0 H1 ∧ ∃ o1 o2 o3 o4, σ = [some (.ref p), some (.int size), some (.ref kn), some (.ref L), o1, o2, o3, o4]) ⟨by simpa using start, _, _, _, _, rfl⟩ ?_ ?_⟩
    · rintro i σ H1 hi ⟨M, o1, o2, o3, o4, rfl⟩
      have hi4 : i < 4 := by omega
      have ik : (0 : Int) + (i : Int) < size := by omega
      have kat : ∀ {n : Int} {j : Nat} {H2 : Hp}, Found p l L Hs H t n size ks i j H2 → H2 kn = some (.lst (ks.map V.str)) := fun {n j H2} M => by
        obtain ⟨H0, t', ys, mv, g, _⟩ := M
        exact g.f _ _ kp.1 kp.2 (D.s _ _ hk)
      refine ⟨_, rfl, kn, rfl, ⟨_, SqL.of (kat M)⟩, for_list (K := K) (a := kn) (xs := ks.map V.str) (fun j σ H2 => Found p l L Hs H t (i * 10 + j * 5) size ks i j H2 ∧ ∃ o2 o3 o4, σ = [some (.ref p), some (.int size), some (.ref kn), some (.ref L), some (.int (0 + (i : Int))), o2, o3, o4]) ⟨by simpa using M, _, _, _, rfl⟩ (fun j σ H2 _ M => SqL.of (kat M.1)) ?_ ?_⟩
      · rintro j y σ H2 hy ⟨⟨H0, t', ys, mv, g, w, q, hL⟩, o2, o3, o4, rfl⟩
        obtain ⟨m, hm, rfl⟩ : ∃ m, ks[j]? = some m ∧ V.str m = y := by
          rw [List.getElem?_map] at hy
          cases ex : ks[j]? with
          | none =>
            rw [ex] at hy
            cases hy
          | some x =>
            rw [ex] at hy
            exact ⟨x, rfl, Option.some.inj hy⟩
        have hj : j < 2 := Nat.lt_of_lt_of_le (List.getElem?_eq_some_iff.mp hm).1 gl
        have gt := g.t1
        have gt0 := g.t0
        refine ⟨_, rfl, H0, p, l, t', 3, rfl, g.d, by omega, by omega, by omega, by omega, fun H4 r g4 r0 r1 => ⟨_, _, rfl, rfl, _, rfl, ?_⟩⟩
        by_cases e : 0 < r
        · refine iteYes (decide_eq_true e) ?_
          have g5 := g.trans g4
          have w5 := w.go g4
          have gt5 := g5.t1
          refine ⟨_, rfl, (by show 4 ≤ sizeLine; decide), fun c nc => pick_lit (E := E0) g5.d (by omega) (by omega) (by decide) (by decide) nc fun H6 v g6 hv => ?_⟩
          obtain ⟨n, rfl, n0, n2⟩ : ∃ n : Int, v = .int n ∧ 0 ≤ n ∧ n ≤ 2 := by
            simp only [List.mem_cons, List.not_mem_nil, or_false] at hv
            rcases hv with rfl | rfl | rfl | rfl
            · exact ⟨0, rfl, by decide, by decide⟩
            · exact ⟨1, rfl, by decide, by decide⟩
            · exact ⟨1, rfl, by decide, by decide⟩
            · exact ⟨2, rfl, by decide, by decide⟩
          refine ⟨n, rfl, by omega, by omega, fun B nB => ?_⟩
          have g7 := g5.trans g6
          have w7 := w5.go g6
          refine lc_range (fun i H3 => Making p l B H0 H6 (t' + 1 + 1) 1 (WdD ["x", "y"]) i H3) (Making.start g7.d nB WdD.zero) ?_ ?_
          · rintro i' H3 hi' ⟨H02, t2, ys', ds', g3, w3, q3, hP⟩
            have g3t := g3.t1
            have g3t0 := g3.t0
            refine ⟨rfl, _, rfl, (by show 3 ≤ sizeLine; decide), fun c nc => pick_lit (E := E0) g3.d (by omega) (by omega) (by decide) (by decide) nc fun H5 v g4 hv => ?_⟩
            obtain ⟨y, rfl, hy⟩ : ∃ y : Str, v = .str y ∧ y ∈ (["x", "y"] : List Str) := by
              simp only [List.mem_cons, List.not_mem_nil, or_false] at hv
              rcases hv with rfl | rfl | rfl
              · exact ⟨_, rfl, by simp⟩
              · exact ⟨_, rfl, by simp⟩
              · exact ⟨_, rfl, by simp⟩
            refine Making.turn g3 w3 q3 g4 (.str y) ?_ (hP.snoc hy)
            obtain ⟨w, rfl, hw, _⟩ := hP
            rw [List.length_map]
            omega
          · rintro H3 ⟨H02, t2, ys', ds', g3, w3, q3, wd, rfl, hw, hws⟩
            refine .inl ⟨B, ys', rfl, SqL.of w3.h, fun b nb => ?_⟩
            have g4 := g3.new (o := .tup ys') nb
            have d4 := dq_new (g3.d.s.free nb) q3
            have g8 := g7.trans g4
            have w8 := w7.go g4
            have gt8 := g8.t1
            have gt80 := g8.t0
            have q8 := DqAll.same (g4.s) _ _ q
            revert g8 w8 d4 q8
            generalize upd H3 b (.tup ys') = H8
            generalize upd H02 b (.tup ys') = H08
            intro d4 g8 w8 q8
            refine ⟨_, rfl, .inl ⟨rfl, _, SqL.of w8.h⟩, _, rfl, _, rfl, _, rfl, _, rfl, _, rfl, H08, p, l, t2, size, rfl, g8.d, by omega, by omega, by omega, by omega, fun H9 r9 g9 r90 r91 => ⟨(by show 4 ≤ sizeLine; decide), fun tp ntp => ?_⟩⟩
            have w9 := w8.go g9
            have ntp0 := g9.d.s.free ntp
            have wA := w9.new (ob := .tup [.int (0 + (i : Int)), .str m, .ref b, .int r9]) ntp
            have gA := (g8.trans g9).new (o := .tup [.int (0 + (i : Int)), .str m, .ref b, .int r9]) ntp
            have S0 := same_new (o := .tup [.int (0 + (i : Int)), .str m, .ref b, .int r9]) ntp0
            have qA := DqAll.same S0 _ _ q8
            have hx : Dq (upd H08 tp (.tup [.int (0 + (i : Int)), .str m, .ref b, .int r9])) (.ref tp) (mvD ⟨0 + (i : Int), m, wd, r9⟩) :=
              .tup upd_same (.cons (.int _) (.cons (.str _) (.cons (Dq.same S0 _ _ d4) (.cons (.int _) .nil))))
            have mem : m ∈ ks := List.mem_of_getElem? hm
            refine ⟨L, _, _, rfl, rfl, wA.h, ?_, ⟨_, _, _, mv ++ [⟨0 + (i : Int), m, wd, r9⟩], (gA.more (by omega)).setO wA, wA.set, ?_, hL.snoc gr hm (by show (0 : Int) + (i : Int) = i; omega) rfl ⟨by show 0 ≤ (0 : Int) + (i : Int); omega, by show (0 : Int) + (i : Int) < size; omega, mem, by rw [hw]; omega, hws, r90, r91⟩⟩, _, _, _, rfl⟩
            · have := hL.len
              rw [q.len, List.length_map, sizeLine_eq]
              omega
            · rw [List.map_append]
              exact qA.snoc hx
        · refine iteNo (decide_eq_false e) ?_
          exact ⟨⟨H0, t' + 1, ys, mv, (g.trans g4).more (by omega), w.go g4, q, hL.skip⟩, _, _, _, rfl⟩
      · rintro σ H2 ⟨⟨H0, t', ys, mv, g, w, q, hL⟩, o2, o3, o4, rfl⟩
        rw [List.length_map] at g hL
        exact ⟨⟨H0, t', ys, mv, g.more (by omega), w, q, hL.up gl⟩, _, _, _, _, rfl⟩
    · rintro σ H1 ⟨⟨H0, t', ys, mv, g, w, q, hL⟩, o1, o2, o3, o4, rfl⟩
      have all : ∀ x ∈ mv, MvOk size ks x := fun x hx => (hL.all x hx).1
      have oks : ∀ y ∈ ks, PyData.strOk y = true := go
      obtain ⟨l1, l2⟩ := lay_mv oks mv all
      refine ⟨_, rfl, H0, L, ys, mv.map mvD, rfl, SqL.of w.h, g.d.s, q, l1, PySem.W.AllAlike.of alike_mv, PySem.W.Sortable.tuples fun x => ⟨_, _, rfl⟩, Nat.le_trans l2 (by decide), fun zs e qz ne => ?_⟩
      rw [sorted_mv hL.lt] at qz
      have g2 := g.put0 (o := .lst zs) ne
      refine .inl ⟨e, zs, rfl, SqL.of upd_same, fun b nb => ?_⟩
      refine k _ _ _ _ mv ((g2.new (o := .tup zs) nb).more (by omega)) (dq_new (g2.d.s.free nb) qz) hL.lt all (by have := hL.len; omega)
end
end KL
set_option Elab.async false
set_option linter.all false
set_option maxRecDepth 100000
set_option maxHeartbeats 4000000
namespace KL
open PySem L2 PySem.Spec PyProof.Rows
abbrev xy : List Str := ["x", "y"]
/-- a drawn end -/
structure EnOk (size : Int) (e : Int × List Str) : Prop where
  s0 : 0 ≤ e.1
  s1 : e.1 < size
  w : e.2.length ≤ 2
  ws : ∀ y ∈ e.2, y ∈ xy
structure Stops (size : Int) (i : Nat) (en : List (Int × List Str)) : Prop where
  lt : en.Pairwise fun a b => a.1 < b.1
  all : ∀ e ∈ en, EnOk size e ∧ e.1 < i
  len : en.length ≤ i
theorem Stops.zero {size : Int} : Stops size 0 [] := ⟨.nil, fun _ h => (nomatch h), Nat.le_refl _⟩
theorem Stops.skip {size : Int} {i : Nat} {en : List (Int × List Str)} (h : Stops size i en) : Stops size (i + 1) en :=
  ⟨h.lt, fun e he => ⟨(h.all e he).1, by have := (h.all e he).2; omega⟩, by have := h.len; omega⟩
theorem Stops.snoc {size : Int} {i : Nat} {en : List (Int × List Str)} {e : Int × List Str} (h : Stops size i en) (e1 : e.1 = i) (ok : EnOk size e) : Stops size (i + 1) (en ++ [e]) := by
  refine ⟨List.pairwise_append.mpr ⟨h.lt, List.pairwise_singleton _ _, fun a ha b hb => ?_⟩, fun z hz => ?_, by have := h.len; simp; omega⟩
  · rw [List.mem_singleton.mp hb, e1]
    exact (h.all a ha).2
  · rcases List.mem_append.mp hz with q | q
    · exact h.skip.all z q
    · rw [List.mem_singleton.mp q]
      exact ⟨ok, by omega⟩
/-- the marks of a drawn reader -/
def kinds3 : List (List Str) := [["a", "b"], ["x", "y"], ["a"]]
/-- a drawn reader -/
structure Drawn (r : Rdr) (ks : List Str) : Prop where
  k : ks ∈ kinds3
  n1 : 1 ≤ r.n
  n4 : r.n ≤ 4
  f : r.first.length ≤ 1
  fs : ∀ y ∈ r.first, y ∈ xy
  lt : r.mv.Pairwise Mv.Lt
  mv : ∀ x ∈ r.mv, MvOk r.n ks x
  ml : r.mv.length ≤ 8
  et : r.en.Pairwise fun a b => a.1 < b.1
  en : ∀ e ∈ r.en, EnOk r.n e
  el : r.en.length ≤ 4
def partsD (r : Rdr) : PyData := .tuple [.int r.n, strsD r.first, mvsD r, ensD r]
theorem good_kinds {ks : List Str} (h : ks ∈ kinds3) : GoodK ks := by
  simp only [kinds3, List.mem_cons, List.not_mem_nil, or_false] at h
  rcases h with rfl | rfl | rfl
  · exact ⟨.cons (by simp only [List.mem_cons, List.not_mem_nil, or_false]; rintro _ rfl; decide +kernel) (.cons (fun _ h => (nomatch h)) .nil), by decide, by decide +kernel⟩
  · exact ⟨.cons (by simp only [List.mem_cons, List.not_mem_nil, or_false]; rintro _ rfl; decide +kernel) (.cons (fun _ h => (nomatch h)) .nil), by decide, by decide +kernel⟩
  · exact ⟨.cons (fun _ h => (nomatch h)) .nil, by decide, by decide +kernel⟩
def spScribe : Sp := fun vs H Q _ => ∃ (H0 : Hp) (p l : Addr) (t wide : Int), vs = [.ref p, .int wide] ∧ DeckAt H0 H p l t ∧ 0 ≤ t ∧ t < 900000 ∧ 1 ≤ wide ∧ wide ≤ 4 ∧
  ∀ H1 H' t' v r ks, Go p l H0 H t H1 H' t' 100 → Dq H1 v (partsD r) → Drawn r ks → Q v H'
section
variable {P : Program} {w : World} {K : PySem.W.Frag} {mg : Str → Option Value} {base : Heap}
abbrev nScribe : List Str := ["_law_deck_here", "_law_wide", "_law_size", "_law_kinds", "_law_head", "_law_stops", "_law_here", "_law_many", "_law_k"]
theorem scScribe : FnScope nScribe ["_law_deck_here", "_law_wide"] (defScope lScribe) := ⟨rfl, rfl, rfl, by decide +kernel, rfl, by decide +kernel, by decide +kernel⟩
theorem ok_scribe {f g1 g2 g3 : Addr} {fd gd1 gd2 gd3 : FuncData} (F : Fun K "_law_scribe" "_law_scribe" lScribe f fd) (T : TxtG mg) (G1 : FnOk P w K mg base CX0 1 g1 gd1 ["_law_deck_here", "_law_below"] spDraw) (c1 : Cal K mg "_law_draw" g1 gd1 ["_law_deck_here", "_law_below"])
    (G2 : FnOk P w K mg base CX0 2 g2 gd2 ["_law_deck_here", "_law_some"] spPick) (c2 : Cal K mg "_law_pick" g2 gd2 ["_law_deck_here", "_law_some"])
    (G3 : FnOk P w K mg base CX0 3 g3 gd3 ["_law_deck_here", "_law_size", "_law_kinds"] spLines) (c3 : Cal K mg "_law_lines" g3 gd3 ["_law_deck_here", "_law_size", "_law_kinds"]) : FnOk P w K mg base CX0 4 f fd ["_law_deck_here", "_law_wide"] spScribe := by
  refine F.ok scScribe (fun vs H Q E h => ?_) (fun cdv A outer s H vs Q E hr h => ?_)
  · obtain ⟨H0, p, l, t, wide, rfl, _⟩ := h
    rfl
  · obtain ⟨Hs, p, l, t, wide, rfl, D, t0, t1, w1, w4, k⟩ := h
    have hr1 : Room 1 _ := hr.mono (by decide)
    have hr2 : Room 2 _ := hr.mono (by decide)
    refine ⟨_, pss_cons (ps_par (i := 2) (j := 3) (by rfl) scScribe.nd rfl rfl (by decide) rfl rfl (pa_cons (pe_op op_add pe_int (pe_call G1 hr1 (by rfl) c1.m c1.k c1.b .nil pass0 (pa_cons (pv 0) (pa_cons (pv 1) pa_nil))))
        (pa_cons (pe_call G2 hr2 (by rfl) c2.m c2.k c2.b .nil pass0 (pa_cons (pv 0) (pa_cons (pe_lst (pa_cons (pe_lst (pa_cons pe_str (pa_cons pe_str pa_nil))) (pa_cons (pe_lst (pa_cons pe_str (pa_cons pe_str pa_nil))) (pa_cons (pe_lst (pa_cons pe_str (pa_cons pe_str pa_nil))) (pa_cons (pe_lst (pa_cons pe_str pa_nil)) pa_nil))))) pa_nil))) pa_nil)) (by rfl))
      (pss_cons (ps_set (i := 4) scScribe.nd rfl (.inl rfl) (pe_tupleOf (by rfl) T.tuple (pe_lc (own := [("_law_k", 8)]) (g := gName 8) (tt := tYes) rfl scScribe.nd (pi_range1 (by rfl) T.range (pa_cons (pe_call G2 hr2 (by rfl) c2.m c2.k c2.b .nil pass0 (pa_cons (pv 0) (pa_cons (pe_lst (pa_cons pe_int (pa_cons pe_int (pa_cons pe_int pa_nil)))) pa_nil))) pa_nil))
          (blkOk_by (N := nScribe) (sc := defScope lScribe) (by decide +kernel)) (fun _ _ _ _ _ => pg_name (i := 8) scScribe.nd rfl (.inl rfl)) (fun _ _ _ _ _ => pts_nil)
          (fun _ _ _ _ _ => pe_call G2 hr2 (by rfl) c2.m c2.k c2.b .nil pass0 (pa_cons (pv 0) (pa_cons (pe_lst (pa_cons pe_str (pa_cons pe_str pa_nil))) pa_nil))))))
      (pss_cons (ps_set (i := 5) scScribe.nd rfl (.inl rfl) (pe_lst pa_nil))
      (pss_cons (ps_for PassesOwn.never rfl (pi_range1 (by rfl) T.range (pa_cons (pv 2) pa_nil)) (pg_name (i := 6) scScribe.nd rfl (.inl rfl))
        (pss_one (ps_if (pt_cmpR op_eq (pe_call G1 hr1 (by rfl) c1.m c1.k c1.b .nil pass0 (pa_cons (pv 0) (pa_cons pe_int pa_nil))) pe_int (nomark _))
          (pss_cons (ps_set (i := 7) scScribe.nd rfl (.inl rfl) (pe_call G2 hr2 (by rfl) c2.m c2.k c2.b .nil pass0 (pa_cons (pv 0) (pa_cons (pe_lst (pa_cons pe_int (pa_cons pe_int (pa_cons pe_int (pa_cons pe_int pa_nil))))) pa_nil))))
          (pss_one (ps_expr (pe_bm PySem.F.plainAttrs_list PySem.F.slot_list_append PySem.F.type_list_append mt_append (pv 5) (pa_cons (pe_tup (pa_cons (pv 6) (pa_cons (pe_tupleOf (by rfl) T.tuple (pe_lc (own := [("_law_k", 8)]) (g := gName 8) (tt := tYes) rfl scScribe.nd (pi_range1 (by rfl) T.range (pa_cons (pv 7) pa_nil))
            (blkOk_by (N := nScribe) (sc := defScope lScribe) (by decide +kernel)) (fun _ _ _ _ _ => pg_name (i := 8) scScribe.nd rfl (.inl rfl)) (fun _ _ _ _ _ => pts_nil)
            (fun _ _ _ _ _ => pe_call G2 hr2 (by rfl) c2.m c2.k c2.b .nil pass0 (pa_cons (pv 0) (pa_cons (pe_lst (pa_cons pe_str (pa_cons pe_str (pa_cons pe_str pa_nil)))) pa_nil))))) pa_nil))) pa_nil))))) pss_nil)))
      (pss_one (ps_ret (pe_tup (pa_cons (pv 2) (pa_cons (pv 4) (pa_cons (pe_call G3 hr (by rfl) c3.m c3.k c3.b .nil pass0 (pa_cons (pv 0) (pa_cons (pv 2) (pa_cons (pv 3) pa_nil)))) (pa_cons (pe_tupleOf (by rfl) T.tuple (pv 5)) pa_nil)))))))))), ?_⟩
    refine ⟨_, rfl, _, rfl, Hs, p, l, t, wide, rfl, D, t0, by omega, by omega, by omega, fun H1 a ga a0 a1 => ?_⟩
    refine ⟨_, _, rfl, rfl, _, rfl, (by show 2 ≤ sizeLine; decide), fun q1 n1 => ⟨(by show 2 ≤ sizeLine; decide), fun q2 n2 => ⟨(by show 2 ≤ sizeLine; decide), fun q3 n3 => ⟨(by show 1 ≤ sizeLine; decide), fun q4 n4 => ⟨(by show 4 ≤ sizeLine; decide), fun q nq => ?_⟩⟩⟩⟩⟩
    have b1 := ga.new (o := .lst [V.str "a", V.str "b"]) n1
    have b2 := b1.new (o := .lst [V.str "x", V.str "y"]) n2
    have b3 := b2.new (o := .lst [V.str "x", V.str "y"]) n3
    have b4 := b3.new (o := .lst [V.str "a"]) n4
    have S2 := same_new (o := .lst [V.str "x", V.str "y"]) (b1.d.s.free n2)
    have S3 := same_new (o := .lst [V.str "x", V.str "y"]) (b2.d.s.free n3)
    have S4 := same_new (o := .lst [V.str "a"]) (b3.d.s.free n4)
    have e1 := S4 _ _ (S3 _ _ (S2 _ _ (upd_same (H := Hs) (a := q1) (o := .lst [V.str "a", V.str "b"]))))
    have e2 := S4 _ _ (S3 _ _ (upd_same (H := upd Hs q1 (.lst [V.str "a", V.str "b"])) (a := q2) (o := .lst [V.str "x", V.str "y"])))
    have e3 := S4 _ _ (upd_same (H := upd (upd Hs q1 (.lst [V.str "a", V.str "b"])) q2 (.lst [V.str "x", V.str "y"])) (a := q3) (o := .lst [V.str "x", V.str "y"]))
    have e4 := upd_same (H := upd (upd (upd Hs q1 (.lst [V.str "a", V.str "b"])) q2 (.lst [V.str "x", V.str "y"])) q3 (.lst [V.str "x", V.str "y"])) (a := q4) (o := .lst [V.str "a"])
    revert b4 e1 e2 e3 e4 nq
    generalize upd (upd (upd (upd H1 q1 (.lst [V.str "a", V.str "b"])) q2 (.lst [V.str "x", V.str "y"])) q3 (.lst [V.str "x", V.str "y"])) q4 (.lst [V.str "a"]) = H2
    generalize upd (upd (upd (upd Hs q1 (.lst [V.str "a", V.str "b"])) q2 (.lst [V.str "x", V.str "y"])) q3 (.lst [V.str "x", V.str "y"])) q4 (.lst [V.str "a"]) = H02
    intro nq g e1 e2 e3 e4
    clear b1 b2 b3 S2 S3 S4 n1 n2 n3 n4
    refine pick_lit (E := E0) g.d (by omega) (by omega) (Nat.succ_pos 3) (by show 4 < 1000; decide) nq fun H3 v g3 hv => ?_
    obtain ⟨kn, ks, rfl, hks, hk⟩ : ∃ kn ks, v = .ref kn ∧ ks ∈ kinds3 ∧ H02 kn = some (.lst (ks.map V.str)) := by
      simp only [List.mem_cons, List.not_mem_nil, or_false] at hv
      rcases hv with rfl | rfl | rfl | rfl
      · exact ⟨q1, ["a", "b"], rfl, by simp [kinds3], e1⟩
      · exact ⟨q2, ["x", "y"], rfl, by simp [kinds3], e2⟩
      · exact ⟨q3, ["x", "y"], rfl, by simp [kinds3], e3⟩
      · exact ⟨q4, ["a"], rfl, by simp [kinds3], e4⟩
    clear e1 e2 e3 e4
    have g := g.trans g3
    have gt := g.t1
    have gt0 := g.t0
    refine ⟨_, _, rfl, ?_⟩
    refine ⟨_, rfl, (by show 3 ≤ sizeLine; decide), fun c nc => pick_lit (E := E0) g.d (by omega) (by omega) (by decide) (by decide) nc fun H6 v g6 hv => ?_⟩
    obtain ⟨n, rfl, n0, n2⟩ : ∃ n : Int, v = .int n ∧ 0 ≤ n ∧ n ≤ 1 := by
      simp only [List.mem_cons, List.not_mem_nil, or_false] at hv
      rcases hv with rfl | rfl | rfl
      · exact ⟨0, rfl, by decide, by decide⟩
      · exact ⟨0, rfl, by decide, by decide⟩
      · exact ⟨1, rfl, by decide, by decide⟩
    refine ⟨n, rfl, by omega, by omega, fun B nB => ?_⟩
    have g := g.trans g6
    have gt := g.t1
    have gt0 := g.t0
    refine lc_range (fun i H3 => Making p l B H02 H6 (t + 1 + 1 + 1) 1 (WdD xy) i H3) (Making.start g.d nB WdD.zero) ?_ ?_
    · rintro i' H3 hi' ⟨H02', t2, ys', ds', g3, w3, q3, hP⟩
      have g3t := g3.t1
      have g3t0 := g3.t0
      refine ⟨rfl, _, rfl, (by show 2 ≤ sizeLine; decide), fun c nc => pick_lit (E := E0) g3.d (by omega) (by omega) (by decide) (by decide) nc fun H5 v g4 hv => ?_⟩
      obtain ⟨y, rfl, hy⟩ : ∃ y : Str, v = .str y ∧ y ∈ xy := by
        simp only [List.mem_cons, List.not_mem_nil, or_false] at hv
        rcases hv with rfl | rfl
        · exact ⟨_, rfl, by simp [xy]⟩
        · exact ⟨_, rfl, by simp [xy]⟩
      refine Making.turn g3 w3 q3 g4 (.str y) ?_ (hP.snoc hy)
      obtain ⟨w, rfl, hw, _⟩ := hP
      rw [List.length_map]
      omega
    rintro H3 ⟨H03, t2, ys', ds', g3, w3, q3, wd, rfl, hw, hws⟩
    refine .inl ⟨B, ys', rfl, SqL.of w3.h, fun b nb => ?_⟩
    have g4 := g3.new (o := .tup ys') nb
    have d4 : Dq (upd H03 b (.tup ys')) (.ref b) (strsD wd) := dq_new (g3.d.s.free nb) q3
    have hk := g4.s _ _ hk
    have g := g.trans g4
    have gt := g.t1
    have gt0 := g.t0
    clear g4 q3 w3 nb g3
    revert g d4 hk
    generalize upd H3 b (.tup ys') = H4
    generalize upd H03 b (.tup ys') = H04
    intro d4 hk g
    refine ⟨Nat.zero_le _, fun L nL => ?_⟩
    have gL := g.put0 (o := .lst []) nL
    have wL := Own.start (o := .lst []) g nL
    refine ⟨_, rfl, 1 + a, rfl, by omega, by omega, for_range (fun i σ H' => (∃ H0 t' ys en, Go p l Hs H t H0 H' t' (4 + (i : Int) * 4) ∧ Own p l L H H0 H' (.lst ys) ∧ DqAll H0 ys (en.map enD) ∧ Stops (1 + a) i en ∧ Dq H0 (.ref b) (strsD wd) ∧ H0 kn = some (.lst (ks.map V.str))) ∧
      ∃ o1 o2 o3, σ = [some (.ref p), some (.int wide), some (.int (1 + a)), some (.ref kn), some (.ref b), some (.ref L), o1, o2, o3]) ⟨⟨H04, t2, [], [], gL.more (by omega), wL, .nil, Stops.zero, d4, hk⟩, _, _, _, rfl⟩ ?_ ?_⟩
    · clear gL wL g d4 hk gt gt0
      rintro i σ H1 hi ⟨⟨H0, t', ys, en, g, w, q, hS, db, hk⟩, o1, o2, o3, rfl⟩
      have gt := g.t1
      have gt0 := g.t0
      have hi4 : i < 4 := by omega
      refine ⟨_, rfl, H0, p, l, t', 2, rfl, g.d, by omega, by omega, by omega, by omega, fun H4 r g4 r0 r1 => ⟨rfl, _, rfl, ?_⟩⟩
      by_cases e : r = 0
      · refine iteYes (decide_eq_true (by rw [e])) ?_
        have g5 := g.trans g4
        have w5 := w.go g4
        have gt5 := g5.t1
        refine ⟨_, rfl, (by show 4 ≤ sizeLine; decide), fun c nc => pick_lit (E := E0) g5.d (by omega) (by omega) (by decide) (by decide) nc fun H6 v g6 hv => ?_⟩
        obtain ⟨n, rfl, n0, n2⟩ : ∃ n : Int, v = .int n ∧ 0 ≤ n ∧ n ≤ 2 := by
          simp only [List.mem_cons, List.not_mem_nil, or_false] at hv
          rcases hv with rfl | rfl | rfl | rfl
          · exact ⟨0, rfl, by decide, by decide⟩
          · exact ⟨0, rfl, by decide, by decide⟩
          · exact ⟨1, rfl, by decide, by decide⟩
          · exact ⟨2, rfl, by decide, by decide⟩
        have g7 := g5.trans g6
        have w7 := w5.go g6
        refine ⟨_, rfl, .inl ⟨rfl, _, SqL.of w7.h⟩, _, rfl, _, rfl, n, rfl, by omega, by omega, fun B nB => ?_⟩
        refine lc_range (fun i H3 => Making p l B H0 H6 (t' + 1 + 1) 1 (WdD xy) i H3) (Making.start g7.d nB WdD.zero) ?_ ?_
        · rintro i' H3 hi' ⟨H02, t2, ys', ds', g3, w3, q3, hP⟩
          have g3t := g3.t1
          have g3t0 := g3.t0
          refine ⟨rfl, _, rfl, (by show 3 ≤ sizeLine; decide), fun c nc => pick_lit (E := E0) g3.d (by omega) (by omega) (by decide) (by decide) nc fun H5 v g4 hv => ?_⟩
          obtain ⟨y, rfl, hy⟩ : ∃ y : Str, v = .str y ∧ y ∈ xy := by
            simp only [List.mem_cons, List.not_mem_nil, or_false] at hv
            rcases hv with rfl | rfl | rfl
            · exact ⟨_, rfl, by simp [xy]⟩
            · exact ⟨_, rfl, by simp [xy]⟩
            · exact ⟨_, rfl, by simp [xy]⟩
          refine Making.turn g3 w3 q3 g4 (.str y) ?_ (hP.snoc hy)
          obtain ⟨w, rfl, hw, _⟩ := hP
          rw [List.length_map]
          omega
        · rintro H3 ⟨H02, t2, ys', ds', g3, w3, q3, wd2, rfl, hw2, hws2⟩
          refine .inl ⟨B, ys', rfl, SqL.of w3.h, fun b2 nb2 => ⟨(by show 2 ≤ sizeLine; decide), fun tp ntp => ?_⟩⟩
          have g4 := g3.new (o := .tup ys') nb2
          have d4 := dq_new (g3.d.s.free nb2) q3
          have g8 := g7.trans g4
          have w8 := w7.go g4
          have q8 := DqAll.same g4.s _ _ q
          have db8 := Dq.same g4.s _ _ db
          have hk8 := g4.s _ _ hk
          have gt8 := g8.t1
          clear g4 q3 w3 g3 nb2
          revert g8 w8 d4 q8 db8 hk8 ntp
          generalize upd H3 b2 (.tup ys') = H8
          generalize upd H02 b2 (.tup ys') = H08
          intro ntp d4 g8 w8 q8 db8 hk8
          have n0' := g8.d.s.free ntp
          have wA := w8.new (ob := .tup [.int (0 + (i : Int)), .ref b2]) ntp
          have gA := g8.new (o := .tup [.int (0 + (i : Int)), .ref b2]) ntp
          have S0 := same_new (o := .tup [.int (0 + (i : Int)), .ref b2]) n0'
          have hx : Dq (upd H08 tp (.tup [.int (0 + (i : Int)), .ref b2])) (.ref tp) (enD (0 + (i : Int), wd2)) := .tup upd_same (.cons (.int _) (.cons (Dq.same S0 _ _ d4) .nil))
          refine ⟨L, _, _, rfl, rfl, wA.h, ?_, ⟨_, _, _, en ++ [(0 + (i : Int), wd2)], (gA.more (by omega)).setO wA, wA.set, ?_, hS.snoc (by show (0 : Int) + (i : Int) = i; omega) ⟨by show 0 ≤ (0 : Int) + (i : Int); omega, by show (0 : Int) + (i : Int) < 1 + a; omega, by show wd2.length ≤ 2; omega, hws2⟩, Dq.same S0 _ _ db8, S0 _ _ hk8⟩, _, _, _, rfl⟩
          · have := hS.len
            rw [q.len, List.length_map, sizeLine_eq]
            omega
          · rw [List.map_append]
            exact (DqAll.same S0 _ _ q8).snoc hx
      · refine iteNo (decide_eq_false fun z => e (by injection z)) ?_
        exact ⟨⟨H0, t' + 1, ys, en, (g.trans g4).more (by omega), w.go g4, q, hS.skip, db, hk⟩, _, _, _, rfl⟩
    · clear gL wL g d4 hk gt gt0
      rintro σ H1 ⟨⟨H0, t', ys, en, g, w, q, hS, db, hk⟩, o1, o2, o3, rfl⟩
      have gt := g.t1
      have gt0 := g.t0
      refine ⟨_, rfl, _, rfl, _, rfl, _, rfl, _, rfl, H0, p, l, kn, t', 1 + a, ks, rfl, g.d, by omega, by omega, by omega, by omega, hk, good_kinds hks, fun H2 H2' t2 vm mv g2 dm lt all ml => ⟨_, rfl, ?_⟩⟩
      have w2 := w.go g2
      refine .inl ⟨L, ys, rfl, SqL.of w2.h, fun e ne => ⟨(by show 4 ≤ sizeLine; decide), fun r nr => ?_⟩⟩
      have g3 := g2.new (o := .tup ys) ne
      have d3 := dq_new (g2.d.s.free ne) (DqAll.same g2.s _ _ q)
      have S3 := same_new (o := .tup ys) (g2.d.s.free ne)
      have g4 := g3.new (o := .tup [.int (1 + a), .ref b, vm, .ref e]) nr
      refine k _ _ _ _ ⟨1 + a, wd, mv, en⟩ ks ((g.trans g4).more (by omega)) (dq_new (g3.d.s.free nr) (.cons (.int _) (.cons (Dq.same g3.s _ _ db) (.cons (Dq.same S3 _ _ dm) (.cons d3 .nil))))) ?_
      exact ⟨hks, by show 1 ≤ 1 + a; omega, by show 1 + a ≤ 4; omega, by show wd.length ≤ 1; omega, hws, lt, all, ml, hS.lt, fun e he => (hS.all e he).1, by show en.length ≤ 4; have := hS.len; omega⟩
end
end KL
set_option Elab.async false
set_option linter.all false
set_option maxRecDepth 100000
set_option maxHeartbeats 4000000
namespace KL
open PySem L2 PySem.Spec PyProof.Rows
/-! ### drawn readers are right ones -/
theorem mark_in {al : List Str} (ok : ∀ y ∈ al, markD (.str y) = true) : ∀ w : List Str, (∀ y ∈ w, y ∈ al) → marksD (strsD w) = true
  | [], _ => rfl
  | x :: w, h => by
    have q := mark_in ok w fun y hy => h y (List.mem_cons_of_mem _ hy)
    have q : (w.map PyData.str).all markD = true := (Bool.and_eq_true_iff.mp q).2
    show (true && ((PyData.str x :: w.map .str).all markD)) = true
    rw [List.all_cons, ok x (h x List.mem_cons_self), q]
    rfl
theorem ok_in {al : List Str} (ok : ∀ y ∈ al, okS y = true ∧ y.length ≤ 1000) : ∀ w : List Str, (∀ y ∈ w, y ∈ al) → okAll (w.map .str) = true ∧ smAll (w.map .str) = true
  | [], _ => ⟨rfl, rfl⟩
  | x :: w, h => by
    obtain ⟨q1, q2⟩ := ok_in ok w fun y hy => h y (List.mem_cons_of_mem _ hy)
    obtain ⟨r1, r2⟩ := ok x (h x List.mem_cons_self)
    refine ⟨?_, ?_⟩
    · show (okS x && okAll (w.map .str)) = true
      rw [r1, q1]
      rfl
    · show (decide (x.length ≤ 1000) && smAll (w.map .str)) = true
      rw [decide_eq_true r2, q2]
      rfl
theorem xy_ok : ∀ y ∈ xy, okS y = true ∧ y.length ≤ 1000 := by decide +kernel
theorem xy_mark : ∀ y ∈ xy, markD (.str y) = true := by decide +kernel
theorem kinds_ok {ks : List Str} (h : ks ∈ kinds3) : (∀ y ∈ ks, okS y = true ∧ y.length ≤ 1000) ∧ ∀ y ∈ ks, markD (.str y) = true := by
  simp only [kinds3, List.mem_cons, List.not_mem_nil, or_false] at h
  rcases h with rfl | rfl | rfl <;> exact ⟨by decide +kernel, by decide +kernel⟩
theorem sm_words {w : List Str} (h : ∀ y ∈ w, y ∈ xy) (n : w.length ≤ 1000) : smB (strsD w) = true := by
  show (decide ((w.map PyData.str).length ≤ 1000) && smAll (w.map .str)) = true
  rw [List.length_map, decide_eq_true n, (ok_in xy_ok w h).2]
  rfl
theorem sm_small {i : Int} (h0 : 0 ≤ i) (h1 : i ≤ 1000) : smB (.int i) = true := by
  refine decide_eq_true ?_
  have : i.natAbs.log2 ≤ i.natAbs := Nat.log2_le_self _
  omega
theorem bet_true {lo hi i : Int} (h0 : lo ≤ i) (h1 : i ≤ hi) : betD lo hi (.int i) = true := by
  show (decide (lo ≤ i) && decide (i ≤ hi)) = true
  rw [decide_eq_true h0, decide_eq_true h1]
  rfl
theorem move_true {n : Int} {ks : List Str} {x : Mv} (hk : ks ∈ kinds3) (h : MvOk n ks x) : moveD n (mvD x) = true := by
  show (true && (betD 0 (n - 1) (.int x.s) && (markD (.str x.m) && (marksD (strsD x.w) && betD 0 (n - 1) (.int x.t))))) = true
  rw [bet_true h.s0 (by have := h.s1; omega), bet_true h.t0 (by have := h.t1; omega), (kinds_ok hk).2 _ h.m, mark_in xy_mark x.w h.ws]
  rfl
theorem mvs_all {n : Int} {ks : List Str} (hk : ks ∈ kinds3) (n4 : n ≤ 4) : ∀ mv : List Mv, (∀ x ∈ mv, MvOk n ks x) → (mv.map mvD).all (moveD n) = true ∧ okAll (mv.map mvD) = true ∧ smAll (mv.map mvD) = true
  | [], _ => ⟨rfl, rfl, rfl⟩
  | x :: mv, h => by
    obtain ⟨q1, q2, q3⟩ := mvs_all hk n4 mv fun y hy => h y (List.mem_cons_of_mem _ hy)
    have hx := h x List.mem_cons_self
    obtain ⟨o1, o2⟩ := (kinds_ok hk).1 _ hx.m
    obtain ⟨p1, p2⟩ := ok_in xy_ok x.w hx.ws
    have sw : smB (strsD x.w) = true := sm_words hx.ws (by have := hx.w; omega)
    refine ⟨?_, ?_, ?_⟩
    · rw [List.map_cons, List.all_cons, move_true hk hx, q1]
      rfl
    · show ((true && (okS x.m && (okAll (x.w.map .str) && (true && true)))) && okAll (mv.map mvD)) = true
      rw [o1, p1, q2]
      rfl
    · show ((decide ((4 : Nat) ≤ 1000) && (smB (.int x.s) && (decide (x.m.length ≤ 1000) && (smB (strsD x.w) && (smB (.int x.t) && true))))) && smAll (mv.map mvD)) = true
      rw [sm_small hx.s0 (by have := hx.s1; omega), sm_small hx.t0 (by have := hx.t1; omega), decide_eq_true o2, sw, q3]
      rfl
theorem lt_cut {x y : Mv} (h : x.Lt y) : ltD (cut2 (mvD x)) (cut2 (mvD y)) = true := by
  show (if PyData.eqv (.int x.s) (.int y.s) = true then (if PyData.eqv (.str x.m) (.str y.m) = true then false else decide (x.m.cps.toList < y.m.cps.toList)) else decide (x.s < y.s)) = true
  rcases h with h | ⟨h1, h2⟩
  · rw [if_neg (by simp [PyData.eqv]; omega)]
    exact decide_eq_true h
  · have ne : x.m ≠ y.m := fun e => by
      rw [e] at h2
      exact absurd h2 (List.lt_irrefl _)
    rw [if_pos (by simp [PyData.eqv, h1]), if_neg (by simp [PyData.eqv]; exact ne)]
    exact decide_eq_true h2
theorem asc_true {ds : List PyData} (h : ∀ i, i + 1 < ds.length → ltD (ds.getD i .none) (ds.getD (i + 1) .none) = true) : ascD ds = true := by
  unfold ascD ascTo
  rw [List.all_eq_true]
  intro b hb
  obtain ⟨i, hi, rfl⟩ := List.mem_map.mp hb
  have := List.mem_range.mp hi
  exact h i (by omega)
theorem getD_at {α : Type} {f : α → PyData} {xs : List α} {i : Nat} (h : i < xs.length) : (xs.map f).getD i .none = f xs[i] := by
  rw [List.getD_eq_getElem?_getD, List.getElem?_map, List.getElem?_eq_getElem h]
  rfl
theorem asc_mv {mv : List Mv} (h : mv.Pairwise Mv.Lt) : ascD ((mv.map mvD).map cut2) = true := by
  rw [List.map_map]
  refine asc_true fun i hi => ?_
  rw [List.length_map] at hi
  rw [getD_at (by omega), getD_at hi]
  exact lt_cut (List.pairwise_iff_getElem.mp h i (i + 1) (by omega) hi (Nat.lt_succ_self i))
theorem ens_all {n : Int} (n4 : n ≤ 4) : ∀ en : List (Int × List Str), (∀ e ∈ en, EnOk n e) → (en.map enD).all (endD n) = true ∧ (en.map enD).all (tupD 2 2) = true ∧ okAll (en.map enD) = true ∧ smAll (en.map enD) = true
  | [], _ => ⟨rfl, rfl, rfl, rfl⟩
  | e :: en, h => by
    obtain ⟨q1, q2, q3, q4⟩ := ens_all n4 en fun y hy => h y (List.mem_cons_of_mem _ hy)
    have he := h e List.mem_cons_self
    obtain ⟨p1, p2⟩ := ok_in xy_ok e.2 he.ws
    have sw : smB (strsD e.2) = true := sm_words he.ws (by have := he.w; omega)
    refine ⟨?_, ?_, ?_, ?_⟩
    · rw [List.map_cons, List.all_cons, q1, Bool.and_true]
      show (betD 0 (n - 1) (.int e.1) && marksD (strsD e.2)) = true
      rw [bet_true he.s0 (by have := he.s1; omega), mark_in xy_mark e.2 he.ws]
      rfl
    · rw [List.map_cons, List.all_cons, q2]
      rfl
    · show ((true && (okAll (e.2.map .str) && true)) && okAll (en.map enD)) = true
      rw [p1, q3]
      rfl
    · show ((decide ((2 : Nat) ≤ 1000) && (smB (.int e.1) && (smB (strsD e.2) && true))) && smAll (en.map enD)) = true
      rw [sm_small he.s0 (by have := he.s1; omega), sw, q4]
      rfl
theorem asc_en {en : List (Int × List Str)} (h : en.Pairwise fun a b => a.1 < b.1) : ascD ((en.map enD).map (itemD 0)) = true := by
  rw [List.map_map]
  refine asc_true fun i hi => ?_
  rw [List.length_map] at hi
  rw [getD_at (by omega), getD_at hi]
  exact decide_eq_true (List.pairwise_iff_getElem.mp h i (i + 1) (by omega) hi (Nat.lt_succ_self i))
theorem Drawn.right {r : Rdr} {ks : List Str} (h : Drawn r ks) : Right r := by
  obtain ⟨a1, a2, a3⟩ := mvs_all h.k h.n4 r.mv h.mv
  obtain ⟨b1, b2, b3, b4⟩ := ens_all h.n4 r.en h.en
  have n1 := h.n1
  have n4 := h.n4
  refine ⟨bet_true h.n1 (by omega), mark_in xy_mark r.first h.fs, ?_, ?_, ⟨sm_small (by omega) (by omega), sm_words h.fs (by have := h.f; omega), ?_, ?_⟩, a2, b3⟩
  · show (true && ((r.mv.map mvD).all (moveD r.n) && ascD ((r.mv.map mvD).map cut2))) = true
    rw [a1, asc_mv h.lt]
    rfl
  · show (true && ((r.en.map enD).all (tupD 2 2) && ((r.en.map enD).all (endD r.n) && ascD ((r.en.map enD).map (itemD 0))))) = true
    rw [b1, b2, asc_en h.et]
    rfl
  · show (decide ((r.mv.map mvD).length ≤ 1000) && smAll (r.mv.map mvD)) = true
    rw [List.length_map, decide_eq_true (by have := h.ml; omega), a3]
    rfl
  · show (decide ((r.en.map enD).length ≤ 1000) && smAll (r.en.map enD)) = true
    rw [List.length_map, decide_eq_true (by have := h.el; omega), b4]
    rfl
theorem last_mem {mv : List Mv} {i : Int} {m : Str} {x : Mv} (h : lastM mv i m = some x) : x ∈ mv := List.mem_reverse.mp (List.mem_of_find?_eq_some h)
theorem lastE_mem {en : List (Int × List Str)} {i : Int} {w : List Str} (h : lastE en i = some w) : ∃ e ∈ en, e.2 = w := by
  unfold lastE at h
  cases q : en.reverse.find? fun e => decide (e.1 = i) with
  | none =>
    rw [q] at h
    cases h
  | some e =>
    rw [q] at h
    exact ⟨e, List.mem_reverse.mp (List.mem_of_find?_eq_some q), Option.some.inj h⟩
theorem Drawn.short {r : Rdr} {ks : List Str} (h : Drawn r ks) : Short r := by
  refine ⟨by have := h.f; omega, fun i m x e => ?_, fun i w e => ?_⟩
  · have := (h.mv x (last_mem e)).w
    omega
  · obtain ⟨y, hy, rfl⟩ := lastE_mem e
    have := (h.en y hy).w
    omega
end KL
set_option Elab.async false
set_option linter.all false
set_option maxRecDepth 100000
set_option maxHeartbeats 4000000
namespace KL
open PySem L2 PySem.Spec PyProof.Rows
structure TxtC (K : PySem.W.Frag) (mg : Str → Option Value) (C fI : Addr) (fdI : FuncData) : Prop where
  mkr : Mk K C fI
  m : mg "Reader" = some (.ref C)
  b : L2.Binds K fdI ["self", "states", "first", "moves", "ends"] []
def spLMade (C : Addr) : Sp := fun vs H Q _ => ∃ (H0 : Hp) (v : V) (r : Rdr), vs = [v] ∧ Same H0 H ∧ Dq H0 v (partsD r) ∧ Right r ∧ ∀ H' Hk x v1 v2 v3, Same H0 Hk → Same Hk H' → Same H H' → (∀ c, Hk c ≠ none → H0 c ≠ none ∨ H c = none) → RdrAt C Hk x r v1 v2 v3 → Q (.ref x) H'
def spLTold (C : Addr) : Sp := fun vs H Q _ => ∃ (x : Addr) (r : Rdr) (v1 v2 v3 : V), vs = [.ref x] ∧ RdrAt C H x r v1 v2 v3 ∧ ∀ H' v, Same H H' → Dq H' v (partsD r) → Q v H'
section
variable {P : Program} {w : World} {K : PySem.W.Frag} {mg : Str → Option Value} {base : Heap} {C : Addr}
theorem scLMade : FnScope ["_law_parts"] ["_law_parts"] (defScope lMade) := ⟨rfl, rfl, rfl, by decide +kernel, rfl, by decide +kernel, by decide +kernel⟩
theorem ok_lmade {f g : Addr} {fd gd : FuncData} (F : Fun K "_law_made" "_law_made" lMade f fd) (TC : TxtC K mg C g gd) (G : FnOk P w K mg base CX0 5 g gd ["self", "states", "first", "moves", "ends"] (spRInit C)) : FnOk P w K mg base CX0 7 f fd ["_law_parts"] (spLMade C) := by
  refine F.ok scLMade (fun vs H Q E h => ?_) (fun cdv A outer s H vs Q E hr h => ?_)
  · obtain ⟨H0, v, r, rfl, _⟩ := h
    rfl
  · obtain ⟨H0, v, r, rfl, S0, hd, R, k⟩ := h
    refine ⟨_, pss_one (ps_ret (pe_make TC.mkr G hr (by rfl) TC.m TC.b .nil pass0 (pa_cons (pe_ix ix_tup (pv 0) pe_int (fun _ _ => rfl)) (pa_cons (pe_ix ix_tup (pv 0) pe_int (fun _ _ => rfl)) (pa_cons (pe_ix ix_tup (pv 0) pe_int (fun _ _ => rfl)) (pa_cons (pe_ix ix_tup (pv 0) pe_int (fun _ _ => rfl)) pa_nil)))))), ?_⟩
    cases hd with
    | @tup a xs _ e hda =>
      cases hda with
      | @cons y0 _ _ _ q0 hda =>
      cases hda with
      | @cons y1 _ _ _ q1 hda =>
      cases hda with
      | @cons y2 _ _ _ q2 hda =>
      cases hda with
      | @cons y3 _ _ _ q3 hda =>
      cases hda
      cases q0
      refine ⟨_, rfl, a, _, _, _, rfl, rfl, SqT.of (S0 _ _ e), rfl, _, rfl, a, _, _, y1, rfl, rfl, SqT.of (S0 _ _ e), rfl, _, rfl, a, _, _, y2, rfl, rfl, SqT.of (S0 _ _ e), rfl, _, rfl, a, _, _, y3, rfl, rfl, SqT.of (S0 _ _ e), rfl, fun x dx hx hdx ne => ?_⟩
      have S1 := same_new (o := .own x) hdx
      have nx : upd H dx (.own x) x = none := by
        rw [upd_ne ne.symm]
        exact hx
      have S2 := same_new (o := .ins C dx []) nx
      refine ⟨H0, x, dx, y1, y2, y3, r, rfl, S0.trans (S1.trans S2), S0.free hx, upd_same, q1, q2, q3, R, fun H' Hk s1 s2 but nw at_ => ⟨rfl, k H' Hk x _ _ _ s1 s2 (fun c o e => but c o (ne_of_none e hx) ((S1.trans S2) _ _ e)) (fun c hc => ?_) at_⟩⟩
      rcases nw c hc with z | rfl | z
      · exact .inl z
      · exact .inr hx
      · exact .inr ((S1.trans S2).free z)
theorem scLTold : FnScope ["_law_scribe_here"] ["_law_scribe_here"] (defScope lTold) := ⟨rfl, rfl, rfl, by decide +kernel, rfl, by decide +kernel, by decide +kernel⟩
theorem ok_ltold {f : Addr} {fd : FuncData} (F : Fun K "_law_told" "_law_told" lTold f fd) (T : TxtR K mg C) : FnOk P w K mg base CX0 1 f fd ["_law_scribe_here"] (spLTold C) := by
  refine F.ok scLTold (fun vs H Q E h => ?_) (fun cdv A outer s H vs Q E hr h => ?_)
  · obtain ⟨x, r, v1, v2, v3, rfl, _⟩ := h
    rfl
  · obtain ⟨x, r, v1, v2, v3, rfl, R, k⟩ := h
    refine ⟨_, pss_one (ps_ret (pe_tup (pa_cons (pe_fld (pv 0) (by rfl)) (pa_cons (pe_fld (pv 0) (by rfl)) (pa_cons (pe_fld (pv 0) (by rfl)) (pa_cons (pe_fld (pv 0) (by rfl)) pa_nil)))))), ?_⟩
    obtain ⟨dx, fs, tb, te, hx, f1, f2, f3, f4, _⟩ := R.ex
    refine ⟨_, rfl, x, C, dx, fs, _, rfl, hx, T.c, T.states, f1, _, rfl, x, C, dx, fs, _, rfl, hx, T.c, T.first, f2, _, rfl, x, C, dx, fs, _, rfl, hx, T.c, T.moves, f3, _, rfl, x, C, dx, fs, _, rfl, hx, T.c, T.ends, f4, (by show 4 ≤ sizeLine; decide), fun q nq => ?_⟩
    have S := same_new (o := .tup [.int r.n, v1, v2, v3]) nq
    exact k _ _ S (.tup upd_same (.cons (.int _) (.cons (Dq.same S _ _ R.q1) (.cons (Dq.same S _ _ R.q2) (.cons (Dq.same S _ _ R.q3) .nil)))))
end
end KL
set_option Elab.async false
set_option linter.all false
set_option maxRecDepth 100000
set_option maxHeartbeats 4000000
namespace KL
open PySem L2 PySem.Spec PyProof.Rows
def keyM (s : Int) (m : Str) : List Key := [Sum.inl s, Sum.inr m]
theorem merge_snoc (kvs : List (List Key × V)) (kv : List Key × V) : mergeT [] (kvs ++ [kv]) = putK (mergeT [] kvs) kv.1 kv.2 := by
  unfold mergeT
  rw [List.foldl_append]
  rfl
/-- what the rules have for the moves so far -/
def RulesTo (H : Hp) (kvs : List (List Key × V)) (mv : List Mv) : Prop := ∀ s m, (lastM mv s m = none ∧ valV (mergeT [] kvs) (keyM s m) = none) ∨ ∃ x v, lastM mv s m = some x ∧ valV (mergeT [] kvs) (keyM s m) = some v ∧ Dq H v (mvD x)
theorem RulesTo.zero {H : Hp} : RulesTo H [] [] := fun _ _ => .inl ⟨rfl, rfl⟩
theorem RulesTo.snoc {H : Hp} {kvs : List (List Key × V)} {mv : List Mv} {x : Mv} {v : V} (h : RulesTo H kvs mv) (hv : Dq H v (mvD x)) : RulesTo H (kvs ++ [(keyM x.s x.m, v)]) (mv ++ [x]) := fun s m => by
  rw [merge_snoc, last_snoc, valV_put]
  by_cases e : x.s = s ∧ x.m = m
  · obtain ⟨rfl, rfl⟩ := e
    rw [if_pos ⟨rfl, rfl⟩, if_pos rfl]
    exact .inr ⟨x, v, rfl, rfl, hv⟩
  · have ne : ¬ keyM s m = keyM x.s x.m := fun z => by
      unfold keyM at z
      injection z with z1 z2
      injection z1 with z1
      injection z2 with z2 _
      injection z2 with z2
      exact e ⟨z1.symm, z2.symm⟩
    rw [if_neg e, if_neg ne]
    exact h s m
/-- the pairs that a comprehension has made so far -/
def Pairing (H : Hp) (D : Addr) (mv : List Mv) (i : Nat) (H' : Hp) : Prop := ∃ (J : Hp) (ps : List Addr) (kvs : List (List Key × V)), Same H J ∧ J D = none ∧ Same J H' ∧ H' D = some (.lst (ps.map V.ref)) ∧
  Paired (fun p kv => ∃ b, J p = some (.tup [.ref b, kv.2]) ∧ J b = some (.tup (kv.1.map kV))) ps kvs ∧ RulesTo H kvs (mv.take i) ∧ ps.length = i
theorem Pairing.same {H H' : Hp} {D : Addr} {mv : List Mv} {i : Nat} (M : Pairing H D mv i H') : Same H H' := by
  obtain ⟨J, ps, kvs, S0, _, S1, _⟩ := M
  exact S0.trans S1
theorem paired_snoc {α β : Type} {R : α → β → Prop} : ∀ {l : List α} {m : List β} {x : α} {y : β}, Paired R l m → R x y → Paired R (l ++ [x]) (m ++ [y])
  | _, _, _, _, .nil, h => .cons h .nil
  | _, _, _, _, .cons h1 h2, h => .cons h1 (paired_snoc h2 h)
theorem paired_imp {α β : Type} {R R' : α → β → Prop} (f : ∀ a b, R a b → R' a b) : ∀ {l : List α} {m : List β}, Paired R l m → Paired R' l m
  | _, _, .nil => .nil
  | _, _, .cons h1 h2 => .cons (f _ _ h1) (paired_imp f h2)
theorem Pairing.turn {H H' : Hp} {D b p : Addr} {mv : List Mv} {i : Nat} {x : Mv} {v : V} (M : Pairing H D mv i H') (hx : mv[i]? = some x) (hv : Dq H v (mvD x)) (nb : H' b = none) (np : upd H' b (.tup [.int x.s, .str x.m]) p = none) :
    ∃ acc, upd (upd H' b (.tup [.int x.s, .str x.m])) p (.tup [.ref b, v]) D = some (.lst acc) ∧ acc.length = i ∧ Pairing H D mv (i + 1) (upd (upd (upd H' b (.tup [.int x.s, .str x.m])) p (.tup [.ref b, v])) D (.lst (acc ++ [.ref p]))) := by
  obtain ⟨J, ps, kvs, S0, nD, S1, hD, pr, ru, len⟩ := M
  have bD : b ≠ D := fun z => by
    rw [z, hD] at nb
    cases nb
  have pb : p ≠ b := fun z => by
    rw [z, upd_same] at np
    cases np
  have np' : H' p = none := by
    rw [upd_ne pb] at np
    exact np
  have pD : p ≠ D := fun z => by
    rw [z, hD] at np'
    cases np'
  have Jb : J b = none := S1.free nb
  have Jp : upd J b (.tup [.int x.s, .str x.m]) p = none := by
    rw [upd_ne pb]
    exact S1.free np'
  have T1 := same_new (o := .tup [.int x.s, .str x.m]) Jb
  have T2 := same_new (o := .tup [.ref b, v]) Jp
  refine ⟨ps.map V.ref, by rw [upd_ne pD.symm, upd_ne bD.symm]; exact hD, by rw [List.length_map]; exact len, upd (upd J b (.tup [.int x.s, .str x.m])) p (.tup [.ref b, v]), ps ++ [p], kvs ++ [(keyM x.s x.m, v)], S0.trans (T1.trans T2), by rw [upd_ne pD.symm, upd_ne bD.symm]; exact nD, fun c o e => ?_, by rw [upd_same, List.map_append]; rfl, ?_, ?_, by simp [len]⟩
  · have cD : c ≠ D := fun z => by
      rw [z, upd_ne pD.symm, upd_ne bD.symm, nD] at e
      cases e
    rw [upd_ne cD]
    by_cases cp : c = p
    · subst cp
      rw [upd_same] at e ⊢
      exact e
    · rw [upd_ne cp] at e ⊢
      by_cases cb : c = b
      · subst cb
        rw [upd_same] at e ⊢
        exact e
      · rw [upd_ne cb] at e ⊢
        exact S1 _ _ e
  · refine paired_snoc (paired_imp (fun q kv h => ?_) pr) ⟨b, upd_same, ?_⟩
    · obtain ⟨b', h1, h2⟩ := h
      exact ⟨b', T2 _ _ (T1 _ _ h1), T2 _ _ (T1 _ _ h2)⟩
    · rw [upd_ne pb.symm, upd_same]
      rfl
  · have et : mv.take (i + 1) = mv.take i ++ [x] := by
      rw [List.take_add_one, hx]
      rfl
    rw [et]
    exact ru.snoc hv
def spLLed : Sp := fun vs H Q _ => ∃ (v : V) (a : Addr) (r : Rdr) (ms : List Str), vs = [v, .ref a] ∧ Dq H v (partsD r) ∧ Short r ∧ r.mv.length ≤ 1000 ∧ H a = some (.tup (ms.map V.str)) ∧ ms.length ≤ 1000 ∧
  (readM (lastM r.mv) r.first 0 ms = none → ∀ H', Same H H' → Q .non H') ∧ ∀ w e, readM (lastM r.mv) r.first 0 ms = some (w, e) → ∀ H' p q, Same H H' → H' p = some (.tup [.int e, .ref q]) → H' q = some (.tup (w.map V.str)) → w.length ≤ 1001000 → Q (.ref p) H'
section
variable {P : Program} {w : World} {K : PySem.W.Frag} {mg : Str → Option Value} {base : Heap}
abbrev nLed : List Str := ["_law_parts", "_law_lot", "_law_here", "_law_found", "_law_rules", "_law_mark", "_law_row"]
theorem scLLed : FnScope nLed ["_law_parts", "_law_lot"] (defScope lLed) := ⟨rfl, rfl, rfl, by decide +kernel, rfl, by decide +kernel, by decide +kernel⟩
theorem ok_lled {f : Addr} {fd : FuncData} (F : Fun K "_law_led" "_law_led" lLed f fd) (T : TxtG mg) : FnOk P w K mg base CX0 1 f fd ["_law_parts", "_law_lot"] spLLed := by
  refine F.ok scLLed (fun vs H Q E h => ?_) (fun cdv A outer s H vs Q E hr h => ?_)
  · obtain ⟨v, a, r, ms, rfl, _⟩ := h
    rfl
  · obtain ⟨v, a, r, ms, rfl, hd, Sh, hm, ha, hn, kN, kS⟩ := h
    have hu := hu_of hr
    refine ⟨_, pss_cons (ps_par (i := 2) (j := 3) (by rfl) scLLed.nd rfl rfl (by decide) rfl rfl (pa_cons pe_int (pa_cons (pe_ix ix_tup (pv 0) pe_int (fun _ _ => rfl)) pa_nil)) (by rfl))
      (pss_cons (ps_set (i := 4) scLLed.nd rfl (.inl rfl) (pe_callTy (call_dictT rfl hr.units) (by rfl) T.dict (by decide +kernel) (pa_cons (pe_lc (own := [("_law_row", 6)]) (g := gName 6) (tt := tYes) rfl scLLed.nd (pi_tup (pe_ix ix_tup (pv 0) pe_int (fun _ _ => rfl)))
          (blkOk_by (N := nLed) (sc := defScope lLed) (by decide +kernel)) (fun _ _ _ _ _ => pg_name (i := 6) scLLed.nd rfl (.inl rfl)) (fun _ _ _ _ _ => pts_nil)
          (fun _ _ _ _ _ => pe_tup (pa_cons (pe_tup (pa_cons (pe_ix (r := rIxT K) ix_tup (pv 6) pe_int (fun _ _ => rfl)) (pa_cons (pe_ix (r := rIxT K) ix_tup (pv 6) pe_int (fun _ _ => rfl)) pa_nil))) (pa_cons (pv 6) pa_nil)))) pa_nil)))
      (pss_cons (ps_for PassesOwn.never rfl (pi_tup (pv 1)) (pg_name (i := 5) scLLed.nd rfl (.inl rfl))
        (pss_cons (ps_if (pt_cmp (pc_dnotin hu (pe_tup (pa_cons (pv 2) (pa_cons (pv 5) pa_nil))) (pv 4))) (pss_one (ps_ret pe_non)) pss_nil)
        (pss_one (ps_par (i := 3) (j := 2) (by rfl) scLLed.nd rfl rfl (by decide) rfl rfl (pa_cons (pe_op op_catA (pv 3) (pe_ix ix_tup (pe_dget hu (pv 4) (pe_tup (pa_cons (pv 2) (pa_cons (pv 5) pa_nil))) (fun _ _ => rfl)) pe_int (fun _ _ => rfl)))
          (pa_cons (pe_ix ix_tup (pe_dget hu (pv 4) (pe_tup (pa_cons (pv 2) (pa_cons (pv 5) pa_nil))) (fun _ _ => rfl)) pe_int (fun _ _ => rfl)) pa_nil)) (by rfl)))))
      (pss_one (ps_ret (pe_tup (pa_cons (pv 2) (pa_cons (pv 3) pa_nil))))))), ?_⟩
    have hd0 := hd
    cases hd with
    | @tup pa xs _ e hda =>
      cases hda with
      | @cons y0 _ _ _ q0 hda =>
      cases hda with
      | @cons y1 _ _ _ q1 hda =>
      cases hda with
      | @cons y2 _ _ _ q2 hda =>
      cases hda with
      | @cons y3 _ _ _ q3 hda =>
      cases hda
      obtain ⟨fa, rfl, hfa⟩ := strsD_of q1
      cases q2 with
      | @tup ma mxs _ em dm =>
      refine ⟨_, rfl, pa, _, _, .ref fa, rfl, rfl, SqT.of e, rfl, _, _, rfl, ?_⟩
      refine ⟨_, rfl, pa, _, _, .ref ma, rfl, rfl, SqT.of e, rfl, ma, rfl, ⟨_, SqT.of em⟩, fun D nD => ?_⟩
      refine lc_tup (K := K) (a := ma) (xs := mxs) (fun i H2 => Pairing H D r.mv i H2) ⟨H, [], [], Same.refl _, nD, same_new nD, upd_same, .nil, RulesTo.zero, rfl⟩ (fun i H2 _ M => SqT.of (M.same _ _ em)) ?_ ?_
      · rintro i y H2 hy M
        obtain ⟨d', hd', hq⟩ := DqAll.at dm hy
        obtain ⟨x, hx, rfl⟩ : ∃ x, r.mv[i]? = some x ∧ mvD x = d' := by
          rw [List.getElem?_map] at hd'
          cases ex : r.mv[i]? with
          | none =>
            rw [ex] at hd'
            cases hd'
          | some x =>
            rw [ex] at hd'
            exact ⟨x, rfl, Option.some.inj hd'⟩
        have hi : i < r.mv.length := (List.getElem?_eq_some_iff.mp hx).1
        have hq0 := hq
        cases hq with
        | @tup c zs _ ec hza =>
          cases hza with
          | @cons w0 _ _ _ p0 hza =>
          cases hza with
          | @cons w1 _ _ _ p1 hza =>
          cases hza with
          | @cons w2 _ _ _ p2 hza =>
          cases hza with
          | @cons w3 _ _ _ p3 hza =>
          cases hza
          cases p0
          cases p1
          refine ⟨rfl, _, rfl, c, _, _, .int x.s, rfl, rfl, SqT.of (M.same _ _ ec), rfl, _, rfl, c, _, _, .str x.m, rfl, rfl, SqT.of (M.same _ _ ec), rfl, (by show 2 ≤ sizeLine; decide), fun b nb => ⟨_, rfl, (by show 2 ≤ sizeLine; decide), fun p np => ?_⟩⟩
          obtain ⟨acc, h1, h2, h3⟩ := M.turn hx hq0 nb np
          exact ⟨acc, h1, by rw [h2, sizeLine_eq]; omega, h3⟩
      · rintro H2 ⟨J, ps, kvs, S0, nDJ, S1, hD, pr, ru, len⟩
        have ml : mxs.length = r.mv.length := by
          rw [dm.len, List.length_map]
        rw [ml, List.take_length] at ru
        refine ⟨D, ps, kvs, rfl, SqL.of hD, paired_imp (fun p kv h => ?_) pr, fun rl nrl => ?_⟩
        · obtain ⟨b, h1, h2⟩ := h
          exact ⟨b, SqT.of (S1 _ _ h1), S1 _ _ h2⟩
        have S2 := (S0.trans S1).trans (same_new (o := .dT (mergeT [] kvs)) nrl)
        have hrl : upd H2 rl (.dT (mergeT [] kvs)) rl = some (.dT (mergeT [] kvs)) := upd_same
        revert S2 hrl
        generalize upd H2 rl (.dT (mergeT [] kvs)) = H3
        intro S3 hrl
        have run : ∀ {i : Nat} {m : Str}, ms[i]? = some m → readM (lastM r.mv) r.first 0 (ms.take (i + 1)) = stepM (lastM r.mv) (readM (lastM r.mv) r.first 0 (ms.take i)) m := fun h => read_take h
        refine ⟨_, rfl, a, rfl, ⟨_, SqT.of (S3 _ _ ha)⟩, for_tup (K := K) (a := a) (xs := ms.map V.str) (fun i σ H4 => Same H3 H4 ∧ ∃ w e q o1 o2, readM (lastM r.mv) r.first 0 (ms.take i) = some (w, e) ∧ w.length ≤ 1000 + i * 1000 ∧ H4 q = some (.tup (w.map V.str)) ∧ σ = [some (.ref pa), some (.ref a), some (.int e), some (.ref q), some (.ref rl), o1, o2])
          ⟨Same.refl _, r.first, 0, fa, _, _, rfl, by have := Sh.f; omega, S3 _ _ hfa, rfl⟩ (fun i σ H4 _ M => SqT.of (M.1 _ _ (S3 _ _ ha))) ?_ ?_⟩
        · rintro i y σ H4 hy ⟨S4, w, e, q, o1, o2, hw, lw, hq, rfl⟩
          obtain ⟨m, hm', rfl⟩ : ∃ m, ms[i]? = some m ∧ V.str m = y := by
            rw [List.getElem?_map] at hy
            cases ex : ms[i]? with
            | none =>
              rw [ex] at hy
              cases hy
            | some x =>
              rw [ex] at hy
              exact ⟨x, rfl, Option.some.inj hy⟩
          have hi : i < ms.length := (List.getElem?_eq_some_iff.mp hm').1
          have next := run hm'
          rw [hw] at next
          have key : ∀ {G : Hp} {b : Addr}, G b = some (.tup [.int e, .str m]) → G b = some (.tup ((keyM e m).map kV)) := fun h => h
          refine ⟨_, rfl, _, rfl, (by show 2 ≤ sizeLine; decide), fun b nb => ?_⟩
          have Sb := same_new (o := .tup [.int e, .str m]) nb
          refine ⟨_, rfl, rl, _, rfl, DGet.t (Sb _ _ (S4 _ _ hrl)) (key upd_same), _, rfl, ?_⟩
          rcases ru e m with ⟨r1, r2⟩ | ⟨x, u, r1, r2, r3⟩
          · rw [r2]
            refine iteYes rfl ?_
            refine kN (read_dead (i := i + 1) ?_) _ (S3.trans (S4.trans Sb))
            rw [next]
            show ((lastM r.mv e m).map fun x => (w ++ x.w, x.t)) = none
            rw [r1]
            rfl
          · rw [r2]
            refine iteNo rfl ?_
            have r3 := Dq.same (S3.trans (S4.trans Sb)) _ _ r3
            cases r3 with
            | @tup c zs _ ec hza =>
              cases hza with
              | @cons w0 _ _ _ p0 hza =>
              cases hza with
              | @cons w1 _ _ _ p1 hza =>
              cases hza with
              | @cons w2 _ _ _ p2 hza =>
              cases hza with
              | @cons w3 _ _ _ p3 hza =>
              cases hza
              obtain ⟨wa, rfl, hwa⟩ := strsD_of p2
              cases p3
              have S5 := S4.trans Sb
              have hq5 := Sb _ _ hq
              revert S5 hq5 ec hwa
              generalize upd H4 b (.tup [.int e, .str m]) = H5
              intro hwa ec S5 hq5
              refine ⟨_, rfl, _, rfl, _, rfl, _, rfl, (by show 2 ≤ sizeLine; decide), fun b2 nb2 => ?_⟩
              have Sb2 := same_new (o := .tup [.int e, .str m]) nb2
              have hg := DGet.t (Sb2 _ _ (S5 _ _ hrl)) (key (upd_same (H := H5) (a := b2)))
              rw [r2] at hg
              refine ⟨rl, .ref c, rfl, hg, c, _, _, .ref wa, rfl, rfl, SqT.of (Sb2 _ _ ec), rfl, cat_of (Sb2 _ _ hq5) (Sb2 _ _ hwa) ?_ fun d H6 S6 hd6 => ?_⟩
              · rw [List.length_map, List.length_map, sizeLine_eq]
                have := Sh.m e m x r1
                have : i * 1000 ≤ 1000 * 1000 := Nat.mul_le_mul_right 1000 (by omega)
                omega
              refine ⟨_, rfl, _, rfl, _, rfl, (by show 2 ≤ sizeLine; decide), fun b3 nb3 => ?_⟩
              have Sb3 := same_new (o := .tup [.int e, .str m]) nb3
              have hg := DGet.t (Sb3 _ _ (S6 _ _ (Sb2 _ _ (S5 _ _ hrl)))) (key (upd_same (H := H6) (a := b3)))
              rw [r2] at hg
              refine ⟨rl, .ref c, rfl, hg, c, _, _, .int x.t, rfl, rfl, SqT.of (Sb3 _ _ (S6 _ _ (Sb2 _ _ ec))), rfl, _, _, rfl, ?_⟩
              refine ⟨S5.trans (Sb2.trans (S6.trans Sb3)), w ++ x.w, x.t, d, _, _, ?_, ?_, ?_, rfl⟩
              · rw [next]
                show ((lastM r.mv e m).map fun x => (w ++ x.w, x.t)) = _
                rw [r1]
                rfl
              · rw [List.length_append]
                have := Sh.m e m x r1
                have : (i + 1) * 1000 = i * 1000 + 1000 := by omega
                omega
              · rw [List.map_append]
                exact Sb3 _ _ hd6
        · rintro σ H4 ⟨S4, w, e, q, o1, o2, hw, lw, hq, rfl⟩
          rw [List.length_map, List.take_length] at hw
          rw [List.length_map] at lw
          refine ⟨_, rfl, _, rfl, (by show 2 ≤ sizeLine; decide), fun p np => ?_⟩
          have Sp := same_new (o := .tup [.int e, .ref q]) np
          exact kS w e hw _ p q (S3.trans (S4.trans Sp)) upd_same (Sp _ _ hq) (by
            have : ms.length * 1000 ≤ 1000 * 1000 := Nat.mul_le_mul_right 1000 hn
            omega)
end
end KL
set_option Elab.async false
set_option linter.all false
set_option maxRecDepth 100000
set_option maxHeartbeats 4000000
namespace KL
open PySem L2 PySem.Spec PyProof.Rows
theorem read_first (f : Int → Str → Option Mv) (u : List Str) : ∀ (ms : List Str) (w : List Str) (s : Int), readM f (u ++ w) s ms = (readM f w s ms).map fun p => (u ++ p.1, p.2)
  | [], _, _ => rfl
  | m :: ms, w, s => by
    show ms.foldl (stepM f) ((f s m).map fun x => (u ++ w ++ x.w, x.t)) = (ms.foldl (stepM f) ((f s m).map fun x => (w ++ x.w, x.t))).map _
    cases f s m with
    | none =>
      show ms.foldl (stepM f) none = (ms.foldl (stepM f) none).map _
      rw [step_none]
      rfl
    | some x =>
      show readM f (u ++ w ++ x.w) x.t ms = (readM f (w ++ x.w) x.t ms).map _
      rw [List.append_assoc]
      exact read_first f u ms (w ++ x.w) x.t
theorem read_zero (r : Rdr) (ms : List Str) : readM (lastM r.mv) r.first 0 ms = (readM (lastM r.mv) [] 0 ms).map fun p => (r.first ++ p.1, p.2) := by
  have h := read_first (lastM r.mv) r.first ms [] 0
  rw [List.append_nil] at h
  exact h
def LookE (H : Hp) (kvs : List (Key × V)) (f : Int → Option (List Str)) : Prop := ∀ i, (f i = none ∧ valV kvs (Sum.inl i) = none) ∨ ∃ w v, f i = some w ∧ valV kvs (Sum.inl i) = some v ∧ Dq H v (strsD w)
theorem lastE_cons (en : List (Int × List Str)) (e : Int × List Str) (i : Int) : lastE (e :: en) i = (lastE en i).or (if e.1 = i then some e.2 else none) := by
  unfold lastE
  rw [List.reverse_cons, List.find?_append]
  cases (en.reverse.find? fun e => decide (e.1 = i)) with
  | some x => rfl
  | none =>
    simp only [Option.none_or, Option.map_none]
    by_cases h : e.1 = i
    · rw [if_pos h, List.find?_cons_of_pos (by simp [h])]
      rfl
    · rw [if_neg h, List.find?_cons_of_neg (by simp [h])]
      rfl
theorem ends_pairs {H : Hp} {K : PySem.W.Frag} : ∀ {en : List (Int × List Str)} {xs : List V} {acc : List (Key × V)} {f : Int → Option (List Str)}, DqAll H xs (en.map enD) → LookE H acc f →
    ∃ (ps : List Addr) (kvs : List (Key × V)), xs = ps.map V.ref ∧ Paired (fun p kv => SqT K H p [kV kv.1, kv.2]) ps kvs ∧ LookE H (mergeK acc kvs) fun i => (lastE en i).or (f i)
  | [], _, acc, f, h, L => by
    cases h
    exact ⟨[], [], rfl, .nil, L⟩
  | e :: en, _, acc, f, h, L => by
    cases h with
    | cons h1 h2 =>
      cases h1 with
      | @tup a ys _ ea hza =>
        cases hza with
        | @cons w0 _ _ _ p0 hza =>
        cases hza with
        | @cons w1 _ _ _ p1 hza =>
        cases hza
        cases p0
        have L2 : LookE H (putK acc (Sum.inl e.1) w1) fun i => (if e.1 = i then some e.2 else none).or (f i) := fun i => by
          rw [valV_put]
          dsimp only
          by_cases hi : e.1 = i
          · subst hi
            rw [if_pos rfl, if_pos rfl]
            exact .inr ⟨_, _, rfl, rfl, p1⟩
          · rw [if_neg hi, if_neg fun z => hi (by injection z with z; exact z.symm)]
            exact L i
        obtain ⟨ps, kvs, rfl, pr, L3⟩ := ends_pairs (K := K) h2 L2
        refine ⟨a :: ps, (Sum.inl e.1, w1) :: kvs, rfl, .cons (SqT.of ea) pr, fun i => ?_⟩
        have e1 : (lastE (e :: en) i).or (f i) = (lastE en i).or ((if e.1 = i then some e.2 else none).or (f i)) := by
          rw [lastE_cons, Option.or_assoc]
        dsimp only
        rw [e1]
        exact L3 i
theorem lookE_same {H H' : Hp} {kvs : List (Key × V)} {f : Int → Option (List Str)} (h : LookE H kvs f) (S : Same H H') : LookE H' kvs f := fun i => by
  rcases h i with h | ⟨w, v, h1, h2, h3⟩
  · exact .inl h
  · exact .inr ⟨w, v, h1, h2, Dq.same S _ _ h3⟩
def spLWritten : Sp := fun vs H Q _ => ∃ (v : V) (a : Addr) (r : Rdr) (ms : List Str), vs = [v, .ref a] ∧ Dq H v (partsD r) ∧ Short r ∧ r.mv.length ≤ 1000 ∧ H a = some (.tup (ms.map V.str)) ∧ ms.length ≤ 1000 ∧
  (writtenM r ms = none → ∀ H', Same H H' → Q .non H') ∧ ∀ u, writtenM r ms = some u → ∀ H' q, Same H H' → H' q = some (.tup (u.map V.str)) → Q (.ref q) H'
section
variable {P : Program} {w : World} {K : PySem.W.Frag} {mg : Str → Option Value} {base : Heap}
abbrev nLWr : List Str := ["_law_parts", "_law_lot", "_law_led_here", "_law_stops"]
theorem scLWr : FnScope nLWr ["_law_parts", "_law_lot"] (defScope lWritten) := ⟨rfl, rfl, rfl, by decide +kernel, rfl, by decide +kernel, by decide +kernel⟩
theorem ok_lwritten {f g : Addr} {fd gd : FuncData} (F : Fun K "_law_written" "_law_written" lWritten f fd) (T : TxtG mg) (G : FnOk P w K mg base CX0 1 g gd ["_law_parts", "_law_lot"] spLLed) (c : Cal K mg "_law_led" g gd ["_law_parts", "_law_lot"]) :
    FnOk P w K mg base CX0 2 f fd ["_law_parts", "_law_lot"] spLWritten := by
  refine F.ok scLWr (fun vs H Q E h => ?_) (fun cdv A outer s H vs Q E hr h => ?_)
  · obtain ⟨v, a, r, ms, rfl, _⟩ := h
    rfl
  · obtain ⟨v, a, r, ms, rfl, hd, Sh, hm, ha, hn, kN, kS⟩ := h
    have hu := hu_of hr
    refine ⟨_, pss_cons (ps_par (i := 2) (j := 3) (by rfl) scLWr.nd rfl rfl (by decide) rfl rfl (pa_cons (pe_call G hr (by rfl) c.m c.k c.b .nil pass0 (pa_cons (pv 0) (pa_cons (pv 1) pa_nil)))
        (pa_cons (pe_callTy (call_dictP rfl) (by rfl) T.dict (by decide +kernel) (pa_cons (pe_callTy call_list_of (by rfl) T.d.list (by decide +kernel) (pa_cons (pe_ix ix_tup (pv 0) pe_int (fun _ _ => rfl)) pa_nil)) pa_nil)) pa_nil)) (by rfl))
      (pss_cons (ps_if (PW.pt (pw_or (pt_cmpR op_isN (pv 2) pe_non (nomark _)) (pw_or1 (pt_cmp (pc_dnotin hu (pe_ix ix_tup (pv 2) pe_int (fun _ _ => rfl)) (pv 3)))))) (pss_one (ps_ret pe_non)) pss_nil)
      (pss_one (ps_ret (pe_op op_catA (pe_ix ix_tup (pv 2) pe_int (fun _ _ => rfl)) (pe_dget hu (pv 3) (pe_ix ix_tup (pv 2) pe_int (fun _ _ => rfl)) (fun _ _ => rfl)))))), ?_⟩
    have hd0 := hd
    cases hd with
    | @tup pa xs _ e hda =>
      cases hda with
      | @cons y0 _ _ _ q0 hda =>
      cases hda with
      | @cons y1 _ _ _ q1 hda =>
      cases hda with
      | @cons y2 _ _ _ q2 hda =>
      cases hda with
      | @cons y3 _ _ _ q3 hda =>
      cases hda
      cases q3 with
      | @tup ea exs _ ee de =>
      have made : ∀ {H1 : Hp} {l : Addr}, Same H H1 → H1 l = none → ∃ (ps : List Addr) (kvs : List (Key × V)), exs = ps.map V.ref ∧ Paired (fun p kv => SqT K (upd H1 l (.lst exs)) p [kV kv.1, kv.2]) ps kvs ∧ LookE (upd H1 l (.lst exs)) (mergeK [] kvs) (lastE r.en) := fun {H1 l} S1 nl => by
        obtain ⟨ps, kvs, e1, pr, L⟩ := ends_pairs (K := K) (acc := []) (f := fun _ => none) (DqAll.same (S1.trans (same_new (o := .lst exs) nl)) _ _ de) (fun i => .inl ⟨rfl, rfl⟩)
        refine ⟨ps, kvs, e1, pr, fun i => ?_⟩
        have q := L i
        dsimp only at q
        rw [Option.or_none] at q
        exact q
      refine ⟨_, rfl, _, rfl, .ref pa, a, r, ms, rfl, hd0, Sh, hm, ha, hn, fun z H1 S1 => ?_, fun w e1 z H1 p q S1 hp hq lw => ?_⟩
      · refine ⟨_, rfl, pa, _, _, .ref ea, rfl, rfl, SqT.of (S1 _ _ e), rfl, ea, exs, rfl, .inr (SqT.of (S1 _ _ ee)), fun l nl => ?_⟩
        obtain ⟨ps, kvs, ex, pr, L⟩ := made S1 nl
        refine ⟨l, ps, kvs, rfl, SqL.of (by rw [upd_same, ex]), pr, fun d nd => ⟨_, _, rfl, ?_⟩⟩
        refine ⟨_, rfl, rfl, _, rfl, ?_⟩
        refine iteYes rfl (iteYes rfl ?_)
        refine kN ?_ _ (S1.trans ((same_new (o := .lst exs) nl).trans (same_new (o := .dK (mergeK [] kvs)) nd)))
        unfold writtenM
        rw [read_zero] at z
        cases y : readM (lastM r.mv) [] 0 ms with
        | none => rfl
        | some t =>
          rw [y] at z
          cases z
      · refine ⟨_, rfl, pa, _, _, .ref ea, rfl, rfl, SqT.of (S1 _ _ e), rfl, ea, exs, rfl, .inr (SqT.of (S1 _ _ ee)), fun l nl => ?_⟩
        obtain ⟨ps, kvs, ex, pr, L⟩ := made S1 nl
        refine ⟨l, ps, kvs, rfl, SqL.of (by rw [upd_same, ex]), pr, fun d nd => ⟨_, _, rfl, ?_⟩⟩
        have Sl := same_new (o := .lst exs) nl
        have Sd := same_new (o := .dK (mergeK [] kvs)) nd
        have L := lookE_same L Sd
        have hdd : upd (upd H1 l (.lst exs)) d (.dK (mergeK [] kvs)) d = some (.dK (mergeK [] kvs)) := upd_same
        have hp := Sd _ _ (Sl _ _ hp)
        have hq := Sd _ _ (Sl _ _ hq)
        have S2 := S1.trans (Sl.trans Sd)
        clear Sl Sd pr nd nl
        revert L hdd hp hq S2
        generalize upd (upd H1 l (.lst exs)) d (.dK (mergeK [] kvs)) = H2
        intro L hdd hp hq S2
        rw [read_zero] at z
        obtain ⟨w0, hw0, ew⟩ : ∃ w0, readM (lastM r.mv) [] 0 ms = some (w0, e1) ∧ w = r.first ++ w0 := by
          cases y : readM (lastM r.mv) [] 0 ms with
          | none =>
            rw [y] at z
            cases z
          | some t =>
            rw [y] at z
            have z := Option.some.inj z
            obtain ⟨t1, t2⟩ := t
            injection z with z1 z2
            exact ⟨t1, by rw [← z2], z1.symm⟩
        refine ⟨_, rfl, rfl, _, rfl, ?_⟩
        refine iteNo rfl ?_
        refine ⟨_, rfl, p, _, _, .int e1, rfl, rfl, SqT.of hp, rfl, _, rfl, d, _, rfl, DGet.k (k := Sum.inl e1) hdd, _, rfl, ?_⟩
        rcases L e1 with ⟨l1, l2⟩ | ⟨u, v, l1, l2, l3⟩
        · rw [l2]
          refine iteYes rfl ?_
          refine kN ?_ H2 S2
          unfold writtenM
          rw [hw0]
          show (lastE r.en e1).map _ = none
          rw [l1]
          rfl
        · rw [l2]
          refine iteNo rfl ?_
          obtain ⟨c2, rfl, hc2⟩ := strsD_of l3
          have lu := Sh.e e1 u l1
          have hg := DGet.k (k := Sum.inl e1) hdd
          rw [l2] at hg
          refine ⟨_, rfl, p, _, _, .ref q, rfl, rfl, SqT.of hp, rfl, _, rfl, _, rfl, p, _, _, .int e1, rfl, rfl, SqT.of hp, rfl, d, .ref c2, rfl, hg, cat_of hq hc2 ?_ fun b H3 S3 hb => ?_⟩
          · rw [List.length_map, List.length_map, sizeLine_eq]
            omega
          · refine kS (w ++ u) ?_ H3 b (S2.trans S3) (by rw [List.map_append]; exact hb)
            unfold writtenM
            rw [hw0]
            show (lastE r.en e1).map _ = _
            rw [l1, ew]
            rfl
end
end KL
set_option Elab.async false
set_option linter.all false
set_option maxRecDepth 100000
set_option maxHeartbeats 4000000
namespace KL
open PySem L2 PySem.Spec PyProof.Rows
/-- a tuple of at most n texts -/
def al5 : List Str := ["a", "b", "q", "x", "y"]
def Tp (J : Hp) (n : Nat) (x : V) : Prop := ∃ (a : Addr) (w : List Str), x = .ref a ∧ J a = some (.tup (w.map V.str)) ∧ w.length ≤ n ∧ ∀ y ∈ w, y ∈ al5
theorem Tp.keep {J J' : Hp} {n n' : Nat} {x : V} (h : Tp J n x) (S : ∀ a ys, J a = some (.tup ys) → J' a = some (.tup ys)) (hn : n ≤ n') : Tp J' n' x := by
  obtain ⟨a, w, e, h1, h2, h3⟩ := h
  exact ⟨a, w, e, S _ _ h1, Nat.le_trans h2 hn, h3⟩
/-- a list of one's own that tuples are put into -/
def Coll (Hb : Hp) (D : Addr) (n m : Nat) (H : Hp) : Prop := ∃ (J : Hp) (xs : List V), Same Hb J ∧ J D = none ∧ Same J H ∧ H D = some (.lst xs) ∧ (∀ x ∈ xs, Tp J n x) ∧ xs.length ≤ m
theorem Coll.start {Hb : Hp} {D : Addr} {n : Nat} (nD : Hb D = none) : Coll Hb D n 0 (upd Hb D (.lst [])) := ⟨Hb, [], Same.refl _, nD, same_new nD, upd_same, fun _ h => (nomatch h), Nat.le_refl _⟩
theorem Coll.same {Hb H : Hp} {D : Addr} {n m : Nat} (M : Coll Hb D n m H) : Same Hb H := by
  obtain ⟨J, xs, S0, _, S1, _⟩ := M
  exact S0.trans S1
/-- something that stands while the list is made -/
theorem Coll.mono {Hb H H' : Hp} {D : Addr} {n m : Nat} (M : Coll Hb D n m H) (S : Same H H') : Coll Hb D n m H' := by
  obtain ⟨J, xs, S0, nD, S1, hD, hx, hl⟩ := M
  exact ⟨J, xs, S0, nD, S1.trans S, S _ _ hD, hx, hl⟩
theorem Coll.push {Hb H H' : Hp} {D q : Addr} {n m : Nat} {w : List Str} (M : Coll Hb D n m H) (S : Same H H') (hq : H' q = some (.tup (w.map V.str))) (hw : w.length ≤ n) (ha5 : ∀ y ∈ w, y ∈ al5) : ∃ xs, H' D = some (.lst xs) ∧ xs.length ≤ m ∧ Coll Hb D n (m + 1) (upd H' D (.lst (xs ++ [.ref q]))) := by
  obtain ⟨J, xs, S0, nD, S1, hD, hx, hl⟩ := M
  have qD : q ≠ D := ne_of hq (S _ _ hD) (fun z => nomatch z)
  refine ⟨xs, S _ _ hD, hl, fun c => if c = D then none else H' c, xs ++ [.ref q], fun c o e => ?_, if_pos rfl, fun c o e => ?_, upd_same, fun x h => ?_, by simp; omega⟩
  · have cD : c ≠ D := fun z => by
      rw [z] at e
      rw [S0 _ _ e] at nD
      cases nD
    show (if c = D then none else H' c) = some o
    rw [if_neg cD]
    exact S _ _ (S1 _ _ (S0 _ _ e))
  · have e : (if c = D then none else H' c) = some o := e
    by_cases cD : c = D
    · rw [if_pos cD] at e
      cases e
    · rw [if_neg cD] at e
      rw [upd_ne cD]
      exact e
  · rcases List.mem_append.mp h with h | h
    · refine (hx x h).keep (fun a ys ea => ?_) (Nat.le_refl _)
      have aD : a ≠ D := fun z => by
        rw [z, nD] at ea
        cases ea
      show (if a = D then none else H' a) = _
      rw [if_neg aD]
      exact S _ _ (S1 _ _ ea)
    · rw [List.mem_singleton.mp h]
      refine ⟨q, w, rfl, ?_, hw, ha5⟩
      show (if q = D then none else H' q) = _
      rw [if_neg qD]
      exact hq
/-- one list put behind another one -/
theorem Coll.join {Hb H H' : Hp} {D B : Addr} {n m k : Nat} (M : Coll Hb D n m H) (N : Coll H B n k H') : ∃ xs ys, H' D = some (.lst xs) ∧ H' B = some (.lst ys) ∧ xs.length ≤ m ∧ ys.length ≤ k ∧ Coll Hb D n (m + k) (upd H' D (.lst (xs ++ ys))) := by
  have SH := N.same
  obtain ⟨J, xs, S0, nD, S1, hD, hx, hl⟩ := M
  obtain ⟨J2, ys, T0, nB, T1, hB, hy, hk⟩ := N
  refine ⟨xs, ys, SH _ _ hD, hB, hl, hk, fun c => if c = D then none else H' c, xs ++ ys, fun c o e => ?_, if_pos rfl, fun c o e => ?_, upd_same, fun x h => ?_, by simp; omega⟩
  · have cD : c ≠ D := fun z => by
      rw [z] at e
      rw [S0 _ _ e] at nD
      cases nD
    show (if c = D then none else H' c) = some o
    rw [if_neg cD]
    exact SH _ _ (S1 _ _ (S0 _ _ e))
  · have e : (if c = D then none else H' c) = some o := e
    by_cases cD : c = D
    · rw [if_pos cD] at e
      cases e
    · rw [if_neg cD] at e
      rw [upd_ne cD]
      exact e
  · have off : ∀ {a : Addr} {zs : List V}, H' a = some (.tup zs) → (if a = D then none else H' a) = some (.tup zs) := fun {a zs} ea => by
      have aD : a ≠ D := ne_of ea (SH _ _ hD) (fun z => nomatch z)
      rw [if_neg aD]
      exact ea
    rcases List.mem_append.mp h with h | h
    · exact (hx x h).keep (fun a zs ea => off (SH _ _ (S1 _ _ ea))) (Nat.le_refl _)
    · exact (hy x h).keep (fun a zs ea => off (T1 _ _ ea)) (Nat.le_refl _)
/-- a list that stands -/
def Lots (H : Hp) (F : Addr) (n m : Nat) : Prop := ∃ xs, H F = some (.lst xs) ∧ (∀ x ∈ xs, Tp H n x) ∧ xs.length ≤ m
theorem Lots.same {H H' : Hp} {F : Addr} {n m n' m' : Nat} (h : Lots H F n m) (S : Same H H') (hn : n ≤ n') (hm : m ≤ m') : Lots H' F n' m' := by
  obtain ⟨xs, h1, h2, h3⟩ := h
  exact ⟨xs, S _ _ h1, fun x hx => (h2 x hx).keep (fun _ _ e => S _ _ e) hn, Nat.le_trans h3 hm⟩
theorem Coll.lots {Hb H : Hp} {D : Addr} {n m : Nat} (M : Coll Hb D n m H) : Lots H D n m := by
  obtain ⟨J, xs, S0, nD, S1, hD, hx, hl⟩ := M
  exact ⟨xs, hD, fun x h => (hx x h).keep (fun _ _ e => S1 _ _ e) (Nat.le_refl _), hl⟩
def spLots : Sp := fun vs H Q _ => ∃ (kn : Addr) (ks : List Str), vs = [.ref kn, .int 3] ∧ H kn = some (.lst (ks.map V.str)) ∧ ks.length ≤ 3 ∧ (∀ y ∈ ks, y ∈ al5) ∧ ∀ H' F, Same H H' → H F = none → Lots H' F 3 54 → Q (.ref F) H'
section
variable {P : Program} {w : World} {K : PySem.W.Frag} {mg : Str → Option Value} {base : Heap}
abbrev nLots : List Str := ["_law_kinds", "_law_most", "_law_found", "_law_last", "_law_turn", "_law_longer", "_law_lot", "_law_kind"]
theorem scLots : FnScope nLots ["_law_kinds", "_law_most"] (defScope lLots) := ⟨rfl, rfl, rfl, by decide +kernel, rfl, by decide +kernel, by decide +kernel⟩
theorem ok_lots {f : Addr} {fd : FuncData} (F : Fun K "_law_lots" "_law_lots" lLots f fd) (T : TxtG mg) : FnOk P w K mg base CX0 1 f fd ["_law_kinds", "_law_most"] spLots := by
  refine F.ok scLots (fun vs H Q E h => ?_) (fun cdv A outer s H vs Q E hr h => ?_)
  · obtain ⟨kn, ks, rfl, _⟩ := h
    rfl
  · obtain ⟨kn, ks, rfl, hk, hn, hal, k⟩ := h
    refine ⟨_, pss_cons (ps_par (i := 2) (j := 3) (by rfl) scLots.nd rfl rfl (by decide) rfl rfl (pa_cons (pe_lst (pa_cons (pe_tup pa_nil) pa_nil)) (pa_cons (pe_lst (pa_cons (pe_tup pa_nil) pa_nil)) pa_nil)) (by rfl))
      (pss_cons (ps_for PassesOwn.never rfl (pi_range1 (by rfl) T.range (pa_cons (pv 1) pa_nil)) (pg_name (i := 4) scLots.nd rfl (.inl rfl))
        (pss_cons (ps_set (i := 5) scLots.nd rfl (.inl rfl) (pe_lst pa_nil))
        (pss_cons (ps_for PassesOwn.never rfl (pi_list (pv 3)) (pg_name (i := 6) scLots.nd rfl (.inr rfl))
          (pss_one (ps_expr (pe_bm PySem.F.plainAttrs_list PySem.F.slot_list_extend PySem.F.type_list_extend mt_extend (pv 5) (pa_cons (pe_lc (own := [("_law_kind", 7)]) (g := gName 7) (tt := tYes) rfl scLots.nd (pi_list (pv 0))
            (blkOk_by (N := nLots) (sc := defScope lLots) (by decide +kernel)) (fun _ _ _ _ _ => pg_name (i := 7) scLots.nd rfl (.inl rfl)) (fun _ _ _ _ _ => pts_nil)
            (fun _ _ _ _ _ => pe_op (r := rCatA K) op_catA (pv 6) (pe_tup (pa_cons (pv 7) pa_nil)))) pa_nil)))))
        (pss_one (ps_par (i := 2) (j := 3) (by rfl) scLots.nd rfl rfl (by decide) rfl rfl (pa_cons (pe_op op_cat (pv 2) (pv 5)) (pa_cons (pv 5) pa_nil)) (by rfl))))))
      (pss_one (ps_ret (pv 2)))), ?_⟩
    refine ⟨Nat.zero_le _, fun p1 n1 => ⟨(by show 1 ≤ sizeLine; decide), fun F1 nF => ⟨Nat.zero_le _, fun p2 n2 => ⟨(by show 1 ≤ sizeLine; decide), fun L1 nL => ⟨_, _, rfl, ?_⟩⟩⟩⟩⟩
    have S1 := same_new (o := .tup []) n1
    have S2 := same_new (o := .lst [.ref p1]) nF
    have S3 := same_new (o := .tup []) n2
    have S4 := same_new (o := .lst [.ref p2]) nL
    have F0 : H F1 = none := S1.free nF
    have lF : Lots (upd (upd (upd (upd H p1 (.tup [])) F1 (.lst [.ref p1])) p2 (.tup [])) L1 (.lst [.ref p2])) F1 0 2 :=
      ⟨[.ref p1], S4 _ _ (S3 _ _ upd_same), fun x hx => ⟨p1, [], List.mem_singleton.mp hx, S4 _ _ (S3 _ _ (S2 _ _ upd_same)), Nat.le_refl _, fun _ h => nomatch h⟩, (show 1 ≤ 2 by decide)⟩
    have lL : Lots (upd (upd (upd (upd H p1 (.tup [])) F1 (.lst [.ref p1])) p2 (.tup [])) L1 (.lst [.ref p2])) L1 0 1 :=
      ⟨[.ref p2], upd_same, fun x hx => ⟨p2, [], List.mem_singleton.mp hx, S4 _ _ upd_same, Nat.le_refl _, fun _ h => nomatch h⟩, Nat.le_refl _⟩
    have S := S1.trans (S2.trans (S3.trans S4))
    revert lF lL S
    generalize upd (upd (upd (upd H p1 (.tup [])) F1 (.lst [.ref p1])) p2 (.tup [])) L1 (.lst [.ref p2]) = H1
    intro lF lL S
    clear S1 S2 S3 S4 nF nL n1 n2
    refine ⟨_, rfl, 3, rfl, by decide, by decide, for_range (fun i σ H' => Same H H' ∧ ∃ F L o4 o5 o6 o7, H F = none ∧ Lots H' F i (2 * 3 ^ i) ∧ Lots H' L i (3 ^ i) ∧ σ = [some (.ref kn), some (.int 3), some (.ref F), some (.ref L), o4, o5, o6, o7]) ⟨S, F1, L1, _, _, _, _, F0, lF, lL, rfl⟩ ?_ ?_⟩
    · clear lF lL S F0
      rintro i σ H2 hi ⟨S, F, L, o4, o5, o6, o7, F0, lF, lL, rfl⟩
      have hi3 : i < 3 := by omega
      have p3 : 3 ^ i ≤ 9 := Nat.pow_le_pow_right (by decide) (show i ≤ 2 by omega)
      have hk2 := S _ _ hk
      refine ⟨Nat.zero_le _, fun Lg nLg => ?_⟩
      have SL := same_new (o := .lst []) nLg
      obtain ⟨ys, hL, hy, ly⟩ := lL
      refine ⟨_, rfl, L, rfl, ⟨_, SqL.of (SL _ _ hL)⟩, for_list (K := K) (a := L) (xs := ys) (fun j σ H' => Coll H2 Lg (i + 1) (3 * j) H' ∧ ∃ o6 o7, σ = [some (.ref kn), some (.int 3), some (.ref F), some (.ref L), some (.int (0 + (i : Int))), some (.ref Lg), o6, o7]) ⟨Coll.start nLg, _, _, rfl⟩ (fun j σ H' _ M => SqL.of (M.1.same _ _ hL)) ?_ ?_⟩
      · rintro j x σ H3 hx ⟨M, o6, o7, rfl⟩
        obtain ⟨a, w, rfl, ha, hw, hw5⟩ := hy x (List.mem_of_getElem? hx)
        have hj : j < ys.length := (List.getElem?_eq_some_iff.mp hx).1
        have ha3 := M.same _ _ ha
        have hk3 := M.same _ _ hk2
        have hLg : ∃ zs, H3 Lg = some (.lst zs) := by
          obtain ⟨J, xs, _, _, _, hD, _⟩ := M
          exact ⟨xs, hD⟩
        obtain ⟨zs, hLg⟩ := hLg
        refine ⟨_, rfl, .inl ⟨rfl, _, SqL.of hLg⟩, _, rfl, kn, rfl, ⟨_, SqL.of hk3⟩, fun B nB => ?_⟩
        refine lc_list (K := K) (a := kn) (xs := ks.map V.str) (fun e H' => Coll H3 B (i + 1) e H') (Coll.start nB) (fun e H' _ N => SqL.of (N.same _ _ hk3)) ?_ ?_
        · rintro e y H4 hy4 N
          obtain ⟨kd, hkd, rfl⟩ : ∃ kd, ks[e]? = some kd ∧ V.str kd = y := by
            rw [List.getElem?_map] at hy4
            cases ex : ks[e]? with
            | none =>
              rw [ex] at hy4
              cases hy4
            | some x =>
              rw [ex] at hy4
              exact ⟨x, rfl, Option.some.inj hy4⟩
          have he : e < ks.length := (List.getElem?_eq_some_iff.mp hkd).1
          refine ⟨rfl, _, rfl, _, rfl, (by show 1 ≤ sizeLine; decide), fun p np => ?_⟩
          have Sp := same_new (o := .tup [.str kd]) np
          refine cat_of (Sp _ _ (N.same _ _ ha3)) upd_same ?_ fun q H5 S5 hq => ?_
          · rw [List.length_map, sizeLine_eq]
            show w.length + 1 ≤ _
            omega
          · obtain ⟨xs, h1, h2, h3⟩ := N.push (w := w ++ [kd]) (Sp.trans S5) (by rw [List.map_append]; exact hq) (by simp; omega) (fun y hy => by
              rcases List.mem_append.mp hy with z | z
              · exact hw5 y z
              · rw [List.mem_singleton.mp z]
                exact hal kd (List.mem_of_getElem? hkd))
            exact ⟨xs, h1, by rw [sizeLine_eq]; omega, h3⟩
        · rintro H4 N
          rw [List.length_map] at N
          obtain ⟨xs, zs', h1, h2, h3, h4, h5⟩ := M.join N
          refine ⟨Lg, B, xs, zs', rfl, rfl, h1, h2, by rw [sizeLine_eq]; omega, ?_, _, _, rfl⟩
          obtain ⟨J, zs2, g1, g2, g3, g4, g5, g6⟩ := h5
          exact ⟨J, zs2, g1, g2, g3, g4, g5, by omega⟩
      · rintro σ H3 ⟨M, o6, o7, rfl⟩
        obtain ⟨xsF, hF, hxF, lxF⟩ := lF.same M.same (Nat.le_succ i) (Nat.le_refl _)
        obtain ⟨zs, hLg, hz, lz⟩ := M.lots
        have e3 : 3 ^ (i + 1) = 3 ^ i * 3 := Nat.pow_succ 3 i
        refine ⟨_, rfl, _, rfl, F, Lg, xsF, zs, rfl, rfl, hF, hLg, by rw [sizeLine_eq]; omega, fun p np => ⟨_, rfl, _, _, rfl, ?_⟩⟩
        have Sp := same_new (o := .lst (xsF ++ zs)) np
        refine ⟨S.trans (M.same.trans Sp), p, Lg, _, _, _, _, (S.trans M.same).free np, ⟨xsF ++ zs, upd_same, fun x hx => ?_, by simp; omega⟩, ⟨zs, Sp _ _ hLg, fun x hx => (hz x hx).keep (fun _ _ e => Sp _ _ e) (Nat.le_refl _), by omega⟩, rfl⟩
        rcases List.mem_append.mp hx with h | h
        · exact (hxF x h).keep (fun _ _ e => Sp _ _ e) (Nat.le_refl _)
        · exact (hz x h).keep (fun _ _ e => Sp _ _ e) (Nat.le_refl _)
    · clear lF lL S F0
      rintro σ H2 ⟨S, F, L, o4, o5, o6, o7, F0, lF, lL, rfl⟩
      exact ⟨_, rfl, k H2 F S F0 lF⟩
end
end KL
set_option Elab.async false
set_option linter.all false
set_option maxRecDepth 100000
set_option maxHeartbeats 4000000
namespace KL
open PySem L2 PySem.Spec PyProof.Rows
/-- a def's promise where no guard stands around its call -/
structure FnG (P : Program) (w : World) (K : PySem.W.Frag) (mg : Str → Option Value) (base : Heap) (CX : CXT) (k : Nat) (f : Addr) (fd : FuncData) (ps : List Str) (sp : Sp) : Prop where
  len : ∀ vs H Q E, sp vs H Q E → vs.length = ps.length
  run : ∀ (A : Around) (outer : List Env) (s : Shared) (H : Hp) (args : Args) (us : List Value) (vs : List V) (Q : VK) (E : XK), A.guards = some [] → Room k A → Env0 P w K mg base A outer s H → BindsTo s fd args (ps.zip us) → Vals vs us → sp vs H Q E →
    codeAny (model P w) A (.call (.ref f) args) (CR CX outer P w H s Q E) s
section
variable {P : Program} {w : World} {K : PySem.W.Frag} {mg : Str → Option Value} {base : Heap}
theorem fnG {CX : CXT} {k : Nat} {f : Addr} {qual x : Str} {st : Stmt} {N ps : List Str} {sp : Sp} {fd : FuncData} (F : Fun K x qual st f fd) (S : FnScope N ps (defScope st)) (len : ∀ vs H Q E, sp vs H Q E → vs.length = ps.length)
    (hbody : ∀ (cdv : Value) (A : Around) (outer : List Env) (s : Shared) (H : Hp) (vs : List V) (Q : VK) (E : XK), A.guards = some [] → Room k (A.deeper (envOfC qual (defScope st) s.heap.objs.size f cdv)) → sp vs H Q E →
      ∃ t, PSs (cxOf CX P w K mg base N qual (defScope st) f cdv A outer s H E) (defBody st) t ∧ t { nx := fun _ H' => Q .non H', rt := Q } (start N vs) H) : FnG P w K mg base CX (k + 1) f fd ps sp := by
  obtain ⟨oc, od, kV, doc, pm, an, cdv, ct, osl, rfl, lk, hcd⟩ := F.ex
  refine ⟨len, fun A outer s H args us vs Q E hg hr e0 hb r hs => ?_⟩
  have hl := len _ _ _ _ hs
  have KX := e0.mod.kin.keeps fun b o e => (e0.bs b o e).1
  have lim := e0.mod.nolimit.keeps fun b o e => (e0.bs b o e).1
  have hk : ∀ y ∈ ps.zip us, (defScope st).names.lookup y.1 = some .local ∨ ((defScope st).names.lookup y.1 = some .cell ∧ ((cellsFrom (s.heap.objs.size + 1) (defScope st).names []).lookup y.1).isSome = true) := by
    rintro ⟨n, v⟩ hy
    rcases S.par n (List.of_mem_zip hy).1 with q | q
    · exact Or.inl q
    · exact Or.inr ⟨q, PySem.W.cellsFrom_some _ _ _ (Or.inl q)⟩
  refine codeAny_call_function hr.depth (KX _ _ lk) rfl S.co S.gen rfl (PySem.W.codeRec_of KX hcd) (hb _ _ _ _ ?_)
  refine wpAny_newFunctionEnv_cells S.kind hk fun env he s1 z => ?_
  subst he
  refine ⟨lim.keeps z.toInCall.keep, codeAny_func ?_⟩
  obtain ⟨t, ht, hq⟩ := hbody cdv A outer s H vs Q E hg (hr.deeper _) hs
  have J0 := inv_start (CX := CX) (E := E) S hr.hd e0 hl r z
  refine wpAny_mono (ht.run [] s1 (start N vs) H _ J0 hq) (fun fl s' y => ?_) fun e s' y => y
  match fl, y with
  | .ret u, ⟨v, σ', H', J, rv, q⟩ => exact ⟨v, H', J.os, J.bare, J.base, J.hok, rv, q⟩
  | .next, ⟨σ', H', J, q⟩ => exact ⟨V.non, H', J.os, J.bare, J.base, J.hok, rfl, q⟩
  | .brk, ⟨_, _, _, q⟩ => exact q.elim
  | .cont, ⟨_, _, _, q⟩ => exact q.elim
end
section
variable {X : Cx} {CX : CXT} {k : Nat} {f : Addr} {fd : FuncData} {ps : List Str} {sp : Sp} {E : XK} {x : Str} {p pos : Pos} {e : Expr} {es : List Expr} {t : TA}
theorem pe_callG (F : FnG X.prog X.w X.K X.mg X.base CX k f fd ps sp) (hG : X.A.guards = some []) (hr : Room k X.A) (hg : Gl X x) (hm : X.mg x = some (.ref f)) (hk : PySem.W.keepIn X.K (.ref f) = true) (hb : L2.Binds X.K fd ps []) (hx : Passes CX X E)
    (ha : PA X (e :: es) t) (hdb : (x == ("__debug__" : Str)) = false := by decide) (he : starEach (e :: es) X.env = (false, eval e X.env) :: starEach es X.env := by rfl) (hpl : (backTo pos (starEach es X.env)).any (·.1) = false := by rfl) :
    PE X (.Call (.Name x p) (e :: es) [] pos) (tCall sp [] E t) := by
  refine ⟨fun pins s σ H Q I h => ?_⟩
  refine wpAny_Call_Name_kw (ld_glob I hg hm ?_ hdb)
  refine PySem.W.callWith_K (h₀ := X.base) I.ok.mod.kin hk (thn (ha.run pos pins s σ H _ I h) fun us s1 ⟨vs, H1, I1, r, q⟩ => ⟨I1.kIn, ?_⟩) he hpl
  have q' : sp vs H1 Q E := by
    have z : sp (vs ++ []) H1 Q E := q
    rwa [List.append_nil] at z
  have hl : (us ++ []).length = ps.length := by
    rw [List.append_nil, ← r.length]
    exact F.len _ _ _ _ q'
  have bd := hb s1 us I1.kIn hl
  rw [List.append_nil] at bd
  refine wpAny_call (codeAny_mono (F.run X.A X.stack s1 H1 ⟨us, []⟩ us vs Q E hG hr I1.env0 bd r q') fun res s' y => ?_)
  match res, y with
  | .error er, y => exact hx pins σ H1 s1 er s' I1 y
  | .ok (.ret u), y => exact I1.after y
  | .ok .next, y => exact False.elim y
  | .ok .brk, y => exact False.elim y
  | .ok .cont, y => exact False.elim y
end
section
variable {P : Program} {w : World} {K : PySem.W.Frag} {mg mb : Str → Option Value} {CX : CXT} {k : Nat} {fa a : Addr} {fd : FuncData} {x : Str} {sp : Sp} {s1 : Shared} {vs : List Value} {ns : List Int}
/-- the law's call, from a heap in which the script alone may be tracked -/
theorem law_core (KX : K.In s1.heap) (hns : s1.heap.Ns mainGlobals mg) (hb : s1.heap.Ns builtinsNs mb) (hbb : ∀ x : Str, x ≠ "__name__" → mb x = bootBuiltins x) (hlim : s1.heap.NoLimit) (hg : s1.gens = #[])
    (ha : s1.heap.get? a = some { cls := .type "list", data := .seq vs.toArray }) (hr : Room k PySem.callerA)
    (F : ∀ base : Heap, K.In base → base.Ns mainGlobals mg → FnG P w K mg base CX k fa fd [x] sp) (hbind : ∀ (s : Shared) (u : Value), BindsTo s fd ⟨[u], []⟩ [(x, u)])
    (hCX : ∀ H e s', CX [] H s1 (fun _ _ _ => False) e s' → False) (H : Hp) (hO : Only H) (q0 : sp [.ref a] H (fun v _ => v = .bl true) fun _ _ _ => False) (hok : HOk P w H s1.heap) (hA : ∀ b, H b ≠ none → b = a) (hK : H a ≠ none → K.lookup a = none) :
    codeAny (model P w) PySem.callerA (.call (.ref fa) ⟨[.ref a], []⟩) (fun r s' => r = .ok (.ret (.bool true)) ∧ OldK s1.heap s'.heap ∧ s'.os = s1.os ∧ AllBare s'.gens) s1 := by
  have only_a : ∀ {b : Addr} {u : HO}, H b = some u → b = a := fun {b u} q => hA b (by rw [q]; simp)
  have dict_free : ∀ {b : Addr} {o : Obj} {es : Array DictEntry} {ep : Nat}, s1.heap.get? b = some o → o.data = .dict es ep → H b = none := fun {b o es ep} e d => by
    cases q : H b with
    | none => rfl
    | some u =>
      have z := only_a q
      subst z
      rw [ha] at e
      cases e
      have d' : Data.seq vs.toArray _ = Data.dict es ep := d
      cases d'
  have up : ∀ {b : Addr} {m : Str → Option Value}, s1.heap.Ns b m → (hidT s1.heap H).Ns b m := fun {b m} ⟨o, es, ep, e, d, r⟩ => ⟨o, es, ep, hidT_get e (dict_free e d), d, r⟩
  have kIn : K.In (hidT s1.heap H) := fun b o e => by
    refine hidT_get (KX b o e) ?_
    cases q : H b with
    | none => rfl
    | some u =>
      have z := only_a q
      subst z
      rw [hK (by rw [q]; simp)] at e
      cases e
  have M : Mod K mg (hidT s1.heap H) := ⟨kIn, up hns, ⟨mb, up hb, hbb⟩, let ⟨mc, y1, y2⟩ := hlim; ⟨mc, up y1, y2⟩⟩
  have nil : ∀ b : Addr, b ∉ ([] : List Addr) := fun b z => by simp at z
  have e0 : Env0 P w K mg (hidT s1.heap H) PySem.callerA [] s1 H := ⟨rfl, M, fun b o e => of_hidT e, Nat.le_of_eq (hidT_size _ _), trivial, fun b z => absurd z (nil b), hok, .of_eq hg⟩
  refine codeAny_mono ((F _ kIn (up hns)).run PySem.callerA [] s1 H ⟨[.ref a], []⟩ [.ref a] [.ref a] _ _ rfl hr e0 (hbind s1 (.ref a)) (.cons rfl .nil) q0) fun r s' y => ?_
  match r, y with
  | .error e, y => exact (hCX H e s' y).elim
  | .ok .next, y => exact y.elim
  | .ok .brk, y => exact y.elim
  | .ok .cont, y => exact y.elim
  | .ok (.ret u), ⟨v, H', os, bare, un, hok', rv, q⟩ =>
    have q' : v = .bl true := q
    subst q'
    have eu : u = Value.bool true := rv
    subst eu
    refine ⟨rfl, OldK.of_keep fun b o e => ?_, os, bare⟩
    cases q : H b with
    | none => exact un.keep b o e q (nil b) (nil b)
    | some u =>
      rcases hO b with z | ⟨ob, xs, z⟩
      · rw [q] at z
        cases z
      · have e1 := (hok b _ z).1
        have e2 := (hok' b _ (un.frzs b ob _ z)).1
        rw [e] at e1
        cases e1
        exact e2
theorem law_callG (KX : K.In s1.heap) (hns : s1.heap.Ns mainGlobals mg) (hb : s1.heap.Ns builtinsNs mb) (hbb : ∀ x : Str, x ≠ "__name__" → mb x = bootBuiltins x) (hlim : s1.heap.NoLimit) (hg : s1.gens = #[])
    (ha : s1.heap.get? a = some { cls := .type "list", data := .seq vs.toArray }) (hi : IntsAre vs ns) (hl : ns.length ≤ sizeLine) (hr : Room k PySem.callerA)
    (F : ∀ base : Heap, K.In base → base.Ns mainGlobals mg → FnG P w K mg base CX k fa fd [x] sp) (hbind : ∀ (s : Shared) (u : Value), BindsTo s fd ⟨[u], []⟩ [(x, u)])
    (hsp : ∀ H : Hp, Only H → SqL K H a (ns.map V.int) → sp [.ref a] H (fun v _ => v = .bl true) fun _ _ _ => False) (hCX : ∀ H e s', CX [] H s1 (fun _ _ _ => False) e s' → False) :
    codeAny (model P w) PySem.callerA (.call (.ref fa) ⟨[.ref a], []⟩) (fun r s' => r = .ok (.ret (.bool true)) ∧ OldK s1.heap s'.heap ∧ s'.os = s1.os ∧ AllBare s'.gens) s1 := by
  have rv := vals_ints hi
  have lenV := hi.length
  cases hk : K.lookup a with
  | some o =>
    have e := KX a o hk
    rw [ha] at e
    cases e
    have hO : Only (fun _ => none) := fun _ => .inl rfl
    refine law_core KX hns hb hbb hlim hg ha hr F hbind hCX (fun _ => none) hO (hsp _ hO (.inr ⟨_, vs.toArray, _, hk, rfl, rfl, rfl, by rw [List.size_toArray, lenV]; exact hl, by simpa using rv⟩)) (fun b u z => ?_) (fun b z => absurd rfl z) fun z => absurd rfl z
    have z' : (none : Option HO) = some u := z
    cases z'
  | none =>
    let T : Hp := fun b => if b = a then some (.frz { cls := .type "list", data := .seq vs.toArray } (.lst (ns.map V.int))) else none
    have Ta : T a = some (.frz { cls := .type "list", data := .seq vs.toArray } (.lst (ns.map V.int))) := if_pos rfl
    have Tb : ∀ b, b ≠ a → T b = none := fun b hb => if_neg hb
    have hO : Only T := fun b => by
      by_cases z : b = a
      · exact .inr ⟨_, _, by rw [z]; exact Ta⟩
      · exact .inl (Tb b z)
    refine law_core KX hns hb hbb hlim hg ha hr F hbind hCX T hO (hsp T hO (.inl (.inr ⟨_, Ta⟩))) (fun b u z => ?_) (fun b z => ?_) fun _ => hk
    · by_cases y : b = a
      · subst y
        have z' := Ta.symm.trans z
        cases z'
        exact ⟨ha, by rw [List.length_map]; exact hl, vs, _, rv, ha⟩
      · have z' := (Tb b y).symm.trans z
        cases z'
    · by_cases y : b = a
      · exact y
      · exact absurd (Tb b y) z
end
/-- the goal that the head leaves, from the law's promise -/
theorem walkG {l : PySem.W.OpenLaw} {n k : Nat} {q : Program} {loose : List Str} {XP : (Str → Option Value) → Heap → Prop} {YP : World → Heap → Prop} {d : DefRec} {K : Params → PySem.W.Frag} {CX : World → CXT} {sp : World → Sp} {x : Str}
    (hn : l.most = some n) (hn2 : n ≤ sizeLine) (hdf : d.params.defaults = []) (hr : Room k PySem.callerA) (hY : ∀ (w : World) (h : Heap), YP w h → (K w.params).In h)
    (F : ∀ (w : World) (mg : Str → Option Value) (fa : Addr) (h : Heap), (K w.params).In h → h.Ns mainGlobals mg → mg d.name = some (.ref fa) →
      ∃ fd : FuncData, (∀ (s : Shared) (u : Value), BindsTo s fd ⟨[u], []⟩ [(x, u)]) ∧ ∀ base : Heap, (K w.params).In base → base.Ns mainGlobals mg → FnG l.prog w (K w.params) mg base (CX w) k fa fd [x] (sp w))
    (hsp : ∀ (w : World) (H : Hp) (a : Addr) (ns : List Int), ns.length ≤ n → Only H → SqL (K w.params) H a (ns.map V.int) → sp w [.ref a] H (fun v _ => v = .bl true) fun _ _ _ => False)
    (hCX : ∀ (w : World) (H : Hp) (s : Shared) (e : Value) (s' : Shared), CX w [] H s (fun _ _ _ => False) e s' → False) : PySem.W.WalkO q loose XP YP l.row.toRowW d [] (fun f vs => PySem.call f vs) := by
  refine Att.attach_call hn hdf fun w s0 s1 mg mb fa o pm cd doc a vs ns G Y ho hd hcd hmg hobj hints hlen hg => ?_
  have KX := hY w _ Y
  obtain ⟨fd, hb, hF⟩ := F w mg fa _ KX G.T.g hmg
  exact law_callG KX G.T.g G.T.b G.T.builtins G.T.nolimit hg hobj hints (Nat.le_trans hlen hn2) hr hF hb (fun H hO hS => hsp w H a ns hlen hO hS) fun H e s' => hCX w H s1 e s'
theorem fnG0 {P : Program} {w : World} {K : PySem.W.Frag} {mg : Str → Option Value} {base : Heap} {k : Nat} {f : Addr} {qual x : Str} {st : Stmt} {N ps : List Str} {sp : Sp} {fd : FuncData} (F : Fun K x qual st f fd) (S : FnScope N ps (defScope st)) (len : ∀ vs H Q E, sp vs H Q E → vs.length = ps.length)
    (hbody : ∀ (cdv : Value) (A : Around) (outer : List Env) (s : Shared) (H : Hp) (vs : List V) (Q : VK) (E : XK), A.guards = some [] → Room k (A.deeper (envOfC qual (defScope st) s.heap.objs.size f cdv)) → sp vs H Q E →
      ∃ t, PSs (cxOf CX0 P w K mg base N qual (defScope st) f cdv A outer s H E).nox (defBody st) t ∧ t { nx := fun _ H' => Q .non H', rt := Q } (start N vs) H) : FnG P w K mg base CX0 (k + 1) f fd ps sp :=
  fnG F S len fun cdv A outer s H vs Q E hg hr hs => by
    obtain ⟨t, ht, hq⟩ := hbody cdv A outer s H vs Q E hg hr hs
    exact ⟨t, ht.nox, hq⟩
end KL
set_option Elab.async false
set_option linter.all false
set_option maxRecDepth 100000
set_option maxHeartbeats 2000000
namespace KL
open PySem L2 PySem.Spec PyProof.Rows
section
variable {X : Cx} {pins : List (Addr × Obj)} {σ : L2.St} {H : Hp} {s : Shared}
theorem most_two {h : Heap} {n m : Nat} {as bs : List Addr} (x : ReadAtMost h n as) (y : ReadAtMost h m bs) : ReadAtMost h (max n m) (as ++ bs) :=
  (x.mono (Nat.le_max_left n m)).append (y.mono (Nat.le_max_right n m))
mutual
theorem Dq.repr (I : Inv X pins σ H s) : ∀ (d : PyData) (v : V) (u : Value), Dq H v d → RelV v u → d.showable = true → d.shown.length ≤ sizeLine → ∃ bs, ReadAtMost s.heap d.depth bs ∧ ReprK X.prog X.w bs s.heap d.depth u d.shown
  | .list ds, v, u, h, r, w, z => by
    obtain ⟨as, rd, _⟩ := Dq.reads I (.list ds) v u h r
    cases h with
    | lst q ha =>
      cases r
      obtain ⟨_, its, n, rv, ho⟩ := I.hok _ _ q
      have z : (listText (PyData.shownAll ds)).length ≤ sizeLine := by simpa only [PyData.shown] using z
      obtain ⟨bs, h1, h2⟩ := DqAll.repr I ds _ its ha rv (by simpa [PyData.showable] using w) fun t ht => Nat.le_trans (listText_mem_le ht) z
      have out := not_mem_of_deeper rd (n := PyData.depthAll ds) (Nat.lt_succ_self _) h1
      refine ⟨_ :: bs, ReadAtMost.cons rd (Nat.le_succ (PyData.depthAll ds)) h1, ?_⟩
      rw [PyData.depth, PyData.shown]
      cases its with
      | nil =>
        cases ds with
        | nil =>
          rw [PyData.shownAll, listText_nil]
          exact ReprK.listEmpty ho rfl rfl
        | cons d ds => cases h2
      | cons x l => exact ReprK.list ho rfl rfl out (h2.length_eq.trans (by simp)) fun i y e => h2.item i y (by simpa using e)
  | .tuple ds, v, u, h, r, w, z => by
    obtain ⟨as, rd, _⟩ := Dq.reads I (.tuple ds) v u h r
    cases h with
    | tup q ha =>
      cases r
      obtain ⟨_, its, rv, o, o1, o2, n, o3⟩ := I.hok _ _ q
      have z : (tupleText (PyData.shownAll ds)).length ≤ sizeLine := by simpa only [PyData.shown] using z
      obtain ⟨bs, h1, h2⟩ := DqAll.repr I ds _ its ha rv (by simpa [PyData.showable] using w) fun t ht => Nat.le_trans (tupleText_mem_le ht) z
      refine ⟨_ :: bs, ReadAtMost.cons rd (Nat.le_succ (PyData.depthAll ds)) h1, ?_⟩
      rw [PyData.depth, PyData.shown]
      exact ReprK.tuple o1 o2 o3 (not_mem_of_deeper rd (n := PyData.depthAll ds) (Nat.lt_succ_self _) h1) h2
  | .none, v, u, h, r, w, z => let ⟨_, rd, _⟩ := Dq.reads I _ v u h r; ReprK.of_reads rd w (fun x => by cases x) z
  | .bool _, v, u, h, r, w, z => let ⟨_, rd, _⟩ := Dq.reads I _ v u h r; ReprK.of_reads rd w (fun x => by cases x) z
  | .int _, v, u, h, r, w, z => let ⟨_, rd, _⟩ := Dq.reads I _ v u h r; ReprK.of_reads rd w (fun x => by cases x) z
  | .str _, v, u, h, r, w, z => let ⟨_, rd, _⟩ := Dq.reads I _ v u h r; ReprK.of_reads rd w (fun x => by cases x) z
  | .dict _, v, u, h, r, w, z => let ⟨_, rd, sm⟩ := Dq.reads I _ v u h r; ReprK.of_reads rd w (fun _ => sm rfl) z
theorem DqAll.repr (I : Inv X pins σ H s) : ∀ (ds : List PyData) (vs : List V) (us : List Value), DqAll H vs ds → Vals vs us → PyData.showableAll ds = true → (∀ t ∈ PyData.shownAll ds, t.length ≤ sizeLine) →
    ∃ bs, ReadAtMost s.heap (PyData.depthAll ds) bs ∧ ReprAllK X.prog X.w bs s.heap (PyData.depthAll ds) us (PyData.shownAll ds)
  | [], _, _, h, r, _, _ => by
    cases h
    cases r
    exact ⟨[], (fun _ x => nomatch x), ReprAllK.nil⟩
  | d :: ds, _, _, h, r, w, z => by
    cases h with
    | cons h1 h2 =>
      cases r with
      | cons r1 r2 =>
        have w' := Bool.and_eq_true_iff.mp (show (d.showable && PyData.showableAll ds) = true from w)
        obtain ⟨b1, k1, j1⟩ := Dq.repr I d _ _ h1 r1 w'.1 (z _ (.head _))
        obtain ⟨b2, k2, j2⟩ := DqAll.repr I ds _ _ h2 r2 w'.2 fun t ht => z t (.tail _ ht)
        refine ⟨b1 ++ b2, most_two k1 k2, .cons ((j1.more fun b hb => ?_).level_le (Nat.le_max_left _ _)) (j2.more_le (fun b hb => ?_) (Nat.le_max_right _ _))⟩
        · exact List.mem_append_left b2 hb
        · exact List.mem_append_right b1 hb
end
end
/-- what the text of data needs -/
structure Seen (d : PyData) : Prop where
  w : d.showable = true
  z : d.shown.length ≤ 4000000
  p : d.depth ≤ 20
/-- repr of a list with items -/
def rRepL : List V → Hp → VK → Prop := fun xs H Q => ∃ (q : Addr) (v : V) (vs : List V) (d : PyData) (ds : List PyData), xs = [.ref q] ∧ H q = some (.lst (v :: vs)) ∧ DqAll H (v :: vs) (d :: ds) ∧ Seen (.list (d :: ds)) ∧ Q (.str (PyData.list (d :: ds)).shown) H
theorem call_repL {X : Cx} (hG : X.A.guards = some []) (hu : X.A.units + 64 < cLine) : CallR X (.builtin "repr") rRepL := by
  intro pins s σ H xs us Q I r h
  obtain ⟨q, v, vs, d, ds, rfl, hq, hd, S, k⟩ := h
  obtain ⟨u, rfl, ru⟩ := vals1 r
  cases (show u = Value.ref q from ru)
  obtain ⟨as, rd, _⟩ := Dq.reads I (.list (d :: ds)) (.ref q) (.ref q) (.lst hq hd) rfl
  obtain ⟨_, its, n, rv, ho⟩ := I.hok _ _ hq
  cases rv with
  | cons r1 rv =>
    rename_i u1 us1
    have zz : (PyData.list (d :: ds)).shown.length ≤ sizeLine := Nat.le_trans S.z (by rw [sizeLine_eq]; omega)
    have z : (listText (PyData.shownAll (d :: ds))).length ≤ sizeLine := by simpa only [PyData.shown] using zz
    obtain ⟨bs, h1, h2⟩ := DqAll.repr I (d :: ds) _ (u1 :: us1) hd (.cons r1 rv) (by simpa [PyData.showable] using S.w) fun t ht => Nat.le_trans (listText_mem_le ht) z
    have out := not_mem_of_deeper rd (n := PyData.depthAll (d :: ds)) (Nat.lt_succ_self _) h1
    have dp : PyData.depthAll (d :: ds) + 1 ≤ 20 := S.p
    refine call_repr_slot (T := "list") (idr := "list.__repr__") (by omega) ⟨_, ho, rfl⟩ F.slot_list_repr.toG ?_
    refine call_list_reprK (ts := PyData.shownAll (d :: ds)) (d := PyData.depthAll (d :: ds)) ho rfl rfl out (h2.length_eq.trans (by simp)) (fun i y e => h2.item i y (by simpa using e)) (g := []) hG (fun b _ => Clear.nil b) (by show X.A.units + 1 + (PyData.depthAll (d :: ds) + 1) < cLine; omega) (fun b o e => e) (fun h' u tk hk => ⟨_, _, rfl, .str _, H, I.kept hk, ⟨u, by simp only [PyData.shown]⟩, k⟩) z
end KL
set_option Elab.async false
set_option linter.all false
set_option maxRecDepth 100000
set_option maxHeartbeats 4000000
namespace KL
open PySem L2 PySem.Spec PyProof.Rows
/-! ### o.m(k=v) -/
def tMthK (C : Addr) (m : Str) (sp : Sp) (gV : List V → List V → List V) (E : XK) (ta : TE) (tk : TA) : TE := fun σ H Q => ta σ H fun x H1 => ∃ a dx fs, x = .ref a ∧ H1 a = some (.ins C dx fs) ∧ fs.lookup m = none ∧ tk σ H1 fun zs H2 => sp (gV [x] zs) H2 Q E
theorem pe_methK0 {X : Cx} {CX : CXT} {k : Nat} {f C : Addr} {fd : FuncData} {ps ks : List Str} {sp : Sp} {E : XK} {o : Expr} {m : Str} {apos pos : Pos} {kws : List Keyword} {ta : TE} {tk : TA} {g : List Value → List Value → List Value} {gV : List V → List V → List V} {pl : Sem Bool}
    (he : PE X o ta) (c : Cls X.K C) (hm : Meth X.K C m f) (F : FnOk X.prog X.w X.K X.mg X.base CX k f fd ps sp) (hr : Room k X.A) (hb : KBinds X.K fd ps ks g gV) (hx : Passes CX X E) (hkw : PK X kws tk)
    (hall : (backToKw pos (keywordEach kws X.env)).all (·.1.isSome) = true := by rfl) (hks : (backToKw pos (keywordEach kws X.env)).filterMap (·.1) = ks := by rfl)
    (hpl : ((backTo pos (starEach [] X.env)).any (·.1) || (backToKw pos (keywordEach kws X.env)).any (·.1.isNone)) = false := by rfl)
    (ht : eval (.Call (.Attribute o m apos) [] kws pos) X.env = (do
      let ov ← eval o X.env
      standAt apos.atName
      let (f, first) ← holding [ov] (getMethod ov m pl)
      callWith pos f first (backTo pos (starEach [] X.env)) (backToKw pos (keywordEach kws X.env))) := by rfl) :
    PE X (.Call (.Attribute o m apos) [] kws pos) (tMthK C m sp gV E ta tk) := by
  refine ⟨fun pins s σ H Q I h => ?_⟩
  refine PySem.W.methodCall_KW (pl := pl) (thn (he.run pins s σ H _ I h) fun u s1 ⟨x, H1, I1, rx, a, dx, fs, ex, ea, l, q⟩ => ?_) ht
  subst ex
  obtain rfl : u = Value.ref a := rx
  refine getmeth_ok I1 ea c hm l ?_
  refine PySem.W.callWith_KW0 (first := [.ref a]) (h₀ := X.base) I.ok.mod.kin hm.kp hall (thn (hkw.run pos pins s1 σ H1 _ I1 q) fun ws s2 ⟨zs, H2, I2, rz, q2⟩ => ⟨I2.kIn, ?_⟩) hpl
  rw [hks]
  exact run_fnk (us := [.ref a]) (vs := [.ref a]) F hr hb hx I2 (.cons rfl .nil) rz q2
/-- repr of a tuple -/
def rRepT : List V → Hp → VK → Prop := fun xs H Q => ∃ (q : Addr) (vs : List V) (ds : List PyData), xs = [.ref q] ∧ H q = some (.tup vs) ∧ DqAll H vs ds ∧ Seen (.tuple ds) ∧ Q (.str (PyData.tuple ds).shown) H
theorem call_repT {X : Cx} (hG : X.A.guards = some []) (hu : X.A.units + 64 < cLine) : CallR X (.builtin "repr") rRepT := by
  intro pins s σ H xs us Q I r h
  obtain ⟨q, vs, ds, rfl, hq, hd, S, k⟩ := h
  obtain ⟨u, rfl, ru⟩ := vals1 r
  cases (show u = Value.ref q from ru)
  obtain ⟨as, rd, _⟩ := Dq.reads I (.tuple ds) (.ref q) (.ref q) (.tup hq hd) rfl
  obtain ⟨_, its, rv, o, o1, o2, n, o3⟩ := I.hok _ _ hq
  have zz : (PyData.tuple ds).shown.length ≤ sizeLine := Nat.le_trans S.z (by rw [sizeLine_eq]; omega)
  have z : (tupleText (PyData.shownAll ds)).length ≤ sizeLine := by simpa only [PyData.shown] using zz
  obtain ⟨bs, h1, h2⟩ := DqAll.repr I ds _ its hd rv (by simpa [PyData.showable] using S.w) fun t ht => Nat.le_trans (tupleText_mem_le ht) z
  have out := not_mem_of_deeper rd (n := PyData.depthAll ds) (Nat.lt_succ_self _) h1
  have dp : PyData.depthAll ds + 1 ≤ 20 := S.p
  refine call_repr_slot (T := "tuple") (idr := "tuple.__repr__") (by omega) ⟨_, o1, o2⟩ F.slot_tuple_repr ?_
  exact call_tuple_reprK (ts := PyData.shownAll ds) (d := PyData.depthAll ds) o1 o2 o3 out h2 (g := []) hG (fun b _ => Clear.nil b) (by show X.A.units + 1 + (PyData.depthAll ds + 1) < cLine; omega) (fun b o e => e) (fun h' u tk hk => ⟨_, _, rfl, .str _, H, I.kept hk, ⟨u, by simp only [PyData.shown]⟩, k⟩) z
end KL
set_option Elab.async false
set_option linter.all false
set_option maxRecDepth 100000
set_option maxHeartbeats 2000000
namespace KL
open PySem L2 PySem.Spec PyProof.Rows
mutual
/-- how long the text of data is at most -/
def wt : PyData → Nat
  | .none => 4
  | .bool _ => 5
  | .int i => i.natAbs.log2 + 2
  | .str x => 10 * x.length + 2
  | .list ds => wtAll ds + 2
  | .tuple ds => wtAll ds + 3
  | .dict kvs => (PyData.dict kvs).shown.length
def wtAll : List PyData → Nat
  | [] => 0
  | d :: r => wt d + 2 + wtAll r
end
mutual
/-- how wide data is at its widest -/
def wd : PyData → Nat
  | .none => 0
  | .bool _ => 0
  | .int i => i.natAbs.log2
  | .str x => x.length
  | .list ds => max ds.length (wdAll ds)
  | .tuple ds => max ds.length (wdAll ds)
  | .dict kvs => if kvs = [] then 0 else 2000
def wdAll : List PyData → Nat
  | [] => 0
  | d :: r => max (wd d) (wdAll r)
end
def txS (x : Str) : Bool := x.cps.toList.all fun c => decide (c < 128)
mutual
/-- plain signs alone -/
def txD : PyData → Bool
  | .str x => txS x
  | .list ds => txAll ds
  | .tuple ds => txAll ds
  | _ => true
def txAll : List PyData → Bool
  | [] => true
  | d :: r => txD d && txAll r
end
theorem list_len (ts : List Str) : (listText ts).length ≤ piled ts + 2 := by
  cases ts with
  | nil => decide +kernel
  | cons t r =>
    have h := textFrom_length_pos r 1 (("[" : Str) ++ (if (0 : Nat) > 0 then ", " else "" : String) ++ t) Nat.one_pos
    have e : (("[" : Str) ++ (if (0 : Nat) > 0 then ", " else "" : String) ++ t).length = 1 + t.length := by
      rw [strLen_append, strLen_append]
      rfl
    have x : (listText (t :: r)).length = (textFrom 1 (("[" : Str) ++ (if (0 : Nat) > 0 then ", " else "" : String) ++ t) r).length + 1 := by
      show (textFrom 0 "[" (t :: r) ++ "]").length = _
      rw [strLen_append]
      rfl
    rw [x, h, e, piled_cons]
    omega
theorem tup_tlen (ts : List Str) : (tupleText ts).length ≤ piled ts + 3 := by
  unfold tupleText
  rw [strLen_append, strLen_append]
  have a : (("(" : Str)).length = 1 := rfl
  have b : ((if (ts.length == 1) = true then ",)" else ")" : String) : Str).length ≤ 2 := by
    split
    · decide +kernel
    · decide +kernel
  have c : (Str.join ", " ts).length ≤ piled ts := by
    cases ts with
    | nil => decide +kernel
    | cons t r =>
      have := join_length_add (t :: r) (by simp)
      omega
  omega
mutual
theorem shown_wt : ∀ (d : PyData), txD d = true → d.shown.length ≤ wt d
  | .none, _ => by decide +kernel
  | .bool b, _ => by cases b <;> decide +kernel
  | .int i, _ => by
    have e := int_text_length_le (a := i) (k := i.natAbs.log2 + 1) (Nat.succ_pos _) (Nat.lt_succ_self _)
    rw [PyData.shown]
    show (Str.ofString (toString i)).length ≤ i.natAbs.log2 + 2
    rw [PySem.ofString_length]
    exact e
  | .str x, h => by
    rw [PyData.shown]
    refine StrLaws.reprText_len x fun c hc => ?_
    have := of_decide_eq_true (List.all_eq_true.mp (show x.cps.toList.all (fun c => decide (c < 128)) = true from h) c hc)
    exact Nat.lt_trans this (by decide)
  | .list ds, h => by
    rw [PyData.shown]
    exact Nat.le_trans (list_len _) (Nat.add_le_add_right (shown_all ds h) 2)
  | .tuple ds, h => by
    rw [PyData.shown]
    exact Nat.le_trans (tup_tlen _) (Nat.add_le_add_right (shown_all ds h) 3)
  | .dict kvs, _ => Nat.le_refl _
theorem shown_all : ∀ (ds : List PyData), txAll ds = true → piled (PyData.shownAll ds) ≤ wtAll ds
  | [], _ => Nat.le_refl _
  | d :: ds, h => by
    have h' := Bool.and_eq_true_iff.mp (show (txD d && txAll ds) = true from h)
    rw [PyData.shownAll, piled_cons]
    have q1 := shown_wt d h'.1
    have q2 := shown_all ds h'.2
    show _ ≤ wt d + 2 + wtAll ds
    omega
end
mutual
theorem sm_wd : ∀ (d : PyData), wd d ≤ 1000 → smB d = true ∧ d.showable = true
  | .none, _ => ⟨rfl, rfl⟩
  | .bool _, _ => ⟨rfl, rfl⟩
  | .int i, h => by
    have h : i.natAbs.log2 ≤ 1000 := h
    exact ⟨decide_eq_true (by omega), decide_eq_true (by omega)⟩
  | .str x, h => ⟨decide_eq_true h, rfl⟩
  | .list ds, h => by
    have h : max ds.length (wdAll ds) ≤ 1000 := h
    obtain ⟨q1, q2⟩ := sm_wdAll ds (by omega)
    refine ⟨?_, q2⟩
    show (decide (ds.length ≤ 1000) && smAll ds) = true
    rw [q1, decide_eq_true (by omega)]
    rfl
  | .tuple ds, h => by
    have h : max ds.length (wdAll ds) ≤ 1000 := h
    obtain ⟨q1, q2⟩ := sm_wdAll ds (by omega)
    refine ⟨?_, q2⟩
    show (decide (ds.length ≤ 1000) && smAll ds) = true
    rw [q1, decide_eq_true (by omega)]
    rfl
  | .dict kvs, h => by
    have h : (if kvs = [] then 0 else 2000) ≤ 1000 := h
    by_cases e : kvs = []
    · subst e
      exact ⟨rfl, rfl⟩
    · rw [if_neg e] at h
      omega
theorem sm_wdAll : ∀ (ds : List PyData), wdAll ds ≤ 1000 → smAll ds = true ∧ PyData.showableAll ds = true
  | [], _ => ⟨rfl, rfl⟩
  | d :: ds, h => by
    have h : max (wd d) (wdAll ds) ≤ 1000 := h
    obtain ⟨a1, a2⟩ := sm_wd d (by omega)
    obtain ⟨b1, b2⟩ := sm_wdAll ds (by omega)
    refine ⟨?_, ?_⟩
    · show (smB d && smAll ds) = true
      rw [a1, b1]
      rfl
    · show (d.showable && PyData.showableAll ds) = true
      rw [a2, b2]
      rfl
end
/-- data of a size -/
structure Gd (w p W : Nat) (d : PyData) : Prop where
  wd : wd d ≤ w
  dp : d.depth ≤ p
  wt : wt d ≤ W
  tx : txD d = true
theorem Gd.mono {w p W w' p' W' : Nat} {d : PyData} (h : Gd w p W d) (h1 : w ≤ w') (h2 : p ≤ p') (h3 : W ≤ W') : Gd w' p' W' d := ⟨Nat.le_trans h.wd h1, Nat.le_trans h.dp h2, Nat.le_trans h.wt h3, h.tx⟩
end KL
set_option Elab.async false
set_option linter.all false
set_option maxRecDepth 100000
set_option maxHeartbeats 4000000
namespace KL
open PySem L2 PySem.Spec PyProof.Rows
/-! ### what is written, as data -/
def optD : Option (List Str) → PyData
  | none => .none
  | some w => strsD w
theorem al5_ok : ∀ y ∈ al5, txS y = true ∧ y.length ≤ 1 := by decide +kernel
theorem words_all : ∀ w : List Str, (∀ y ∈ w, y ∈ al5) → txAll (w.map .str) = true ∧ wdAll (w.map .str) ≤ 1 ∧ wtAll (w.map .str) ≤ 14 * w.length ∧ PyData.depthAll (w.map PyData.str) = 0
  | [], _ => ⟨rfl, Nat.zero_le _, Nat.zero_le _, rfl⟩
  | x :: w, h => by
    obtain ⟨q1, q2, q3, q4⟩ := words_all w fun y hy => h y (List.mem_cons_of_mem _ hy)
    obtain ⟨r1, r2⟩ := al5_ok x (h x List.mem_cons_self)
    refine ⟨?_, ?_, ?_, ?_⟩
    · show (txS x && txAll (w.map .str)) = true
      rw [r1, q1]
      rfl
    · show max x.length (wdAll (w.map .str)) ≤ 1
      omega
    · show 10 * x.length + 2 + 2 + wtAll (w.map .str) ≤ 14 * (w.length + 1)
      omega
    · show max 0 (PyData.depthAll (w.map .str)) = 0
      omega
structure Small (d : PyData) : Prop where
  t : txD d = true
  w : wd d ≤ 1000
  z : wt d ≤ 20000
  p : d.depth ≤ 1
theorem small_words {w : List Str} (h : ∀ y ∈ w, y ∈ al5) (n : w.length ≤ 1000) : Small (strsD w) := by
  obtain ⟨q1, q2, q3, q4⟩ := words_all w h
  refine ⟨q1, ?_, ?_, ?_⟩
  · show max (w.map PyData.str).length (wdAll (w.map .str)) ≤ 1000
    rw [List.length_map]
    omega
  · show wtAll (w.map .str) + 3 ≤ 20000
    omega
  · show PyData.depthAll (w.map .str) + 1 ≤ 1
    omega
theorem small_opt {o : Option (List Str)} (h : ∀ w, o = some w → (∀ y ∈ w, y ∈ al5) ∧ w.length ≤ 1000) : Small (optD o) := by
  cases o with
  | none => exact ⟨rfl, Nat.zero_le _, by decide, Nat.zero_le _⟩
  | some w => exact small_words (h w rfl).1 (h w rfl).2
theorem seen_tup {w : List Str} (h : ∀ y ∈ w, y ∈ al5) (n : w.length ≤ 1000) : Seen (.tuple (w.map .str)) := by
  have S := small_words h n
  exact ⟨(sm_wd _ S.w).2, Nat.le_trans (shown_wt _ S.t) (Nat.le_trans S.z (by decide)), Nat.le_trans S.p (by decide)⟩
theorem seen_two {d e : PyData} (h1 : Small d) (h2 : Small e) : Seen (.list [d, e]) := by
  have t : txD (.list [d, e]) = true := by
    show (txD d && (txD e && true)) = true
    rw [h1.t, h2.t]
    rfl
  have w : wd (.list [d, e]) ≤ 1000 := by
    show max 2 (max (wd d) (max (wd e) 0)) ≤ 1000
    have := h1.w
    have := h2.w
    omega
  refine ⟨(sm_wd _ w).2, Nat.le_trans (shown_wt _ t) ?_, ?_⟩
  · show wt d + 2 + (wt e + 2 + 0) + 2 ≤ 4000000
    have := h1.z
    have := h2.z
    omega
  · show max d.depth (max e.depth 0) + 1 ≤ 20
    have := h1.p
    have := h2.p
    omega
theorem read_small {f : Int → Str → Option Mv} (hf : ∀ i m x, f i m = some x → x.w.length ≤ 2 ∧ ∀ y ∈ x.w, y ∈ al5) : ∀ (ms : List Str) (w : List Str) (s : Int) (w' : List Str) (e : Int), (∀ y ∈ w, y ∈ al5) → readM f w s ms = some (w', e) → w'.length ≤ w.length + 2 * ms.length ∧ ∀ y ∈ w', y ∈ al5
  | [], w, s, w', e, hw, h => by
    have h := Option.some.inj (show some (w, s) = some (w', e) from h)
    injection h with h1 h2
    subst h1
    exact ⟨Nat.le_refl _, hw⟩
  | m :: ms, w, s, w', e, hw, h => by
    have h : ms.foldl (stepM f) ((f s m).map fun x => (w ++ x.w, x.t)) = some (w', e) := h
    cases q : f s m with
    | none =>
      rw [q] at h
      have h : ms.foldl (stepM f) none = some (w', e) := h
      rw [step_none] at h
      cases h
    | some x =>
      rw [q] at h
      obtain ⟨h1, h2⟩ := hf s m x q
      obtain ⟨r1, r2⟩ := read_small hf ms (w ++ x.w) x.t w' e (fun y hy => by
        rcases List.mem_append.mp hy with z | z
        · exact hw y z
        · exact h2 y z) h
      refine ⟨?_, r2⟩
      rw [List.length_append] at r1
      rw [List.length_cons]
      omega
theorem xy_al5 {y : Str} (h : y ∈ xy) : y ∈ al5 := by
  simp only [xy, List.mem_cons, List.not_mem_nil, or_false] at h
  rcases h with rfl | rfl <;> simp [al5]
theorem Drawn.begun {r : Rdr} {ks ms u : List Str} (D : Drawn r ks) (hm : ms.length ≤ 100) (h : begunM r ms = some u) : (∀ y ∈ u, y ∈ al5) ∧ u.length ≤ 1000 := by
  unfold begunM at h
  cases q : readM (lastM r.mv) [] 0 ms with
  | none =>
    rw [q] at h
    cases h
  | some p =>
    rw [q] at h
    have h := Option.some.inj h
    subst h
    obtain ⟨w, e⟩ := p
    obtain ⟨r1, r2⟩ := read_small (fun i m x hx => ⟨(D.mv x (last_mem hx)).w, fun y hy => xy_al5 ((D.mv x (last_mem hx)).ws y hy)⟩) ms [] 0 w e (fun _ h => nomatch h) q
    refine ⟨fun y hy => ?_, ?_⟩
    · rcases List.mem_append.mp hy with z | z
      · exact xy_al5 (D.fs y z)
      · exact r2 y z
    · have := D.f
      show (r.first ++ w).length ≤ 1000
      rw [List.length_append]
      simp at r1
      omega
theorem Drawn.written {r : Rdr} {ks ms u : List Str} (D : Drawn r ks) (hm : ms.length ≤ 100) (h : writtenM r ms = some u) : (∀ y ∈ u, y ∈ al5) ∧ u.length ≤ 1000 := by
  unfold writtenM at h
  cases q : readM (lastM r.mv) [] 0 ms with
  | none =>
    rw [q] at h
    cases h
  | some p =>
    rw [q] at h
    obtain ⟨w, e⟩ := p
    have h : (lastE r.en e).map (fun u => r.first ++ w ++ u) = some u := h
    cases l : lastE r.en e with
    | none =>
      rw [l] at h
      cases h
    | some v =>
      rw [l] at h
      have h := Option.some.inj h
      obtain ⟨b1, b2⟩ := D.begun (u := r.first ++ w) hm (by unfold begunM; rw [q]; rfl)
      obtain ⟨en, hen, ev⟩ := lastE_mem l
      have E := D.en en hen
      have h : r.first ++ w ++ v = u := h
      subst h
      refine ⟨fun y hy => ?_, ?_⟩
      · rcases List.mem_append.mp hy with z | z
        · exact b1 y z
        · exact xy_al5 (E.ws y (by rw [ev]; exact z))
      · obtain ⟨r1, r2⟩ := read_small (fun i m x hx => ⟨(D.mv x (last_mem hx)).w, fun y hy => xy_al5 ((D.mv x (last_mem hx)).ws y hy)⟩) ms [] 0 w e (fun _ h => nomatch h) q
        have := D.f
        have e2 := E.w
        rw [ev] at e2
        simp at r1 ⊢
        omega
end KL
set_option Elab.async false
set_option linter.all false
set_option maxRecDepth 100000
set_option maxHeartbeats 8000000
namespace KL
open PySem L2 PySem.Spec PyProof.Rows
/-- one word for both ways out -/
theorem opt_out {H : Hp} {Q : VK} {o : Option (List Str)} (k : ∀ H' v, Same H H' → Dq H' v (optD o) → Q v H') : (o = none → ∀ H', Same H H' → Q .non H') ∧ ∀ u, o = some u → ∀ H' p, Same H H' → H' p = some (.tup (u.map V.str)) → Q (.ref p) H' := by
  refine ⟨fun e H' S => k H' _ S ?_, fun u e H' p S hp => k H' _ S ?_⟩
  · rw [e]
    exact .non
  · rw [e]
    exact .tup hp (strs_dq u)
def spTapeU (C : Addr) (g : Rdr → List Str → Option (List Str)) : Sp := fun vs H Q _ => ∃ (x a : Addr) (r : Rdr) (v1 v2 v3 : V) (ms : List Str), vs = [.ref x, .ref a] ∧ RdrAt C H x r v1 v2 v3 ∧ Short r ∧ H a = some (.tup (ms.map V.str)) ∧ ms.length ≤ 1000 ∧
  ∀ H' v, Same H H' → Dq H' v (optD (g r ms)) → Q v H'
theorem tape_u {C : Addr} {g : Rdr → List Str → Option (List Str)} {vs : List V} {H : Hp} {Q : VK} {E : XK} (h : spTapeU C g vs H Q E) : spTape C g vs H Q E := by
  obtain ⟨x, a, r, v1, v2, v3, ms, h1, h2, h3, h4, h5, k⟩ := h
  exact ⟨x, a, r, v1, v2, v3, ms, h1, h2, h3, h4, h5, opt_out k⟩
def spLWrittenU : Sp := fun vs H Q _ => ∃ (v : V) (a : Addr) (r : Rdr) (ms : List Str), vs = [v, .ref a] ∧ Dq H v (partsD r) ∧ Short r ∧ r.mv.length ≤ 1000 ∧ H a = some (.tup (ms.map V.str)) ∧ ms.length ≤ 1000 ∧ ∀ H' v, Same H H' → Dq H' v (optD (writtenM r ms)) → Q v H'
theorem lwr_u {vs : List V} {H : Hp} {Q : VK} {E : XK} (h : spLWrittenU vs H Q E) : spLWritten vs H Q E := by
  obtain ⟨v, a, r, ms, h1, h2, h3, h4, h5, h6, k⟩ := h
  exact ⟨v, a, r, ms, h1, h2, h3, h4, h5, h6, opt_out k⟩
/-- what led hands back -/
def LedV (H : Hp) (lv : V) (o : Option (List Str)) : Prop := (lv = .non ∧ o = none) ∨ ∃ p q e w, lv = .ref p ∧ o = some w ∧ H p = some (.tup [.int e, .ref q]) ∧ H q = some (.tup (w.map V.str))
theorem LedV.same {H H' : Hp} {lv : V} {o : Option (List Str)} (h : LedV H lv o) (S : Same H H') : LedV H' lv o := by
  rcases h with h | ⟨p, q, e, w, h1, h2, h3, h4⟩
  · exact .inl h
  · exact .inr ⟨p, q, e, w, h1, h2, S _ _ h3, S _ _ h4⟩
def spLRight (C : Addr) : Sp := fun vs H Q _ => ∃ (x a : Addr) (v : V) (nm : Bool) (r : Rdr) (ks ms : List Str) (v1 v2 v3 : V), vs = [.ref x, v, .ref a, .bl nm] ∧ RdrAt C H x r v1 v2 v3 ∧ Dq H v (partsD r) ∧ Drawn r ks ∧ H a = some (.tup (ms.map V.str)) ∧ ms.length ≤ 100 ∧ (∀ y ∈ ms, y ∈ al5) ∧
  ∀ H', Same H H' → Q (.bl true) H'
section
variable {P : Program} {w : World} {K : PySem.W.Frag} {mg : Str → Option Value} {base : Heap} {C : Addr}
abbrev nRight : List Str := ["_law_scribe_here", "_law_parts", "_law_lot", "_law_is_named", "_law_led_here", "_law_was", "_law_due", "_law_heard"]
theorem scLRight : FnScope nRight ["_law_scribe_here", "_law_parts", "_law_lot", "_law_is_named"] (defScope lRight) := ⟨rfl, rfl, rfl, by decide +kernel, rfl, by decide +kernel, by decide +kernel⟩
def gApp : List Value → List Value → List Value
  | [a], [b] => [a, b]
  | _, _ => []
def gAppV : List V → List V → List V
  | [a], [b] => [a, b]
  | _, _ => []
theorem ok_lright {f g1 g2 g3 g4 : Addr} {fd gd1 gd2 gd3 gd4 : FuncData} (F : Fun K "_law_right" "_law_right" lRight f fd) (T : TxtG mg) (TR : TxtR K mg C)
    (G1 : FnOk P w K mg base CX0 1 g1 gd1 ["_law_parts", "_law_lot"] spLLed) (c1 : Cal K mg "_law_led" g1 gd1 ["_law_parts", "_law_lot"])
    (G2 : FnOk P w K mg base CX0 2 g2 gd2 ["_law_parts", "_law_lot"] spLWrittenU) (c2 : Cal K mg "_law_written" g2 gd2 ["_law_parts", "_law_lot"])
    (G3 : FnOk P w K mg base CX0 2 g3 gd3 ["self", "marks"] (spTapeU C writtenM)) (m3 : Meth K C "written" g3) (b3 : L2.Binds K gd3 ["self", "marks"] []) (k3 : KBinds K gd3 ["self", "marks"] ["marks"] gApp gAppV)
    (G4 : FnOk P w K mg base CX0 2 g4 gd4 ["self", "marks"] (spTapeU C begunM)) (m4 : Meth K C "begun" g4) (b4 : L2.Binds K gd4 ["self", "marks"] []) (k4 : KBinds K gd4 ["self", "marks"] ["marks"] gApp gAppV) :
    FnG P w K mg base CX0 3 f fd ["_law_scribe_here", "_law_parts", "_law_lot", "_law_is_named"] (spLRight C) := by
  refine fnG0 F scLRight (fun vs H Q E h => ?_) (fun cdv A outer s H vs Q E hG hr h => ?_)
  · obtain ⟨x, a, v, nm, r, ks, ms, v1, v2, v3, rfl, _⟩ := h
    rfl
  · obtain ⟨x, a, v, nm, r, ks, ms, v1, v2, v3, rfl, R, hd, D, ha, hn, hal, k⟩ := h
    have nd := scLRight.nd
    let X0 : Cx := (cxOf CX0 P w K mg base nRight "_law_right" (defScope lRight) f cdv A outer s H E).nox
    have r1 : Room 1 X0.A := hr.mono (by decide)
    refine ⟨_, C8.pss_cut (ps_par (i := 4) (j := 5) (by rfl) nd rfl rfl (by decide) rfl rfl (pa_cons (pe_call G1 r1 (by rfl) c1.m c1.k c1.b .nil pass0 (pa_cons (pv 1) (pa_cons (pv 2) pa_nil))) (pa_cons (pe_callB (call_repT (X := X0) hG hr.units) (by rfl) T.repr (by decide +kernel) (pa_cons (pv 2) pa_nil)) pa_nil)) (by rfl))
      (C8.pss_cut (ps_set (i := 6) nd rfl (.inl rfl) (pe_lst (pa_cons (pe_call G2 hr (by rfl) c2.m c2.k c2.b .nil pass0 (pa_cons (pv 1) (pa_cons (pv 2) pa_nil))) (pa_cons (pe_ifExp (pt_cmpR op_isN (pv 4) pe_non (nomark _)) pe_non (pe_ix (r := rIxT K) ix_tup (pv 4) pe_int (fun _ _ => rfl))) pa_nil))))
      (C8.pss_cut (ps_set (i := 7) nd rfl (.inl rfl) (pe_lst (pa_cons (pe_meth (pv 0) TR.c m3 G3 hr b3 .nil pass0 (pa_cons (pv 2) pa_nil)) (pa_cons (pe_meth (pv 0) TR.c m4 G4 hr b4 .nil pass0 (pa_cons (pv 2) pa_nil)) pa_nil))))
      (C8.pss_cut (ps_if (pt_val (pv 3)) (pss_one (ps_set (i := 7) nd rfl (.inl rfl) (pe_lst (pa_cons (pe_methK0 (pv 0) TR.c m3 G3 hr k3 pass0 (pk_cons (pv 2) pk_nil)) (pa_cons (pe_methK0 (pv 0) TR.c m4 G4 hr k4 pass0 (pk_cons (pv 2) pk_nil)) pa_nil))))) pss_nil)
      (pss_one (ps_ret (pe_and (pe_cmpR op_eq (pe_callB (call_repL (X := X0) hG hr.units) (by rfl) T.repr (by decide +kernel) (pa_cons (pv 7) pa_nil)) (pe_callB (call_repL (X := X0) hG hr.units) (by rfl) T.repr (by decide +kernel) (pa_cons (pv 6) pa_nil)) (nomark _))
        (pe_one (pe_cmpR op_eq (pe_callB (call_repT (X := X0) hG hr.units) (by rfl) T.repr (by decide +kernel) (pa_cons (pv 2) pa_nil)) (pv 5) (nomark _))))))))), ?_⟩
    have Sh := D.short
    have ml : r.mv.length ≤ 1000 := by
      have := D.ml
      omega
    have hn1 : ms.length ≤ 1000 := by omega
    refine ⟨fun σ H1 => Same H H1 ∧ ∃ lv, LedV H1 lv (begunM r ms) ∧ σ = [some (.ref x), some v, some (.ref a), some (.bl nm), some lv, some (.str (PyData.tuple (ms.map .str)).shown), none, none], ?_, ?_⟩
    · refine ⟨_, rfl, _, rfl, v, a, r, ms, rfl, hd, Sh, ml, ha, hn1, fun z H1 S1 => ?_, fun u e z H1 p q S1 hp hq lw => ?_⟩
      · refine ⟨_, rfl, a, _, _, rfl, S1 _ _ ha, strs_dq ms, seen_tup hal hn1, _, _, rfl, S1, _, .inl ⟨rfl, ?_⟩, rfl⟩
        rw [read_zero] at z
        unfold begunM
        cases y : readM (lastM r.mv) [] 0 ms with
        | none => rfl
        | some t =>
          rw [y] at z
          cases z
      · refine ⟨_, rfl, a, _, _, rfl, S1 _ _ ha, strs_dq ms, seen_tup hal hn1, _, _, rfl, S1, _, .inr ⟨p, q, e, u, rfl, ?_, hp, hq⟩, rfl⟩
        rw [read_zero] at z
        unfold begunM
        cases y : readM (lastM r.mv) [] 0 ms with
        | none =>
          rw [y] at z
          cases z
        | some t =>
          rw [y] at z
          obtain ⟨t1, t2⟩ := t
          have z := Option.some.inj z
          injection z with z1 z2
          show some (r.first ++ t1) = some u
          rw [← z1]
    rintro σ1 H1 ⟨S1, lv, hlv, rfl⟩
    refine ⟨fun σ H2 => Same H H2 ∧ ∃ d w1 w2, H2 d = some (.lst [w1, w2]) ∧ Dq H2 w1 (optD (writtenM r ms)) ∧ Dq H2 w2 (optD (begunM r ms)) ∧ σ = [some (.ref x), some v, some (.ref a), some (.bl nm), some lv, some (.str (PyData.tuple (ms.map .str)).shown), some (.ref d), none], ?_, ?_⟩
    · refine ⟨_, rfl, _, rfl, v, a, r, ms, rfl, Dq.same S1 _ _ hd, Sh, ml, S1 _ _ ha, hn1, fun H2 w1 S2 q1 => ?_⟩
      rcases hlv.same S2 with ⟨rfl, eo⟩ | ⟨p, q, e, u, rfl, eo, hp, hq⟩
      · refine ⟨_, rfl, rfl, _, rfl, iteYes rfl ⟨(by show 2 ≤ sizeLine; decide), fun d nd => ?_⟩⟩
        have Sd := same_new (o := .lst [w1, .non]) nd
        refine ⟨S1.trans (S2.trans Sd), d, w1, .non, upd_same, Dq.same Sd _ _ q1, ?_, rfl⟩
        rw [eo]
        exact .non
      · refine ⟨_, rfl, rfl, _, rfl, iteNo rfl ⟨_, rfl, p, _, _, .ref q, rfl, rfl, SqT.of hp, rfl, (by show 2 ≤ sizeLine; decide), fun d nd => ?_⟩⟩
        have Sd := same_new (o := .lst [w1, .ref q]) nd
        refine ⟨S1.trans (S2.trans Sd), d, w1, .ref q, upd_same, Dq.same Sd _ _ q1, ?_, rfl⟩
        rw [eo]
        exact .tup (Sd _ _ hq) (strs_dq u)
    clear S1 hlv H1
    rintro σ2 H1 ⟨S1, d, w1, w2, hdd, q1, q2, rfl⟩
    have heardAt : ∀ {H2 : Hp}, Same H H2 → ∃ dx fs, H2 x = some (.ins C dx fs) ∧ fs.lookup ("written" : Str) = none ∧ fs.lookup ("begun" : Str) = none := fun {H2} S => by
      obtain ⟨dx, fs, tb, te, h1, h2, h3, h4, h5, h6, h7, h8, h9, _⟩ := R.ex
      exact ⟨dx, fs, S _ _ h1, h8, h9⟩
    refine ⟨fun σ H2 => Same H H2 ∧ ∃ d w1 w2 d2 u1 u2, H2 d = some (.lst [w1, w2]) ∧ Dq H2 w1 (optD (writtenM r ms)) ∧ Dq H2 w2 (optD (begunM r ms)) ∧ H2 d2 = some (.lst [u1, u2]) ∧ Dq H2 u1 (optD (writtenM r ms)) ∧ Dq H2 u2 (optD (begunM r ms)) ∧
      σ = [some (.ref x), some v, some (.ref a), some (.bl nm), some lv, some (.str (PyData.tuple (ms.map .str)).shown), some (.ref d), some (.ref d2)], ?_, ?_⟩
    · obtain ⟨dx, fs, hx, f1, f2⟩ := heardAt S1
      refine ⟨_, rfl, x, dx, fs, rfl, hx, f1, _, rfl, x, a, r, v1, v2, v3, ms, rfl, R.same S1, Sh, S1 _ _ ha, hn1, fun H2 u1 S2 p1 => ?_⟩
      refine ⟨_, rfl, x, dx, fs, rfl, S2 _ _ hx, f2, _, rfl, x, a, r, v1, v2, v3, ms, rfl, R.same (S1.trans S2), Sh, S2 _ _ (S1 _ _ ha), hn1, fun H3 u2 S3 p2 => ?_⟩
      refine ⟨(by show 2 ≤ sizeLine; decide), fun d2 nd2 => ?_⟩
      have Sd := same_new (o := .lst [u1, u2]) nd2
      have S23 := S2.trans (S3.trans Sd)
      exact ⟨S1.trans S23, d, w1, w2, d2, u1, u2, S23 _ _ hdd, Dq.same S23 _ _ q1, Dq.same S23 _ _ q2, upd_same, Dq.same (S3.trans Sd) _ _ p1, Dq.same Sd _ _ p2, rfl⟩
    clear S1 hdd q1 q2 d w1 w2 H1
    rintro σ3 H1 ⟨S1, d, w1, w2, d2, u1, u2, hdd, q1, q2, hd2, p1, p2, rfl⟩
    refine ⟨fun σ H2 => Same H H2 ∧ ∃ d w1 w2 d2 u1 u2, H2 d = some (.lst [w1, w2]) ∧ Dq H2 w1 (optD (writtenM r ms)) ∧ Dq H2 w2 (optD (begunM r ms)) ∧ H2 d2 = some (.lst [u1, u2]) ∧ Dq H2 u1 (optD (writtenM r ms)) ∧ Dq H2 u2 (optD (begunM r ms)) ∧
      σ = [some (.ref x), some v, some (.ref a), some (.bl nm), some lv, some (.str (PyData.tuple (ms.map .str)).shown), some (.ref d), some (.ref d2)], ?_, ?_⟩
    · refine ⟨_, rfl, nm, rfl, ?_⟩
      rcases bool_ft nm with e | e
      · refine iteNo e ?_
        exact ⟨S1, d, w1, w2, d2, u1, u2, hdd, q1, q2, hd2, p1, p2, rfl⟩
      · refine iteYes e ?_
        obtain ⟨dx, fs, hx, f1, f2⟩ := heardAt S1
        refine ⟨_, rfl, x, dx, fs, rfl, hx, f1, _, rfl, x, a, r, v1, v2, v3, ms, rfl, R.same S1, Sh, S1 _ _ ha, hn1, fun H2 u1 S2 p1 => ?_⟩
        refine ⟨_, rfl, x, dx, fs, rfl, S2 _ _ hx, f2, _, rfl, x, a, r, v1, v2, v3, ms, rfl, R.same (S1.trans S2), Sh, S2 _ _ (S1 _ _ ha), hn1, fun H3 u2 S3 p2 => ?_⟩
        refine ⟨(by show 2 ≤ sizeLine; decide), fun d2 nd2 => ?_⟩
        have Sd := same_new (o := .lst [u1, u2]) nd2
        have S23 := S2.trans (S3.trans Sd)
        exact ⟨S1.trans S23, d, w1, w2, d2, u1, u2, S23 _ _ hdd, Dq.same S23 _ _ q1, Dq.same S23 _ _ q2, upd_same, Dq.same (S3.trans Sd) _ _ p1, Dq.same Sd _ _ p2, rfl⟩
    clear S1 hdd q1 q2 hd2 p1 p2 d w1 w2 d2 u1 u2 H1
    rintro σ4 H1 ⟨S1, d, w1, w2, d2, u1, u2, hdd, q1, q2, hd2, p1, p2, rfl⟩
    have seen := seen_two (small_opt (o := writtenM r ms) fun w e => D.written hn e) (small_opt (o := begunM r ms) fun w e => D.begun hn e)
    refine ⟨_, rfl, d2, u1, [u2], _, _, rfl, hd2, .cons p1 (.cons p2 .nil), seen, _, rfl, d, w1, [w2], _, _, rfl, hdd, .cons q1 (.cons q2 .nil), seen, rfl, _, rfl, ?_⟩
    refine iteYes (decide_eq_true rfl) ⟨_, rfl, a, _, _, rfl, S1 _ _ ha, strs_dq ms, seen_tup hal hn1, _, rfl, rfl, ?_⟩
    have q := k H1 S1
    rw [decide_eq_true rfl]
    exact q
end
end KL
set_option Elab.async false
set_option linter.all false
set_option maxRecDepth 100000
set_option maxHeartbeats 8000000
namespace KL
open PySem L2 PySem.Spec PyProof.Rows
/-! ### t * 0 -/
theorem tuple_zero (l : Addr) (its : Array Value) (n : Nat) (dd : Option Addr) (sl : Array (Option Value)) (u : Tok) (c1 : its.isEmpty = false) :
    Meets (Builtin.«tuple.__mul__» ⟨[.ref l, .int 0 u], []⟩) (fun _ R s => s.heap.get? l = some ⟨.type "tuple", dd, .seq its n, sl⟩ ∧ R (.ok (.ret (.ref s.heap.objs.size))) { s with heap := s.heap.push { cls := Value.type "tuple", data := Data.seq #[] }, toks := s.toks }) :=
  .of_wp fun prog w A R s hh => by
    obtain ⟨hp, g, d, tk, os⟩ := s
    obtain ⟨hl, hh⟩ := hh
    have f1 := AutoSeq1.idx_int
    wp_walk using AutoSeq1.wpAny_loadPart' hl
    repeat (first
      | (refine wpAny_ite_false (decide_eq_false (by decide)) ?_; wp_walk using AutoSeq1.wpAny_loadPart' hl)
      | (refine wpAny_ite_false (decide_eq_false (by rw [c1]; decide)) ?_; wp_walk using AutoSeq1.wpAny_loadPart' hl)
      | (refine wpAny_ite_true (decide_eq_true (by decide)) ?_; wp_walk using AutoSeq1.wpAny_loadPart' hl))
    exact ⟨_, rfl, hh⟩
def rRep0 (K : PySem.W.Frag) : R2 := fun x y H Q => ∃ l xs, x = .ref l ∧ y = .int 0 ∧ SqT K H l xs ∧ xs ≠ [] ∧ ∀ p, H p = none → Q (.ref p) (upd H p (.tup []))
theorem op_rep0 {X : Cx} : OpR X (binaryOp .Mult) (rRep0 X.K) := by
  intro pins s σ H x y v u Q I rx ry h
  obtain ⟨l, xs, rfl, rfl, hT, hne, q⟩ := h
  cases rx
  obtain ⟨t, rfl⟩ := ry
  obtain ⟨its, r, ⟨⟨cls, dd, data, sl⟩, ho, hc, n, hd⟩, hs⟩ := I.tuple hT
  simp only at hc hd
  subst hc hd
  have hi : its.toArray.isEmpty = false := by
    cases its with
    | nil =>
      have := r.length
      exact absurd (List.eq_nil_of_length_eq_zero this) hne
    | cons a b => rfl
  refine wpAny_binaryOp_repeat_ref (T := "tuple") (U := "int") (by decide) ⟨_, ho, rfl⟩ (fun s' => typeIs_int s' 0 t) noFill_tuple_mul F.fills_int_mul F.slot_int_rmul repeat_tuple F.slot_int_index.lookup ?_
  refine call_meets F.slot_int_rmul (typeIs_int s 0 t) F.entry_int_rmul (F.args_int_rmul_2 _ _) (int_rmul_tuple 0 t l its.toArray n dd sl) ⟨ho, rfl, ⟨_, ho, rfl⟩, ?_⟩
  refine call_meets F.slot_tuple_mul ⟨_, ho, rfl⟩ F.entry_tuple_mul (F.args_tuple_mul_2 _ _) (tuple_zero l its.toArray n dd sl t hi) ⟨ho, ?_⟩
  exact ⟨.ref s.heap.objs.size, upd H s.heap.objs.size (.tup []), I.laid (t' := s.toks) (fun b o e => Heap.get?_push_of_some _ e) (Nat.le_refl _) ⟨Nat.zero_le _, [], .nil, _, Heap.get?_push_size _ rfl, rfl, 0, rfl⟩, rfl, q _ (I.hok.fresh (Nat.le_refl _))⟩
/-- t * 0 or t * 1 -/
def rRep01 (K : PySem.W.Frag) : R2 := fun x y H Q => ∃ l k xs, x = .ref l ∧ y = .int k ∧ SqT K H l xs ∧ xs ≠ [] ∧ xs.length ≤ 1000 ∧ ((k = 0 ∧ ∀ p, H p = none → Q (.ref p) (upd H p (.tup []))) ∨ (k = 1 ∧ Q (.ref l) H))
theorem op_rep01 {X : Cx} : OpR X (binaryOp .Mult) (rRep01 X.K) := by
  intro pins s σ H x y v u Q I rx ry h
  obtain ⟨l, k, xs, rfl, rfl, hT, hne, hz, h⟩ := h
  rcases h with ⟨rfl, q⟩ | ⟨rfl, q⟩
  · exact op_rep0 pins s σ H _ _ v u Q I rx ry ⟨l, xs, rfl, rfl, hT, hne, q⟩
  · exact op_repU pins s σ H _ _ v u Q I rx ry ⟨l, 1, xs, rfl, rfl, hT, hne, by decide, by decide, hz, fun _ => q, fun z => absurd rfl z⟩
end KL
set_option Elab.async false
set_option linter.all false
set_option maxRecDepth 100000
set_option maxHeartbeats 8000000
namespace KL
open PySem L2 PySem.Spec PyProof.Rows
def spLaw (K : PySem.W.Frag) : Sp := fun vs H Q _ => ∃ (a : Addr) (ns : List Int), vs = [.ref a] ∧ SqL K H a (ns.map V.int) ∧ ns.length ≤ 63 ∧ ∀ H', Q (.bl true) H'
abbrev nLaw : List Str := ["_law_script", "_law_deck_here", "_law_turn", "_law_parts", "_law_scribe_here", "_law_kinds", "_law_lots_here", "_law_k", "_law_j", "_law_lot", "_law_row", "_law_ring", "_law_here", "_law_lines_here", "_law_told_here"]
section
variable {P : Program} {w : World} {K : PySem.W.Frag} {mg : Str → Option Value} {base : Heap} {C : Addr}
theorem scLaw : FnScope nLaw ["_law_script"] (defScope lLaw) := ⟨rfl, rfl, rfl, by decide +kernel, rfl, by decide +kernel, by decide +kernel⟩
/-- the body of the loop over turns -/
def lTurn : List Stmt := match (defBody lLaw).getD 1 (.Pass ⟨0, 0, 0, 0⟩) with
  | .For (body := b) .. => b
  | _ => []
/-- the places of the law's suite -/
structure LawRules (X : Cx) (TT : TS) : Prop where
  t : PSs X lTurn TT
variable {gDeck gDraw gPick gScr gMade gTold gLots gRight : Addr} {dDeck dDraw dPick dScr dMade dTold dLots dRight : FuncData}
structure LawFns (P : Program) (w : World) (K : PySem.W.Frag) (mg : Str → Option Value) (base : Heap) (C gDeck gDraw gPick gScr gMade gTold gLots gRight : Addr) (dDeck dDraw dPick dScr dMade dTold dLots dRight : FuncData) : Prop where
  deck : FnOk P w K mg base CX0 1 gDeck dDeck ["_law_script"] (spDeck K)
  cDeck : Cal K mg "_law_deck" gDeck dDeck ["_law_script"]
  draw : FnOk P w K mg base CX0 1 gDraw dDraw ["_law_deck_here", "_law_below"] spDraw
  cDraw : Cal K mg "_law_draw" gDraw dDraw ["_law_deck_here", "_law_below"]
  pick : FnOk P w K mg base CX0 2 gPick dPick ["_law_deck_here", "_law_some"] spPick
  cPick : Cal K mg "_law_pick" gPick dPick ["_law_deck_here", "_law_some"]
  scr : FnOk P w K mg base CX0 4 gScr dScr ["_law_deck_here", "_law_wide"] spScribe
  cScr : Cal K mg "_law_scribe" gScr dScr ["_law_deck_here", "_law_wide"]
  made : FnOk P w K mg base CX0 7 gMade dMade ["_law_parts"] (spLMade C)
  cMade : Cal K mg "_law_made" gMade dMade ["_law_parts"]
  told : FnOk P w K mg base CX0 1 gTold dTold ["_law_scribe_here"] (spLTold C)
  cTold : Cal K mg "_law_told" gTold dTold ["_law_scribe_here"]
  lots : FnOk P w K mg base CX0 1 gLots dLots ["_law_kinds", "_law_most"] spLots
  cLots : Cal K mg "_law_lots" gLots dLots ["_law_kinds", "_law_most"]
  right : FnG P w K mg base CX0 3 gRight dRight ["_law_scribe_here", "_law_parts", "_law_lot", "_law_is_named"] (spLRight C)
  cRight : Cal K mg "_law_right" gRight dRight ["_law_scribe_here", "_law_parts", "_law_lot", "_law_is_named"]
theorem turn_rules {f : Addr} {cdv : Value} {A : Around} {outer : List Env} {s : Shared} {H : Hp} {E : XK} (T : TxtG mg) (L : LawFns P w K mg base C gDeck gDraw gPick gScr gMade gTold gLots gRight dDeck dDraw dPick dScr dMade dTold dLots dRight)
    (hG : A.guards = some []) (hr : Room 7 (A.deeper (envOfC "law" (defScope lLaw) s.heap.objs.size f cdv))) : ∃ t, PSs (cxOf CX0 P w K mg base nLaw "law" (defScope lLaw) f cdv A outer s H E).nox lTurn t := by
  have nd := scLaw.nd
  let X0 : Cx := (cxOf CX0 P w K mg base nLaw "law" (defScope lLaw) f cdv A outer s H E).nox
  have r1 : Room 1 X0.A := hr.mono (by decide)
  have r2 : Room 2 X0.A := hr.mono (by decide)
  have r3 : Room 3 X0.A := hr.mono (by decide)
  have r4 : Room 4 X0.A := hr.mono (by decide)
  refine ⟨_, C8.pss_cut (ps_set (i := 3) nd rfl (.inr rfl) (pe_call L.scr r4 (by rfl) L.cScr.m L.cScr.k L.cScr.b .nil pass0 (pa_cons (pv 1) (pa_cons pe_int pa_nil))))
    (C8.pss_cut (ps_set (i := 4) nd rfl (.inr rfl) (pe_call L.made hr (by rfl) L.cMade.m L.cMade.k L.cMade.b .nil pass0 (pa_cons (pv 3) pa_nil)))
    (C8.pss_cut (ps_set (i := 5) nd rfl (.inr rfl) (pe_op op_cat (pe_callB (cr_sortK (X := X0) rfl hr.units) (by rfl) T.sorted (by decide +kernel) (pa_cons (pe_callTy (cr_setK rfl) (by rfl) T.set (by decide +kernel) (pa_cons (pe_lc (own := [("_law_row", 10)]) (g := gName 10) (tt := tYes) rfl nd (pi_tup (pe_ix (r := rIxT K) ix_tup (pv 3) pe_int (fun _ _ => rfl)))
        (blkOk_by (N := nLaw) (sc := defScope lLaw) (by decide +kernel)) (fun _ _ _ _ _ => pg_name (i := 10) nd rfl (.inl rfl)) (fun _ _ _ _ _ => pts_nil) (fun _ _ _ _ _ => pe_ix (r := rIxT K) ix_tup (pv 10) pe_int (fun _ _ => rfl))) pa_nil)) pa_nil)) (pe_lst (pa_cons pe_str pa_nil))))
    (C8.pss_cut (ps_set (i := 6) nd rfl (.inl rfl) (pe_call L.lots r1 (by rfl) L.cLots.m L.cLots.k L.cLots.b .nil pass0 (pa_cons (pe_slice (r := rSlL K) sl_list (pv 5) po_none (po_some pe_int)) (pa_cons pe_int pa_nil))))
    (C8.pss_cut (ps_for PassesOwn.never rfl (pi_range1 (by rfl) T.range (pa_cons pe_int pa_nil)) (pg_name (i := 7) nd rfl (.inl rfl))
      (pss_one (ps_expr (pe_bm PySem.F.plainAttrs_list PySem.F.slot_list_append PySem.F.type_list_append mt_append (pv 6) (pa_cons (pe_tupleOf (by rfl) T.tuple (pe_lc (own := [("_law_j", 8)]) (g := gName 8) (tt := tYes) rfl nd (pi_range1 (by rfl) T.range (pa_cons (pe_call L.draw r1 (by rfl) L.cDraw.m L.cDraw.k L.cDraw.b .nil pass0 (pa_cons (pv 1) (pa_cons pe_int pa_nil))) pa_nil))
        (blkOk_by (N := nLaw) (sc := defScope lLaw) (by decide +kernel)) (fun _ _ _ _ _ => pg_name (i := 8) nd rfl (.inl rfl)) (fun _ _ _ _ _ => pts_nil)
        (fun _ _ _ _ _ => pe_call L.pick r2 (by rfl) L.cPick.m L.cPick.k L.cPick.b .nil pass0 (pa_cons (pv 1) (pa_cons (pe_op op_cat (pe_slice (r := rSlL K) sl_list (pv 5) po_none (po_some (pe_un un_neg pe_int))) (pe_slice (r := rSlL K) sl_list (pv 5) po_none (po_some pe_int))) pa_nil))))) pa_nil)))))
    (C8.pss_cut (ps_if (pt_cmpR (op_neD (X := X0) hr.units) (pe_lc (own := [("_law_k", 7), ("_law_lot", 9)]) (g := gTup K 2 (gCons (gName 7) (gCons (gName 9) gNil))) rfl nd (pi_enum (by rfl) T.enum (pa_cons (pv 6) pa_nil))
        (blkOk_by (N := nLaw) (sc := defScope lLaw) (by decide +kernel)) (fun _ _ _ _ _ => pg_tup rfl (pgs_cons (pg_name (i := 7) nd rfl (.inl rfl)) (pgs_cons (pg_name (i := 9) nd rfl (.inl rfl)) pgs_nil)))
        (fun _ _ _ _ _ => pts_one (pt_not (pt_val (pe_callG L.right hG r3 (by rfl) L.cRight.m L.cRight.k L.cRight.b pass0 (pa_cons (pv 4) (pa_cons (pv 3) (pa_cons (pv 9) (pa_cons (pe_cmpR op_eq (pe_op op_mod (pv 7) pe_int) pe_int (nomark _)) pa_nil))))))))
        (fun _ _ _ _ _ => pv 7)) (pe_lst pa_nil) (nomark _)) (pss_one (ps_ret pe_bl)) pss_nil)
    (pss_one (ps_if (pt_cmpR op_ne (pe_callB (call_repT (X := X0) hG hr.units) (by rfl) T.repr (by decide +kernel) (pa_cons (pe_call L.told r1 (by rfl) L.cTold.m L.cTold.k L.cTold.b .nil pass0 (pa_cons (pv 4) pa_nil)) pa_nil)) (pe_callB (call_repT (X := X0) hG hr.units) (by rfl) T.repr (by decide +kernel) (pa_cons (pv 3) pa_nil)) (nomark _)) (pss_one (ps_ret pe_bl)) pss_nil)))))))⟩
end
end KL
set_option Elab.async false
set_option linter.all false
set_option maxRecDepth 100000
set_option maxHeartbeats 8000000
namespace KL
open PySem L2 PySem.Spec PyProof.Rows
/-- all of a heap but the deck -/
def offD (p l : Addr) (H : Hp) : Hp := fun c => if c = p ∨ c = l then none else H c
theorem off_same {p l : Addr} {H : Hp} : Same (offD p l H) H := fun c o e => by
  unfold offD at e
  split at e
  · cases e
  · exact e
theorem off_at {p l c : Addr} {H : Hp} {o : HO} (h : H c = some o) (cp : c ≠ p) (cl : c ≠ l) : offD p l H c = some o := by
  unfold offD
  rw [if_neg (by rintro (z | z); exact cp z; exact cl z)]
  exact h
theorem DeckAt.off {H0 H H' : Hp} {p l : Addr} {t : Int} (D : DeckAt H0 H p l t) (S : Same H H') : DeckAt (offD p l H') H' p l t := by
  obtain ⟨ns, m, hp, hl, r⟩ := D.d
  exact ⟨off_same, if_pos (.inl rfl), if_pos (.inr rfl), ns, m, S _ _ hp, S _ _ hl, r⟩
/-- what does not touch the deck -/
theorem sub_off {H0 H Hk H' : Hp} {p l : Addr} {t : Int} (D : DeckAt H0 H p l t) (S : Same Hk H') (nw : ∀ c, Hk c ≠ none → H0 c ≠ none ∨ H c = none) : Same Hk (offD p l H') := fun c o e => by
  obtain ⟨ns, m, hp, hl, _⟩ := D.d
  refine off_at (S _ _ e) (fun z => ?_) (fun z => ?_)
  · rcases nw c (by rw [e]; simp) with h | h
    · rw [z] at h
      exact h D.p0
    · rw [z, hp] at h
      cases h
  · rcases nw c (by rw [e]; simp) with h | h
    · rw [z] at h
      exact h D.l0
    · rw [z, hl] at h
      cases h
/-- the law's state: what stands is said of a heap that the deck is none of -/
def LwP (p l : Addr) (b : Int) (f : L2.St) (X : Hp → Prop) (σ : L2.St) (H : Hp) : Prop := ∃ H0 t, σ = f ∧ DeckAt H0 H p l t ∧ 0 ≤ t ∧ t ≤ b ∧ X H0
/-- the reader at hand -/
def RdX (C x : Addr) (v : V) (r : Rdr) (ks : List Str) (H : Hp) : Prop := Dq H v (partsD r) ∧ Drawn r ks ∧ ∃ v1 v2 v3, RdrAt C H x r v1 v2 v3
theorem RdX.same {C x : Addr} {v : V} {r : Rdr} {ks : List Str} {H H' : Hp} (h : RdX C x v r ks H) (S : Same H H') : RdX C x v r ks H' := by
  obtain ⟨h1, h2, v1, v2, v3, h3⟩ := h
  exact ⟨Dq.same S _ _ h1, h2, v1, v2, v3, h3.same S⟩
/-- .. and but one's own list -/
def offF (p l F : Addr) (H : Hp) : Hp := fun c => if c = F then none else offD p l H c
theorem offF_same {p l F : Addr} {H : Hp} : Same (offF p l F H) H := fun c o e => by
  unfold offF at e
  split at e
  · cases e
  · exact off_same _ _ e
theorem offF_at {p l F c : Addr} {H : Hp} {o : HO} (h : offD p l H c = some o) (cF : c ≠ F) : offF p l F H c = some o := by
  unfold offF
  rw [if_neg cF]
  exact h
theorem DeckAt.offF {H0 H H' : Hp} {p l F : Addr} {t : Int} (D : DeckAt H0 H p l t) (S : Same H H') (nF : H F = none) : DeckAt (KL.offF p l F H') H' p l t := by
  obtain ⟨ns, m, hp, hl, r⟩ := D.d
  refine ⟨offF_same, ?_, ?_, ns, m, S _ _ hp, S _ _ hl, r⟩
  · unfold KL.offF
    rw [if_neg (ne_of_none hp nF)]
    exact if_pos (.inl rfl)
  · unfold KL.offF
    rw [if_neg (ne_of_none hl nF)]
    exact if_pos (.inr rfl)
/-- a tuple is no part of the deck -/
theorem off_tup {H0 H H' : Hp} {p l F c : Addr} {t : Int} {ys zs : List V} (D : DeckAt H0 H p l t) (S : Same H H') (hF : H' F = some (.lst zs)) (h : H' c = some (.tup ys)) : offF p l F H' c = some (.tup ys) := by
  obtain ⟨ns, m, hp, hl, _⟩ := D.d
  exact offF_at (off_at h (ne_of h (S _ _ hp) (fun z => nomatch z)) (ne_of h (S _ _ hl) (fun z => nomatch z))) (ne_of h hF (fun z => nomatch z))
/-- the lots at hand, a list of one's own -/
structure LotsX (p l F : Addr) (n : Nat) (H0 H : Hp) : Prop where
  fp : F ≠ p
  fl : F ≠ l
  n0 : H0 F = none
  ex : ∃ xs, H F = some (.lst xs) ∧ (∀ x ∈ xs, Tp H0 13 x) ∧ xs.length ≤ n
end KL
set_option Elab.async false
set_option linter.all false
set_option maxRecDepth 100000
set_option maxHeartbeats 4000000
namespace KL
open PySem L2 PySem.Spec PyProof.Rows
theorem kinds_al5 {ks : List Str} (h : ks ∈ kinds3) : ∀ y ∈ ks, y ∈ al5 := by
  simp only [kinds3, List.mem_cons, List.not_mem_nil, or_false] at h
  rcases h with rfl | rfl | rfl <;> decide +kernel
theorem int_small {i : Int} (h0 : 0 ≤ i) (h1 : i ≤ 4) : i.natAbs.log2 ≤ 4 := by
  have : i.natAbs.log2 ≤ i.natAbs := Nat.log2_le_self _
  omega
/-- small data of a reader -/
structure Bit (d : PyData) : Prop where
  t : txD d = true
  w : wd d ≤ 100
  z : wt d ≤ 200
  p : d.depth ≤ 2
theorem bits_all : ∀ ds : List PyData, (∀ d ∈ ds, Bit d) → txAll ds = true ∧ wdAll ds ≤ 100 ∧ wtAll ds ≤ 202 * ds.length ∧ PyData.depthAll ds ≤ 2
  | [], _ => ⟨rfl, Nat.zero_le _, Nat.zero_le _, Nat.zero_le _⟩
  | d :: ds, h => by
    obtain ⟨q1, q2, q3, q4⟩ := bits_all ds fun e he => h e (List.mem_cons_of_mem _ he)
    have b := h d List.mem_cons_self
    refine ⟨?_, ?_, ?_, ?_⟩
    · show (txD d && txAll ds) = true
      rw [b.t, q1]
      rfl
    · show max (wd d) (wdAll ds) ≤ 100
      have := b.w
      omega
    · show wt d + 2 + wtAll ds ≤ 202 * (ds.length + 1)
      have := b.z
      omega
    · show max d.depth (PyData.depthAll ds) ≤ 2
      have := b.p
      omega
theorem bit_mv {n : Int} {ks : List Str} {x : Mv} (hk : ks ∈ kinds3) (n4 : n ≤ 4) (h : MvOk n ks x) : Bit (mvD x) := by
  obtain ⟨q1, q2, q3, q4⟩ := words_all x.w fun y hy => xy_al5 (h.ws y hy)
  obtain ⟨r1, r2⟩ := al5_ok x.m (kinds_al5 hk _ h.m)
  have a1 := int_small h.s0 (by have := h.s1; omega)
  have a2 := int_small h.t0 (by have := h.t1; omega)
  have hw := h.w
  refine ⟨?_, ?_, ?_, ?_⟩
  · show (true && (txS x.m && (txAll (x.w.map .str) && (true && true)))) = true
    rw [r1, q1]
    rfl
  · show max 4 (max x.s.natAbs.log2 (max x.m.length (max (max (x.w.map PyData.str).length (wdAll (x.w.map .str))) (max x.t.natAbs.log2 0)))) ≤ 100
    rw [List.length_map]
    omega
  · show (x.s.natAbs.log2 + 2 + 2 + (10 * x.m.length + 2 + 2 + (wtAll (x.w.map .str) + 3 + 2 + (x.t.natAbs.log2 + 2 + 2 + 0)))) + 3 ≤ 200
    omega
  · show max 0 (max 0 (max (PyData.depthAll (x.w.map PyData.str) + 1) (max 0 0))) + 1 ≤ 2
    rw [q4]
    decide
theorem bit_en {n : Int} {e : Int × List Str} (n4 : n ≤ 4) (h : EnOk n e) : Bit (enD e) := by
  obtain ⟨q1, q2, q3, q4⟩ := words_all e.2 fun y hy => xy_al5 (h.ws y hy)
  have a1 := int_small h.s0 (by have := h.s1; omega)
  have hw := h.w
  refine ⟨?_, ?_, ?_, ?_⟩
  · show (true && (txAll (e.2.map .str) && true)) = true
    rw [q1]
    rfl
  · show max 2 (max e.1.natAbs.log2 (max (max (e.2.map PyData.str).length (wdAll (e.2.map .str))) 0)) ≤ 100
    rw [List.length_map]
    omega
  · show (e.1.natAbs.log2 + 2 + 2 + (wtAll (e.2.map .str) + 3 + 2 + 0)) + 3 ≤ 200
    omega
  · show max 0 (max (PyData.depthAll (e.2.map PyData.str) + 1) 0) + 1 ≤ 2
    rw [q4]
    decide
theorem Drawn.seen {r : Rdr} {ks : List Str} (D : Drawn r ks) : Seen (partsD r) := by
  obtain ⟨f1, f2, f3, f4⟩ := words_all r.first fun y hy => xy_al5 (D.fs y hy)
  obtain ⟨m1, m2, m3, m4⟩ := bits_all (r.mv.map mvD) fun d hd => by
    obtain ⟨x, hx, rfl⟩ := List.mem_map.mp hd
    exact bit_mv D.k D.n4 (D.mv x hx)
  obtain ⟨e1, e2, e3, e4⟩ := bits_all (r.en.map enD) fun d hd => by
    obtain ⟨x, hx, rfl⟩ := List.mem_map.mp hd
    exact bit_en D.n4 (D.en x hx)
  have a1 := int_small (i := r.n) (by have := D.n1; omega) D.n4
  have hf := D.f
  have hm := D.ml
  have he := D.el
  rw [List.length_map] at m3 e3
  have t : txD (partsD r) = true := by
    show (true && (txAll (r.first.map .str) && (txAll (r.mv.map mvD) && (txAll (r.en.map enD) && true)))) = true
    rw [f1, m1, e1]
    rfl
  have w : wd (partsD r) ≤ 1000 := by
    show max 4 (max r.n.natAbs.log2 (max (max (r.first.map PyData.str).length (wdAll (r.first.map .str))) (max (max (r.mv.map mvD).length (wdAll (r.mv.map mvD))) (max (max (r.en.map enD).length (wdAll (r.en.map enD))) 0)))) ≤ 1000
    rw [List.length_map, List.length_map, List.length_map]
    omega
  refine ⟨(sm_wd _ w).2, Nat.le_trans (shown_wt _ t) ?_, ?_⟩
  · show (r.n.natAbs.log2 + 2 + 2 + (wtAll (r.first.map .str) + 3 + 2 + (wtAll (r.mv.map mvD) + 3 + 2 + (wtAll (r.en.map enD) + 3 + 2 + 0)))) + 3 ≤ 4000000
    omega
  · show max 0 (max (PyData.depthAll (r.first.map PyData.str) + 1) (max (PyData.depthAll (r.mv.map mvD) + 1) (max (PyData.depthAll (r.en.map enD) + 1) 0))) + 1 ≤ 20
    rw [f4]
    omega
end KL
set_option Elab.async false
set_option linter.all false
set_option maxRecDepth 100000
set_option maxHeartbeats 8000000
namespace KL
open PySem L2 PySem.Spec PyProof.Rows
section
variable {P : Program} {w : World} {K : PySem.W.Frag} {mg : Str → Option Value} {base : Heap} {C : Addr}
variable {gDeck gDraw gPick gScr gMade gTold gLots gRight : Addr} {dDeck dDraw dPick dScr dMade dTold dLots dRight : FuncData}
theorem all_inr : ∀ (kk : List Key) (xs : List Str), (∀ j ∈ kk, j ∈ xs.map (Sum.inr : Str → Key)) → ∃ ss : List Str, kk = ss.map Sum.inr ∧ ∀ y ∈ ss, y ∈ xs
  | [], _, _ => ⟨[], rfl, fun _ h => nomatch h⟩
  | k :: kk, xs, h => by
    obtain ⟨ss, e, hs⟩ := all_inr kk xs fun j hj => h j (List.mem_cons_of_mem _ hj)
    obtain ⟨y, hy, rfl⟩ := List.mem_map.mp (h k List.mem_cons_self)
    refine ⟨y :: ss, by rw [e]; rfl, fun z hz => ?_⟩
    rcases List.mem_cons.mp hz with q | q
    · rw [q]
      exact hy
    · exact hs z q
/-- the marks that are at hand, one at least -/
def KnX (H : Hp) (kn : Addr) : Prop := ∃ ys : List Str, H kn = some (.lst (ys.map V.str)) ∧ (∀ y ∈ ys, y ∈ al5) ∧ 1 ≤ ys.length ∧ ys.length ≤ 9
theorem cut_mem {xs : List V} {lo hi : Option Int} {x : V} (h : x ∈ cutV xs lo hi) : x ∈ xs := by
  unfold cutV at h
  exact List.mem_of_mem_drop (List.mem_of_mem_take h)
theorem cut_one {xs : List V} (h : 1 ≤ xs.length) : (cutV xs none (some 1)).length = 1 := by
  unfold cutV
  rw [HT.sIx_none, show HT.sIx xs.length xs.length (some 1) = min 1 xs.length from HT.sIx_nat _ _ 1, List.drop_zero, Nat.sub_zero, List.length_take]
  omega
theorem cut_len {xs : List V} {lo hi : Option Int} : (cutV xs lo hi).length ≤ xs.length := by
  unfold cutV
  rw [List.length_take, List.length_drop]
  omega
theorem LotsX.more {p l F q : Addr} {n : Nat} {H0 H : Hp} {w : List Str} {xs : List V} (fp : F ≠ p) (fl : F ≠ l) (n0 : H0 F = none) (hF : H F = some (.lst xs)) (hx : ∀ x ∈ xs, Tp H0 13 x) (lx : xs.length ≤ n) (hq : H0 q = some (.tup (w.map V.str))) (hw : w.length ≤ 13) (ha : ∀ y ∈ w, y ∈ al5) :
    LotsX p l F (n + 1) H0 (upd H F (.lst (xs ++ [.ref q]))) := by
  refine ⟨fp, fl, n0, _, upd_same, fun x h => ?_, by simp; omega⟩
  rcases List.mem_append.mp h with h | h
  · exact hx x h
  · rw [List.mem_singleton.mp h]
    exact ⟨q, w, rfl, hq, hw, ha⟩
/-- between two turns -/
def Turns (p l : Addr) (sc : V) (i : Nat) (σ : L2.St) (H : Hp) : Prop := ∃ o2 o3 o4 o5 o6 o7 o8 o9 oa ob oc od oe, LwP p l (400 * (i : Int)) [some sc, some (.ref p), o2, o3, o4, o5, o6, o7, o8, o9, oa, ob, oc, od, oe] (fun _ => True) σ H
theorem dec_scal {i : Int} : scal (V.int (i % 5)) (V.int 0) = true := rfl
theorem DeckAt.mono {H0 H H' : Hp} {p l : Addr} {t : Int} (D : DeckAt H0 H p l t) (S : Same H H') : DeckAt H0 H' p l t := by
  obtain ⟨ns, m, hp, hl, r⟩ := D.d
  exact ⟨D.s.trans S, D.p0, D.l0, ns, m, S _ _ hp, S _ _ hl, r⟩
theorem ne_self {x : Str} : (!decide (V.str x = V.str x)) = false := by simp
theorem turn_ok {f : Addr} {cdv : Value} {A : Around} {outer : List Env} {s : Shared} {H : Hp} {E : XK} (T : TxtG mg) (L : LawFns P w K mg base C gDeck gDraw gPick gScr gMade gTold gLots gRight dDeck dDraw dPick dScr dMade dTold dLots dRight)
    (hG : A.guards = some []) (hr : Room 7 (A.deeper (envOfC "law" (defScope lLaw) s.heap.objs.size f cdv))) :
    ∃ t, PSs (cxOf CX0 P w K mg base nLaw "law" (defScope lLaw) f cdv A outer s H E).nox lTurn t ∧ ∀ (p l : Addr) (sc : V) (i : Nat), i < 3 → ∀ (D : Ends) (σ : L2.St) (H1 : Hp), Turns p l sc i σ H1 → (∀ σ' H', Turns p l sc (i + 1) σ' H' → D.nx σ' H') → t D σ H1 := by
  have nd := scLaw.nd
  let X0 : Cx := (cxOf CX0 P w K mg base nLaw "law" (defScope lLaw) f cdv A outer s H E).nox
  have r1 : Room 1 X0.A := hr.mono (by decide)
  have r2 : Room 2 X0.A := hr.mono (by decide)
  have r3 : Room 3 X0.A := hr.mono (by decide)
  have r4 : Room 4 X0.A := hr.mono (by decide)
  refine ⟨_, C8.pss_cut (ps_set (i := 3) nd rfl (.inr rfl) (pe_call L.scr r4 (by rfl) L.cScr.m L.cScr.k L.cScr.b .nil pass0 (pa_cons (pv 1) (pa_cons pe_int pa_nil))))
    (C8.pss_cut (ps_set (i := 4) nd rfl (.inr rfl) (pe_call L.made hr (by rfl) L.cMade.m L.cMade.k L.cMade.b .nil pass0 (pa_cons (pv 3) pa_nil)))
    (C8.pss_cut (ps_set (i := 5) nd rfl (.inr rfl) (pe_op op_cat (pe_callB (cr_sortK (X := X0) rfl hr.units) (by rfl) T.sorted (by decide +kernel) (pa_cons (pe_callTy (cr_setK rfl) (by rfl) T.set (by decide +kernel) (pa_cons (pe_lc (own := [("_law_row", 10)]) (g := gName 10) (tt := tYes) rfl nd (pi_tup (pe_ix (r := rIxT K) ix_tup (pv 3) pe_int (fun _ _ => rfl)))
        (blkOk_by (N := nLaw) (sc := defScope lLaw) (by decide +kernel)) (fun _ _ _ _ _ => pg_name (i := 10) nd rfl (.inl rfl)) (fun _ _ _ _ _ => pts_nil) (fun _ _ _ _ _ => pe_ix (r := rIxT K) ix_tup (pv 10) pe_int (fun _ _ => rfl))) pa_nil)) pa_nil)) (pe_lst (pa_cons pe_str pa_nil))))
    (C8.pss_cut (ps_set (i := 6) nd rfl (.inl rfl) (pe_call L.lots r1 (by rfl) L.cLots.m L.cLots.k L.cLots.b .nil pass0 (pa_cons (pe_slice (r := rSlL K) sl_list (pv 5) po_none (po_some pe_int)) (pa_cons pe_int pa_nil))))
    (C8.pss_cut (ps_for PassesOwn.never rfl (pi_range1 (by rfl) T.range (pa_cons pe_int pa_nil)) (pg_name (i := 7) nd rfl (.inl rfl))
      (pss_one (ps_expr (pe_bm PySem.F.plainAttrs_list PySem.F.slot_list_append PySem.F.type_list_append mt_append (pv 6) (pa_cons (pe_tupleOf (by rfl) T.tuple (pe_lc (own := [("_law_j", 8)]) (g := gName 8) (tt := tYes) rfl nd (pi_range1 (by rfl) T.range (pa_cons (pe_call L.draw r1 (by rfl) L.cDraw.m L.cDraw.k L.cDraw.b .nil pass0 (pa_cons (pv 1) (pa_cons pe_int pa_nil))) pa_nil))
        (blkOk_by (N := nLaw) (sc := defScope lLaw) (by decide +kernel)) (fun _ _ _ _ _ => pg_name (i := 8) nd rfl (.inl rfl)) (fun _ _ _ _ _ => pts_nil)
        (fun _ _ _ _ _ => pe_call L.pick r2 (by rfl) L.cPick.m L.cPick.k L.cPick.b .nil pass0 (pa_cons (pv 1) (pa_cons (pe_op op_cat (pe_slice (r := rSlL K) sl_list (pv 5) po_none (po_some (pe_un un_neg pe_int))) (pe_slice (r := rSlL K) sl_list (pv 5) po_none (po_some pe_int))) pa_nil))))) pa_nil)))))
    (C8.pss_cut (ps_if (pt_cmpR (op_neD (X := X0) hr.units) (pe_lc (own := [("_law_k", 7), ("_law_lot", 9)]) (g := gTup K 2 (gCons (gName 7) (gCons (gName 9) gNil))) rfl nd (pi_enum (by rfl) T.enum (pa_cons (pv 6) pa_nil))
        (blkOk_by (N := nLaw) (sc := defScope lLaw) (by decide +kernel)) (fun _ _ _ _ _ => pg_tup rfl (pgs_cons (pg_name (i := 7) nd rfl (.inl rfl)) (pgs_cons (pg_name (i := 9) nd rfl (.inl rfl)) pgs_nil)))
        (fun _ _ _ _ _ => pts_one (pt_not (pt_val (pe_callG L.right hG r3 (by rfl) L.cRight.m L.cRight.k L.cRight.b pass0 (pa_cons (pv 4) (pa_cons (pv 3) (pa_cons (pv 9) (pa_cons (pe_cmpR op_eq (pe_op op_mod (pv 7) pe_int) pe_int (nomark _)) pa_nil))))))))
        (fun _ _ _ _ _ => pv 7)) (pe_lst pa_nil) (nomark _)) (pss_one (ps_ret pe_bl)) pss_nil)
    (pss_one (ps_if (pt_cmpR op_ne (pe_callB (call_repT (X := X0) hG hr.units) (by rfl) T.repr (by decide +kernel) (pa_cons (pe_call L.told r1 (by rfl) L.cTold.m L.cTold.k L.cTold.b .nil pass0 (pa_cons (pv 4) pa_nil)) pa_nil)) (pe_callB (call_repT (X := X0) hG hr.units) (by rfl) T.repr (by decide +kernel) (pa_cons (pv 3) pa_nil)) (nomark _)) (pss_one (ps_ret pe_bl)) pss_nil))))))), fun p l sc i hi D σ H1 hS fin => ?_⟩
  obtain ⟨o2, o3, o4, o5, o6, o7, o8, o9, oa, ob, oc, od, oe, H0, t, rfl, hD, t0, tb, _⟩ := hS
  refine ⟨fun σ H' => ∃ v r ks, LwP p l (400 * (i : Int) + 100) [some sc, some (.ref p), o2, some v, o4, o5, o6, o7, o8, o9, oa, ob, oc, od, oe] (fun H0 => Dq H0 v (partsD r) ∧ Drawn r ks) σ H', ?_, ?_⟩
  · refine ⟨_, rfl, H0, p, l, t, 4, rfl, hD, t0, by omega, by decide, by decide, fun H2 H2' t' v r ks g dv dr => ⟨v, r, ks, H2, t', rfl, g.d, ?_, ?_, dv, dr⟩⟩
    · have := g.t0
      omega
    · have := g.t1
      omega
  clear hD t0 tb H0 t
  rintro σ1 H1 ⟨v, r, ks, H0, t, rfl, hD, t0, tb, hd, dr⟩
  refine ⟨fun σ H' => ∃ x, LwP p l (400 * (i : Int) + 100) [some sc, some (.ref p), o2, some v, some (.ref x), o5, o6, o7, o8, o9, oa, ob, oc, od, oe] (RdX C x v r ks) σ H', ?_, ?_⟩
  · refine ⟨_, rfl, H0, v, r, rfl, hD.s, hd, dr.right, fun H' Hk x v1 v2 v3 s1 s2 SH nw at_ => ⟨x, offD p l H', t, rfl, hD.off SH, t0, tb, ?_⟩⟩
    have sub := sub_off hD s2 nw
    exact ⟨Dq.same (s1.trans sub) _ _ hd, dr, v1, v2, v3, at_.same sub⟩
  clear hD hd H0
  rintro σ1 H1 ⟨x, H0, t, rfl, hD, t0, tb, hR⟩
  refine ⟨fun σ H' => ∃ kn, LwP p l (400 * (i : Int) + 100) [some sc, some (.ref p), o2, some v, some (.ref x), some (.ref kn), o6, o7, o8, o9, oa, ob, oc, od, oe] (fun H0 => RdX C x v r ks H0 ∧ KnX H0 kn) σ H', ?_, ?_⟩
  · have hd := hR.1
    cases hd with
    | @tup pa xs _ e hda =>
      cases hda with
      | @cons y0 _ _ _ q0 hda =>
      cases hda with
      | @cons y1 _ _ _ q1 hda =>
      cases hda with
      | @cons y2 _ _ _ q2 hda =>
      cases hda with
      | @cons y3 _ _ _ q3 hda =>
      cases hda
      cases q2 with
      | @tup ma mxs _ em dm =>
      have em1 := hD.s _ _ em
      refine ⟨_, rfl, pa, _, _, .ref ma, rfl, rfl, SqT.of (hD.s _ _ e), rfl, ma, rfl, ⟨_, SqT.of em1⟩, fun B nB => ?_⟩
      refine lc_tup (K := K) (a := ma) (xs := mxs) (fun i H2 => Same H1 H2 ∧ H2 B = some (.lst ((r.mv.take i).map fun x => V.str x.m))) ⟨same_new nB, upd_same⟩ (fun i H2 _ M => SqT.of (M.1 _ _ em1)) ?_ ?_
      · rintro j y H2 hy ⟨S2, hB⟩
        obtain ⟨d', hd', hq⟩ := DqAll.at dm hy
        obtain ⟨z, hz, rfl⟩ : ∃ z, r.mv[j]? = some z ∧ mvD z = d' := by
          rw [List.getElem?_map] at hd'
          cases ex : r.mv[j]? with
          | none =>
            rw [ex] at hd'
            cases hd'
          | some z =>
            rw [ex] at hd'
            exact ⟨z, rfl, Option.some.inj hd'⟩
        have hj : j < r.mv.length := (List.getElem?_eq_some_iff.mp hz).1
        cases hq with
        | @tup c zs _ ec hza =>
          cases hza with
          | @cons w0 _ _ _ p0 hza =>
          cases hza with
          | @cons w1 _ _ _ p1 hza =>
          cases hza with
          | @cons w2 _ _ _ p2 hza =>
          cases hza with
          | @cons w3 _ _ _ p3 hza =>
          cases hza
          cases p1
          refine ⟨rfl, _, rfl, c, _, _, .str z.m, rfl, rfl, SqT.of (S2 _ _ (hD.s _ _ ec)), rfl, _, hB, ?_, fun d o ed => ?_, ?_⟩
          · rw [List.length_map, List.length_take, sizeLine_eq]
            have := dr.ml
            omega
          · rw [upd_ne (ne_of_none ed nB)]
            exact S2 _ _ ed
          · rw [upd_same, List.take_add_one, hz, List.map_append]
            rfl
      · rintro H2 ⟨S2, hB⟩
        have ml : mxs.length = r.mv.length := by
          rw [dm.len, List.length_map]
        rw [ml, List.take_length] at hB
        refine ⟨B, (r.mv.map (·.m)).map Sum.inr, rfl, SqL.of (by rw [hB, List.map_map, List.map_map]; rfl), by rw [List.length_map, List.length_map]; have := dr.ml; omega, fun sp kk nsp ndk mem lk => ?_⟩
        obtain ⟨ss, rfl, hss⟩ := all_inr kk (r.mv.map (·.m)) fun j hj => (mem j).1 hj
        rw [List.length_map, List.length_map, List.length_map] at lk
        refine ⟨sp, ss, rfl, upd_same, fun ys q pm nd2 pw nq => ⟨(by show 1 ≤ sizeLine; decide), fun e' ne' => ?_⟩⟩
        have lys : ys.length = ss.length := pm.length_eq
        have S3 := same_new (o := KsO P w sp (ss.map Sum.inr)) nsp
        have S4 := same_new (o := .lst (ys.map V.str)) nq
        have S5 := same_new (o := .lst [V.str "q"]) ne'
        refine ⟨q, e', _, _, rfl, rfl, S5 _ _ upd_same, upd_same, ?_, fun kn nkn => ?_⟩
        · rw [List.length_map, sizeLine_eq]
          have := dr.ml
          show ys.length + 1 ≤ _
          omega
        have S6 := same_new (o := .lst (ys.map V.str ++ [V.str "q"])) nkn
        have S := S2.trans (S3.trans (S4.trans (S5.trans S6)))
        have sub : Same H0 (offD p l _) := sub_off hD (hD.s.trans S) fun c h => .inl h
        have kp : kn ≠ p ∧ kn ≠ l := by
          obtain ⟨_, _, hp, hl, _⟩ := hD.d
          have S' := S2.trans (S3.trans (S4.trans S5))
          exact ⟨(ne_of_none (S' _ _ hp) nkn).symm, (ne_of_none (S' _ _ hl) nkn).symm⟩
        refine ⟨kn, offD p l _, t, rfl, hD.off S, t0, tb, hR.same sub, ys ++ [("q" : Str)], off_at (by rw [upd_same, List.map_append]; rfl) kp.1 kp.2, fun y hy => ?_, by simp, ?_⟩
        · rcases List.mem_append.mp hy with z | z
          · obtain ⟨x', hx', rfl⟩ := List.mem_map.mp (hss y (pm.mem_iff.mp z))
            exact kinds_al5 dr.k _ (dr.mv x' hx').m
          · rw [List.mem_singleton.mp z]
            decide +kernel
        · rw [List.length_append]
          have := dr.ml
          show ys.length + 1 ≤ 9
          omega
  clear hD hR H0
  rintro σ1 H1 ⟨kn, H0, t, rfl, hD, t0, tb, hR, hK⟩
  refine ⟨fun σ H' => ∃ F H0 t, σ = [some sc, some (.ref p), o2, some v, some (.ref x), some (.ref kn), some (.ref F), o7, o8, o9, oa, ob, oc, od, oe] ∧ DeckAt H0 H' p l t ∧ 0 ≤ t ∧ t ≤ 400 * (i : Int) + 100 ∧ RdX C x v r ks H0 ∧ KnX H0 kn ∧ LotsX p l F 54 H0 H', ?_, ?_⟩
  · obtain ⟨ys, hk, hal, y1, y9⟩ := hK
    have hk1 := hD.s _ _ hk
    refine ⟨_, rfl, _, rfl, kn, _, rfl, SqL.of hk1, fun b nb => ?_⟩
    have Sb := same_new (o := .lst (cutV (ys.map V.str) none (some 3))) nb
    have ec : cutV (ys.map V.str) none (some 3) = (ys.take 3).map V.str := by
      unfold cutV
      rw [HT.sIx_none, show HT.sIx (ys.map V.str).length (ys.map V.str).length (some 3) = min 3 (ys.map V.str).length from HT.sIx_nat _ _ 3, List.drop_zero, Nat.sub_zero, List.map_take]
      by_cases h3 : 3 ≤ (ys.map V.str).length
      · rw [Nat.min_eq_left h3]
      · rw [Nat.min_eq_right (by omega), List.take_of_length_le (Nat.le_refl _), List.take_of_length_le (by omega)]
    refine ⟨b, ys.take 3, rfl, by rw [upd_same, ec], by rw [List.length_take]; omega, fun y hy => hal y (List.mem_of_mem_take hy), fun H' F S nF lF => ?_⟩
    have S1 := Sb.trans S
    have nF1 : H1 F = none := Sb.free nF
    obtain ⟨xs, hF, hx, lx⟩ := lF
    have sub : Same H0 (offF p l F H') := fun c o e => by
      have h1 := sub_off hD (hD.s.trans S1) (fun c h => .inl h) c o e
      exact offF_at h1 (ne_of_none (hD.s _ _ e) nF1)
    obtain ⟨fp, fl⟩ := hD.notP nF1
    refine ⟨F, offF p l F H', t, rfl, hD.offF S1 nF1, t0, tb, hR.same sub, ⟨ys, sub _ _ hk, hal, y1, y9⟩, fp, fl, if_pos rfl, xs, hF, fun z hz => (hx z hz).keep (fun a zs ea => off_tup hD S1 hF ea) (by decide), lx⟩
  clear hD hR hK H0
  rintro σ1 H1 ⟨F, H0, t, rfl, hD, t0, tb, hR, hK, hL⟩
  refine ⟨fun σ H' => ∃ H0 t o7, σ = [some sc, some (.ref p), o2, some v, some (.ref x), some (.ref kn), some (.ref F), o7, o8, o9, oa, ob, oc, od, oe] ∧ DeckAt H0 H' p l t ∧ 0 ≤ t ∧ t ≤ 400 * (i : Int) + 300 ∧ RdX C x v r ks H0 ∧ LotsX p l F 62 H0 H', ?_, ?_⟩
  · refine ⟨8, rfl, by decide, by decide, for_range (fun j σ H' => ∃ H0 t o7, σ = [some sc, some (.ref p), o2, some v, some (.ref x), some (.ref kn), some (.ref F), o7, o8, o9, oa, ob, oc, od, oe] ∧ DeckAt H0 H' p l t ∧ 0 ≤ t ∧ t ≤ 400 * (i : Int) + 100 + 20 * (j : Int) ∧ RdX C x v r ks H0 ∧ KnX H0 kn ∧ LotsX p l F (54 + j) H0 H') ⟨H0, t, o7, rfl, hD, t0, by omega, hR, hK, hL⟩ ?_ ?_⟩
    · clear hD hR hK hL t0 tb H0 t
      rintro j σ H2 hj ⟨H0, t, o7, rfl, hD, t0, tb, hR, ⟨ys, hk, hal, y1, y9⟩, fp, fl, nF, xs, hF, hx, lx⟩
      have hj8 : j < 8 := hj
      refine ⟨_, rfl, .inl ⟨rfl, _, SqL.of hF⟩, _, rfl, H0, p, l, t, 13, rfl, hD, t0, by omega, by decide, by decide, fun H3 nn g n0 n1 => ⟨nn, rfl, by omega, by omega, fun B nB => ?_⟩⟩
      refine lc_range (fun e H' => Making p l B H0 H3 (t + 1) 1 (WdD al5) e H') (Making.start g.d nB WdD.zero) ?_ ?_
      · rintro e H4 he ⟨H02, t3, zs, ds, g3, w3, q3, hP⟩
        have g3t := g3.t1
        have g3t0 := g3.t0
        have hk4 := g3.d.s _ _ (g3.s _ _ hk)
        refine ⟨rfl, _, rfl, _, rfl, 1, rfl, _, rfl, kn, _, rfl, SqL.of hk4, fun b nb => ?_⟩
        have Sb := same_new (o := .lst (cutV (ys.map V.str) none (some (-1)))) nb
        refine ⟨_, rfl, _, rfl, kn, _, rfl, SqL.of (Sb _ _ hk4), fun b2 nb2 => ?_⟩
        have Sb2 := same_new (o := .lst (cutV (ys.map V.str) none (some 1))) nb2
        have gb := ((Go.refl g3.d).put0 (o := .lst (cutV (ys.map V.str) none (some (-1)))) nb).put0 (o := .lst (cutV (ys.map V.str) none (some 1))) nb2
        have c1 : (cutV (ys.map V.str) none (some 1)).length = 1 := cut_one (by rw [List.length_map]; exact y1)
        have c2 : (cutV (ys.map V.str) none (some (-1))).length ≤ 9 := Nat.le_trans cut_len (by rw [List.length_map]; exact y9)
        refine ⟨b, b2, _, _, rfl, rfl, Sb2 _ _ upd_same, upd_same, by rw [sizeLine_eq]; omega, fun q nq => pick_lit (E := E0) gb.d (by omega) (by omega) (by rw [List.length_append]; omega) (by rw [List.length_append]; omega) nq fun H5 v g5 hv => ?_⟩
        obtain ⟨y, rfl, hy⟩ : ∃ y : Str, v = .str y ∧ y ∈ al5 := by
          have hm : v ∈ ys.map V.str := by
            rcases List.mem_append.mp hv with z | z <;> exact cut_mem z
          obtain ⟨y, hy, rfl⟩ := List.mem_map.mp hm
          exact ⟨y, rfl, hal y hy⟩
        refine Making.turn g3 w3 q3 ((gb.trans g5).more (by omega)) (.str y) ?_ (hP.snoc hy)
        obtain ⟨w, rfl, hw, _⟩ := hP
        rw [List.length_map]
        omega
      · rintro H4 ⟨H02, t3, zs, ds, g3, w3, q3, wd, rfl, hw, hws⟩
        have g3t := g3.t1
        have g3t0 := g3.t0
        refine .inl ⟨B, zs, rfl, SqL.of w3.h, fun q nq => ?_⟩
        have g4 := (g.trans g3).new (o := .tup zs) nq
        have d4 := dq_new (g3.d.s.free nq) q3
        obtain ⟨hF4, nF4⟩ := g4.own hD hF nF fp fl
        obtain ⟨qa, eqa, hqa⟩ := strsD_of (w := wd) d4
        cases eqa
        refine ⟨F, xs, _, rfl, rfl, hF4, by rw [sizeLine_eq]; omega, _, t3, _, rfl, g4.d.put fp fl nF4, by omega, by omega, hR.same g4.s, ⟨ys, g4.s _ _ hk, hal, y1, y9⟩, LotsX.more fp fl nF4 hF4 (fun z hz => (hx z hz).keep (fun _ _ e => g4.s _ _ e) (Nat.le_refl _)) lx hqa (by omega) hws⟩
    · rintro σ H' ⟨H0, t, o7, rfl, hD, t0, tb, hR, hK, hL⟩
      exact ⟨H0, t, o7, rfl, hD, t0, by have : ((8 : Int).toNat : Int) = 8 := rfl; omega, hR, hL⟩
  clear hD hR hK hL t0 tb H0 t
  rintro σ1 H1 ⟨H0, t, o7, rfl, hD, t0, tb, hR, hL⟩
  refine ⟨fun σ H' => ∃ H0 t o7, σ = [some sc, some (.ref p), o2, some v, some (.ref x), some (.ref kn), some (.ref F), o7, o8, o9, oa, ob, oc, od, oe] ∧ DeckAt H0 H' p l t ∧ 0 ≤ t ∧ t ≤ 400 * (i : Int) + 300 ∧ RdX C x v r ks H0, ?_, ?_⟩
  · obtain ⟨fp, fl, nF, xs, hF, hx, lx⟩ := hL
    refine ⟨_, rfl, F, xs, rfl, SqL.of hF, fun B nB => ?_⟩
    refine lc_it (walk_enum (K := K) (a := F) (xs := xs)) (fun e H' => Same H1 H' ∧ H' B = some (.lst [])) ⟨same_new nB, upd_same⟩ (fun e H' _ M => SqL.of (M.1 _ _ hF)) ?_ ?_
    · rintro e _ H2 _ he ⟨S2, hB⟩ ⟨TT, y, z, rfl, nT, rfl, ey, ez⟩
      obtain ⟨za, zw, rfl, hz, lz, az⟩ := hx z (List.mem_of_getElem? ez)
      cases ey
      have St := same_new (o := .tup [.int (e : Nat), .ref za]) nT
      have S0 := hD.s.trans (S2.trans St)
      obtain ⟨hd, dr, v1, v2, v3, hA⟩ := hR
      refine ⟨TT, _, rfl, SqT.of upd_same, rfl, _, _, rfl, _, _, rfl, rfl, rfl, _, rfl, _, rfl, _, rfl, _, rfl, _, _, rfl, rfl, (show (0:Int) < 5 by decide), dec_scal, ?_⟩
      refine ⟨x, za, v, _, r, ks, zw, v1, v2, v3, rfl, hA.same S0, Dq.same S0 _ _ hd, dr, S0 _ _ hz, by omega, az, fun H3 S3 => ?_⟩
      refine ⟨_, rfl, iteNo rfl ⟨S2.trans (St.trans S3), ?_⟩⟩
      exact S3 _ _ (by rw [upd_ne (ne_of_none hB nT)]; exact hB)
    · rintro H2 ⟨S2, hB⟩
      refine ⟨Nat.zero_le _, fun q nq => ?_⟩
      have Sq := same_new (o := .lst []) nq
      refine ⟨.list [], .list [], .lst (SqL.of (Sq _ _ hB)) .nil, .lst (SqL.of upd_same) .nil, rfl, rfl, _, rfl, iteNo rfl ?_⟩
      exact ⟨H0, t, o7, rfl, hD.mono (S2.trans Sq), t0, tb, hR⟩
  clear hD hR hL t0 tb H0 t
  rintro σ1 H1 ⟨H0, t, o7, rfl, hD, t0, tb, hR⟩
  obtain ⟨hd, dr, v1, v2, v3, hA⟩ := hR
  refine ⟨_, rfl, x, r, v1, v2, v3, rfl, hA.same hD.s, fun H2 u S2 du => ?_⟩
  have sn := dr.seen
  revert hd du sn
  obtain ⟨ds, hds⟩ : ∃ ds, partsD r = .tuple ds := ⟨_, rfl⟩
  rw [hds]
  intro hd du sn
  cases du with
  | @tup ua us _ eu hu =>
  cases hd with
  | @tup pa xs _ e hda =>
  exact ⟨ua, us, ds, rfl, eu, hu, sn, _, rfl, pa, xs, ds, rfl, S2 _ _ (hD.s _ _ e), DqAll.same (hD.s.trans S2) _ _ hda, sn, rfl, _, rfl, iteNo ne_self (fin _ _ ⟨_, _, _, _, _, _, _, _, _, _, _, _, _, H0, t, rfl, hD.mono S2, t0, by omega, trivial⟩)⟩
end
end KL
set_option Elab.async false
set_option linter.all false
set_option maxRecDepth 100000
set_option maxHeartbeats 4000000
namespace KL
open PySem L2 PySem.Spec PyProof.Rows
/-! ### readings of which one knows the value that they hand back, by data -/
def LitAt (σ : L2.St) (H0 : Hp) (t : TE) (d : PyData) : Prop := ∀ H Q, Same H0 H → (∀ H' v, Same H H' → Dq H' v d → Q v H') → t σ H Q
def LitsAt (σ : L2.St) (H0 : Hp) (t : TA) (ds : List PyData) : Prop := ∀ H Q, Same H0 H → (∀ H' vs, Same H H' → DqAll H' vs ds → Q vs H') → t σ H Q
section
variable {σ : L2.St} {H0 : Hp}
theorem lit_int {i : Int} : LitAt σ H0 (tC (.int i)) (.int i) := fun H Q _ k => k H _ (Same.refl _) (.int i)
theorem lit_str {x : Str} : LitAt σ H0 (tC (.str x)) (.str x) := fun H Q _ k => k H _ (Same.refl _) (.str x)
theorem lit_non : LitAt σ H0 (tC .non) .none := fun H Q _ k => k H _ (Same.refl _) .non
theorem lits_nil : LitsAt σ H0 tNil [] := fun H Q _ k => k H _ (Same.refl _) .nil
theorem lits_cons {t : TE} {ts : TA} {d : PyData} {ds : List PyData} (h : LitAt σ H0 t d) (hs : LitsAt σ H0 ts ds) : LitsAt σ H0 (tCons t ts) (d :: ds) := fun H Q S k =>
  h H _ S fun H1 v S1 d1 => hs H1 _ (S.trans S1) fun H2 vs S2 d2 => k H2 _ (S1.trans S2) (.cons (Dq.same S2 _ _ d1) d2)
theorem lit_tup {ts : TA} {ds : List PyData} (hs : LitsAt σ H0 ts ds) (hn : ds.length ≤ 1000) : LitAt σ H0 (tTup ts) (.tuple ds) := fun H Q S k =>
  hs H _ S fun H1 vs S1 d1 => ⟨by rw [d1.len, sizeLine_eq]; omega, fun p np => k _ _ (S1.trans (same_new np)) (dq_new np d1)⟩
theorem lit_lst {ts : TA} {ds : List PyData} (hs : LitsAt σ H0 ts ds) (hn : ds.length ≤ 1000) : LitAt σ H0 (tLst ts) (.list ds) := fun H Q S k =>
  hs H _ S fun H1 vs S1 d1 => ⟨by rw [d1.len, sizeLine_eq]; omega, fun p np => k _ _ (S1.trans (same_new np)) (.lst upd_same (DqAll.same (same_new np) _ _ d1))⟩
theorem lit_var {i : Nat} {v : V} {d : PyData} (e : σ[i]? = some (some v)) (h : Dq H0 v d) : LitAt σ H0 (tVar i) d := fun H Q S k => ⟨v, e, k H v (Same.refl _) (Dq.same S _ _ h)⟩
/-- a written or begun tape -/
theorem lit_meth {C x : Addr} {m : Str} {g : Rdr → List Str → Option (List Str)} {E : XK} {i : Nat} {t : TE} {r : Rdr} {v1 v2 v3 : V} {ms : List Str} (e : σ[i]? = some (some (.ref x))) (R : RdrAt C H0 x r v1 v2 v3) (hm : m = "written" ∨ m = "begun") (Sh : Short r) (hn : ms.length ≤ 1000) (h : LitAt σ H0 t (strsD ms)) :
    LitAt σ H0 (tMeth C m (spTapeU C g) [] E (tVar i) (tCons t tNil)) (optD (g r ms)) := fun H Q S k => by
  obtain ⟨dx, fs, tb, te, h1, h2, h3, h4, h5, h6, h7, h8, h9, _⟩ := R.ex
  have hl : fs.lookup m = none := by rcases hm with rfl | rfl <;> assumption
  refine ⟨_, e, x, dx, fs, rfl, S _ _ h1, hl, h H _ S fun H1 v S1 d1 => ?_⟩
  obtain ⟨a, rfl, ha⟩ := strsD_of d1
  exact ⟨x, a, r, v1, v2, v3, ms, rfl, R.same (S.trans S1), Sh, ha, hn, fun H' v S' d => k H' v (S1.trans S') d⟩
theorem flat_strs (n : Nat) (w : List Str) : (List.replicate n (w.map V.str)).flatten = (List.replicate n w).flatten.map V.str := by
  rw [List.map_flatten, List.map_replicate]
theorem lit_rep {K : PySem.W.Frag} {t : TE} {w : List Str} {k : Int} (h : LitAt σ H0 t (strsD w)) (hw : w ≠ []) (h2 : 2 ≤ k) (hk : k ≤ 1000) (hn : w.length ≤ 1000) : LitAt σ H0 (tOp (L2.rRepT K) t (tC (.int k))) (strsD (List.replicate k.toNat w).flatten) := fun H Q S kk =>
  h H _ S fun H1 v S1 d1 => by
    obtain ⟨a, rfl, ha⟩ := strsD_of d1
    refine ⟨a, k, _, rfl, rfl, SqT.of ha, fun z => hw (List.map_eq_nil_iff.mp z), h2, hk, by rw [List.length_map]; exact hn, fun p np => kk _ _ (S1.trans (same_new np)) (.tup upd_same ?_)⟩
    rw [flat_strs]
    exact strs_dq _
theorem dp_strs {K : PySem.W.Frag} {H : Hp} : ∀ w : List Str, DpAll K H (w.map V.str) (w.map .str)
  | [] => .nil
  | x :: w => .cons (.str x) (dp_strs w)
theorem dp_strsD {K : PySem.W.Frag} {H : Hp} {v : V} {w : List Str} (h : Dq H v (strsD w)) : Dp K H v (strsD w) := by
  obtain ⟨a, rfl, ha⟩ := strsD_of h
  exact .tup (SqT.of ha) (dp_strs w)
/-- two tapes compared -/
theorem lit_ne {K : PySem.W.Frag} {t u : TE} {x y : List Str} {H : Hp} {Q : VK} (h1 : LitAt σ H0 t (strsD x)) (h2 : LitAt σ H0 u (strsD y)) (s1 : SeqAt.shaped (strsD x) = true) (s2 : SeqAt.shaped (strsD y) = true) (S : Same H0 H) (k : ∀ H', Same H H' → Q (.bl (!PyData.eqv (strsD x) (strsD y))) H') :
    tOp (rNeD K) t u σ H Q := h1 H _ S fun H1 v S1 d1 => h2 H1 _ (S.trans S1) fun H2 u S2 d2 => ⟨_, _, dp_strsD (Dq.same S2 _ _ d1), dp_strsD d2, s1, s2, k _ (S1.trans S2)⟩
/-- a test that comes out false -/
def NoAt (σ : L2.St) (H0 : Hp) (t : TT) : Prop := ∀ H (Q : Bool → Hp → Prop), Same H0 H → (∀ H', Same H H' → Q false H') → t σ H Q
theorem no_or {t u : TT} (h1 : NoAt σ H0 t) (h2 : NoAt σ H0 u) : NoAt σ H0 (tOr t u) := fun H Q S k => h1 H _ S fun H1 S1 => iteNo rfl (h2 H1 Q (S.trans S1) fun H2 S2 => k H2 (S1.trans S2))
theorem no_ne {K : PySem.W.Frag} {t u : TE} {x : List Str} (h1 : LitAt σ H0 t (strsD x)) (h2 : LitAt σ H0 u (strsD x)) (s1 : SeqAt.shaped (strsD x) = true) (e : PyData.eqv (strsD x) (strsD x) = true) : NoAt σ H0 (tTest (tOp (rNeD K) t u)) := fun H Q S k =>
  lit_ne h1 h2 s1 s1 S fun H' S' => ⟨false, by rw [e]; rfl, k H' S'⟩
theorem no_notN {t : TE} (h : LitAt σ H0 t .none) : NoAt σ H0 (tTest (tOp (fun x y H Q => y = V.non ∧ Q (V.bl !decide (x = V.non)) H) t (tC V.non))) := fun H Q S k => h H _ S fun H1 v S1 d => by
  cases d
  exact ⟨rfl, false, by simp, k H1 S1⟩
theorem ifs_no {c : TT} {a : TS} {D : Ends} (h : NoAt σ H0 c) (k : ∀ H', Same H0 H' → D.nx σ H') : tIfS c a tNext D σ H0 := h H0 _ (Same.refl _) fun H' S => iteNo rfl (k H' S)
theorem asg_lit {t : TE} {d : PyData} {i : Nat} {D : Ends} (h : LitAt σ H0 t d) (k : ∀ H' v, Same H0 H' → Dq H' v d → D.nx (σ.set i (some v)) H') : tAsg t (gName i) D σ H0 := h H0 _ (Same.refl _) k
theorem asg_made {C : Addr} {E : XK} {t : TE} {d : PyData} {r : Rdr} {i : Nat} {D : Ends} (h : LitAt σ H0 t d) (e : d = partsD r) (R : Right r) (k : ∀ H' x v1 v2 v3, Same H0 H' → RdrAt C H' x r v1 v2 v3 → D.nx (σ.set i (some (.ref x))) H') : tAsg (tCall (spLMade C) [] E (tCons t tNil)) (gName i) D σ H0 :=
  h H0 _ (Same.refl _) fun H1 v S1 d1 => ⟨H1, v, r, rfl, Same.refl _, by rw [← e]; exact d1, R, fun H' Hk x v1 v2 v3 _ s2 s3 _ RR => k H' x v1 v2 v3 (S1.trans s3) (RR.same s2)⟩
theorem lit_cat {K : PySem.W.Frag} {t u : TE} {x y : List Str} (h1 : LitAt σ H0 t (strsD x)) (h2 : LitAt σ H0 u (strsD y)) (hx : x.length ≤ 1000) (hy : y.length ≤ 1000) : LitAt σ H0 (tOp (rCatA K) t u) (strsD (x ++ y)) := fun H Q S k => h1 H _ S fun H1 v S1 d1 => h2 H1 _ (S.trans S1) fun H2 u S2 d2 => by
  obtain ⟨a, rfl, ha⟩ := strsD_of (Dq.same S2 _ _ d1)
  obtain ⟨b, rfl, hb⟩ := strsD_of d2
  refine cat_of ha hb (by rw [List.length_map, List.length_map, sizeLine_eq]; omega) fun p H' S' hp => k H' _ (S1.trans (S2.trans S')) (.tup hp ?_)
  rw [← List.map_append]
  exact strs_dq _
theorem lit_tail {K : PySem.W.Frag} {t : TE} {x : List Str} (h : LitAt σ H0 t (strsD x)) (n : 2 ≤ x.length) : LitAt σ H0 (tSl (rSlA K) t (tPart (tC (V.int 1))) tNoPart) (strsD (x.drop 1)) := fun H Q S k => h H _ S fun H1 v S1 d1 => by
  obtain ⟨a, rfl, ha⟩ := strsD_of d1
  have ez : HT.sIx (x.map V.str).length 0 (some 1) = 1 := by
    rw [show HT.sIx (x.map V.str).length 0 (some 1) = min 1 (x.map V.str).length from HT.sIx_nat _ _ 1, List.length_map]
    omega
  have ec : cutV (x.map V.str) (some 1) none = (x.drop 1).map V.str := by
    unfold cutV
    rw [ez, HT.sIx_none, List.map_drop, List.take_of_length_le]
    rw [List.length_drop]
    omega
  refine ⟨1, rfl, a, _, rfl, SqT.of ha, fun z => ?_, fun _ p np => k _ _ (S1.trans (same_new np)) (.tup upd_same ?_)⟩
  · have := z.1
    rw [ez] at this
    cases this
  · rw [ec]
    exact strs_dq _
theorem lit_tupOf {K : PySem.W.Frag} {t : TE} {ds : List PyData} (h : LitAt σ H0 t (.list ds)) : LitAt σ H0 (tThen t (kTup K)) (.tuple ds) := fun H Q S k => h H _ S fun H1 v S1 d1 => by
  cases d1 with
  | @lst a xs _ e d => exact .inl ⟨a, xs, rfl, SqL.of e, fun q nq => k _ _ (S1.trans (same_new nq)) (dq_new nq d)⟩
end
end KL
set_option Elab.async false
set_option linter.all false
set_option maxRecDepth 100000
set_option maxHeartbeats 8000000
namespace KL
open PySem L2 PySem.Spec PyProof.Rows
/-! ### the readers by hand -/
def rA : Rdr := ⟨1, [], [⟨0, "a", ["a"], 0⟩, ⟨0, "b", ["b"], 0⟩], [(0, [])]⟩
def ringMv (i : Nat) : Mv := ⟨i, "a", if i = 59 then ["x"] else [], ((i : Int) + 1) % 60⟩
def rB : Rdr := ⟨60, [], (List.range 60).map ringMv, [(40, [])]⟩
def rC : Rdr := ⟨3, ["z"], [⟨0, "a", [], 1⟩, ⟨0, "b", [], 2⟩, ⟨1, "a", ["a"], 1⟩, ⟨1, "b", ["a"], 2⟩], [(1, ["a"]), (2, ["b"])]⟩
theorem rA_right : Right rA := ⟨by decide +kernel, by decide +kernel, by decide +kernel, by decide +kernel, by decide +kernel, by decide +kernel⟩
theorem rB_right : Right rB := ⟨by decide +kernel, by decide +kernel, by decide +kernel, by decide +kernel, by decide +kernel, by decide +kernel⟩
theorem rC_right : Right rC := ⟨by decide +kernel, by decide +kernel, by decide +kernel, by decide +kernel, by decide +kernel, by decide +kernel⟩
theorem short_of {r : Rdr} (f : r.first.length ≤ 1000) (m : (r.mv.all fun x => decide (x.w.length ≤ 1000)) = true) (e : (r.en.all fun x => decide (x.2.length ≤ 1000)) = true) : Short r := by
  refine ⟨f, fun i k x h => ?_, fun i w h => ?_⟩
  · exact of_decide_eq_true (List.all_eq_true.mp m x (last_mem h))
  · obtain ⟨en, hen, ev⟩ := lastE_mem h
    have := of_decide_eq_true (List.all_eq_true.mp e en hen)
    rw [ev] at this
    exact this
theorem rA_short : Short rA := short_of (by decide +kernel) (by decide +kernel) (by decide +kernel)
theorem rB_short : Short rB := short_of (by decide +kernel) (by decide +kernel) (by decide +kernel)
theorem rC_short : Short rC := short_of (by decide +kernel) (by decide +kernel) (by decide +kernel)
def lotA : List Str := (List.replicate 50 (["a", "b"] : List Str)).flatten
def manyA (n : Nat) : List Str := (List.replicate n (["a"] : List Str)).flatten
theorem lotA_len : lotA.length = 100 := by decide +kernel
theorem shaped_lotA : SeqAt.shaped (strsD lotA) = true := by decide +kernel
theorem eqv_lotA : PyData.eqv (strsD lotA) (strsD lotA) = true := by decide +kernel
theorem wA : writtenM rA lotA = some lotA := by decide +kernel
theorem bA : begunM rA lotA = some lotA := by decide +kernel
theorem cA : writtenM rA (lotA.drop 1 ++ (["c"] : List Str)) = none := by decide +kernel
theorem wB : writtenM rB (manyA 100) = some (["x"] : List Str) := by decide +kernel
theorem nB : writtenM rB (manyA 99) = none := by decide +kernel
theorem shaped_x : SeqAt.shaped (strsD ["x"]) = true := by decide +kernel
theorem eqv_x : PyData.eqv (strsD ["x"]) (strsD ["x"]) = true := by decide +kernel
theorem c1 : writtenM rC ["a", "a", "b"] = some (["z", "a", "a", "b"] : List Str) := by decide +kernel
theorem c2 : begunM rC ["a", "a", "b"] = some (["z", "a", "a"] : List Str) := by decide +kernel
theorem c3 : writtenM rC [] = none := by decide +kernel
theorem c4 : begunM rC [] = some (["z"] : List Str) := by decide +kernel
theorem c5 : writtenM rC ["a", "b", "a"] = none := by decide +kernel
def toldC : List PyData := [strsD ["z", "a", "a", "b"], strsD ["z", "a", "a"], .none, strsD ["z"], .none]
theorem seenC : Seen (.list toldC) := ⟨by decide +kernel, by decide +kernel, by decide +kernel⟩
end KL
set_option Elab.async false
set_option linter.all false
set_option maxRecDepth 100000
set_option maxHeartbeats 8000000
namespace KL
open PySem L2 PySem.Spec PyProof.Rows
section
variable {P : Program} {w : World} {K : PySem.W.Frag} {mg : Str → Option Value} {base : Heap} {C : Addr}
variable {gDeck gDraw gPick gScr gMade gTold gLots gRight gW gB : Addr} {dDeck dDraw dPick dScr dMade dTold dLots dRight dW dB : FuncData}
/-- the reader's two methods by position -/
structure RdrFns (P : Program) (w : World) (K : PySem.W.Frag) (mg : Str → Option Value) (base : Heap) (C gW gB : Addr) (dW dB : FuncData) : Prop where
  c : Cls K C
  fw : FnOk P w K mg base CX0 2 gW dW ["self", "marks"] (spTapeU C writtenM)
  mw : Meth K C "written" gW
  bw : L2.Binds K dW ["self", "marks"] []
  fb : FnOk P w K mg base CX0 2 gB dB ["self", "marks"] (spTapeU C begunM)
  mb : Meth K C "begun" gB
  bb : L2.Binds K dB ["self", "marks"] []
def RingTo (Hs : Hp) (B : Addr) (e : Nat) (H : Hp) : Prop := ∃ J xs, Same Hs J ∧ J B = none ∧ Same J H ∧ H B = some (.lst xs) ∧ DqAll J xs (((List.range e).map ringMv).map mvD)
theorem RingTo.start {Hs : Hp} {B : Addr} (nB : Hs B = none) : RingTo Hs B 0 (upd Hs B (.lst [])) := ⟨Hs, [], Same.refl _, nB, same_new nB, upd_same, .nil⟩
theorem par_lit {σ : L2.St} {H0 : Hp} {t u : TE} {d : PyData} {i j : Nat} {D : Ends} (h : LitAt σ H0 t d) (k : ∀ H1 v, Same H0 H1 → Dq H1 v d → u σ H1 (fun w H2 => ∃ v' w', [v, w] = [v', w'] ∧ D.nx ((σ.set i (some v')).set j (some w')) H2)) : tPar i j (tCons t (tCons u tNil)) D σ H0 :=
  h H0 _ (Same.refl _) fun H1 v S d => k H1 v S d
theorem lotA_eq : (List.replicate (50 : Int).toNat (["a", "b"] : List Str)).flatten = lotA := rfl
theorem RingTo.push {Hs : Hp} {B : Addr} {e : Nat} {H H' : Hp} {v : V} {xs : List V} (h : RingTo Hs B e H) (hB : H B = some (.lst xs)) (S : Same H H') (hv : Dq (fun c => if c = B then none else H' c) v (mvD (ringMv e))) : RingTo Hs B (e + 1) (upd H' B (.lst (xs ++ [v]))) := by
  obtain ⟨J, ys, S0, nB, S1, hb, dd⟩ := h
  cases hB.symm.trans hb
  have SJ : Same J (fun c => if c = B then none else H' c) := fun c o e => by
    have : c ≠ B := fun z => by
      rw [z, nB] at e
      cases e
    show (if c = B then none else H' c) = _
    rw [if_neg this]
    exact S _ _ (S1 _ _ e)
  refine ⟨fun c => if c = B then none else H' c, xs ++ [v], S0.trans SJ, if_pos rfl, fun c o e => ?_, upd_same, ?_⟩
  · have z : c ≠ B := fun z => by
      rw [z] at e
      have e2 : (if B = B then none else H' B) = some o := e
      rw [if_pos rfl] at e2
      cases e2
    have e2 : (if c = B then none else H' c) = some o := e
    rw [if_neg z] at e2
    rw [upd_ne z]
    exact e2
  · rw [List.range_succ, List.map_append, List.map_append]
    exact DqAll.snoc (DqAll.same SJ _ _ dd) hv
theorem rep01_of {p : Addr} {x : Str} {k : Int} {H : Hp} {Q : VK} (hp : H p = some (.tup [.str x])) (hk : k = 0 ∨ k = 1) (q : ∀ H' v, Same H H' → Dq H' v (strsD (if k = 1 then [x] else [])) → Q v H') : rRep01 K (.ref p) (.int k) H Q := by
  refine ⟨p, k, [.str x], rfl, rfl, SqT.of hp, (fun z => by cases z), (by show 1 ≤ 1000; decide), ?_⟩
  rcases hk with rfl | rfl
  · exact .inl ⟨rfl, fun b nb => q _ _ (same_new nb) (.tup upd_same .nil)⟩
  · exact .inr ⟨rfl, q _ _ (Same.refl _) (.tup hp (strs_dq [x]))⟩
theorem if_01 {b : Bool} : (if b = true then (1 : Int) else 0) = 0 ∨ (if b = true then (1 : Int) else 0) = 1 := by cases b <;> simp
theorem ring_w {e : Nat} : (if (if decide (V.int (0 + (e : Int)) = V.int 59) = true then (1 : Int) else 0) = 1 then (["x"] : List Str) else []) = (ringMv e).w := by
  show _ = if e = 59 then (["x"] : List Str) else []
  by_cases h : e = 59
  · subst h
    rfl
  · have : decide (V.int (0 + (e : Int)) = V.int 59) = false := decide_eq_false fun z => h (by injection z with z; omega)
    rw [this, if_neg h]
    rfl
theorem asg_lst {σ : L2.St} {H0 : Hp} {ts : TA} {ds : List PyData} {i : Nat} {D : Ends} (hs : LitsAt σ H0 ts ds) (hn : ds.length ≤ 1000) (k : ∀ J p vs, Same H0 J → J p = none → DqAll J vs ds → D.nx (σ.set i (some (.ref p))) (upd J p (.lst vs))) : tAsg (tLst ts) (gName i) D σ H0 :=
  hs H0 _ (Same.refl _) fun J vs S d => ⟨by rw [d.len, sizeLine_eq]; omega, fun p np => k J p vs S np d⟩
theorem ret_reprs {σ : L2.St} {H0 : Hp} {D : Ends} {t u : TE} {d : PyData} {ds : List PyData} (h1 : LitAt σ H0 t (.list (d :: ds))) (h2 : LitAt σ H0 u (.list (d :: ds))) (s : Seen (.list (d :: ds))) (k : ∀ H', D.rt (.bl true) H') : tRet (tOp rEq (tCB rRepL (tCons t tNil)) (tCB rRepL (tCons u tNil))) D σ H0 :=
  h1 H0 _ (Same.refl _) fun H1 v S1 d1 => by
    cases d1 with
    | @lst a xs _ e hh =>
    cases hh with
    | cons q r =>
    refine ⟨a, _, _, d, ds, rfl, e, .cons q r, s, h2 H1 _ S1 fun H2 v2 S2 d2 => ?_⟩
    cases d2 with
    | @lst a2 xs2 _ e2 hh2 =>
    cases hh2 with
    | cons q2 r2 =>
    refine ⟨a2, _, _, d, ds, rfl, e2, .cons q2 r2, s, rfl, ?_⟩
    rw [decide_eq_true rfl]
    exact k H2
def lTail : List Stmt := (defBody lLaw).drop 2
theorem tail_ok {f : Addr} {cdv : Value} {A : Around} {outer : List Env} {s : Shared} {H : Hp} {E : XK} (T : TxtG mg) (L : LawFns P w K mg base C gDeck gDraw gPick gScr gMade gTold gLots gRight dDeck dDraw dPick dScr dMade dTold dLots dRight) (R : RdrFns P w K mg base C gW gB dW dB)
    (hG : A.guards = some []) (hr : Room 7 (A.deeper (envOfC "law" (defScope lLaw) s.heap.objs.size f cdv))) :
    ∃ t, PSs (cxOf CX0 P w K mg base nLaw "law" (defScope lLaw) f cdv A outer s H E).nox lTail t ∧ ∀ (D : Ends) (H1 : Hp) (o0 o1 o2 o3 o4 o5 o6 o7 o8 o9 oa ob oc od oe : Option V), (∀ H', D.rt (.bl true) H') → t D [o0, o1, o2, o3, o4, o5, o6, o7, o8, o9, oa, ob, oc, od, oe] H1 := by
  have nd := scLaw.nd
  let X0 : Cx := (cxOf CX0 P w K mg base nLaw "law" (defScope lLaw) f cdv A outer s H E).nox
  have r2 : Room 2 X0.A := hr.mono (by decide)
  refine ⟨_, (C8.pss_cut (ps_par (i := 9) (j := 11) (by rfl) nd rfl rfl (by decide) rfl rfl (pa_cons (pe_op op_repT (pe_tup (pa_cons pe_str (pa_cons pe_str pa_nil))) pe_int) (pa_cons (pe_lc (own := [("_law_here", 12)]) (g := gName 12) (tt := tYes) rfl nd (pi_range1 (by rfl) T.range (pa_cons pe_int pa_nil)) (blkOk_by (N := nLaw) (sc := defScope lLaw) (by decide +kernel)) (fun _ _ _ _ _ => pg_name (i := 12) nd rfl (.inl rfl)) (fun _ _ _ _ _ => pts_nil)
      (fun _ _ _ _ _ => (pe_tup (pa_cons (pv 12) (pa_cons pe_str (pa_cons (pe_op (r := rRep01 K) op_rep01 (pe_tup (pa_cons pe_str pa_nil)) (pe_callTy call_int1 (by rfl) T.d.int (by decide +kernel) (pa_cons (pe_cmpR op_eq (pv 12) pe_int (nomark _)) pa_nil))) (pa_cons (pe_op op_mod (pe_callTy call_int1 (by rfl) T.d.int (by decide +kernel) (pa_cons (pe_op op_add (pv 12) pe_int) pa_nil)) pe_int) pa_nil))))))) pa_nil)) (by rfl))
    (C8.pss_cut (ps_set (i := 4) nd rfl (.inr rfl) (pe_call L.made hr (by rfl) L.cMade.m L.cMade.k L.cMade.b .nil pass0 (pa_cons (pe_tup (pa_cons pe_int (pa_cons (pe_tup pa_nil) (pa_cons (pe_tup (pa_cons (pe_tup (pa_cons pe_int (pa_cons pe_str (pa_cons (pe_tup (pa_cons pe_str pa_nil)) (pa_cons pe_int pa_nil))))) (pa_cons (pe_tup (pa_cons pe_int (pa_cons pe_str (pa_cons (pe_tup (pa_cons pe_str pa_nil)) (pa_cons pe_int pa_nil))))) pa_nil))) (pa_cons (pe_tup (pa_cons (pe_tup (pa_cons pe_int (pa_cons (pe_tup pa_nil) pa_nil))) pa_nil)) pa_nil))))) pa_nil)))
    (C8.pss_cut (ps_if (PW.pt (pw_or (pt_cmpR (op_neD (X := X0) hr.units) (pe_meth (pv 4) R.c R.mw R.fw r2 R.bw .nil pass0 (pa_cons (pv 9) pa_nil)) (pv 9) (nomark _)) (pw_or (pt_cmpR (op_neD (X := X0) hr.units) (pe_meth (pv 4) R.c R.mb R.fb r2 R.bb .nil pass0 (pa_cons (pv 9) pa_nil)) (pv 9) (nomark _)) (pw_or1 (pt_cmpR op_notN (pe_meth (pv 4) R.c R.mw R.fw r2 R.bw .nil pass0 (pa_cons (pe_op (r := rCatA K) op_catA (pe_slice (r := rSlA K) sl_tupA (pv 9) (po_some pe_int) po_none) (pe_tup (pa_cons pe_str pa_nil))) pa_nil)) pe_non (nomark _)))))) (pss_one (ps_ret pe_bl)) pss_nil)
    (C8.pss_cut (ps_set (i := 4) nd rfl (.inr rfl) (pe_call L.made hr (by rfl) L.cMade.m L.cMade.k L.cMade.b .nil pass0 (pa_cons (pe_tup (pa_cons pe_int (pa_cons (pe_tup pa_nil) (pa_cons (pe_tupleOf (by rfl) T.tuple (pv 11)) (pa_cons (pe_tup (pa_cons (pe_tup (pa_cons pe_int (pa_cons (pe_tup pa_nil) pa_nil))) pa_nil)) pa_nil))))) pa_nil)))
    (C8.pss_cut (ps_if (PW.pt (pw_or (pt_cmpR (op_neD (X := X0) hr.units) (pe_meth (pv 4) R.c R.mw R.fw r2 R.bw .nil pass0 (pa_cons (pe_op op_repT (pe_tup (pa_cons pe_str pa_nil)) pe_int) pa_nil)) (pe_tup (pa_cons pe_str pa_nil)) (nomark _)) (pw_or1 (pt_cmpR op_notN (pe_meth (pv 4) R.c R.mw R.fw r2 R.bw .nil pass0 (pa_cons (pe_op op_repT (pe_tup (pa_cons pe_str pa_nil)) pe_int) pa_nil)) pe_non (nomark _))))) (pss_one (ps_ret pe_bl)) pss_nil)
    (C8.pss_cut (ps_set (i := 13) nd rfl (.inl rfl) (pe_tup (pa_cons (pe_tup (pa_cons pe_int (pa_cons pe_str (pa_cons (pe_tup pa_nil) (pa_cons pe_int pa_nil))))) (pa_cons (pe_tup (pa_cons pe_int (pa_cons pe_str (pa_cons (pe_tup pa_nil) (pa_cons pe_int pa_nil))))) (pa_cons (pe_tup (pa_cons pe_int (pa_cons pe_str (pa_cons (pe_tup (pa_cons pe_str pa_nil)) (pa_cons pe_int pa_nil))))) (pa_cons (pe_tup (pa_cons pe_int (pa_cons pe_str (pa_cons (pe_tup (pa_cons pe_str pa_nil)) (pa_cons pe_int pa_nil))))) pa_nil))))))
    (C8.pss_cut (ps_set (i := 3) nd rfl (.inr rfl) (pe_tup (pa_cons pe_int (pa_cons (pe_tup (pa_cons pe_str pa_nil)) (pa_cons (pv 13) (pa_cons (pe_tup (pa_cons (pe_tup (pa_cons pe_int (pa_cons (pe_tup (pa_cons pe_str pa_nil)) pa_nil))) (pa_cons (pe_tup (pa_cons pe_int (pa_cons (pe_tup (pa_cons pe_str pa_nil)) pa_nil))) pa_nil))) pa_nil))))))
    (C8.pss_cut (ps_set (i := 4) nd rfl (.inr rfl) (pe_call L.made hr (by rfl) L.cMade.m L.cMade.k L.cMade.b .nil pass0 (pa_cons (pv 3) pa_nil)))
    (C8.pss_cut (ps_set (i := 14) nd rfl (.inl rfl) (pe_lst (pa_cons (pe_meth (pv 4) R.c R.mw R.fw r2 R.bw .nil pass0 (pa_cons (pe_tup (pa_cons pe_str (pa_cons pe_str (pa_cons pe_str pa_nil)))) pa_nil)) (pa_cons (pe_meth (pv 4) R.c R.mb R.fb r2 R.bb .nil pass0 (pa_cons (pe_tup (pa_cons pe_str (pa_cons pe_str (pa_cons pe_str pa_nil)))) pa_nil)) (pa_cons (pe_meth (pv 4) R.c R.mw R.fw r2 R.bw .nil pass0 (pa_cons (pe_tup pa_nil) pa_nil)) (pa_cons (pe_meth (pv 4) R.c R.mb R.fb r2 R.bb .nil pass0 (pa_cons (pe_tup pa_nil) pa_nil)) pa_nil))))))
    (C8.pss_cut (ps_expr (pe_bm PySem.F.plainAttrs_list PySem.F.slot_list_append PySem.F.type_list_append mt_append (pv 14) (pa_cons (pe_meth (pv 4) R.c R.mw R.fw r2 R.bw .nil pass0 (pa_cons (pe_tup (pa_cons pe_str (pa_cons pe_str (pa_cons pe_str pa_nil)))) pa_nil)) pa_nil)))
    (pss_one (ps_ret (pe_cmpR op_eq (pe_callB (call_repL (X := X0) hG hr.units) (by rfl) T.repr (by decide +kernel) (pa_cons (pv 14) pa_nil)) (pe_callB (call_repL (X := X0) hG hr.units) (by rfl) T.repr (by decide +kernel) (pa_cons (pe_lst (pa_cons (pe_tup (pa_cons pe_str (pa_cons pe_str (pa_cons pe_str (pa_cons pe_str pa_nil))))) (pa_cons (pe_tup (pa_cons pe_str (pa_cons pe_str (pa_cons pe_str pa_nil)))) (pa_cons pe_non (pa_cons (pe_tup (pa_cons pe_str pa_nil)) (pa_cons pe_non pa_nil)))))) pa_nil)) (nomark _)))))))))))))), fun D H1 o0 o1 o2 o3 o4 o5 o6 o7 o8 o9 oa ob oc od oe fin => ?_⟩
  refine ⟨fun σ H' => ∃ q g xs, σ = [o0, o1, o2, o3, o4, o5, o6, o7, o8, some (.ref q), oa, some (.ref g), oc, od, oe] ∧ H' q = some (.tup (lotA.map V.str)) ∧ H' g = some (.lst xs) ∧ DqAll H' xs (rB.mv.map mvD), ?_, ?_⟩
  · have L0 : LitAt [o0, o1, o2, o3, o4, o5, o6, o7, o8, o9, oa, ob, oc, od, oe] H1 _ _ := lit_rep (K := K) (w := ["a", "b"]) (k := 50) (lit_tup (lits_cons (lit_str (x := "a")) (lits_cons (lit_str (x := "b")) lits_nil)) (by decide)) (by decide) (by decide) (by decide) (by decide)
    refine par_lit L0 fun H2 v S2 dv => ?_
    rw [lotA_eq] at dv
    obtain ⟨q, rfl, hq⟩ := strsD_of dv
    clear dv L0
    refine ⟨60, rfl, by decide, by decide, fun B nB => ?_⟩
    refine lc_range (fun e H' => RingTo H2 B e H') (RingTo.start nB) ?_ ?_
    · rintro e H3 he hR
      have he60 : e < 60 := he
      obtain ⟨J, xs, S0, nJ, S1, hB, dd⟩ := id hR
      refine ⟨rfl, _, rfl, (by rw [sizeLine_eq]; decide), fun p np => ⟨_, rfl, rfl, .inr ⟨_, rfl, ?_⟩⟩⟩
      refine rep01_of upd_same if_01 fun H4 v S4 dv => ?_
      rw [ring_w] at dv
      refine ⟨_, rfl, _, _, rfl, rfl, .inl ⟨_, rfl, _, _, rfl, rfl, (show (0:Int) < 60 by decide), ?_⟩⟩
      refine ⟨(by show 4 ≤ sizeLine; decide), fun p5 n5 => ?_⟩
      obtain ⟨a, rfl, ha⟩ := strsD_of dv
      have hB4 : H4 B = some (.lst xs) := S4 _ _ (by rw [upd_ne (ne_of_none hB np)]; exact hB)
      have S35 := (same_new (o := .tup [V.str "x"]) np).trans (S4.trans (same_new (o := .tup [V.int (0 + (e : Int)), V.str "a", V.ref a, V.int ((0 + (e : Int) + 1) % 60)]) n5))
      refine ⟨xs, by rw [upd_ne (ne_of_none hB4 n5)]; exact hB4, ?_, RingTo.push hR hB S35 ?_⟩
      · rw [dd.len, List.length_map, List.length_map, List.length_range, sizeLine_eq]
        omega
      · have pB : p5 ≠ B := fun z => by
          rw [z, hB4] at n5
          cases n5
        have aB : a ≠ B := fun z => by
          rw [z, hB4] at ha
          cases ha
        have a5 : a ≠ p5 := ne_of_none ha n5
        refine .tup (xs := [V.int (0 + (e : Int)), V.str "a", V.ref a, V.int ((0 + (e : Int) + 1) % 60)]) ?_ ?_
        · show (if p5 = B then none else upd H4 p5 _ p5) = _
          rw [if_neg pB, upd_same]
        · rw [Int.zero_add]
          refine .cons (.int _) (.cons (.str _) (.cons (.tup (xs := (ringMv e).w.map V.str) ?_ (strs_dq _)) (.cons (.int _) .nil)))
          show (if a = B then none else upd H4 p5 _ a) = _
          rw [if_neg aB, upd_ne a5]
          exact ha
    · rintro H3 hR
      obtain ⟨J, xs, S0, nJ, S1, hB, dd⟩ := hR
      exact ⟨_, _, rfl, q, B, xs, rfl, S1 _ _ (S0 _ _ hq), hB, DqAll.same S1 _ _ dd⟩
  rintro σ1 H2 ⟨q, g, gx, rfl, hq, hg, dg⟩
  refine ⟨fun σ H' => ∃ x v1 v2 v3, σ = [o0, o1, o2, o3, some (.ref x), o5, o6, o7, o8, some (.ref q), oa, some (.ref g), oc, od, oe] ∧ Same H2 H' ∧ RdrAt C H' x rA v1 v2 v3, ?_, ?_⟩
  · have L1 : LitAt [o0, o1, o2, o3, o4, o5, o6, o7, o8, some (.ref q), oa, some (.ref g), oc, od, oe] H2 _ _ := (lit_tup (lits_cons (lit_int (i := 1)) (lits_cons (lit_tup lits_nil (by decide)) (lits_cons (lit_tup (lits_cons (lit_tup (lits_cons (lit_int (i := 0)) (lits_cons (lit_str (x := "a")) (lits_cons (lit_tup (lits_cons (lit_str (x := "a")) lits_nil) (by decide)) (lits_cons (lit_int (i := 0)) lits_nil)))) (by decide)) (lits_cons (lit_tup (lits_cons (lit_int (i := 0)) (lits_cons (lit_str (x := "b")) (lits_cons (lit_tup (lits_cons (lit_str (x := "b")) lits_nil) (by decide)) (lits_cons (lit_int (i := 0)) lits_nil)))) (by decide)) lits_nil)) (by decide)) (lits_cons (lit_tup (lits_cons (lit_tup (lits_cons (lit_int (i := 0)) (lits_cons (lit_tup lits_nil (by decide)) lits_nil)) (by decide)) lits_nil) (by decide)) lits_nil)))) (by decide))
    exact asg_made L1 rfl rA_right fun H' x v1 v2 v3 S R => ⟨x, v1, v2, v3, rfl, S, R⟩
  rintro σ2 H3 ⟨x, v1, v2, v3, rfl, S3, RA⟩
  refine ⟨fun σ H' => ∃ o4, σ = [o0, o1, o2, o3, o4, o5, o6, o7, o8, some (.ref q), oa, some (.ref g), oc, od, oe] ∧ Same H2 H', ?_, ?_⟩
  · have hq3 := S3 _ _ hq
    have lq : LitAt [o0, o1, o2, o3, some (.ref x), o5, o6, o7, o8, some (.ref q), oa, some (.ref g), oc, od, oe] H3 _ (strsD lotA) := lit_var (i := 9) rfl (.tup hq3 (strs_dq lotA))
    have l1 : LitAt [o0, o1, o2, o3, some (.ref x), o5, o6, o7, o8, some (.ref q), oa, some (.ref g), oc, od, oe] H3 _ _ := lit_meth (g := writtenM) (E := E0) (i := 4) rfl RA (.inl rfl) rA_short (by rw [lotA_len]; decide) lq
    have l2 : LitAt [o0, o1, o2, o3, some (.ref x), o5, o6, o7, o8, some (.ref q), oa, some (.ref g), oc, od, oe] H3 _ _ := lit_meth (g := begunM) (E := E0) (i := 4) rfl RA (.inr rfl) rA_short (by rw [lotA_len]; decide) lq
    have lt : LitAt [o0, o1, o2, o3, some (.ref x), o5, o6, o7, o8, some (.ref q), oa, some (.ref g), oc, od, oe] H3 _ (strsD (lotA.drop 1 ++ (["c"] : List Str))) := lit_cat (K := K) (y := ["c"]) (lit_tail (K := K) lq (by rw [lotA_len]; decide)) (lit_tup (lits_cons (lit_str (x := "c")) lits_nil) (by decide)) (by rw [List.length_drop, lotA_len]; decide) (by decide)
    have l3 : LitAt [o0, o1, o2, o3, some (.ref x), o5, o6, o7, o8, some (.ref q), oa, some (.ref g), oc, od, oe] H3 _ _ := lit_meth (g := writtenM) (E := E0) (i := 4) rfl RA (.inl rfl) rA_short (by rw [List.length_append, List.length_drop, lotA_len]; decide) lt
    rw [wA] at l1
    rw [bA] at l2
    rw [cA] at l3
    exact ifs_no (no_or (no_ne l1 lq shaped_lotA eqv_lotA) (no_or (no_ne l2 lq shaped_lotA eqv_lotA) (no_notN l3))) fun H' S => ⟨_, rfl, S3.trans S⟩
  clear RA S3 x v1 v2 v3 H3 o4
  rintro σ3 H3 ⟨o4, rfl, S3⟩
  refine ⟨fun σ H' => ∃ x v1 v2 v3, σ = [o0, o1, o2, o3, some (.ref x), o5, o6, o7, o8, some (.ref q), oa, some (.ref g), oc, od, oe] ∧ Same H2 H' ∧ RdrAt C H' x rB v1 v2 v3, ?_, ?_⟩
  · have lg : LitAt [o0, o1, o2, o3, o4, o5, o6, o7, o8, some (.ref q), oa, some (.ref g), oc, od, oe] H3 _ (.tuple (rB.mv.map mvD)) := lit_tupOf (K := K) (lit_var (i := 11) rfl (.lst (S3 _ _ hg) (DqAll.same S3 _ _ dg)))
    have L1 : LitAt [o0, o1, o2, o3, o4, o5, o6, o7, o8, some (.ref q), oa, some (.ref g), oc, od, oe] H3 _ _ := (lit_tup (lits_cons (lit_int (i := 60)) (lits_cons (lit_tup lits_nil (by decide)) (lits_cons lg (lits_cons (lit_tup (lits_cons (lit_tup (lits_cons (lit_int (i := 40)) (lits_cons (lit_tup lits_nil (by decide)) lits_nil)) (by decide)) lits_nil) (by decide)) lits_nil)))) (by decide))
    exact asg_made L1 rfl rB_right fun H' x v1 v2 v3 S R => ⟨x, v1, v2, v3, rfl, S3.trans S, R⟩
  clear S3 H3 o4
  rintro σ2 H3 ⟨x, v1, v2, v3, rfl, S3, RB⟩
  refine ⟨fun σ H' => ∃ o4, σ = [o0, o1, o2, o3, o4, o5, o6, o7, o8, some (.ref q), oa, some (.ref g), oc, od, oe] ∧ Same H2 H', ?_, ?_⟩
  · have lm : ∀ n : Int, 2 ≤ n → n ≤ 1000 → LitAt [o0, o1, o2, o3, some (.ref x), o5, o6, o7, o8, some (.ref q), oa, some (.ref g), oc, od, oe] H3 _ (strsD (manyA n.toNat)) := fun n h1 h2 => lit_rep (K := K) (w := ["a"]) (k := n) (lit_tup (lits_cons (lit_str (x := "a")) lits_nil) (by decide)) (by decide) h1 h2 (by decide)
    have l1 : LitAt [o0, o1, o2, o3, some (.ref x), o5, o6, o7, o8, some (.ref q), oa, some (.ref g), oc, od, oe] H3 _ _ := lit_meth (g := writtenM) (E := E0) (i := 4) rfl RB (.inl rfl) rB_short (by decide +kernel) (lm 100 (by decide) (by decide))
    have l2 : LitAt [o0, o1, o2, o3, some (.ref x), o5, o6, o7, o8, some (.ref q), oa, some (.ref g), oc, od, oe] H3 _ _ := lit_meth (g := writtenM) (E := E0) (i := 4) rfl RB (.inl rfl) rB_short (by decide +kernel) (lm 99 (by decide) (by decide))
    have e1 : writtenM rB (manyA (100 : Int).toNat) = some (["x"] : List Str) := wB
    have e2 : writtenM rB (manyA (99 : Int).toNat) = none := nB
    rw [e1] at l1
    rw [e2] at l2
    have lx : LitAt [o0, o1, o2, o3, some (.ref x), o5, o6, o7, o8, some (.ref q), oa, some (.ref g), oc, od, oe] H3 _ (strsD ["x"]) := (lit_tup (lits_cons (lit_str (x := "x")) lits_nil) (by decide))
    exact ifs_no (no_or (no_ne l1 lx shaped_x eqv_x) (no_notN l2)) fun H' S => ⟨_, rfl, S3.trans S⟩
  clear RB S3 x v1 v2 v3 H3
  rintro σ3 H3 ⟨o4, rfl, S3⟩
  refine ⟨fun σ H' => ∃ v13, σ = [o0, o1, o2, o3, o4, o5, o6, o7, o8, some (.ref q), oa, some (.ref g), oc, some v13, oe] ∧ Dq H' v13 (.tuple (rC.mv.map mvD)), ?_, ?_⟩
  · have L1 : LitAt [o0, o1, o2, o3, o4, o5, o6, o7, o8, some (.ref q), oa, some (.ref g), oc, od, oe] H3 _ _ := (lit_tup (lits_cons (lit_tup (lits_cons (lit_int (i := 0)) (lits_cons (lit_str (x := "a")) (lits_cons (lit_tup lits_nil (by decide)) (lits_cons (lit_int (i := 1)) lits_nil)))) (by decide)) (lits_cons (lit_tup (lits_cons (lit_int (i := 0)) (lits_cons (lit_str (x := "b")) (lits_cons (lit_tup lits_nil (by decide)) (lits_cons (lit_int (i := 2)) lits_nil)))) (by decide)) (lits_cons (lit_tup (lits_cons (lit_int (i := 1)) (lits_cons (lit_str (x := "a")) (lits_cons (lit_tup (lits_cons (lit_str (x := "a")) lits_nil) (by decide)) (lits_cons (lit_int (i := 1)) lits_nil)))) (by decide)) (lits_cons (lit_tup (lits_cons (lit_int (i := 1)) (lits_cons (lit_str (x := "b")) (lits_cons (lit_tup (lits_cons (lit_str (x := "a")) lits_nil) (by decide)) (lits_cons (lit_int (i := 2)) lits_nil)))) (by decide)) lits_nil)))) (by decide))
    exact asg_lit L1 fun H' v S d => ⟨v, rfl, d⟩
  clear S3 hq hg dg H3
  rintro σ3 H3 ⟨v13, rfl, d13⟩
  refine ⟨fun σ H' => ∃ v3, σ = [o0, o1, o2, some v3, o4, o5, o6, o7, o8, some (.ref q), oa, some (.ref g), oc, some v13, oe] ∧ Dq H' v3 (partsD rC), ?_, ?_⟩
  · have lv : LitAt [o0, o1, o2, o3, o4, o5, o6, o7, o8, some (.ref q), oa, some (.ref g), oc, some v13, oe] H3 _ (.tuple (rC.mv.map mvD)) := lit_var (i := 13) rfl d13
    have L1 : LitAt [o0, o1, o2, o3, o4, o5, o6, o7, o8, some (.ref q), oa, some (.ref g), oc, some v13, oe] H3 _ _ := (lit_tup (lits_cons (lit_int (i := 3)) (lits_cons (lit_tup (lits_cons (lit_str (x := "z")) lits_nil) (by decide)) (lits_cons lv (lits_cons (lit_tup (lits_cons (lit_tup (lits_cons (lit_int (i := 1)) (lits_cons (lit_tup (lits_cons (lit_str (x := "a")) lits_nil) (by decide)) lits_nil)) (by decide)) (lits_cons (lit_tup (lits_cons (lit_int (i := 2)) (lits_cons (lit_tup (lits_cons (lit_str (x := "b")) lits_nil) (by decide)) lits_nil)) (by decide)) lits_nil)) (by decide)) lits_nil)))) (by decide))
    exact asg_lit L1 fun H' v S d => ⟨v, rfl, d⟩
  clear d13 H3
  rintro σ3 H3 ⟨v3, rfl, d3⟩
  refine ⟨fun σ H' => ∃ x v1 v2 v4, σ = [o0, o1, o2, some v3, some (.ref x), o5, o6, o7, o8, some (.ref q), oa, some (.ref g), oc, some v13, oe] ∧ RdrAt C H' x rC v1 v2 v4, ?_, ?_⟩
  · have L1 : LitAt [o0, o1, o2, some v3, o4, o5, o6, o7, o8, some (.ref q), oa, some (.ref g), oc, some v13, oe] H3 _ (partsD rC) := lit_var (i := 3) rfl d3
    exact asg_made L1 rfl rC_right fun H' x v1 v2 v4 S R => ⟨x, v1, v2, v4, rfl, R⟩
  clear d3 H3 o4
  rintro σ3 H3 ⟨x, v1, v2, v4, rfl, RC⟩
  have lw : ∀ (ms : List Str) (H' : Hp) (t : TE) (o14 : Option V), Same H3 H' → ms.length ≤ 1000 → LitAt [o0, o1, o2, some v3, some (.ref x), o5, o6, o7, o8, some (.ref q), oa, some (.ref g), oc, some v13, o14] H' t (strsD ms) → LitAt [o0, o1, o2, some v3, some (.ref x), o5, o6, o7, o8, some (.ref q), oa, some (.ref g), oc, some v13, o14] H' _ (optD (writtenM rC ms)) := fun ms H' t o14 S hn l => lit_meth (C := C) (g := writtenM) (E := E0) (i := 4) rfl (RC.same S) (.inl rfl) rC_short hn l
  have lb : ∀ (ms : List Str) (H' : Hp) (t : TE) (o14 : Option V), Same H3 H' → ms.length ≤ 1000 → LitAt [o0, o1, o2, some v3, some (.ref x), o5, o6, o7, o8, some (.ref q), oa, some (.ref g), oc, some v13, o14] H' t (strsD ms) → LitAt [o0, o1, o2, some v3, some (.ref x), o5, o6, o7, o8, some (.ref q), oa, some (.ref g), oc, some v13, o14] H' _ (optD (begunM rC ms)) := fun ms H' t o14 S hn l => lit_meth (C := C) (g := begunM) (E := E0) (i := 4) rfl (RC.same S) (.inr rfl) rC_short hn l
  refine ⟨fun σ H' => ∃ u J xs, σ = [o0, o1, o2, some v3, some (.ref x), o5, o6, o7, o8, some (.ref q), oa, some (.ref g), oc, some v13, some (.ref u)] ∧ Same H3 J ∧ J u = none ∧ DqAll J xs [strsD ["z", "a", "a", "b"], strsD ["z", "a", "a"], .none, strsD ["z"]] ∧ H' = upd J u (.lst xs), ?_, ?_⟩
  · have la : LitAt [o0, o1, o2, some v3, some (.ref x), o5, o6, o7, o8, some (.ref q), oa, some (.ref g), oc, some v13, oe] H3 _ (strsD ["a", "a", "b"]) := (lit_tup (lits_cons (lit_str (x := "a")) (lits_cons (lit_str (x := "a")) (lits_cons (lit_str (x := "b")) lits_nil))) (by decide))
    have l0 : LitAt [o0, o1, o2, some v3, some (.ref x), o5, o6, o7, o8, some (.ref q), oa, some (.ref g), oc, some v13, oe] H3 _ (strsD []) := (lit_tup lits_nil (by decide))
    have m1 := lw ["a", "a", "b"] H3 _ oe (Same.refl _) (by decide) la
    have m2 := lb ["a", "a", "b"] H3 _ oe (Same.refl _) (by decide) la
    have m3 := lw [] H3 _ oe (Same.refl _) (by decide) l0
    have m4 := lb [] H3 _ oe (Same.refl _) (by decide) l0
    rw [c1] at m1
    rw [c2] at m2
    rw [c3] at m3
    rw [c4] at m4
    have L1 : LitsAt [o0, o1, o2, some v3, some (.ref x), o5, o6, o7, o8, some (.ref q), oa, some (.ref g), oc, some v13, oe] H3 _ [strsD ["z", "a", "a", "b"], strsD ["z", "a", "a"], .none, strsD ["z"]] := lits_cons m1 (lits_cons m2 (lits_cons m3 (lits_cons m4 lits_nil)))
    exact asg_lst L1 (by decide) fun J u vs S nu d => ⟨u, J, vs, rfl, S, nu, d, rfl⟩
  rintro σ4 H4 ⟨u, J, xs, rfl, SJ, nu, dx, rfl⟩
  have SU := same_new (o := .lst xs) nu
  have hU : upd J u (.lst xs) u = some (.lst xs) := upd_same
  refine ⟨fun σ H' => σ = [o0, o1, o2, some v3, some (.ref x), o5, o6, o7, o8, some (.ref q), oa, some (.ref g), oc, some v13, some (.ref u)] ∧ Dq H' (.ref u) (.list toldC), ?_, ?_⟩
  · have la : LitAt [o0, o1, o2, some v3, some (.ref x), o5, o6, o7, o8, some (.ref q), oa, some (.ref g), oc, some v13, some (.ref u)] (upd J u (.lst xs)) _ (strsD ["a", "b", "a"]) := (lit_tup (lits_cons (lit_str (x := "a")) (lits_cons (lit_str (x := "b")) (lits_cons (lit_str (x := "a")) lits_nil))) (by decide))
    have m := lw ["a", "b", "a"] (upd J u (.lst xs)) _ (some (.ref u)) (SJ.trans SU) (by decide) la
    rw [c5] at m
    clear lw lb la RC fin
    revert hU SU m
    generalize upd J u (.lst xs) = H4
    intro SU hU m
    refine ⟨_, rfl, .inl ⟨rfl, _, SqL.of hU⟩, m H4 _ (Same.refl _) fun H5 v S5 dv => ?_⟩
    cases dv
    refine ⟨u, xs, _, rfl, rfl, S5 _ _ hU, by rw [dx.len, sizeLine_eq]; decide, rfl, .lst upd_same ?_⟩
    have S6 : Same J (upd H5 u (.lst (xs ++ [V.non]))) := fun b o e => by
      rw [upd_ne (ne_of_none e nu)]
      exact S5 _ _ (SU _ _ e)
    exact DqAll.snoc (DqAll.same S6 _ _ dx) .non
  rintro σ5 H5 ⟨rfl, d5⟩
  have r1 : LitAt [o0, o1, o2, some v3, some (.ref x), o5, o6, o7, o8, some (.ref q), oa, some (.ref g), oc, some v13, some (.ref u)] H5 _ (.list toldC) := lit_var (i := 14) rfl d5
  have r2 : LitAt [o0, o1, o2, some v3, some (.ref x), o5, o6, o7, o8, some (.ref q), oa, some (.ref g), oc, some v13, some (.ref u)] H5 _ (.list toldC) := lit_lst (lits_cons (lit_tup (lits_cons (lit_str (x := "z")) (lits_cons (lit_str (x := "a")) (lits_cons (lit_str (x := "a")) (lits_cons (lit_str (x := "b")) lits_nil)))) (by decide)) (lits_cons (lit_tup (lits_cons (lit_str (x := "z")) (lits_cons (lit_str (x := "a")) (lits_cons (lit_str (x := "a")) lits_nil))) (by decide)) (lits_cons lit_non (lits_cons (lit_tup (lits_cons (lit_str (x := "z")) lits_nil) (by decide)) (lits_cons lit_non lits_nil))))) (by decide)
  exact ret_reprs r1 r2 seenC fin
end
end KL
set_option Elab.async false
set_option linter.all false
set_option maxRecDepth 100000
set_option maxHeartbeats 8000000
namespace KL
open PySem L2 PySem.Spec PyProof.Rows
section
variable {P : Program} {w : World} {K : PySem.W.Frag} {mg : Str → Option Value} {base : Heap} {C : Addr}
variable {gDeck gDraw gPick gScr gMade gTold gLots gRight gW gB : Addr} {dDeck dDraw dPick dScr dMade dTold dLots dRight dW dB : FuncData}
theorem ok_law {f : Addr} {fd : FuncData} (F : Fun K "law" "law" lLaw f fd) (T : TxtG mg) (L : LawFns P w K mg base C gDeck gDraw gPick gScr gMade gTold gLots gRight dDeck dDraw dPick dScr dMade dTold dLots dRight) (R : RdrFns P w K mg base C gW gB dW dB) :
    FnG P w K mg base CX0 8 f fd ["_law_script"] (spLaw K) := by
  refine fnG0 F scLaw (fun vs H Q E h => ?_) (fun cdv A outer s H vs Q E hG hr h => ?_)
  · obtain ⟨a, ns, rfl, _⟩ := h
    rfl
  · obtain ⟨a, ns, rfl, hS, hlen, fin⟩ := h
    have nd := scLaw.nd
    let X0 : Cx := (cxOf CX0 P w K mg base nLaw "law" (defScope lLaw) f cdv A outer s H E).nox
    have r1 : Room 1 X0.A := hr.mono (by decide)
    obtain ⟨tt, ht, kt⟩ := turn_ok (f := f) (cdv := cdv) (A := A) (outer := outer) (s := s) (H := H) (E := E) T L hG hr
    obtain ⟨tl, hl, kl⟩ := tail_ok (f := f) (cdv := cdv) (A := A) (outer := outer) (s := s) (H := H) (E := E) T L R hG hr
    refine ⟨_, C8.pss_cut (ps_set (i := 1) nd rfl (.inr rfl) (pe_call L.deck r1 (by rfl) L.cDeck.m L.cDeck.k L.cDeck.b .nil pass0 (pa_cons (pv 0) pa_nil)))
      (C8.pss_cut (ps_for PassesOwn.never rfl (pi_range1 (by rfl) T.range (pa_cons pe_int pa_nil)) (pg_name (i := 2) nd rfl (.inl rfl)) ht) hl), ?_⟩
    refine ⟨fun σ H' => ∃ p l, σ = [some (.ref a), some (.ref p), none, none, none, none, none, none, none, none, none, none, none, none, none] ∧ DeckAt H H' p l 0, ?_, ?_⟩
    · exact ⟨_, rfl, a, ns, rfl, hS, hlen, fun H' p l D => ⟨p, l, rfl, D⟩⟩
    rintro σ1 H1 ⟨p, l, rfl, D⟩
    refine ⟨fun σ H' => ∃ o0 o1 o2 o3 o4 o5 o6 o7 o8 o9 oa ob oc od oe, σ = [o0, o1, o2, o3, o4, o5, o6, o7, o8, o9, oa, ob, oc, od, oe], ?_, ?_⟩
    · refine ⟨_, rfl, by decide, by decide, for_range (fun i σ H' => Turns p l (.ref a) i σ H') ⟨_, _, _, _, _, _, _, _, _, _, _, _, _, H, 0, rfl, D, by omega, by simp, trivial⟩ ?_ ?_⟩
      · rintro i σ H2 hi ⟨o2, o3, o4, o5, o6, o7, o8, o9, oa, ob, oc, od, oe, H0, t, rfl, D, t0, tb, _⟩
        refine kt p l (.ref a) i hi _ _ _ ⟨_, _, _, _, _, _, _, _, _, _, _, _, _, H0, t, rfl, D, t0, tb, trivial⟩ fun σ' H' h => ?_
        exact h
      · rintro σ H2 ⟨o2, o3, o4, o5, o6, o7, o8, o9, oa, ob, oc, od, oe, H0, t, rfl, _⟩
        exact ⟨_, _, _, _, _, _, _, _, _, _, _, _, _, _, _, rfl⟩
    rintro σ2 H2 ⟨o0, o1, o2, o3, o4, o5, o6, o7, o8, o9, oa, ob, oc, od, oe, rfl⟩
    exact kl _ _ _ _ _ _ _ _ _ _ _ _ _ _ _ _ _ fun H' => fin H'
end
end KL
set_option Elab.async false
set_option linter.all false
set_option maxRecDepth 100000
set_option maxHeartbeats 4000000
namespace KL
open PySem L2 PySem.W PyProof.Rows
theorem gApp_rel {vs : List V} {us : List Value} {zs : List V} {ws : List Value} (r : Vals vs us) (rz : Vals zs ws) : Vals (gAppV vs zs) (gApp us ws) := by
  cases r with
  | nil => exact .nil
  | cons p q =>
    cases q with
    | cons _ _ =>
      cases rz <;> exact .nil
    | nil =>
      cases rz with
      | nil => exact .nil
      | cons p2 q2 =>
        cases q2 with
        | nil => exact .cons p (.cons p2 .nil)
        | cons _ _ => exact .nil
theorem kb_marks {K : Frag} {fd : FuncData} (h : ∀ a b : Value, bindArgs fd ⟨[a], [(("marks" : Str), b)]⟩ = pure [(("self" : Str), a), (("marks" : Str), b)]) : KBinds K fd ["self", "marks"] ["marks"] gApp gAppV :=
  ⟨fun s us ws _ hl => match us, ws, hl with
    | [a], [b], _ => .of_eq (h a b), gApp_rel⟩
end KL
set_option Elab.async false
set_option linter.all false
set_option maxRecDepth 100000
set_option maxHeartbeats 8000000
namespace KL
open PySem L2 PySem.W PyProof.Rows
theorem all_mk {l : PySem.W.OpenLaw} {w : World} {K : Frag} {h : Heap} {mg : Str → Option Value} {fa C fI fW fB : Addr} {gInt gBet gTup gAsc gMark gMarks gTable gRead gMove gMoves gEnds gDeck gDraw gPick gLines gScr gMade gTold gLed gLWr gLots gRight gLaw : Addr} {tk0 : Tok} (X : K.In h) (G : h.Ns mainGlobals mg) (hfa : mg "law" = some (.ref fa))
    {odI anI : Option Addr} {ocI kVI docI pmI cdvI ctI : Value} {oslI : Array (Option Value)}
    {odW anW : Option Addr} {ocW kVW docW pmW cdvW ctW : Value} {oslW : Array (Option Value)}
    {odB anB : Option Addr} {ocB kVB docB pmB cdvB ctB : Value} {oslB : Array (Option Value)}
    {odInt anInt : Option Addr} {ocInt kVInt docInt pmInt cdvInt ctInt : Value} {oslInt : Array (Option Value)}
    {odBet anBet : Option Addr} {ocBet kVBet docBet pmBet cdvBet ctBet : Value} {oslBet : Array (Option Value)}
    {odTup anTup : Option Addr} {ocTup kVTup docTup pmTup cdvTup ctTup : Value} {oslTup : Array (Option Value)}
    {odAsc anAsc : Option Addr} {ocAsc kVAsc docAsc pmAsc cdvAsc ctAsc : Value} {oslAsc : Array (Option Value)}
    {odMark anMark : Option Addr} {ocMark kVMark docMark pmMark cdvMark ctMark : Value} {oslMark : Array (Option Value)}
    {odMarks anMarks : Option Addr} {ocMarks kVMarks docMarks pmMarks cdvMarks ctMarks : Value} {oslMarks : Array (Option Value)}
    {odTable anTable : Option Addr} {ocTable kVTable docTable pmTable cdvTable ctTable : Value} {oslTable : Array (Option Value)}
    {odRead anRead : Option Addr} {ocRead kVRead docRead pmRead cdvRead ctRead : Value} {oslRead : Array (Option Value)}
    {odMove anMove : Option Addr} {ocMove kVMove docMove pmMove cdvMove ctMove : Value} {oslMove : Array (Option Value)}
    {odMoves anMoves : Option Addr} {ocMoves kVMoves docMoves pmMoves cdvMoves ctMoves : Value} {oslMoves : Array (Option Value)}
    {odEnds anEnds : Option Addr} {ocEnds kVEnds docEnds pmEnds cdvEnds ctEnds : Value} {oslEnds : Array (Option Value)}
    {odDeck anDeck : Option Addr} {ocDeck kVDeck docDeck pmDeck cdvDeck ctDeck : Value} {oslDeck : Array (Option Value)}
    {odDraw anDraw : Option Addr} {ocDraw kVDraw docDraw pmDraw cdvDraw ctDraw : Value} {oslDraw : Array (Option Value)}
    {odPick anPick : Option Addr} {ocPick kVPick docPick pmPick cdvPick ctPick : Value} {oslPick : Array (Option Value)}
    {odLines anLines : Option Addr} {ocLines kVLines docLines pmLines cdvLines ctLines : Value} {oslLines : Array (Option Value)}
    {odScr anScr : Option Addr} {ocScr kVScr docScr pmScr cdvScr ctScr : Value} {oslScr : Array (Option Value)}
    {odMade anMade : Option Addr} {ocMade kVMade docMade pmMade cdvMade ctMade : Value} {oslMade : Array (Option Value)}
    {odTold anTold : Option Addr} {ocTold kVTold docTold pmTold cdvTold ctTold : Value} {oslTold : Array (Option Value)}
    {odLed anLed : Option Addr} {ocLed kVLed docLed pmLed cdvLed ctLed : Value} {oslLed : Array (Option Value)}
    {odLWr anLWr : Option Addr} {ocLWr kVLWr docLWr pmLWr cdvLWr ctLWr : Value} {oslLWr : Array (Option Value)}
    {odLots anLots : Option Addr} {ocLots kVLots docLots pmLots cdvLots ctLots : Value} {oslLots : Array (Option Value)}
    {odRight anRight : Option Addr} {ocRight kVRight docRight pmRight cdvRight ctRight : Value} {oslRight : Array (Option Value)}
    {odLaw anLaw : Option Addr} {ocLaw kVLaw docLaw pmLaw cdvLaw ctLaw : Value} {oslLaw : Array (Option Value)}
    (aC : nsIn K mainGlobals "Reader" = some (some (.ref C)))
    (jC : findIn K (.ref C) "__init__" = some (some (.ref fI)))
    (iC : isFn K (.ref fI) = true)
    (jW : findIn K (.ref C) "written" = some (some (.ref fW)))
    (iW : isFn K (.ref fW) = true)
    (jB : findIn K (.ref C) "begun" = some (some (.ref fB)))
    (iB : isFn K (.ref fB) = true)
    (lk_I : K.lookup fI = some ⟨ocI, odI, .func (fnOf "__init__" "Reader.__init__" (defArgs sRInit) (defBody sRInit) (defScope sRInit) .none kVI docI pmI anI cdvI ctI), oslI⟩)
    (cI : codeIn K cdvI "Reader.__init__" = true)
    (kI : keepIn K (.ref fI) = true)
    (lk_W : K.lookup fW = some ⟨ocW, odW, .func (fnOf "written" "Reader.written" (defArgs sRWritten) (defBody sRWritten) (defScope sRWritten) .none kVW docW pmW anW cdvW ctW), oslW⟩)
    (cW : codeIn K cdvW "Reader.written" = true)
    (kW : keepIn K (.ref fW) = true)
    (lk_B : K.lookup fB = some ⟨ocB, odB, .func (fnOf "begun" "Reader.begun" (defArgs sRBegun) (defBody sRBegun) (defScope sRBegun) .none kVB docB pmB anB cdvB ctB), oslB⟩)
    (cB : codeIn K cdvB "Reader.begun" = true)
    (kB : keepIn K (.ref fB) = true)
    (pg : plainGet K C Str.empty = true)
    (hd : hasDictIn K C = true)
    (po : plainOver K C = true)
    (sa : findIn K (.ref C) "__setattr__" = some (some (.builtin "object.__setattr__")))
    (mk : makesIn K C = true)
    (kc : keepIn K (.ref C) = true)
    (n_states : findIn K (.ref C) "states" = some none)
    (n_first : findIn K (.ref C) "first" = some none)
    (n_moves : findIn K (.ref C) "moves" = some none)
    (n_ends : findIn K (.ref C) "ends" = some none)
    (n__moves : findIn K (.ref C) "_moves" = some none)
    (n__ends : findIn K (.ref C) "_ends" = some none)
    (m0 : nsIn K mainGlobals "MOST_STATES" = some (some (.int 10000 tk0)))
    (aInt : nsIn K mainGlobals "is_int" = some (some (.ref gInt)))
    (lk_Int : K.lookup gInt = some ⟨ocInt, odInt, .func (fnOf "is_int" "is_int" (defArgs sIsInt) (defBody sIsInt) (defScope sIsInt) .none kVInt docInt pmInt anInt cdvInt ctInt), oslInt⟩)
    (cInt : codeIn K cdvInt "is_int" = true)
    (kInt : keepIn K (.ref gInt) = true)
    (aBet : nsIn K mainGlobals "is_between" = some (some (.ref gBet)))
    (lk_Bet : K.lookup gBet = some ⟨ocBet, odBet, .func (fnOf "is_between" "is_between" (defArgs sIsBet) (defBody sIsBet) (defScope sIsBet) .none kVBet docBet pmBet anBet cdvBet ctBet), oslBet⟩)
    (cBet : codeIn K cdvBet "is_between" = true)
    (kBet : keepIn K (.ref gBet) = true)
    (aTup : nsIn K mainGlobals "is_tuple_of" = some (some (.ref gTup)))
    (lk_Tup : K.lookup gTup = some ⟨ocTup, odTup, .func (fnOf "is_tuple_of" "is_tuple_of" (defArgs sIsTup) (defBody sIsTup) (defScope sIsTup) .none kVTup docTup pmTup anTup cdvTup ctTup), oslTup⟩)
    (cTup : codeIn K cdvTup "is_tuple_of" = true)
    (kTup : keepIn K (.ref gTup) = true)
    (aAsc : nsIn K mainGlobals "is_ascending" = some (some (.ref gAsc)))
    (lk_Asc : K.lookup gAsc = some ⟨ocAsc, odAsc, .func (fnOf "is_ascending" "is_ascending" (defArgs sIsAsc) (defBody sIsAsc) (defScope sIsAsc) .none kVAsc docAsc pmAsc anAsc cdvAsc ctAsc), oslAsc⟩)
    (cAsc : codeIn K cdvAsc "is_ascending" = true)
    (kAsc : keepIn K (.ref gAsc) = true)
    (aMark : nsIn K mainGlobals "is_mark" = some (some (.ref gMark)))
    (lk_Mark : K.lookup gMark = some ⟨ocMark, odMark, .func (fnOf "is_mark" "is_mark" (defArgs sIsMark) (defBody sIsMark) (defScope sIsMark) .none kVMark docMark pmMark anMark cdvMark ctMark), oslMark⟩)
    (cMark : codeIn K cdvMark "is_mark" = true)
    (kMark : keepIn K (.ref gMark) = true)
    (aMarks : nsIn K mainGlobals "are_marks" = some (some (.ref gMarks)))
    (lk_Marks : K.lookup gMarks = some ⟨ocMarks, odMarks, .func (fnOf "are_marks" "are_marks" (defArgs sAreMarks) (defBody sAreMarks) (defScope sAreMarks) .none kVMarks docMarks pmMarks anMarks cdvMarks ctMarks), oslMarks⟩)
    (cMarks : codeIn K cdvMarks "are_marks" = true)
    (kMarks : keepIn K (.ref gMarks) = true)
    (aTable : nsIn K mainGlobals "move_table" = some (some (.ref gTable)))
    (lk_Table : K.lookup gTable = some ⟨ocTable, odTable, .func (fnOf "move_table" "move_table" (defArgs sMoveTable) (defBody sMoveTable) (defScope sMoveTable) .none kVTable docTable pmTable anTable cdvTable ctTable), oslTable⟩)
    (cTable : codeIn K cdvTable "move_table" = true)
    (kTable : keepIn K (.ref gTable) = true)
    (aRead : nsIn K mainGlobals "read_on" = some (some (.ref gRead)))
    (lk_Read : K.lookup gRead = some ⟨ocRead, odRead, .func (fnOf "read_on" "read_on" (defArgs sReadOn) (defBody sReadOn) (defScope sReadOn) .none kVRead docRead pmRead anRead cdvRead ctRead), oslRead⟩)
    (cRead : codeIn K cdvRead "read_on" = true)
    (kRead : keepIn K (.ref gRead) = true)
    (aMove : nsIn K mainGlobals "is_move" = some (some (.ref gMove)))
    (lk_Move : K.lookup gMove = some ⟨ocMove, odMove, .func (fnOf "is_move" "is_move" (defArgs sIsMove) (defBody sIsMove) (defScope sIsMove) .none kVMove docMove pmMove anMove cdvMove ctMove), oslMove⟩)
    (cMove : codeIn K cdvMove "is_move" = true)
    (kMove : keepIn K (.ref gMove) = true)
    (aMoves : nsIn K mainGlobals "are_moves" = some (some (.ref gMoves)))
    (lk_Moves : K.lookup gMoves = some ⟨ocMoves, odMoves, .func (fnOf "are_moves" "are_moves" (defArgs sAreMoves) (defBody sAreMoves) (defScope sAreMoves) .none kVMoves docMoves pmMoves anMoves cdvMoves ctMoves), oslMoves⟩)
    (cMoves : codeIn K cdvMoves "are_moves" = true)
    (kMoves : keepIn K (.ref gMoves) = true)
    (aEnds : nsIn K mainGlobals "are_ends" = some (some (.ref gEnds)))
    (lk_Ends : K.lookup gEnds = some ⟨ocEnds, odEnds, .func (fnOf "are_ends" "are_ends" (defArgs sAreEnds) (defBody sAreEnds) (defScope sAreEnds) .none kVEnds docEnds pmEnds anEnds cdvEnds ctEnds), oslEnds⟩)
    (cEnds : codeIn K cdvEnds "are_ends" = true)
    (kEnds : keepIn K (.ref gEnds) = true)
    (aDeck : nsIn K mainGlobals "_law_deck" = some (some (.ref gDeck)))
    (lk_Deck : K.lookup gDeck = some ⟨ocDeck, odDeck, .func (fnOf "_law_deck" "_law_deck" (defArgs lDeck) (defBody lDeck) (defScope lDeck) .none kVDeck docDeck pmDeck anDeck cdvDeck ctDeck), oslDeck⟩)
    (cDeck : codeIn K cdvDeck "_law_deck" = true)
    (kDeck : keepIn K (.ref gDeck) = true)
    (aDraw : nsIn K mainGlobals "_law_draw" = some (some (.ref gDraw)))
    (lk_Draw : K.lookup gDraw = some ⟨ocDraw, odDraw, .func (fnOf "_law_draw" "_law_draw" (defArgs lDraw) (defBody lDraw) (defScope lDraw) .none kVDraw docDraw pmDraw anDraw cdvDraw ctDraw), oslDraw⟩)
    (cDraw : codeIn K cdvDraw "_law_draw" = true)
    (kDraw : keepIn K (.ref gDraw) = true)
    (aPick : nsIn K mainGlobals "_law_pick" = some (some (.ref gPick)))
    (lk_Pick : K.lookup gPick = some ⟨ocPick, odPick, .func (fnOf "_law_pick" "_law_pick" (defArgs lPick) (defBody lPick) (defScope lPick) .none kVPick docPick pmPick anPick cdvPick ctPick), oslPick⟩)
    (cPick : codeIn K cdvPick "_law_pick" = true)
    (kPick : keepIn K (.ref gPick) = true)
    (aLines : nsIn K mainGlobals "_law_lines" = some (some (.ref gLines)))
    (lk_Lines : K.lookup gLines = some ⟨ocLines, odLines, .func (fnOf "_law_lines" "_law_lines" (defArgs lLines) (defBody lLines) (defScope lLines) .none kVLines docLines pmLines anLines cdvLines ctLines), oslLines⟩)
    (cLines : codeIn K cdvLines "_law_lines" = true)
    (kLines : keepIn K (.ref gLines) = true)
    (aScr : nsIn K mainGlobals "_law_scribe" = some (some (.ref gScr)))
    (lk_Scr : K.lookup gScr = some ⟨ocScr, odScr, .func (fnOf "_law_scribe" "_law_scribe" (defArgs lScribe) (defBody lScribe) (defScope lScribe) .none kVScr docScr pmScr anScr cdvScr ctScr), oslScr⟩)
    (cScr : codeIn K cdvScr "_law_scribe" = true)
    (kScr : keepIn K (.ref gScr) = true)
    (aMade : nsIn K mainGlobals "_law_made" = some (some (.ref gMade)))
    (lk_Made : K.lookup gMade = some ⟨ocMade, odMade, .func (fnOf "_law_made" "_law_made" (defArgs lMade) (defBody lMade) (defScope lMade) .none kVMade docMade pmMade anMade cdvMade ctMade), oslMade⟩)
    (cMade : codeIn K cdvMade "_law_made" = true)
    (kMade : keepIn K (.ref gMade) = true)
    (aTold : nsIn K mainGlobals "_law_told" = some (some (.ref gTold)))
    (lk_Told : K.lookup gTold = some ⟨ocTold, odTold, .func (fnOf "_law_told" "_law_told" (defArgs lTold) (defBody lTold) (defScope lTold) .none kVTold docTold pmTold anTold cdvTold ctTold), oslTold⟩)
    (cTold : codeIn K cdvTold "_law_told" = true)
    (kTold : keepIn K (.ref gTold) = true)
    (aLed : nsIn K mainGlobals "_law_led" = some (some (.ref gLed)))
    (lk_Led : K.lookup gLed = some ⟨ocLed, odLed, .func (fnOf "_law_led" "_law_led" (defArgs lLed) (defBody lLed) (defScope lLed) .none kVLed docLed pmLed anLed cdvLed ctLed), oslLed⟩)
    (cLed : codeIn K cdvLed "_law_led" = true)
    (kLed : keepIn K (.ref gLed) = true)
    (aLWr : nsIn K mainGlobals "_law_written" = some (some (.ref gLWr)))
    (lk_LWr : K.lookup gLWr = some ⟨ocLWr, odLWr, .func (fnOf "_law_written" "_law_written" (defArgs lWritten) (defBody lWritten) (defScope lWritten) .none kVLWr docLWr pmLWr anLWr cdvLWr ctLWr), oslLWr⟩)
    (cLWr : codeIn K cdvLWr "_law_written" = true)
    (kLWr : keepIn K (.ref gLWr) = true)
    (aLots : nsIn K mainGlobals "_law_lots" = some (some (.ref gLots)))
    (lk_Lots : K.lookup gLots = some ⟨ocLots, odLots, .func (fnOf "_law_lots" "_law_lots" (defArgs lLots) (defBody lLots) (defScope lLots) .none kVLots docLots pmLots anLots cdvLots ctLots), oslLots⟩)
    (cLots : codeIn K cdvLots "_law_lots" = true)
    (kLots : keepIn K (.ref gLots) = true)
    (aRight : nsIn K mainGlobals "_law_right" = some (some (.ref gRight)))
    (lk_Right : K.lookup gRight = some ⟨ocRight, odRight, .func (fnOf "_law_right" "_law_right" (defArgs lRight) (defBody lRight) (defScope lRight) .none kVRight docRight pmRight anRight cdvRight ctRight), oslRight⟩)
    (cRight : codeIn K cdvRight "_law_right" = true)
    (kRight : keepIn K (.ref gRight) = true)
    (aLaw : nsIn K mainGlobals "law" = some (some (.ref gLaw)))
    (lk_Law : K.lookup gLaw = some ⟨ocLaw, odLaw, .func (fnOf "law" "law" (defArgs lLaw) (defBody lLaw) (defScope lLaw) .none kVLaw docLaw pmLaw anLaw cdvLaw ctLaw), oslLaw⟩)
    (cLaw : codeIn K cdvLaw "law" = true)
    (kLaw : keepIn K (.ref gLaw) = true)
    (zisinstance : nsIn K mainGlobals "isinstance" = some none)
    (zint : nsIn K mainGlobals "int" = some none)
    (zbool : nsIn K mainGlobals "bool" = some none)
    (zstr : nsIn K mainGlobals "str" = some none)
    (ztuple : nsIn K mainGlobals "tuple" = some none)
    (zlen : nsIn K mainGlobals "len" = some none)
    (zall : nsIn K mainGlobals "all" = some none)
    (zzip : nsIn K mainGlobals "zip" = some none)
    (zrange : nsIn K mainGlobals "range" = some none)
    (zlist : nsIn K mainGlobals "list" = some none)
    (zrepr : nsIn K mainGlobals "repr" = some none)
    (zsorted : nsIn K mainGlobals "sorted" = some none)
    (zset : nsIn K mainGlobals "set" = some none)
    (zdict : nsIn K mainGlobals "dict" = some none)
    (zenumerate : nsIn K mainGlobals "enumerate" = some none)
    : ∃ fd : FuncData, (∀ (s : Shared) (u : Value), BindsTo s fd ⟨[u], []⟩ [("_law_script", u)]) ∧ ∀ base : Heap, K.In base → base.Ns mainGlobals mg → FnG l.prog w K mg base CX0 8 fa fd ["_law_script"] (spLaw K) := by
  have e := hfa.symm.trans (mg_of X G aLaw)
  cases e
  have T : TxtB mg := ⟨mg_none_of X G zisinstance, mg_none_of X G zint, mg_none_of X G zbool, mg_none_of X G zstr, mg_none_of X G ztuple, mg_none_of X G zlen, mg_none_of X G zall, mg_none_of X G zzip⟩
  have TD : TxtD mg := ⟨mg_none_of X G zlist, T.int, T.len⟩
  have TG : TxtG mg := ⟨TD, mg_none_of X G zrange, T.tuple, mg_none_of X G zsorted, mg_none_of X G zset, mg_none_of X G zdict, mg_none_of X G zrepr, mg_none_of X G zenumerate⟩
  have cls : Cls K C := ⟨pg, hd, po, sa⟩
  have TR : TxtR K mg C := ⟨cls, n_states, n_first, n_moves, n_ends, n__moves, n__ends, ⟨_, mg_of X G m0⟩⟩
  have mC := mg_of X G aC
  have FI := fun_mk (st := sRInit) lk_I cI kI
  have bI := FI.binds (ps := ["self", "states", "first", "moves", "ends"]) fun _ _ _ _ _ _ us hl => match us, hl with | [_, _, _, _, _], _ => rfl
  have FW := fun_mk (st := sRWritten) lk_W cW kW
  have bW := FW.binds (ps := ["self", "marks"]) fun _ _ _ _ _ _ us hl => match us, hl with | [_, _], _ => rfl
  have FB := fun_mk (st := sRBegun) lk_B cB kB
  have bB := FB.binds (ps := ["self", "marks"]) fun _ _ _ _ _ _ us hl => match us, hl with | [_, _], _ => rfl
  have kbW : KBinds K (fnOf "written" "Reader.written" (defArgs sRWritten) (defBody sRWritten) (defScope sRWritten) .none kVW docW pmW anW cdvW ctW) ["self", "marks"] ["marks"] gApp gAppV := kb_marks fun _ _ => rfl
  have mW : Meth K C "written" fW := ⟨jW, iW, kW⟩
  have kbB : KBinds K (fnOf "begun" "Reader.begun" (defArgs sRBegun) (defBody sRBegun) (defScope sRBegun) .none kVB docB pmB anB cdvB ctB) ["self", "marks"] ["marks"] gApp gAppV := kb_marks fun _ _ => rfl
  have mB : Meth K C "begun" fB := ⟨jB, iB, kB⟩
  have FInt := fun_mk (st := sIsInt) lk_Int cInt kInt
  have bInt := FInt.binds (ps := ["thing"]) fun _ _ _ _ _ _ us hl => match us, hl with | [_], _ => rfl
  have FBet := fun_mk (st := sIsBet) lk_Bet cBet kBet
  have bBet := FBet.binds (ps := ["thing", "low", "high"]) fun _ _ _ _ _ _ us hl => match us, hl with | [_, _, _], _ => rfl
  have FTup := fun_mk (st := sIsTup) lk_Tup cTup kTup
  have bTup := FTup.binds (ps := ["thing", "low", "high"]) fun _ _ _ _ _ _ us hl => match us, hl with | [_, _, _], _ => rfl
  have FAsc := fun_mk (st := sIsAsc) lk_Asc cAsc kAsc
  have bAsc := FAsc.binds (ps := ["items"]) fun _ _ _ _ _ _ us hl => match us, hl with | [_], _ => rfl
  have FMark := fun_mk (st := sIsMark) lk_Mark cMark kMark
  have bMark := FMark.binds (ps := ["thing"]) fun _ _ _ _ _ _ us hl => match us, hl with | [_], _ => rfl
  have FMarks := fun_mk (st := sAreMarks) lk_Marks cMarks kMarks
  have bMarks := FMarks.binds (ps := ["thing"]) fun _ _ _ _ _ _ us hl => match us, hl with | [_], _ => rfl
  have FTable := fun_mk (st := sMoveTable) lk_Table cTable kTable
  have bTable := FTable.binds (ps := ["moves"]) fun _ _ _ _ _ _ us hl => match us, hl with | [_], _ => rfl
  have FRead := fun_mk (st := sReadOn) lk_Read cRead kRead
  have bRead := FRead.binds (ps := ["moves", "state", "marks"]) fun _ _ _ _ _ _ us hl => match us, hl with | [_, _, _], _ => rfl
  have FMove := fun_mk (st := sIsMove) lk_Move cMove kMove
  have bMove := FMove.binds (ps := ["states", "thing"]) fun _ _ _ _ _ _ us hl => match us, hl with | [_, _], _ => rfl
  have FMoves := fun_mk (st := sAreMoves) lk_Moves cMoves kMoves
  have bMoves := FMoves.binds (ps := ["states", "thing"]) fun _ _ _ _ _ _ us hl => match us, hl with | [_, _], _ => rfl
  have FEnds := fun_mk (st := sAreEnds) lk_Ends cEnds kEnds
  have bEnds := FEnds.binds (ps := ["states", "thing"]) fun _ _ _ _ _ _ us hl => match us, hl with | [_, _], _ => rfl
  have FDeck := fun_mk (st := lDeck) lk_Deck cDeck kDeck
  have bDeck := FDeck.binds (ps := ["_law_script"]) fun _ _ _ _ _ _ us hl => match us, hl with | [_], _ => rfl
  have FDraw := fun_mk (st := lDraw) lk_Draw cDraw kDraw
  have bDraw := FDraw.binds (ps := ["_law_deck_here", "_law_below"]) fun _ _ _ _ _ _ us hl => match us, hl with | [_, _], _ => rfl
  have FPick := fun_mk (st := lPick) lk_Pick cPick kPick
  have bPick := FPick.binds (ps := ["_law_deck_here", "_law_some"]) fun _ _ _ _ _ _ us hl => match us, hl with | [_, _], _ => rfl
  have FLines := fun_mk (st := lLines) lk_Lines cLines kLines
  have bLines := FLines.binds (ps := ["_law_deck_here", "_law_size", "_law_kinds"]) fun _ _ _ _ _ _ us hl => match us, hl with | [_, _, _], _ => rfl
  have FScr := fun_mk (st := lScribe) lk_Scr cScr kScr
  have bScr := FScr.binds (ps := ["_law_deck_here", "_law_wide"]) fun _ _ _ _ _ _ us hl => match us, hl with | [_, _], _ => rfl
  have FMade := fun_mk (st := lMade) lk_Made cMade kMade
  have bMade := FMade.binds (ps := ["_law_parts"]) fun _ _ _ _ _ _ us hl => match us, hl with | [_], _ => rfl
  have FTold := fun_mk (st := lTold) lk_Told cTold kTold
  have bTold := FTold.binds (ps := ["_law_scribe_here"]) fun _ _ _ _ _ _ us hl => match us, hl with | [_], _ => rfl
  have FLed := fun_mk (st := lLed) lk_Led cLed kLed
  have bLed := FLed.binds (ps := ["_law_parts", "_law_lot"]) fun _ _ _ _ _ _ us hl => match us, hl with | [_, _], _ => rfl
  have FLWr := fun_mk (st := lWritten) lk_LWr cLWr kLWr
  have bLWr := FLWr.binds (ps := ["_law_parts", "_law_lot"]) fun _ _ _ _ _ _ us hl => match us, hl with | [_, _], _ => rfl
  have FLots := fun_mk (st := lLots) lk_Lots cLots kLots
  have bLots := FLots.binds (ps := ["_law_kinds", "_law_most"]) fun _ _ _ _ _ _ us hl => match us, hl with | [_, _], _ => rfl
  have FRight := fun_mk (st := lRight) lk_Right cRight kRight
  have bRight := FRight.binds (ps := ["_law_scribe_here", "_law_parts", "_law_lot", "_law_is_named"]) fun _ _ _ _ _ _ us hl => match us, hl with | [_, _, _, _], _ => rfl
  have FLaw := fun_mk (st := lLaw) lk_Law cLaw kLaw
  have bLaw := FLaw.binds (ps := ["_law_script"]) fun _ _ _ _ _ _ us hl => match us, hl with | [_], _ => rfl
  have TC : TxtC K mg C fI (fnOf "__init__" "Reader.__init__" (defArgs sRInit) (defBody sRInit) (defScope sRInit) .none kVI docI pmI anI cdvI ctI) := ⟨⟨mk, jC, iC, kc⟩, mC, bI⟩
  refine ⟨_, fun s u => .of_eq (fd := fnOf "law" "law" (defArgs lLaw) (defBody lLaw) (defScope lLaw) .none kVLaw docLaw pmLaw anLaw cdvLaw ctLaw) rfl, fun base _ _ => ?_⟩
  have CInt : Cal K mg "is_int" gInt _ ["thing"] := ⟨mg_of X G aInt, kInt, bInt⟩
  have CBet : Cal K mg "is_between" gBet _ ["thing", "low", "high"] := ⟨mg_of X G aBet, kBet, bBet⟩
  have CTup : Cal K mg "is_tuple_of" gTup _ ["thing", "low", "high"] := ⟨mg_of X G aTup, kTup, bTup⟩
  have CAsc : Cal K mg "is_ascending" gAsc _ ["items"] := ⟨mg_of X G aAsc, kAsc, bAsc⟩
  have CMark : Cal K mg "is_mark" gMark _ ["thing"] := ⟨mg_of X G aMark, kMark, bMark⟩
  have CMarks : Cal K mg "are_marks" gMarks _ ["thing"] := ⟨mg_of X G aMarks, kMarks, bMarks⟩
  have CTable : Cal K mg "move_table" gTable _ ["moves"] := ⟨mg_of X G aTable, kTable, bTable⟩
  have CRead : Cal K mg "read_on" gRead _ ["moves", "state", "marks"] := ⟨mg_of X G aRead, kRead, bRead⟩
  have CMove : Cal K mg "is_move" gMove _ ["states", "thing"] := ⟨mg_of X G aMove, kMove, bMove⟩
  have CMoves : Cal K mg "are_moves" gMoves _ ["states", "thing"] := ⟨mg_of X G aMoves, kMoves, bMoves⟩
  have CEnds : Cal K mg "are_ends" gEnds _ ["states", "thing"] := ⟨mg_of X G aEnds, kEnds, bEnds⟩
  have CDeck : Cal K mg "_law_deck" gDeck _ ["_law_script"] := ⟨mg_of X G aDeck, kDeck, bDeck⟩
  have CDraw : Cal K mg "_law_draw" gDraw _ ["_law_deck_here", "_law_below"] := ⟨mg_of X G aDraw, kDraw, bDraw⟩
  have CPick : Cal K mg "_law_pick" gPick _ ["_law_deck_here", "_law_some"] := ⟨mg_of X G aPick, kPick, bPick⟩
  have CLines : Cal K mg "_law_lines" gLines _ ["_law_deck_here", "_law_size", "_law_kinds"] := ⟨mg_of X G aLines, kLines, bLines⟩
  have CScr : Cal K mg "_law_scribe" gScr _ ["_law_deck_here", "_law_wide"] := ⟨mg_of X G aScr, kScr, bScr⟩
  have CMade : Cal K mg "_law_made" gMade _ ["_law_parts"] := ⟨mg_of X G aMade, kMade, bMade⟩
  have CTold : Cal K mg "_law_told" gTold _ ["_law_scribe_here"] := ⟨mg_of X G aTold, kTold, bTold⟩
  have CLed : Cal K mg "_law_led" gLed _ ["_law_parts", "_law_lot"] := ⟨mg_of X G aLed, kLed, bLed⟩
  have CLWr : Cal K mg "_law_written" gLWr _ ["_law_parts", "_law_lot"] := ⟨mg_of X G aLWr, kLWr, bLWr⟩
  have CLots : Cal K mg "_law_lots" gLots _ ["_law_kinds", "_law_most"] := ⟨mg_of X G aLots, kLots, bLots⟩
  have CRight : Cal K mg "_law_right" gRight _ ["_law_scribe_here", "_law_parts", "_law_lot", "_law_is_named"] := ⟨mg_of X G aRight, kRight, bRight⟩
  have GInt := ok_int (P := l.prog) (w := w) (mg := mg) (base := base) FInt T
  have GBet := ok_bet (P := l.prog) (w := w) (mg := mg) (base := base) FBet T GInt CInt
  have GTup := ok_tup (P := l.prog) (w := w) (mg := mg) (base := base) FTup T
  have GAsc := ok_asc (P := l.prog) (w := w) (mg := mg) (base := base) FAsc T
  have GMark := ok_mark (P := l.prog) (w := w) (mg := mg) (base := base) FMark T
  have GMarks := ok_marks (P := l.prog) (w := w) (mg := mg) (base := base) FMarks T GMark CMark
  have GTable := ok_table (P := l.prog) (w := w) (mg := mg) (base := base) FTable
  have GRead := ok_read (P := l.prog) (w := w) (mg := mg) (base := base) FRead T.tuple
  have GMove := ok_move (P := l.prog) (w := w) (mg := mg) (base := base) FMove T GTup CTup GBet CBet GMark CMark GMarks CMarks
  have GMoves := ok_moves (P := l.prog) (w := w) (mg := mg) (base := base) FMoves T GMove CMove GAsc CAsc
  have GEnds := ok_ends (P := l.prog) (w := w) (mg := mg) (base := base) FEnds T GTup CTup GBet CBet GMarks CMarks GAsc CAsc
  have GDeck := ok_deck (P := l.prog) (w := w) (mg := mg) (base := base) FDeck TD
  have GDraw := ok_draw (P := l.prog) (w := w) (mg := mg) (base := base) FDraw TD
  have GPick := ok_pick (P := l.prog) (w := w) (mg := mg) (base := base) FPick TD GDraw CDraw
  have GLines := ok_lines (P := l.prog) (w := w) (mg := mg) (base := base) FLines TG GDraw CDraw GPick CPick
  have GScr := ok_scribe (P := l.prog) (w := w) (mg := mg) (base := base) FScr TG GDraw CDraw GPick CPick GLines CLines
  have GInit := ok_rinit (P := l.prog) (w := w) (base := base) FI TR GBet CBet GMarks CMarks GMoves CMoves GEnds CEnds GTable CTable
  have GW := (ok_written (P := l.prog) (w := w) (base := base) FW TR GRead CRead).imp fun _ _ _ _ => tape_u
  have GB := (ok_begun (P := l.prog) (w := w) (base := base) FB TR GRead CRead).imp fun _ _ _ _ => tape_u
  have GMade := ok_lmade (P := l.prog) (w := w) (mg := mg) (base := base) FMade TC GInit
  have GTold := ok_ltold (P := l.prog) (w := w) (mg := mg) (base := base) FTold TR
  have GLed := ok_lled (P := l.prog) (w := w) (mg := mg) (base := base) FLed TG
  have GLWr := ok_lwritten (P := l.prog) (w := w) (mg := mg) (base := base) FLWr TG GLed CLed
  have GLots := ok_lots (P := l.prog) (w := w) (mg := mg) (base := base) FLots TG
  have GU := GLWr.imp fun _ _ _ _ => lwr_u
  have GRight := ok_lright (P := l.prog) (w := w) (mg := mg) (base := base) FRight TG TR GLed CLed GU CLWr GW mW bW kbW GB mB bB kbB
  have LF : LawFns l.prog w K mg base C gDeck gDraw gPick gScr gMade gTold gLots gRight _ _ _ _ _ _ _ _ := ⟨GDeck, CDeck, GDraw, CDraw, GPick, CPick, GScr, CScr, GMade, CMade, GTold, CTold, GLots, CLots, GRight, CRight⟩
  have RF : RdrFns l.prog w K mg base C fW fB _ _ := ⟨cls, GW, mW, bW, GB, mB, bB⟩
  exact ok_law FLaw TG LF RF
theorem walk {l : PySem.W.OpenLaw} {q : Program} {loose : List Str} {XP : (Str → Option Value) → Heap → Prop} {YP : World → Heap → Prop} {d : DefRec} {K : Params → Frag} (hn : l.most = some 63) (hdf : d.params.defaults = []) (hY : ∀ (w : World) (h : Heap), YP w h → (K w.params).In h)
    (F : ∀ (w : World) (mg : Str → Option Value) (fa : Addr) (h : Heap), (K w.params).In h → h.Ns mainGlobals mg → mg d.name = some (.ref fa) →
      ∃ fd : FuncData, (∀ (s : Shared) (u : Value), BindsTo s fd ⟨[u], []⟩ [("_law_script", u)]) ∧ ∀ base : Heap, (K w.params).In base → base.Ns mainGlobals mg → FnG l.prog w (K w.params) mg base CX0 8 fa fd ["_law_script"] (spLaw (K w.params))) : WalkO q loose XP YP l.row.toRowW d [] (fun f vs => PySem.call f vs) :=
  walkG (n := 63) (k := 8) (x := "_law_script") (CX := fun _ => CX0) (sp := fun w => spLaw (K w.params)) hn (by decide) hdf ⟨rfl, by decide, by decide⟩ hY F (fun _ _ a ns hl _ hS => ⟨a, ns, rfl, hS, hl, fun _ => rfl⟩) fun _ _ _ _ _ z => z
end KL
set_option Elab.async false
open PySem PySem.W PyProof.Rows in
set_option maxRecDepth 100000 in
set_option maxHeartbeats 0 in
theorem PySem.Challenge.cw_loghouse_k28_written_and_begun_holds : PySem.Challenge.rw_loghouse_k28_written_and_begun.Holds := by
  w_on; o_law; k_head; (case hw => w_witness2)
  k_fill
  refine KL.walk (l := PySem.Challenge.rw_loghouse_k28_written_and_begun) rfl rfl (fun w h Y => PySem.W.kIn_of Y) ?F
  case F =>
    intro w mg fa h KX G hmg
    refine' KL.all_mk KX G hmg ?aC ?jC ?iC ?jW ?iW ?jB ?iB ?lk_I ?cI ?kI ?lk_W ?cW ?kW ?lk_B ?cB ?kB ?pg ?hd ?po ?sa ?mk ?kc ?n_states ?n_first ?n_moves ?n_ends ?n__moves ?n__ends ?m0 ?aInt ?lk_Int ?cInt ?kInt ?aBet ?lk_Bet ?cBet ?kBet ?aTup ?lk_Tup ?cTup ?kTup ?aAsc ?lk_Asc ?cAsc ?kAsc ?aMark ?lk_Mark ?cMark ?kMark ?aMarks ?lk_Marks ?cMarks ?kMarks ?aTable ?lk_Table ?cTable ?kTable ?aRead ?lk_Read ?cRead ?kRead ?aMove ?lk_Move ?cMove ?kMove ?aMoves ?lk_Moves ?cMoves ?kMoves ?aEnds ?lk_Ends ?cEnds ?kEnds ?aDeck ?lk_Deck ?cDeck ?kDeck ?aDraw ?lk_Draw ?cDraw ?kDraw ?aPick ?lk_Pick ?cPick ?kPick ?aLines ?lk_Lines ?cLines ?kLines ?aScr ?lk_Scr ?cScr ?kScr ?aMade ?lk_Made ?cMade ?kMade ?aTold ?lk_Told ?cTold ?kTold ?aLed ?lk_Led ?cLed ?kLed ?aLWr ?lk_LWr ?cLWr ?kLWr ?aLots ?lk_Lots ?cLots ?kLots ?aRight ?lk_Right ?cRight ?kRight ?aLaw ?lk_Law ?cLaw ?kLaw ?zisinstance ?zint ?zbool ?zstr ?ztuple ?zlen ?zall ?zzip ?zrange ?zlist ?zrepr ?zsorted ?zset ?zdict ?zenumerate
    (case aC => k_is)
    (case jC => k_is)
    (case iC => k_is)
    (case jW => k_is)
    (case iW => k_is)
    (case jB => k_is)
    (case iB => k_is)
    (case lk_I => k_is)
    (case cI => k_is)
    (case kI => k_is)
    (case lk_W => k_is)
    (case cW => k_is)
    (case kW => k_is)
    (case lk_B => k_is)
    (case cB => k_is)
    (case kB => k_is)
    (case pg => k_is)
    (case hd => k_is)
    (case po => k_is)
    (case sa => k_is)
    (case mk => k_is)
    (case kc => k_is)
    (case n_states => k_is)
    (case n_first => k_is)
    (case n_moves => k_is)
    (case n_ends => k_is)
    (case n__moves => k_is)
    (case n__ends => k_is)
    (case m0 => k_is)
    (case aInt => k_is)
    (case lk_Int => k_is)
    (case cInt => k_is)
    (case kInt => k_is)
    (case aBet => k_is)
    (case lk_Bet => k_is)
    (case cBet => k_is)
    (case kBet => k_is)
    (case aTup => k_is)
    (case lk_Tup => k_is)
    (case cTup => k_is)
    (case kTup => k_is)
    (case aAsc => k_is)
    (case lk_Asc => k_is)
    (case cAsc => k_is)
    (case kAsc => k_is)
    (case aMark => k_is)
    (case lk_Mark => k_is)
    (case cMark => k_is)
    (case kMark => k_is)
    (case aMarks => k_is)
    (case lk_Marks => k_is)
    (case cMarks => k_is)
    (case kMarks => k_is)
    (case aTable => k_is)
    (case lk_Table => k_is)
    (case cTable => k_is)
    (case kTable => k_is)
    (case aRead => k_is)
    (case lk_Read => k_is)
    (case cRead => k_is)
    (case kRead => k_is)
    (case aMove => k_is)
    (case lk_Move => k_is)
    (case cMove => k_is)
    (case kMove => k_is)
    (case aMoves => k_is)
    (case lk_Moves => k_is)
    (case cMoves => k_is)
    (case kMoves => k_is)
    (case aEnds => k_is)
    (case lk_Ends => k_is)
    (case cEnds => k_is)
    (case kEnds => k_is)
    (case aDeck => k_is)
    (case lk_Deck => k_is)
    (case cDeck => k_is)
    (case kDeck => k_is)
    (case aDraw => k_is)
    (case lk_Draw => k_is)
    (case cDraw => k_is)
    (case kDraw => k_is)
    (case aPick => k_is)
    (case lk_Pick => k_is)
    (case cPick => k_is)
    (case kPick => k_is)
    (case aLines => k_is)
    (case lk_Lines => k_is)
    (case cLines => k_is)
    (case kLines => k_is)
    (case aScr => k_is)
    (case lk_Scr => k_is)
    (case cScr => k_is)
    (case kScr => k_is)
    (case aMade => k_is)
    (case lk_Made => k_is)
    (case cMade => k_is)
    (case kMade => k_is)
    (case aTold => k_is)
    (case lk_Told => k_is)
    (case cTold => k_is)
    (case kTold => k_is)
    (case aLed => k_is)
    (case lk_Led => k_is)
    (case cLed => k_is)
    (case kLed => k_is)
    (case aLWr => k_is)
    (case lk_LWr => k_is)
    (case cLWr => k_is)
    (case kLWr => k_is)
    (case aLots => k_is)
    (case lk_Lots => k_is)
    (case cLots => k_is)
    (case kLots => k_is)
    (case aRight => k_is)
    (case lk_Right => k_is)
    (case cRight => k_is)
    (case kRight => k_is)
    (case aLaw => k_is)
    (case lk_Law => k_is)
    (case cLaw => k_is)
    (case kLaw => k_is)
    (case zisinstance => k_is)
    (case zint => k_is)
    (case zbool => k_is)
    (case zstr => k_is)
    (case ztuple => k_is)
    (case zlen => k_is)
    (case zall => k_is)
    (case zzip => k_is)
    (case zrange => k_is)
    (case zlist => k_is)
    (case zrepr => k_is)
    (case zsorted => k_is)
    (case zset => k_is)
    (case zdict => k_is)
    (case zenumerate => k_is)
