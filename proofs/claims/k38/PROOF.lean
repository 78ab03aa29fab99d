import PyProof.Rows.All
import Wide.All
import OpenK.AllK
import Wide.FinOn
import HandS.ForMost
import HandS.ForExc
import HandS.Style
import HandS.IsInst
import HandS.TupLe
import HandS.Zip
import PyProof.ReprRoads
import PyProof.EqAt
import PyProof.EqKinds
import HandS.Walk
import HandS.TupAny
import PyProof.NeKinds
import HandS.DictComp
import HandS.SortInts
import KE.SortData
import KE.KDictPairs
import HandS.TupMul
import PyProof.ListMulRoad
import PyProof.FactsAll.tuple_2
import HandS.Conv
import PyProof.Rows.IntBool
import HandS.Ends
import PyProof.StrLawsRepr
import PyProof.FitsInt
import HandS.Iter
import HandS.Codes
import KE.KDictItemsList
import HandS.DictTup
import PySem.Challenge.RW_loghouse_k38_views_of_slits
set_option Elab.async false
set_option linter.all false
set_option maxRecDepth 100000
set_option maxHeartbeats 2000000
namespace KL
open PySem L2 PySem.Spec PyProof.Rows
/-! ### data, dicts among them -/
mutual
inductive Dq (H : Hp) : V → PyData → Prop
  | non : Dq H .non .none
  | bl (b : Bool) : Dq H (.bl b) (.bool b)
  | int (i : Int) : Dq H (.int i) (.int i)
  | str (x : Str) : Dq H (.str x) (.str x)
  | lst {a : Addr} {xs : List V} {ds : List PyData} : H a = some (.lst xs) → DqAll H xs ds → Dq H (.ref a) (.list ds)
  | tup {a : Addr} {xs : List V} {ds : List PyData} : H a = some (.tup xs) → DqAll H xs ds → Dq H (.ref a) (.tuple ds)
  | dct0 {a : Addr} : H a = some (.dK []) → Dq H (.ref a) (.dict [])
  | dct1 {a : Addr} {x : Str} {i : Int} : H a = some (.dK [(Sum.inr x, V.int i)]) → Dq H (.ref a) (.dict [(.str x, .int i)])
inductive DqAll (H : Hp) : List V → List PyData → Prop
  | nil : DqAll H [] []
  | cons {v : V} {vs : List V} {d : PyData} {ds : List PyData} : Dq H v d → DqAll H vs ds → DqAll H (v :: vs) (d :: ds)
end
mutual
theorem Dq.same {H H' : Hp} (e : Same H H') : ∀ (d : PyData) (v : V), Dq H v d → Dq H' v d
  | .none, _, h => by
    cases h
    exact .non
  | .bool _, _, h => by
    cases h
    exact .bl _
  | .int _, _, h => by
    cases h
    exact .int _
  | .str _, _, h => by
    cases h
    exact .str _
  | .list ds, _, h => by
    cases h with
    | lst q r => exact .lst (e _ _ q) (DqAll.same e ds _ r)
  | .tuple ds, _, h => by
    cases h with
    | tup q r => exact .tup (e _ _ q) (DqAll.same e ds _ r)
  | .dict kvs, _, h => by
    cases h with
    | dct0 q => exact .dct0 (e _ _ q)
    | dct1 q => exact .dct1 (e _ _ q)
theorem DqAll.same {H H' : Hp} (e : Same H H') : ∀ (ds : List PyData) (vs : List V), DqAll H vs ds → DqAll H' vs ds
  | [], _, h => by
    cases h
    exact .nil
  | d :: ds, _, h => by
    cases h with
    | cons q r => exact .cons (Dq.same e d _ q) (DqAll.same e ds _ r)
end
theorem same_new {H : Hp} {p : Addr} {o : HO} (h : H p = none) : Same H (upd H p o) := fun b u e => by
  rw [upd_ne (ne_of_none e h)]
  exact e
theorem DqAll.get {H : Hp} : ∀ (ds : List PyData) (vs : List V) (i : Nat) (v : V), DqAll H vs ds → vs[i]? = some v → ∃ d, d ∈ ds ∧ Dq H v d
  | _, _, i, v, .nil, e => by simp at e
  | _, _, 0, v, .cons (d := d) h _, e => by
    simp at e
    subst e
    exact ⟨d, by simp, h⟩
  | _, _, i + 1, v, .cons _ r, e => by
    obtain ⟨d, hd, h⟩ := DqAll.get _ _ i v r (by simpa using e)
    exact ⟨d, by simp [hd], h⟩

theorem iteNo {b : Bool} {A B : Prop} (hb : b = false) (h : B) : if b = true then A else B := by
  subst hb
  exact iteF h
theorem iteYes {b : Bool} {A B : Prop} (hb : b = true) (h : A) : if b = true then A else B := by
  subst hb
  exact iteT h
/-! ### kinds -/
def tyName : PyData → String
  | .none => "NoneType"
  | .bool _ => "bool"
  | .int _ => "int"
  | .str _ => "str"
  | .list _ => "list"
  | .tuple _ => "tuple"
  | .dict _ => "dict"
theorem Dq.ty {K : PySem.W.Frag} {H : Hp} {v : V} {d : PyData} (h : Dq H v d) : TyX K H v (.type (tyName d)) := by
  cases h with
  | non => exact .base .non
  | bl b => exact .base (.bl b)
  | int i => exact .base (.int i)
  | str x => exact .base (.str x)
  | lst e _ => exact .base (.lst e)
  | tup e _ => exact .base (.tup e)
  | dct0 e => exact .base (.dK e)
  | dct1 e => exact .base (.dK e)
/-- isinstance of data, by the name of a built-in class -/
def isA (T : String) (d : PyData) : Bool := (kitB (tyName d) T).getD false
def kinds4 : List String := ["int", "bool", "str", "tuple", "list", "dict"]
theorem kit_data {K : PySem.W.Frag} {T : String} (hT : T ∈ kinds4) (d : PyData) : PySem.W.kitOne K (.type (tyName d)) (.type T) = some (isA T d) := by
  have z : (kinds4.all fun T => ["NoneType", "bool", "int", "str", "list", "tuple", "dict"].all fun n => (kitB n T).isSome) = true := by decide +kernel
  have y := List.all_eq_true.mp z T hT
  have n : tyName d ∈ ["NoneType", "bool", "int", "str", "list", "tuple", "dict"] := by cases d <;> simp [tyName]
  have x := List.all_eq_true.mp y _ n
  obtain ⟨b, hb⟩ := Option.isSome_iff_exists.mp x
  rw [kit_ty hb]
  unfold isA
  rw [hb]
  rfl
def rIsD : List V → Hp → VK → Prop := fun xs H Q => ∃ (v : V) (d : PyData) (T : String), xs = [v, .ty T] ∧ T ∈ kinds4 ∧ Dq H v d ∧ Q (.bl (isA T d)) H
theorem call_isD {X : Cx} : CallR X (.builtin "isinstance") rIsD := fun pins s σ H xs us Q I r h => by
  obtain ⟨v, d, T, rfl, hT, hd, q⟩ := h
  exact call_isi pins s σ H _ us Q I r ⟨v, .ty T, _, _, _, rfl, .ty T, hd.ty, kit_data hT d, q⟩
end KL
set_option Elab.async false
set_option linter.all false
set_option maxRecDepth 100000
set_option maxHeartbeats 2000000
namespace KL
open PySem L2 PySem.Spec PyProof.Rows
def top (i : Nat) : Stmt := PySem.Challenge.pw_loghouse_k38_views_of_slits.main.body.getD i (.Pass ⟨0, 0, 0, 0⟩)
/-! ### the mirror -/
def intD : PyData → Bool
  | .int _ => true
  | _ => false
def betD (lo hi : Int) : PyData → Bool
  | .int i => decide (lo ≤ i) && decide (i ≤ hi)
  | _ => false
def letS (x : Str) : Bool := decide (x.length = 1) && (!decide (x.cps.toList < ("a" : Str).cps.toList) && !decide (("z" : Str).cps.toList < x.cps.toList))
def letD : PyData → Bool
  | .str x => letS x
  | _ => false
def tupD (lo hi : Int) : PyData → Bool
  | .tuple ds => decide (lo ≤ (ds.length : Int)) && decide ((ds.length : Int) ≤ hi)
  | _ => false
mutual
/-- sizes that nothing here comes near to -/
def smB : PyData → Bool
  | .none => true
  | .bool _ => true
  | .int i => decide (i.natAbs.log2 < 1900)
  | .str x => decide (x.length ≤ 1000)
  | .list ds => decide (ds.length ≤ 1000) && smAll ds
  | .tuple ds => decide (ds.length ≤ 1000) && smAll ds
  | .dict kvs => decide (kvs.length ≤ 1)
def smAll : List PyData → Bool
  | [] => true
  | d :: r => smB d && smAll r
end
/-- a test of one thing -/
def spTest (f : PyData → Bool) : Sp := fun vs H Q _ => ∃ (v : V) (d : PyData), vs = [v] ∧ Dq H v d ∧ smB d = true ∧ ∀ H', Same H H' → Q (.bl (f d)) H'
/-- a test of one thing with two numbers -/
def spTest2 (f : Int → Int → PyData → Bool) : Sp := fun vs H Q _ => ∃ (v : V) (d : PyData) (lo hi : Int), vs = [v, .int lo, .int hi] ∧ Dq H v d ∧ smB d = true ∧ ∀ H', Same H H' → Q (.bl (f lo hi d)) H'
structure TxtB (mg : Str → Option Value) : Prop where
  isi : mg "isinstance" = none
  int : mg "int" = none
  bool : mg "bool" = none
  str : mg "str" = none
  tuple : mg "tuple" = none
  len : mg "len" = none
  all : mg "all" = none
  zip : mg "zip" = none
/-- a def of the module, called by its name -/
structure Cal (K : PySem.W.Frag) (mg : Str → Option Value) (x : Str) (f : Addr) (fd : FuncData) (ps : List Str) : Prop where
  m : mg x = some (.ref f)
  k : PySem.W.keepIn K (.ref f) = true
  b : L2.Binds K fd ps []
end KL
set_option Elab.async false
set_option linter.all false
set_option maxRecDepth 100000
set_option maxHeartbeats 2000000
namespace KL
open PySem L2 PySem.Spec PyProof.Rows
theorem DqAll.len {H : Hp} : ∀ {ds : List PyData} {xs : List V}, DqAll H xs ds → xs.length = ds.length
  | [], _, h => by
    cases h
    rfl
  | _ :: _, _, h => by
    cases h with
    | cons _ r => exact congrArg (· + 1) (DqAll.len r)
theorem DqAll.at {H : Hp} : ∀ {ds : List PyData} {xs : List V} {i : Nat} {x : V}, DqAll H xs ds → xs[i]? = some x → ∃ d, ds[i]? = some d ∧ Dq H x d
  | [], _, i, x, h, e => by
    cases h
    simp at e
  | d :: ds, _, 0, x, h, e => by
    cases h with
    | cons q _ =>
      simp at e
      subst e
      exact ⟨d, rfl, q⟩
  | d :: ds, _, i + 1, x, h, e => by
    cases h with
    | cons _ r =>
      obtain ⟨d', h1, h2⟩ := DqAll.at r (by simpa using e)
      exact ⟨d', by simpa using h1, h2⟩
theorem sm_at : ∀ {ds : List PyData} {i : Nat} {d : PyData}, smAll ds = true → ds[i]? = some d → smB d = true
  | [], i, d, _, e => by simp at e
  | d :: ds, 0, d', h, e => by
    simp at e
    subst e
    exact (Bool.and_eq_true_iff.mp h).1
  | d :: ds, i + 1, d', h, e => sm_at (Bool.and_eq_true_iff.mp h).2 (by simpa using e)
/-- what a comprehension over data has made so far -/
def MadeTo (H0 : Hp) (D : Addr) (bs : List V) (H : Hp) : Prop := Same H0 H ∧ H D = some (.lst bs)
theorem MadeTo.more {H0 H H' : Hp} {D : Addr} {bs : List V} (b : V) (hD : H0 D = none) (M : MadeTo H0 D bs H) (S : Same H H') : H' D = some (.lst bs) ∧ MadeTo H0 D (bs ++ [b]) (upd H' D (.lst (bs ++ [b]))) := by
  refine ⟨S _ _ M.2, fun x o e => ?_, upd_same⟩
  have nx : x ≠ D := fun z => by
    rw [z, hD] at e
    cases e
  rw [upd_ne nx]
  exact S _ _ (M.1 _ _ e)
theorem take_map {β : Type} {g : PyData → β} {ds : List PyData} {i : Nat} {d : PyData} (h : ds[i]? = some d) : (ds.take (i + 1)).map g = (ds.take i).map g ++ [g d] := by
  rw [List.take_add_one, h, List.map_append]
  rfl
theorem sm_len {ds : List PyData} (h : smB (.tuple ds) = true) : ds.length ≤ 1000 := of_decide_eq_true (Bool.and_eq_true_iff.mp h).1
theorem sm_all {ds : List PyData} (h : smB (.tuple ds) = true) : smAll ds = true := (Bool.and_eq_true_iff.mp h).2
theorem take_size {β : Type} {g : PyData → β} {j : β → V} {ds : List PyData} (i : Nat) (h : ds.length ≤ 1000) : (((ds.take i).map g).map j).length < sizeLine := by
  rw [List.length_map, List.length_map, List.length_take]
  exact Nat.lt_of_le_of_lt (Nat.le_trans (Nat.min_le_right _ _) h) (by rw [sizeLine_eq]; omega)
/-- one more turn of a comprehension over data that makes truth values -/
theorem MadeTo.turn {H0 H H' : Hp} {D : Addr} {g : PyData → Bool} {ds : List PyData} {i : Nat} {d : PyData} (hD : H0 D = none) (M : MadeTo H0 D (((ds.take i).map g).map V.bl) H) (S : Same H H') (hl : ds.length ≤ 1000) (h : ds[i]? = some d) :
    ∃ acc, H' D = some (.lst acc) ∧ acc.length < sizeLine ∧ MadeTo H0 D (((ds.take (i + 1)).map g).map V.bl) (upd H' D (.lst (acc ++ [.bl (g d)]))) := by
  have m := M.more (.bl (g d)) hD S
  refine ⟨_, m.1, take_size i hl, ?_⟩
  rw [take_map h, List.map_append]
  exact m.2
end KL
set_option Elab.async false
set_option linter.all false
set_option maxRecDepth 100000
set_option maxHeartbeats 2000000
namespace KL
open PySem L2 PySem.Spec PyProof.Rows
mutual
/-- x < y of two things of one shape -/
def ltD : PyData → PyData → Bool
  | .int i, .int j => decide (i < j)
  | .str x, .str y => decide (x.cps.toList < y.cps.toList)
  | .tuple xs, .tuple ys => ltAll xs ys
  | _, _ => false
def ltAll : List PyData → List PyData → Bool
  | [], [] => false
  | [], _ :: _ => true
  | _ :: _, [] => false
  | x :: xs, y :: ys => if PyData.eqv x y = true then ltAll xs ys else ltD x y
end
mutual
/-- whether they can be compared -/
def cmpD : PyData → PyData → Bool
  | .int _, .int _ => true
  | .str _, .str _ => true
  | .tuple xs, .tuple ys => cmpAll xs ys
  | _, _ => false
def cmpAll : List PyData → List PyData → Bool
  | x :: xs, y :: ys => cmpD x y && cmpAll xs ys
  | _, _ => true
end
theorem lexAt_shift (e r : Nat → Bool) (z : Bool) : ∀ (k i : Nat), Ob.lexAt e r z (i + 1) k = Ob.lexAt (fun j => e (j + 1)) (fun j => r (j + 1)) z i k
  | 0, _ => rfl
  | k + 1, i => by
    rw [Ob.lexAt_succ, Ob.lexAt_succ, lexAt_shift e r z k (i + 1)]
def peq (xs ys : List PyData) (j : Nat) : Bool := PyData.eqv (xs.getD j .none) (ys.getD j .none)
theorem lex_all : ∀ (xs ys : List PyData), Ob.lexAt (peq xs ys) (fun j => ltD (xs.getD j .none) (ys.getD j .none)) (decide (xs.length < ys.length)) 0 (min xs.length ys.length) = ltAll xs ys
  | [], [] => rfl
  | [], _ :: _ => by simp [Ob.lexAt_zero, ltAll]
  | _ :: _, [] => by simp [Ob.lexAt_zero, ltAll]
  | x :: xs, y :: ys => by
    have m : min (x :: xs).length (y :: ys).length = min xs.length ys.length + 1 := by
      rw [List.length_cons, List.length_cons]
      omega
    rw [m, Ob.lexAt_succ, lexAt_shift]
    have z : decide ((x :: xs).length < (y :: ys).length) = decide (xs.length < ys.length) := by
      rw [List.length_cons, List.length_cons]
      by_cases q : xs.length < ys.length
      · rw [decide_eq_true q, decide_eq_true (by omega)]
      · rw [decide_eq_false q, decide_eq_false (by omega)]
    rw [z]
    show (if PyData.eqv x y = true then Ob.lexAt (peq xs ys) (fun j => ltD (xs.getD j .none) (ys.getD j .none)) (decide (xs.length < ys.length)) 0 (min xs.length ys.length) else ltD x y) = ltAll (x :: xs) (y :: ys)
    rw [lex_all xs ys, ltAll]
theorem reads_at {h : Heap} : ∀ {us : List Value} {ds : List PyData} {as : List Addr}, ReadsAll h us ds as → ∀ (j : Nat) (hj : j < us.length), ∃ bs, Reads h us[j] (ds.getD j .none) bs
  | _, _, _, .nil, j, hj => absurd hj (Nat.not_lt_zero _)
  | _, _, _, .cons r _, 0, _ => ⟨_, r⟩
  | _, _, _, .cons _ rs, j + 1, hj => reads_at rs j (Nat.lt_of_succ_lt_succ hj)
theorem reads_len {h : Heap} : ∀ {us : List Value} {ds : List PyData} {as : List Addr}, ReadsAll h us ds as → us.length = ds.length
  | _, _, _, .nil => rfl
  | _, _, _, .cons _ rs => congrArg (· + 1) (reads_len rs)
theorem lay_at : ∀ {ds : List PyData} (j : Nat), PyData.canLayAll0 ds = true → (ds.getD j .none).canLay0 = true
  | [], j, _ => by simp [PyData.canLay0]
  | d :: ds, 0, h => (Bool.and_eq_true_iff.mp h).1
  | d :: ds, j + 1, h => lay_at (ds := ds) j (Bool.and_eq_true_iff.mp h).2
theorem cmp_at : ∀ {xs ys : List PyData} (j : Nat), cmpAll xs ys = true → j < xs.length → j < ys.length → cmpD (xs.getD j .none) (ys.getD j .none) = true
  | [], _, _, _, h, _ => absurd h (Nat.not_lt_zero _)
  | _ :: _, [], _, _, _, h => absurd h (Nat.not_lt_zero _)
  | x :: xs, y :: ys, 0, h, _, _ => (Bool.and_eq_true_iff.mp (show (cmpD x y && cmpAll xs ys) = true from h)).1
  | x :: xs, y :: ys, j + 1, h, h1, h2 => cmp_at (xs := xs) (ys := ys) j (Bool.and_eq_true_iff.mp (show (cmpD x y && cmpAll xs ys) = true from h)).2 (Nat.lt_of_succ_lt_succ h1) (Nat.lt_of_succ_lt_succ h2)
theorem depth_at : ∀ {ds : List PyData} (j : Nat), (ds.getD j .none).depth ≤ PyData.depthAll ds
  | [], j => by simp [PyData.depth]
  | d :: ds, 0 => by
    show d.depth ≤ max d.depth (PyData.depthAll ds)
    omega
  | d :: ds, j + 1 => by
    have := depth_at (ds := ds) j
    show (ds.getD j .none).depth ≤ max d.depth (PyData.depthAll ds)
    omega
/-- x < y of two things that can be compared -/
theorem lt_data : ∀ (n : Nat) (d e : PyData) (A : Around) (s : Shared) (a b : Value) (as bs : List Addr), d.depth ≤ n → Reads s.heap a d as → Reads s.heap b e bs → d.canLay0 = true → e.canLay0 = true → cmpD d e = true → A.units + n < cLine → Ob.RcOp .Lt A s a b (ltD d e)
  | n, .int i, e, A, s, a, b, as, bs, hn, ra, rb, la, lb, c, hu => by
    cases ra
    cases rb <;> first | exact Ob.RcOp.lt_int _ _ _ _ | (exfalso; simp [cmpD] at c)
  | n, .str x, e, A, s, a, b, as, bs, hn, ra, rb, la, lb, c, hu => by
    cases ra
    cases rb with
    | str y t => exact fun _ _ _ _ h => lt_str h
    | _ => exfalso; simp [cmpD] at c
  | n + 1, .tuple xs, .tuple ys, A, s, _, _, _, _, hn, .tuple (a := l) (vs := us) h1 h2 h3 h4, .tuple (a := l') (vs := ws) k1 k2 k3 k4, la, lb, c, hu => by
    have hd : PyData.depthAll xs ≤ n := by
      have : PyData.depthAll xs + 1 ≤ n + 1 := hn
      omega
    have R := Ob.RcOp.tuples_lt (A := A) (s := s) (e := peq xs ys) (r := fun j => ltD (xs.getD j .none) (ys.getD j .none)) (l := l) (b := l') (items := us) (items2 := ws) ⟨_, h1, h2, _, h3⟩ ⟨_, k1, k2, _, k3⟩ (by omega)
      (fun j j1 j2 => by
        obtain ⟨_, q1⟩ := reads_at h4 j (by simpa using j1)
        obtain ⟨_, q2⟩ := reads_at k4 j (by simpa using j2)
        have q := SeqAt.eqAt_reads _ _ A.in1 s _ _ _ _ q1 q2 (lay_at j la) (lay_at j lb) (by
          have := depth_at (ds := xs) j
          show A.units + 1 + _ < _
          omega)
        simpa [peq] using q)
      (fun j j1 j2 _ => by
        obtain ⟨_, q1⟩ := reads_at h4 j (by simpa using j1)
        obtain ⟨_, q2⟩ := reads_at k4 j (by simpa using j2)
        have l1 : us.size = xs.length := by rw [← reads_len h4]; simp
        have l2 : ws.size = ys.length := by rw [← reads_len k4]; simp
        have q := lt_data n _ _ A.in1 s _ _ _ _ (Nat.le_trans (depth_at j) hd) q1 q2 (lay_at j la) (lay_at j lb) (cmp_at j c (by omega) (by omega)) (by show A.units + 1 + n < cLine; omega)
        simpa using q)
    have l1 : us.size = xs.length := by rw [← reads_len h4]; simp
    have l2 : ws.size = ys.length := by rw [← reads_len k4]; simp
    rw [l1, l2, lex_all] at R
    exact R
  | _, .none, _, _, _, _, _, _, _, _, _, _, _, _, c, _ => by simp [cmpD] at c
  | _, .bool _, _, _, _, _, _, _, _, _, _, _, _, _, c, _ => by simp [cmpD] at c
  | _, .list _, _, _, _, _, _, _, _, _, _, _, _, _, c, _ => by simp [cmpD] at c
  | _, .dict _, _, _, _, _, _, _, _, _, _, _, _, _, c, _ => by simp [cmpD] at c
  | 0, .tuple xs, _, _, _, _, _, _, _, hn, _, _, _, _, _, _ => by
    have : PyData.depthAll xs + 1 ≤ 0 := hn
    omega
  | _ + 1, .tuple _, .none, _, _, _, _, _, _, _, _, _, _, _, c, _ => by simp [cmpD] at c
  | _ + 1, .tuple _, .bool _, _, _, _, _, _, _, _, _, _, _, _, c, _ => by simp [cmpD] at c
  | _ + 1, .tuple _, .int _, _, _, _, _, _, _, _, _, _, _, _, c, _ => by simp [cmpD] at c
  | _ + 1, .tuple _, .str _, _, _, _, _, _, _, _, _, _, _, _, c, _ => by simp [cmpD] at c
  | _ + 1, .tuple _, .list _, _, _, _, _, _, _, _, _, _, _, _, c, _ => by simp [cmpD] at c
  | _ + 1, .tuple _, .dict _, _, _, _, _, _, _, _, _, _, _, _, c, _ => by simp [cmpD] at c
end KL
set_option Elab.async false
set_option linter.all false
set_option maxRecDepth 100000
set_option maxHeartbeats 2000000
namespace KL
open PySem L2 PySem.Spec PyProof.Rows
section
variable {X : Cx} {pins : List (Addr × Obj)} {σ : L2.St} {H : Hp} {s : Shared}
mutual
theorem Dq.reads0 (I : Inv X pins σ H s) : ∀ (d : PyData) (v : V) (u : Value), Dq H v d → d.canLay0 = true → RelV v u → ∃ as, Reads s.heap u d as
  | .none, _, _, h, _, r => by
    cases h
    cases r
    exact ⟨_, .none⟩
  | .bool b, _, _, h, _, r => by
    cases h
    cases r
    exact ⟨_, .bool b⟩
  | .int i, _, _, h, _, r => by
    cases h
    obtain ⟨t, rfl⟩ := r
    exact ⟨_, .int i t⟩
  | .str x, _, _, h, _, r => by
    cases h
    obtain ⟨t, rfl⟩ := r
    exact ⟨_, .str x t⟩
  | .list ds, _, _, h, l, r => by
    cases h with
    | lst q ha =>
      cases r
      obtain ⟨_, its, n, rv, ho⟩ := I.hok _ _ q
      obtain ⟨as, hr⟩ := DqAll.reads0 I ds _ its ha l rv
      exact ⟨_, .list ho rfl rfl hr⟩
  | .tuple ds, _, _, h, l, r => by
    cases h with
    | tup q ha =>
      cases r
      obtain ⟨_, its, rv, o, h1, h2, n, h3⟩ := I.hok _ _ q
      obtain ⟨as, hr⟩ := DqAll.reads0 I ds _ its ha l rv
      exact ⟨_, .tuple h1 h2 h3 hr⟩
  | .dict _, _, _, _, l, _ => by simp [PyData.canLay0] at l
theorem DqAll.reads0 (I : Inv X pins σ H s) : ∀ (ds : List PyData) (vs : List V) (us : List Value), DqAll H vs ds → PyData.canLayAll0 ds = true → Vals vs us → ∃ as, ReadsAll s.heap us ds as
  | [], _, _, h, _, r => by
    cases h
    cases r
    exact ⟨_, .nil⟩
  | d :: ds, _, _, h, l, r => by
    cases h with
    | cons h1 h2 =>
      cases r with
      | cons r1 r2 =>
        have l' := Bool.and_eq_true_iff.mp (show (d.canLay0 && PyData.canLayAll0 ds) = true from l)
        obtain ⟨as, q1⟩ := Dq.reads0 I d _ _ h1 l'.1 r1
        obtain ⟨bs, q2⟩ := DqAll.reads0 I ds _ _ h2 l'.2 r2
        exact ⟨_, .cons q1 q2⟩
end
end
/-- x < y of data -/
def rLtD : R2 := fun x y H Q => ∃ d e, Dq H x d ∧ Dq H y e ∧ d.canLay0 = true ∧ e.canLay0 = true ∧ cmpD d e = true ∧ d.depth ≤ 20 ∧ Q (.bl (ltD d e)) H
theorem op_ltD {X : Cx} (hu : X.A.units + 64 < cLine) : OpR X (compareOp .Lt) rLtD := by
  intro pins s σ H x y v u Q I rx ry h
  obtain ⟨d, e, hd, he, ld, le, c, hn, q⟩ := h
  obtain ⟨as, r1⟩ := Dq.reads0 I d x v hd ld rx
  obtain ⟨bs, r2⟩ := Dq.reads0 I e y u he le ry
  exact lt_data 20 d e X.A s v u as bs hn r1 r2 ld le c (by omega) _ _ _ _ ⟨.bl (ltD d e), H, I, rfl, q⟩
theorem walk_zipT {K : PySem.W.Frag} {a b : Addr} {xs ys : List V} {n : Nat} (hn : n = min xs.length ys.length) : Walk (RZ.ItzT K a b) n (fun H => SqT K H a xs ∧ SqT K H b ys) (YPair (fun i => xs[i]?) (fun i => ys[i]?)) := by
  subst hn
  refine ⟨fun i _ hi q => ?_, fun _ q => ⟨xs, ys, q.1, q.2, by omega⟩, fun i H v H' _ q y => ?_⟩
  · have h1 : i < xs.length := by omega
    have h2 : i < ys.length := by omega
    exact ⟨xs, ys, xs[i], ys[i], q.1, q.2, by simp [h1], by simp [h2]⟩
  · obtain ⟨T, x, z, h1, h2, h3, h4, h5⟩ := y
    exact ⟨T, x, z, h1, h2, h3, h4 xs q.1, h5 ys q.2⟩
def ascTo (ds : List PyData) (j : Nat) : List Bool := (List.range j).map fun i => ltD (ds.getD i .none) (ds.getD (i + 1) .none)
def ascD (ds : List PyData) : Bool := (ascTo ds (ds.length - 1)).all id
/-- a slice of a list or of a tuple -/
def rSlX (K : PySem.W.Frag) : V → Option Int → Option Int → Hp → VK → Prop := fun x lo hi H Q => rSlL K x lo hi H Q ∨ rSlA K x lo hi H Q
theorem sl_any {X : Cx} : SlR X (rSlX X.K) := by
  intro pins s σ H x v vl vu lo hi sl Q I rx hs pl pu h
  rcases h with h | h
  · exact sl_list pins s σ H x v vl vu lo hi sl Q I rx hs pl pu h
  · exact sl_tupA pins s σ H x v vl vu lo hi sl Q I rx hs pl pu h
def spAsc : Sp := fun vs H Q _ => ∃ (a : Addr) (xs : List V) (ds : List PyData), vs = [.ref a] ∧ (H a = some (.lst xs) ∨ H a = some (.tup xs)) ∧ DqAll H xs ds ∧ ds.length ≤ 1000 ∧ PyData.canLayAll0 ds = true ∧ PyData.depthAll ds ≤ 20 ∧
  (∀ i, i + 1 < ds.length → cmpD (ds.getD i .none) (ds.getD (i + 1) .none) = true) ∧ ∀ H', Same H H' → Q (.bl (ascD ds)) H'
theorem getD_of {ds : List PyData} {i : Nat} {d : PyData} (h : ds[i]? = some d) : ds.getD i .none = d := by
  rw [List.getD_eq_getElem?_getD, h, Option.getD_some]
theorem six_one (n : Nat) : HT.sIx n 0 (some 1) = min 1 n := HT.sIx_nat n 0 1
theorem cut_tail (xs : List V) : cutV xs (some 1) none = xs.drop 1 := by
  unfold cutV
  rw [six_one, HT.sIx_none]
  cases xs with
  | nil => rfl
  | cons x r =>
    have e : min 1 (x :: r).length = 1 := by
      rw [List.length_cons]
      omega
    rw [e]
    exact List.take_of_length_le (by rw [List.length_drop]; omega)
end KL
set_option Elab.async false
set_option linter.all false
set_option maxRecDepth 100000
set_option maxHeartbeats 2000000
namespace KL
open PySem L2 PySem.Spec PyProof.Rows
def itemD (i : Nat) : PyData → PyData
  | .tuple ds => ds.getD i .none
  | _ => .none
def allD (f : PyData → Bool) : PyData → Bool
  | .tuple ds => ds.all f
  | _ => true
def itemsD : PyData → List PyData
  | .tuple ds => ds
  | _ => []
def isTupD : PyData → Bool
  | .tuple _ => true
  | _ => false
theorem tup_of {lo hi : Int} {d : PyData} (h : tupD lo hi d = true) : ∃ ds, d = .tuple ds ∧ lo ≤ (ds.length : Int) ∧ (ds.length : Int) ≤ hi := by
  cases d with
  | tuple ds =>
    have q := Bool.and_eq_true_iff.mp h
    exact ⟨ds, rfl, of_decide_eq_true q.1, of_decide_eq_true q.2⟩
  | _ => cases h
theorem at_some {ds : List PyData} {xs : List V} {H : Hp} (ha : DqAll H xs ds) {i : Nat} (hi : i < ds.length) : ∃ x, xs[i]? = some x ∧ ds[i]? = some (ds.getD i .none) ∧ Dq H x (ds.getD i .none) := by
  have h1 : i < xs.length := by rw [ha.len]; exact hi
  have e : xs[i]? = some xs[i] := List.getElem?_eq_getElem h1
  obtain ⟨d, hd, q⟩ := DqAll.at ha e
  rw [getD_of hd]
  exact ⟨_, e, hd, q⟩
theorem allD_map (f : PyData → Bool) (ds : List PyData) : (ds.map f).all id = allD f (.tuple ds) := by
  show (ds.map f).all id = ds.all f
  rw [List.all_map]
  rfl
theorem getD_map {f : PyData → PyData} {ds : List PyData} {i : Nat} (hi : i < ds.length) : (ds.map f).getD i .none = f (ds.getD i .none) := by
  rw [List.getD_eq_getElem?_getD, List.getElem?_map, List.getElem?_eq_getElem hi, List.getD_eq_getElem?_getD, List.getElem?_eq_getElem hi]
  rfl
theorem all_at {f : PyData → Bool} {ds : List PyData} (h : ds.all f = true) {i : Nat} (hi : i < ds.length) : f (ds.getD i .none) = true := by
  rw [List.getD_eq_getElem?_getD, List.getElem?_eq_getElem hi]
  exact List.all_eq_true.mp h _ (List.getElem_mem hi)
theorem bet_of {lo hi : Int} {d : PyData} (h : betD lo hi d = true) : ∃ i, d = .int i ∧ lo ≤ i ∧ i ≤ hi := by
  cases d with
  | int i =>
    have q := Bool.and_eq_true_iff.mp h
    exact ⟨i, rfl, of_decide_eq_true q.1, of_decide_eq_true q.2⟩
  | _ => cases h
end KL
set_option Elab.async false
set_option linter.all false
set_option maxRecDepth 100000
set_option maxHeartbeats 2000000
namespace PySem
namespace SeqAt
open AutoSeq1 (wpAny_loadPart')
open MeetsSeq
theorem str_eq_dict (b : Str) (u : Tok) (l : Addr) (c : Value) (es : Array DictEntry) (n : Nat) (dd : Option Addr) (sl : Array (Option Value)) :
    Meets (Builtin.«str.__eq__» ⟨[.str b u, .ref l], []⟩) (fun _ R s => s.heap.get? l = some { cls := c, dict := dd, data := .dict es n, slots := sl } ∧ R (.ok (.ret .notImplemented)) s) :=
  .of_wp fun prog w A R s h => by obtain ⟨hp, g, d, tk, os⟩ := s; obtain ⟨hl, h⟩ := h; wp_walk using wpAny_loadPart' hl, wpAny_load hl; exact ⟨_, rfl, h⟩
theorem str_ne_dict (b : Str) (u : Tok) (l : Addr) (c : Value) (es : Array DictEntry) (n : Nat) (dd : Option Addr) (sl : Array (Option Value)) :
    Meets (Builtin.«str.__ne__» ⟨[.str b u, .ref l], []⟩) (fun _ R s => s.heap.get? l = some { cls := c, dict := dd, data := .dict es n, slots := sl } ∧ R (.ok (.ret .notImplemented)) s) :=
  .of_wp fun prog w A R s h => by obtain ⟨hp, g, d, tk, os⟩ := s; obtain ⟨hl, h⟩ := h; wp_walk using wpAny_loadPart' hl, wpAny_load hl; exact ⟨_, rfl, h⟩
section
variable {A : Around} {s : Shared}
theorem dict_eq_str {prog : Program} {w : World} {E : Value → Shared → Prop} {l : Addr} {o : Obj} {es : Array DictEntry} {n : Nat} (b : Str) (u : Tok) (ho : s.heap.get? l = some o) (hc : o.cls = .type "dict") (Q' : Value → Shared → Prop) (h : Q' .notImplemented s) :
    wpAny (model prog w) A (call (.builtin "dict.__eq__") [.ref l, .str b u]) Q' E s := by
  have ht : s.TypeIs (.ref l) "dict" := ⟨o, ho, hc⟩
  refine wpAny_call_entry PySem.F.slot_dict_eq ht PySem.F.entry_dict_eq ?_ (PySem.F.args_dict_eq_2 _ _)
  show wpAny _ _ (Builtin.Dict.dictSlotArgs "__eq__" ⟨[.ref l, .str b u], []⟩ >>= _) _ _ s
  refine wpAny_bind ?_
  unfold Builtin.Dict.dictSlotArgs
  refine wpAny_bind (wpAny_notOrdered_dict ht ?_)
  show wpAny _ _ (pure (Value.ref l, Value.str b u)) _ _ s
  refine wpAny_pure ?_
  refine wpAny_bind (wpAny_isInstance (T := "str") (typeIs_str s b u) PySem.F.sub_str_dict ?_)
  simp only [Bool.not_false, if_true]
  exact wpAny_bind (wpAny_rule (wpAny_bind (wpAny_pure (wpAny_pure ⟨_, rfl, h⟩))))
theorem dict_ne_str {prog : Program} {w : World} {E : Value → Shared → Prop} {l : Addr} {o : Obj} {es : Array DictEntry} {n : Nat} (b : Str) (u : Tok) (ho : s.heap.get? l = some o) (hc : o.cls = .type "dict") (Q' : Value → Shared → Prop) (h : Q' .notImplemented s) :
    wpAny (model prog w) A (call (.builtin "dict.__ne__") [.ref l, .str b u]) Q' E s := by
  have ht : s.TypeIs (.ref l) "dict" := ⟨o, ho, hc⟩
  refine wpAny_call_entry PySem.F.slot_dict_ne ht PySem.F.entry_dict_ne ?_ (PySem.F.args_dict_ne_2 _ _)
  show wpAny _ _ (Builtin.Dict.dictSlotArgs "__ne__" ⟨[.ref l, .str b u], []⟩ >>= _) _ _ s
  refine wpAny_bind ?_
  unfold Builtin.Dict.dictSlotArgs
  refine wpAny_bind (wpAny_notOrdered_dict ht ?_)
  show wpAny _ _ (pure (Value.ref l, Value.str b u)) _ _ s
  refine wpAny_pure ?_
  refine wpAny_bind (wpAny_isInstance (T := "str") (typeIs_str s b u) PySem.F.sub_str_dict ?_)
  simp only [Bool.not_false, if_true]
  exact wpAny_bind (wpAny_rule (wpAny_bind (wpAny_pure (wpAny_pure ⟨_, rfl, h⟩))))
theorem RcAt.str_dict {l : Addr} {cl : Value} {dd : Option Addr} {es : Array DictEntry} {n : Nat} {sl : Array (Option Value)} (b : Str) (u : Tok) (ho : s.heap.get? l = some ⟨.type "dict", dd, .dict es n, sl⟩) (hu : A.units < cLine) : RcAt A s (.str b u) (.ref l) false := fun prog w E Q h =>
  rc_eq_decline_or (k := false) (typeIs_str s b u) ⟨_, ho, rfl⟩ (by decide) F.sub_dict_str F.slot_str_eq F.slot_dict_eq_refl
    (fun _ hq => call_meets F.slot_str_eq (typeIs_str s b u) F.entry_str_eq (F.args_str_eq_2 _ _) (str_eq_dict b u l (.type "dict") es n dd sl) ⟨ho, hq⟩)
    (fun _ hq => dict_eq_str (es := es) (n := n) b u ho rfl _ hq)
    (fun _ hq => wpAny_of_eq (rfl : isSame (.str b u) (.ref l) = pure false) hq) (.inr hu) h
theorem EqAt.str_dict {l : Addr} {dd : Option Addr} {es : Array DictEntry} {n : Nat} {sl : Array (Option Value)} (b : Str) (u : Tok) (ho : s.heap.get? l = some ⟨.type "dict", dd, .dict es n, sl⟩) (hu : A.units < cLine) : EqAt A s (.str b u) (.ref l) false := fun prog w E Q h => by
  unfold eqBool
  refine wpAny_holding ?_
  refine wpAny_ite_split (fun hab => absurd (eq_of_beq hab) nofun) (fun _ => ?_)
  exact wpAny_bind (RcAt.str_dict (cl := .none) b u ho hu prog w E _ (wpAny_truthy_bool h))
theorem RcAt.dict_str {l : Addr} {dd : Option Addr} {es : Array DictEntry} {n : Nat} {sl : Array (Option Value)} (b : Str) (u : Tok) (ho : s.heap.get? l = some ⟨.type "dict", dd, .dict es n, sl⟩) (hu : A.units < cLine) : RcAt A s (.ref l) (.str b u) false := fun prog w E Q h =>
  rc_eq_decline_or (k := false) ⟨_, ho, rfl⟩ (typeIs_str s b u) (by decide) F.sub_str_dict F.slot_dict_eq F.slot_str_eq_refl
    (fun _ hq => dict_eq_str (es := es) (n := n) b u ho rfl _ hq)
    (fun _ hq => call_meets F.slot_str_eq_refl (typeIs_str s b u) F.entry_str_eq (F.args_str_eq_2 _ _) (str_eq_dict b u l (.type "dict") es n dd sl) ⟨ho, hq⟩)
    (fun _ hq => wpAny_of_eq (rfl : isSame (.ref l) (.str b u) = pure false) hq) (.inr hu) h
theorem RcNeAt.dict_str {l : Addr} {dd : Option Addr} {es : Array DictEntry} {n : Nat} {sl : Array (Option Value)} (b : Str) (u : Tok) (ho : s.heap.get? l = some ⟨.type "dict", dd, .dict es n, sl⟩) (hu : A.units < cLine) : RcNeAt A s (.ref l) (.str b u) true := fun prog w E Q h =>
  rc_ne_decline_or (k := false) ⟨_, ho, rfl⟩ (typeIs_str s b u) (by decide) F.sub_str_dict F.slot_dict_ne F.slot_str_ne_refl
    (fun _ hq => dict_ne_str (es := es) (n := n) b u ho rfl _ hq)
    (fun _ hq => call_meets F.slot_str_ne_refl (typeIs_str s b u) F.entry_str_ne (F.args_str_ne_2 _ _) (str_ne_dict b u l (.type "dict") es n dd sl) ⟨ho, hq⟩)
    (fun _ hq => wpAny_of_eq (rfl : isSame (.ref l) (.str b u) = pure false) hq) (.inr hu) h
end
end SeqAt
end PySem
namespace KL
open PySem L2 PySem.Spec PyProof.Rows
/-- whether a thing is this text -/
def isStrD (x : Str) : PyData → Bool
  | .str y => x == y
  | _ => false
section
variable {A : Around} {s : Shared}
theorem eqAt_str {v : Value} {d : PyData} {as : List Addr} (b : Str) (u : Tok) (r : Reads s.heap v d as) (hu : A.units < cLine) : SeqAt.EqAt A s (.str b u) v (isStrD b d) := by
  cases r with
  | none => exact .str_none b u
  | bool k => exact .str_bool b u k
  | int i t => exact .str_int b u i t
  | str x t => exact .str_str b u x t
  | list k1 k2 k3 k4 => exact .str_list b u ⟨_, k1, k2, _, k3⟩ hu
  | tuple k1 k2 k3 k4 => exact .str_tuple b u ⟨_, k1, k2, _, k3⟩ hu
  | dict k1 k2 k3 k4 k5 =>
    rename_i o _ _ _ _ _
    obtain ⟨cl, dd, dt, sl⟩ := o

    subst k2 k3
    exact .str_dict b u k1 hu
theorem rcAt_str {v : Value} {d : PyData} {as : List Addr} (b : Str) (u : Tok) (r : Reads s.heap v d as) (hu : A.units < cLine) : SeqAt.RcAt A s v (.str b u) (isStrD b d) := by
  cases r with
  | none => exact .none_str b u
  | bool k => exact .bool_str k b u
  | int i t => exact .int_str i t b u
  | str x t =>
    have q := SeqAt.RcAt.str_str (A := A) (s := s) x t b u
    have e : (x == b) = isStrD b (.str x) := by
      show (x == b) = (b == x)
      exact Bool.beq_comm
    rwa [e] at q
  | list k1 k2 k3 k4 => exact .list_str b u ⟨_, k1, k2, _, k3⟩ hu
  | tuple k1 k2 k3 k4 => exact .tuple_str b u ⟨_, k1, k2, _, k3⟩ hu
  | dict k1 k2 k3 k4 k5 =>
    rename_i o _ _ _ _ _
    obtain ⟨cl, dd, dt, sl⟩ := o

    subst k2 k3
    exact .dict_str b u k1 hu
theorem rcNeAt_str {v : Value} {d : PyData} {as : List Addr} (b : Str) (u : Tok) (r : Reads s.heap v d as) (hu : A.units < cLine) : SeqAt.RcNeAt A s v (.str b u) (!isStrD b d) := by
  cases r with
  | none => exact .none_str b u
  | bool k => exact .bool_str k b u
  | int i t => exact .int_str i t b u
  | str x t =>
    have q := SeqAt.RcNeAt.str_str (A := A) (s := s) x t b u
    have e : (x == b) = isStrD b (.str x) := by
      show (x == b) = (b == x)
      exact Bool.beq_comm
    rwa [e] at q
  | list k1 k2 k3 k4 => exact .list_str b u ⟨_, k1, k2, _, k3⟩ hu
  | tuple k1 k2 k3 k4 => exact .tuple_str b u ⟨_, k1, k2, _, k3⟩ hu
  | dict k1 k2 k3 k4 k5 =>
    rename_i o _ _ _ _ _
    obtain ⟨cl, dd, dt, sl⟩ := o

    subst k2 k3
    exact .dict_str b u k1 hu
end
end KL
set_option Elab.async false
set_option linter.all false
set_option maxRecDepth 100000
set_option maxHeartbeats 2000000
namespace KL
open PySem L2 PySem.Spec PyProof.Rows
def isTop : PyData → Bool
  | .dict _ => true
  | _ => false
section
variable {X : Cx} {pins : List (Addr × Obj)} {σ : L2.St} {H : Hp} {s : Shared}
mutual
theorem Dq.reads (I : Inv X pins σ H s) : ∀ (d : PyData) (v : V) (u : Value), Dq H v d → RelV v u → ∃ as, Reads s.heap u d as ∧ (isTop d = true → sysModules ∉ as)
  | .none, _, _, h, r => by
    cases h
    cases r
    exact ⟨_, .none, fun z => by cases z⟩
  | .bool b, _, _, h, r => by
    cases h
    cases r
    exact ⟨_, .bool b, fun z => by cases z⟩
  | .int i, _, _, h, r => by
    cases h
    obtain ⟨t, rfl⟩ := r
    exact ⟨_, .int i t, fun z => by cases z⟩
  | .str x, _, _, h, r => by
    cases h
    obtain ⟨t, rfl⟩ := r
    exact ⟨_, .str x t, fun z => by cases z⟩
  | .list ds, _, _, h, r => by
    cases h with
    | lst q ha =>
      cases r
      obtain ⟨_, its, n, rv, ho⟩ := I.hok _ _ q
      obtain ⟨as, hr⟩ := DqAll.reads I ds _ its ha rv
      exact ⟨_, .list ho rfl rfl hr, fun z => by cases z⟩
  | .tuple ds, _, _, h, r => by
    cases h with
    | tup q ha =>
      cases r
      obtain ⟨_, its, rv, o, h1, h2, n, h3⟩ := I.hok _ _ q
      obtain ⟨as, hr⟩ := DqAll.reads I ds _ its ha rv
      exact ⟨_, .tuple h1 h2 h3 hr, fun z => by cases z⟩
  | .dict kvs, _, _, h, r => by
    cases h with
    | dct0 q =>
      cases r
      obtain ⟨_, ns, vs, rv, o, es, ep, h1, h2, h3, _, h5, _⟩ := I.hok _ _ q
      cases rv
      have e0 : es.toList = [] := by
        cases e : es.toList with
        | nil => rfl
        | cons x y =>
          rw [e] at h5
          cases h5
      refine ⟨_, .dict h1 h2.1 h3 (as := []) (bs := []) (by rw [e0]; exact .nil) (by rw [e0]; exact .nil), fun _ z => ?_⟩
      simp at z
      rw [← z] at ns
      simp at ns
    | @dct1 a0 x0 i0 q =>
      cases r
      obtain ⟨_, ns, vs, rv, o, es, ep, h1, h2, h3, _, h5, _⟩ := I.hok _ _ q
      cases rv with
      | cons r1 r2 =>
        cases r2
        obtain ⟨r1, t, r3⟩ := r1
        have e1 : ∃ (e : DictEntry) (tk : Tok), es.toList = [e] ∧ e.key = .str x0 tk ∧ e.val = .int i0 t := by
          generalize es.toList = L at h5
          cases h5 with
          | cons k1 k2 k3 =>
            rename_i e es'
            cases k3
            have k1 : keyIs _ _ = true := k1
            rw [← r1] at k1
            rcases keyIs_shape k1 with ⟨_, _, z, _⟩ | ⟨y, tk, z, z2⟩
            · cases z
            · cases z
              exact ⟨e, tk, rfl, z2, k2.trans r3⟩
        obtain ⟨e, tk, e1, e2, e3⟩ := e1
        refine ⟨_, .dict h1 h2.1 h3 (as := [] ++ []) (bs := [] ++ []) ?_ ?_, fun _ z => ?_⟩
        · rw [e1, List.map_cons, e2]
          exact .cons (.str _ tk) .nil
        · rw [e1, List.map_cons, e3]
          exact .cons (.int _ t) .nil
        · simp at z
          rw [← z] at ns
          simp at ns
theorem DqAll.reads (I : Inv X pins σ H s) : ∀ (ds : List PyData) (vs : List V) (us : List Value), DqAll H vs ds → Vals vs us → ∃ as, ReadsAll s.heap us ds as
  | [], _, _, h, r => by
    cases h
    cases r
    exact ⟨_, .nil⟩
  | d :: ds, _, _, h, r => by
    cases h with
    | cons h1 h2 =>
      cases r with
      | cons r1 r2 =>
        obtain ⟨as, q1, _⟩ := Dq.reads I d _ _ h1 r1
        obtain ⟨bs, q2⟩ := DqAll.reads I ds _ _ h2 r2
        exact ⟨_, .cons q1 q2⟩
end
end
/-- x == y, y a text -/
def rEqStr (y0 : Bool) : R2 := fun x y H Q => ∃ d t, Dq H x d ∧ y = .str t ∧ Q (.bl (if y0 = true then isStrD t d else !isStrD t d)) H
section
variable {X : Cx}
theorem op_eqStr (hu : X.A.units + 64 < cLine) : OpR X (compareOp .Eq) (rEqStr true) := by
  intro pins s σ H x y v u Q I rx ry h
  obtain ⟨d, t, hd, rfl, q⟩ := h
  obtain ⟨as, r, _⟩ := Dq.reads I d x v hd rx
  obtain ⟨tk, rfl⟩ := ry
  exact rcAt_str t tk r (by omega) _ _ _ _ ⟨.bl _, H, I, rfl, q⟩
theorem op_neStr (hu : X.A.units + 64 < cLine) : OpR X (compareOp .NotEq) (rEqStr false) := by
  intro pins s σ H x y v u Q I rx ry h
  obtain ⟨d, t, hd, rfl, q⟩ := h
  obtain ⟨as, r, _⟩ := Dq.reads I d x v hd rx
  obtain ⟨tk, rfl⟩ := ry
  exact rcNeAt_str t tk r (by omega) _ _ _ _ ⟨.bl _, H, I, rfl, q⟩
end
/-- a text among texts -/
def strIs : PyData → PyData → Bool
  | .str x, d => isStrD x d
  | _, _ => false
def inD (es : List PyData) (d : PyData) : Bool := es.any fun e => strIs e d
def strB : PyData → Bool
  | .str _ => true
  | _ => false
def allStr (es : List PyData) : Bool := es.all strB
def vStr (d : PyData) : Value → Bool
  | .str x _ => isStrD x d
  | _ => false
theorem any_str {H : Hp} {d : PyData} : ∀ {es : List PyData} {ys : List V} {us : List Value}, DqAll H ys es → Vals ys us → allStr es = true → us.any (vStr d) = inD es d ∧ ∀ u ∈ us, ∃ x t, u = .str x t
  | [], _, _, h, r, _ => by
    cases h
    cases r
    exact ⟨rfl, fun u hu => by simp at hu⟩
  | e :: es, _, _, h, r, a => by
    cases h with
    | cons h1 h2 =>
      cases r with
      | cons r1 r2 =>
        rename_i u us
        have a' := Bool.and_eq_true_iff.mp (show (strB e && allStr es) = true from a)
        obtain ⟨q1, q2⟩ := any_str (d := d) h2 r2 a'.2
        cases h1 with
        | str x =>
          obtain ⟨t, rfl⟩ := r1
          refine ⟨?_, fun u' hu => ?_⟩
          · show (vStr d (.str x t) || us.any (vStr d)) = _
            rw [q1]
            rfl
          · rcases List.mem_cons.mp hu with rfl | hu
            · exact ⟨x, t, rfl⟩
            · exact q2 u' hu
        | _ => exact absurd a'.1 (by simp [strB])
def rInStr (neg : Bool) : R2 := fun x y H Q => ∃ d p ys es, Dq H x d ∧ y = .ref p ∧ H p = some (.lst ys) ∧ DqAll H ys es ∧ allStr es = true ∧ Q (.bl (if neg = true then !inD es d else inD es d)) H
section
variable {X : Cx}
theorem op_inStr (hu : X.A.units + 64 < cLine) : OpR X (compareOp .In) (rInStr false) := by
  intro pins s σ H x y v u Q I rx ry h
  obtain ⟨d, p, ys, es, hd, rfl, hp, he, ha, q⟩ := h
  obtain ⟨as, r, _⟩ := Dq.reads I d x v hd rx
  cases (show u = Value.ref p from ry)
  obtain ⟨_, its, n, rv, ho⟩ := I.hok _ _ hp
  obtain ⟨q1, q2⟩ := any_str (d := d) he rv ha
  refine SeqAt.in_listAt (vStr d) ⟨_, ho, rfl, n, rfl⟩ (fun y hy => ?_) ⟨.bl _, H, I, rfl, ?_⟩
  · obtain ⟨z, t, rfl⟩ := q2 y (by simpa using hy)
    exact eqAt_str z t r (by show X.A.units + 1 < cLine; omega)
  · rw [List.any_toArray, q1]
    exact q
theorem op_notInStr (hu : X.A.units + 64 < cLine) : OpR X (compareOp .NotIn) (rInStr true) := by
  intro pins s σ H x y v u Q I rx ry h
  obtain ⟨d, p, ys, es, hd, rfl, hp, he, ha, q⟩ := h
  obtain ⟨as, r, _⟩ := Dq.reads I d x v hd rx
  cases (show u = Value.ref p from ry)
  obtain ⟨_, its, n, rv, ho⟩ := I.hok _ _ hp
  obtain ⟨q1, q2⟩ := any_str (d := d) he rv ha
  refine SeqAt.notIn_listAt (vStr d) ⟨_, ho, rfl, n, rfl⟩ (fun y hy => ?_) ⟨.bl _, H, I, rfl, ?_⟩
  · obtain ⟨z, t, rfl⟩ := q2 y (by simpa using hy)
    exact eqAt_str z t r (by show X.A.units + 1 < cLine; omega)
  · rw [List.any_toArray, q1]
    exact q
end
theorem DqAll.snoc {H : Hp} : ∀ {es : List PyData} {ys : List V} {y : V} {e : PyData}, DqAll H ys es → Dq H y e → DqAll H (ys ++ [y]) (es ++ [e])
  | [], _, _, _, h, q => by
    cases h
    exact .cons q .nil
  | _ :: _, _, _, _, h, q => by
    cases h with
    | cons h1 h2 => exact .cons h1 (DqAll.snoc h2 q)
/-- a comprehension that has made these data so far -/
def MadeQ (H0 : Hp) (D : Addr) (es : List PyData) (H : Hp) : Prop := Same H0 H ∧ ∃ ys, H D = some (.lst ys) ∧ DqAll H0 ys es
theorem MadeQ.start {H0 : Hp} {D : Addr} (nD : H0 D = none) : MadeQ H0 D [] (upd H0 D (.lst [])) := ⟨same_new nD, [], upd_same, .nil⟩
theorem MadeQ.turn {H0 H H' : Hp} {D : Addr} {g : PyData → PyData} {ds : List PyData} {i : Nat} {d : PyData} {y : V} (hD : H0 D = none) (M : MadeQ H0 D ((ds.take i).map g) H) (S : Same H H') (hl : ds.length ≤ 1000) (h : ds[i]? = some d) (q : Dq H0 y (g d)) :
    ∃ acc, H' D = some (.lst acc) ∧ acc.length < sizeLine ∧ MadeQ H0 D ((ds.take (i + 1)).map g) (upd H' D (.lst (acc ++ [y]))) := by
  obtain ⟨S0, ys, hy, hq⟩ := M
  refine ⟨ys, S _ _ hy, ?_, fun x o e => ?_, ys ++ [y], upd_same, ?_⟩
  · rw [hq.len, List.length_map, List.length_take]
    exact Nat.lt_of_le_of_lt (Nat.le_trans (Nat.min_le_right _ _) hl) (by rw [sizeLine_eq]; omega)
  · have nx : x ≠ D := fun z => by
      rw [z, hD] at e
      cases e
    rw [upd_ne nx]
    exact S _ _ (S0 _ _ e)
  · rw [take_map h]
    exact hq.snoc q
theorem find_at {p : PyData → Bool} : ∀ {ds : List PyData} {i : Nat} {d : PyData}, (ds.take i).all p = true → ds[i]? = some d → p d = false → (ds.find? fun x => !p x) = some d
  | [], _, _, _, e, _ => by simp at e
  | x :: ds, 0, d, _, e, h => by
    simp at e
    subst e
    rw [List.find?_cons_of_pos]
    simp [h]
  | x :: ds, i + 1, d, a, e, h => by
    have a' := Bool.and_eq_true_iff.mp (show (p x && (ds.take i).all p) = true from a)
    rw [List.find?_cons_of_neg (by simp [a'.1])]
    exact find_at a'.2 (by simpa using e) h
theorem find_none {p : PyData → Bool} {ds : List PyData} (a : ds.all p = true) : (ds.find? fun x => !p x) = none := by
  rw [List.find?_eq_none]
  intro x hx
  simp [List.all_eq_true.mp a x hx]
theorem take_all {p : PyData → Bool} {ds : List PyData} {i : Nat} {d : PyData} (a : (ds.take i).all p = true) (e : ds[i]? = some d) (h : p d = true) : (ds.take (i + 1)).all p = true := by
  rw [List.take_add_one, e, List.all_append, a]
  simp [h]
/-- a comprehension that has made these data so far, some of them new -/
def MadeN (H0 : Hp) (D : Addr) (es : List PyData) (H : Hp) : Prop := ∃ (J : Hp) (ys : List V), Same H0 J ∧ J D = none ∧ Same J H ∧ H D = some (.lst ys) ∧ DqAll J ys es
theorem MadeN.start {H0 : Hp} {D : Addr} (nD : H0 D = none) : MadeN H0 D [] (upd H0 D (.lst [])) := ⟨H0, [], Same.refl _, nD, same_new nD, upd_same, .nil⟩
theorem MadeN.same {H0 H : Hp} {D : Addr} {es : List PyData} (M : MadeN H0 D es H) : Same H0 H := by
  obtain ⟨J, ys, S0, _, S1, _⟩ := M
  exact S0.trans S1
theorem MadeN.turn {H0 H : Hp} {D p : Addr} {es ds : List PyData} {us : List V} (M : MadeN H0 D es H) (np : H p = none) (q : DqAll H0 us ds) :
    ∃ acc, upd H p (.tup us) D = some (.lst acc) ∧ acc.length = es.length ∧ MadeN H0 D (es ++ [.tuple ds]) (upd (upd H p (.tup us)) D (.lst (acc ++ [.ref p]))) := by
  obtain ⟨J, ys, S0, nD, S1, hD, hq⟩ := M
  have pD : p ≠ D := fun z => by
    rw [z, hD] at np
    cases np
  have nJ : J p = none := by
    cases e : J p with
    | none => rfl
    | some o =>
      rw [S1 _ _ e] at np
      cases np
  have SJ := same_new (o := .tup us) nJ
  refine ⟨ys, by rw [upd_ne pD.symm]; exact hD, hq.len, upd J p (.tup us), ys ++ [.ref p], S0.trans SJ, by rw [upd_ne pD.symm]; exact nD, fun b o e => ?_, upd_same, ?_⟩
  · have bD : b ≠ D := fun z => by
      rw [z, upd_ne pD.symm, nD] at e
      cases e
    rw [upd_ne bD]
    by_cases bp : b = p
    · subst bp
      rw [upd_same] at e ⊢
      exact e
    · rw [upd_ne bp] at e ⊢
      exact S1 _ _ e
  · exact (DqAll.same SJ _ _ hq).snoc (.tup upd_same (DqAll.same (S0.trans SJ) _ _ q))
theorem DqAll.take {H : Hp} : ∀ {ds : List PyData} {xs : List V} (n : Nat), DqAll H xs ds → DqAll H (xs.take n) (ds.take n)
  | [], _, n, h => by
    cases h
    simp
    exact .nil
  | _ :: _, _, 0, h => .nil
  | _ :: _, _, n + 1, h => by
    cases h with
    | cons q r => exact .cons q (DqAll.take n r)
theorem cut_two (xs : List V) (h : 2 ≤ xs.length) : cutV xs none (some 2) = xs.take 2 := by
  unfold cutV
  rw [HT.sIx_none, show HT.sIx xs.length xs.length (some 2) = min 2 xs.length from HT.sIx_nat xs.length xs.length 2]
  rw [List.drop_zero, Nat.sub_zero, Nat.min_eq_left h]
theorem not_whole (xs : List V) (h : 2 < xs.length) : ¬ (HT.sIx xs.length 0 none = 0 ∧ HT.sIx xs.length xs.length (some 2) = xs.length) := fun z => by
  have q := z.2
  rw [show HT.sIx xs.length xs.length (some 2) = min 2 xs.length from HT.sIx_nat xs.length xs.length 2] at q
  omega
theorem isT_of {d : PyData} (h : isTupD d = true) : ∃ ds, d = .tuple ds := by
  cases d with
  | tuple ds => exact ⟨ds, rfl⟩
  | _ => cases h
theorem int_of {d : PyData} (h : intD d = true) : ∃ i, d = .int i := by
  cases d with
  | int i => exact ⟨i, rfl⟩
  | _ => cases h
theorem bool_ft (b : Bool) : b = false ∨ b = true := by cases b <;> simp
end KL
set_option Elab.async false
set_option linter.all false
set_option maxRecDepth 100000
set_option maxHeartbeats 2000000
namespace KL
open PySem L2 PySem.Spec PyProof.Rows
/-! ### sorted(xs) of a list of data that can be compared -/
def pairD (p : V × PyData) : PyData := p.2
def ItemQ (H : Hp) (u : Value) (p : V × PyData) : Prop := RelV p.1 u ∧ Dq H p.1 p.2
theorem each_items {H : Hp} : ∀ {ds : List PyData} {xs : List V} {us : List Value}, DqAll H xs ds → Vals xs us → PySem.W.EachIs (ItemQ H) us (xs.zip ds)
  | [], _, _, h, r => by
    cases h
    cases r
    exact .nil
  | d :: ds, _, _, h, r => by
    cases h with
    | cons h1 h2 =>
      cases r with
      | cons r1 r2 => exact .cons ⟨r1, h1⟩ (each_items h2 r2)
theorem each_reads {X : Cx} {pins : List (Addr × Obj)} {σ : L2.St} {H : Hp} {s : Shared} (I : Inv X pins σ H s) : ∀ {ds : List PyData} {xs : List V} {us : List Value}, DqAll H xs ds → Vals xs us → PyData.canLayAll0 ds = true → PySem.W.EachIs (fun u p => ∃ as, Reads s.heap u (pairD p) as) us (xs.zip ds)
  | [], _, _, h, r, _ => by
    cases h
    cases r
    exact .nil
  | d :: ds, _, _, h, r, l => by
    cases h with
    | cons h1 h2 =>
      cases r with
      | cons r1 r2 =>
        have l' := Bool.and_eq_true_iff.mp (show (d.canLay0 && PyData.canLayAll0 ds) = true from l)
        exact .cons (Dq.reads0 I d _ _ h1 l'.1 r1) (each_reads I h2 r2 l'.2)
theorem vals_of_each {H : Hp} : ∀ {us : List Value} {zs : List (V × PyData)}, PySem.W.EachIs (ItemQ H) us zs → Vals (zs.map (·.1)) us ∧ DqAll H (zs.map (·.1)) (zs.map (·.2))
  | _, _, .nil => ⟨.nil, .nil⟩
  | _, _, .cons h t => by
    obtain ⟨q1, q2⟩ := vals_of_each t
    exact ⟨.cons h.1 q1, .cons h.2 q2⟩
theorem zip_snd : ∀ {ds : List PyData} {xs : List V}, xs.length = ds.length → (xs.zip ds).map (·.2) = ds
  | [], [], _ => rfl
  | d :: ds, x :: xs, h => by
    show d :: (xs.zip ds).map (·.2) = d :: ds
    rw [zip_snd (ds := ds) (xs := xs) (Nat.succ.inj h)]
/-- the order of sorted -/
def leD : PyData → PyData → Bool := PySem.W.dataLe false id
def rSortedQ (K : PySem.W.Frag) : List V → Hp → VK → Prop := fun vs H Q => ∃ (Hd : Hp) (a : Addr) (xs : List V) (ds : List PyData), vs = [V.ref a] ∧ SqL K H a xs ∧ Same Hd H ∧ DqAll Hd xs ds ∧ PyData.canLayAll0 ds = true ∧ PySem.W.AllAlike ds ∧ PySem.W.Sortable ds ∧ PyData.depthAll ds ≤ 20 ∧
  ∀ (ys : List V) (p : Addr), DqAll Hd ys (ds.mergeSort leD) → H p = none → Q (.ref p) (upd H p (.lst ys))
theorem depth_mem1 : ∀ {ds : List PyData} {d : PyData}, d ∈ ds → d.depth ≤ PyData.depthAll ds
  | e :: ds, d, h => by
    show d.depth ≤ max e.depth (PyData.depthAll ds)
    rcases List.mem_cons.mp h with rfl | h
    · exact Nat.le_max_left _ _
    · exact Nat.le_trans (depth_mem1 h) (Nat.le_max_right _ _)
theorem sort_snd (zs : List (V × PyData)) : (zs.mergeSort (PySem.W.dataLe false pairD)).map (·.2) = (zs.map (·.2)).mergeSort leD := by
  rw [List.map_mergeSort]
  intro a _ b _
  rfl
theorem cr_sortedQ {X : Cx} (hu : X.A.units + 64 < cLine) : CallR X (.builtin "sorted") (rSortedQ X.K) := by
  intro pins s σ H vs us Q I r h
  obtain ⟨Hd, a, xs, ds, rfl, hs, S, hd, lay, al, so, dp, q⟩ := h
  obtain ⟨its, rv, hl, hz⟩ := I.list hs
  rw [Vals.ref1 r]
  have len := hd.len
  have e2 := zip_snd len
  have zl : (xs.zip ds).length = ds.length := by rw [List.length_zip, len, Nat.min_self]
  have e3 : (xs.zip ds).map pairD = ds := e2
  refine PySem.W.sorted_data (R := ItemQ Hd) (enc := pairD) (bs := xs.zip ds) hl.isList (each_items hd rv) (each_reads I (DqAll.same S _ _ hd) rv lay) (by rw [e3]; exact al) (by rw [e3]; exact so) (by rw [zl, ← len]; exact hz) (fun b hb => ?_) (fun out lo ho => ?_)
  · have hm : pairD b ∈ ds := by
      rw [← e3]
      exact List.mem_map.mpr ⟨b, hb, rfl⟩
    have := depth_mem1 hm
    omega
  · obtain ⟨q1, q2⟩ := vals_of_each ho
    rw [sort_snd, e2] at q2
    obtain ⟨ep, he'⟩ := PyProof.Rows.sortedAll_at s.heap its out.toArray
    have hlen : (((xs.zip ds).mergeSort (PySem.W.dataLe false pairD)).map (·.1)).length ≤ sizeLine := by
      rw [List.length_map, List.length_mergeSort, zl, ← len]
      exact hz
    exact ⟨.ref _, upd H (s.heap.objs.size + 1) (.lst _), I.laid (t' := s.toks) (fun _ _ => PyProof.Rows.sortedAll_old) (Nat.le_succ _) ⟨hlen, out, ep, q1, he'⟩, rfl, q _ _ q2 (I.hok.fresh (Nat.le_succ _))⟩
end KL
set_option Elab.async false
set_option linter.all false
set_option maxRecDepth 100000
set_option maxHeartbeats 4000000
namespace KL
open PySem L2 PySem.Spec PyProof.Rows
/-! ### xs.extend(t), t a tuple -/
theorem ext_tup (l : Addr) (us : Array Value) (n : Nat) (b : Addr) (ws : Array Value) (m : Nat) (dd : Option Addr) (sl : Array (Option Value)) (c0 : ¬(!us.isEmpty && Builtin.List.listTooLong (us.size + ws.size)) = true) (c1 : us.size ≤ sizeLine) (c2 : us.size + ws.size ≤ sizeLine + 1) :
    Meets (Builtin.«list.extend» ⟨[.ref l, .ref b], []⟩) (fun _ R s => s.heap.get? l = some { cls := .type "list", dict := none, data := .seq us n, slots := #[] } ∧ s.heap.get? b = some ⟨.type "tuple", dd, .seq ws m, sl⟩ ∧
      R (.ok (.ret .none)) { s with heap := s.heap.update l (Obj.mapSeq fun x => x ++ ws), toks := s.toks }) :=
  .of_wp fun prog w A R s hh => by
    obtain ⟨hp, g, d, tk, os⟩ := s
    obtain ⟨hl, hb, hh⟩ := hh
    have f3 := AutoSeq1.sub_list_list
    have f4 := AutoSeq1.sub_tuple_list
    have f2 := AutoSeq1.sub_tuple_tuple
    have f5 := AutoSeq1.sub_list_tuple
    have z : (us ++ ws).size ≤ sizeLine + 1 := by
      rw [Array.size_append]
      exact c2
    wp_walk using (wpAny_updateSeq hl rfl (hz := c1) (_hz' := z)), AutoSeq1.wpAny_loadPart' hl, AutoSeq1.wpAny_loadPart' hb
    exact ⟨_, rfl, hh⟩
def rExtT (K : PySem.W.Frag) : V → List V → Hp → VK → Prop := fun x vs H Q => ∃ l b xs zs, x = .ref l ∧ vs = [.ref b] ∧ H l = some (.lst xs) ∧ SqT K H b zs ∧ xs.length + zs.length ≤ sizeLine ∧ Q .non (upd H l (.lst (xs ++ zs)))
theorem mt_extT {X : Cx} : MtM X "list.extend" (rExtT X.K) := by
  intro pins s σ H x vs v us Q I rx rv h
  obtain ⟨l, b, xs, zs, rfl, rfl, hH, hB, hz, q⟩ := h
  cases rx
  obtain ⟨u, rfl, ru⟩ := rv.one
  cases ru
  obtain ⟨z, its, n, r, hl, e⟩ := I.lstM hH
  obtain ⟨its2, r2, ⟨⟨cls, dd, data, sl⟩, ho, hc, m, hd⟩, hs⟩ := I.tuple hB
  simp only at hc hd
  subst hc hd
  have s1 : its.toArray.size = xs.length := by rw [List.size_toArray, r.length]
  have s2 : its2.toArray.size = zs.length := by rw [List.size_toArray, r2.length]
  have hsz : its.toArray.size + its2.toArray.size ≤ sizeLine := by omega
  have hlong : ¬ (!its.toArray.isEmpty && Builtin.List.listTooLong (its.toArray.size + its2.toArray.size)) = true := by
    rw [notLongL hsz, Bool.and_false]
    exact Bool.false_ne_true
  refine call_meets F.slot_list_extend ⟨_, e, rfl⟩ F.entry_list_extend (F.args_list_extend_2 _ _) (ext_tup l its.toArray n b its2.toArray m dd sl hlong (by omega) (by omega)) ⟨e, ho, ?_⟩
  refine ⟨.non, _, I.lset (its' := its ++ its2) hH e (by simp) (r.append r2) ?_, rfl, q⟩
  rw [List.length_append]
  exact hz
/-! ### dict(xs), xs a list of pairs whose keys are tuples of ints and texts -/
def mergeT (kvs more : List (List Key × V)) : List (List Key × V) := more.foldl (fun acc kv => putK acc kv.1 kv.2) kvs
def rDictT (K : PySem.W.Frag) : List V → Hp → VK → Prop := fun xs H Q => ∃ (a : Addr) (ps : List Addr) (kvs : List (List Key × V)), xs = [.ref a] ∧ SqL K H a (ps.map V.ref) ∧
  Paired (fun p kv => ∃ b, SqT K H p [.ref b, kv.2] ∧ H b = some (.tup (kv.1.map kV))) ps kvs ∧ ∀ p, H p = none → Q (.ref p) (upd H p (.dT (mergeT [] kvs)))
section
variable {X : Cx}
theorem pairs_ofT {pins : List (Addr × Obj)} {σ : L2.St} {H : Hp} {s : Shared} (I : Inv X pins σ H s) : ∀ {ps : List Addr} {kvs : List (List Key × V)}, Paired (fun p kv => ∃ b, SqT X.K H p [.ref b, kv.2] ∧ H b = some (.tup (kv.1.map kV))) ps kvs →
    ∃ xs : List (List Key × Addr × Value), KT H kvs xs ∧ xs.length = ps.length ∧ ∀ (j : Nat) (q : List Key × Addr × Value), xs[j]? = some q → ∃ p, ps[j]? = some p ∧ IsTup s.heap p #[.ref q.2.1, q.2.2] ∧ (tupleKind (mixKind X.prog X.w)).is s.heap q.1 q.2.1
  | _, _, .nil => ⟨[], .nil, rfl, fun j q e => by simp at e⟩
  | _, _, .cons (a := p) (b := kv) h t => by
    obtain ⟨xs, r, hl, hp⟩ := pairs_ofT I t
    obtain ⟨b, h, hb⟩ := h
    obtain ⟨its, rv, ht, _⟩ := I.tuple h
    obtain ⟨u, y, ei, ru, ry⟩ := vals2 rv
    subst ei
    cases (show u = Value.ref b from ru)
    refine ⟨(kv.1, b, y) :: xs, .cons ⟨rfl, hb, ry⟩ r, by rw [List.length_cons, List.length_cons, hl], fun j q e => ?_⟩
    cases j with
    | zero =>
      have e' : (kv.1, b, y) = q := Option.some.inj e
      subst e'
      exact ⟨p, rfl, ht, key_of I.hok hb⟩
    | succ j =>
      obtain ⟨p', e1, e2, e3⟩ := hp j q (by simpa using e)
      exact ⟨p', by simpa using e1, e2, e3⟩
theorem merge_keyed {H : Hp} : ∀ {kvs : List (List Key × V)} {xs : List (List Key × Addr × Value)} {acc : List (List Key × V)} {ys : List (List Key × Addr × Value)}, KT H kvs xs → KT H acc ys → KT H (mergeT acc kvs) (storedAllH ys xs)
  | _, _, _, _, .nil, r => r
  | _, _, _, _, .cons (a := kv) (b := x) h t, r => by
    obtain ⟨h1, h2, h3⟩ := h
    have q := r.put kv.1 h2 h3
    have m := merge_keyed t q
    show KT H (mergeT (putK _ kv.1 kv.2) _) (storedAllH (storedH _ x.1 x.2.1 x.2.2) _)
    rw [← h1]
    exact m
theorem merge_len : ∀ (kvs acc : List (List Key × V)), (mergeT acc kvs).length ≤ acc.length + kvs.length
  | [], acc => Nat.le_refl _
  | kv :: kvs, acc => by
    have h1 := merge_len kvs (putK acc kv.1 kv.2)
    have h2 := length_putK acc kv.1 kv.2
    show (mergeT (putK acc kv.1 kv.2) kvs).length ≤ _
    rw [List.length_cons]
    omega
theorem call_dictT (hc : X.calm = true) (hu : X.A.units + 64 < cLine) : CallR X (.type "dict") (rDictT X.K) := by
  intro pins s σ H xs us Q I r h
  obtain ⟨a, ps, kvs, rfl, hs, hp, q⟩ := h
  obtain ⟨its, rv, pl, hz⟩ := I.list hs
  rw [Vals.ref1 r]
  have ei := refs_at rv
  subst ei
  rw [List.length_map] at hz
  obtain ⟨prs, rel, hl, hpr⟩ := pairs_ofT I hp
  obtain ⟨o, n, ho, hcl, hd, hdat⟩ := pl
  have hm : (s.heap.objs.size == sysModules) = false := beq_eq_false_iff_ne.mpr (Nat.ne_of_gt I.big)
  have lp : (prs.map fun x => (Value.ref x.2.1, x.2.2)).length = prs.length := List.length_map _
  refine call_dict_pairsH (knd := tupleKind (mixKind X.prog X.w)) (ps := prs) (PairArg.list a (ps.map Value.ref).toArray (fun j => ps.getD j 0) (prs.map fun x => (Value.ref x.2.1, x.2.2))) (I.ok.hd hc) (show X.A.units + 1 + 1 < cLine by omega)
    ⟨⟨o, n, ho, hcl, hd, hdat⟩, ?_, fun j k v e => ?_⟩ ⟨lp.symm, fun i key v e => ?_⟩ (fun h' hk x hx => ?_) (by rw [lp, hl]; exact hz) fun h' tk hd' k => ?_
  · rw [lp, hl]
    simp
  · rw [List.getElem?_map] at e
    cases ex : prs[j]? with
    | none =>
      rw [ex] at e
      cases e
    | some x =>
      rw [ex] at e
      have e := Option.some.inj e
      obtain ⟨p, e1, e2, e3⟩ := hpr j x ex
      cases e
      refine ⟨by simp [e1], ?_⟩
      show PairAt s.heap (ps.getD j 0) _ _
      rw [List.getD_eq_getElem?_getD, e1]
      obtain ⟨o', h1, h2, m, h3⟩ := e2
      exact .inl ⟨o', h1, h2, m, h3⟩
  · have e : (prs.map fun x => (Value.ref x.2.1, x.2.2))[i]? = some (key, v) := e
    rw [List.getElem?_map] at e
    cases ex : prs[i]? with
    | none =>
      rw [ex] at e
      cases e
    | some x =>
      rw [ex] at e
      have e := Option.some.inj e
      cases e
      exact ⟨x.1, x.2.1, rfl, rfl⟩
  · obtain ⟨j, hj⟩ := List.mem_iff_getElem?.mp hx
    obtain ⟨p, e1, e2, o', its', m, h1, h2, h3, h4⟩ := hpr j x hj
    refine ⟨o', its', m, hk _ _ (Nat.ne_of_lt (Heap.lt_size h1)) (fun z => nomatch z) h1, h2, h3, h4⟩
  · have hlen : (mergeT [] kvs).length ≤ sizeLine := by
      have h1 := merge_len kvs []
      have h2 : kvs.length = prs.length := Paired.length rel
      rw [List.length_nil] at h1
      omega
    have keep : ∀ b o, s.heap.get? b = some o → h'.get? b = some o := fun b o e => k b o (fun z => nomatch z) e
    have m := merge_keyed rel (.nil : KT H [] [])
    obtain ⟨o', es, ep, d1, d2, d3, d4, _, d5⟩ := hd'
    refine ⟨.ref s.heap.objs.size, upd H s.heap.objs.size (.dT (mergeT [] kvs)), I.laid (t' := tk) keep (Nat.le_refl _) (show ObjOk X.prog X.w _ _ _ (.dT (mergeT [] kvs)) from ⟨hlen, hm, _, m.keeps fun b ys e => ?_, o', es, ep, d1, d2, d3, d4, d5⟩), rfl, q _ (I.hok.fresh (Nat.le_refl _))⟩
    rw [upd_ne (ne_of_none e (I.hok.fresh (Nat.le_refl _)))]
    exact e
end
end KL
set_option Elab.async false
set_option linter.all false
set_option maxRecDepth 100000
set_option maxHeartbeats 2000000
namespace KL
abbrev sCounted : PySem.Stmt := top 1
abbrev sViewOf : PySem.Stmt := top 2
abbrev sView : PySem.Stmt := top 4
abbrev lDeck : PySem.Stmt := top 6
abbrev lDraw : PySem.Stmt := top 7
abbrev lPick : PySem.Stmt := top 8
abbrev lView : PySem.Stmt := top 9
abbrev lRow : PySem.Stmt := top 10
abbrev lTurned : PySem.Stmt := top 11
abbrev lLaw : PySem.Stmt := top 12
open PySem L2
/-! ### the deck -/
def dk (l : Addr) (m t : Int) : List (Key × V) := [(Sum.inr "cells", V.ref l), (Sum.inr "mixed", V.int m), (Sum.inr "turn", V.int t)]
theorem dk_cells (l : Addr) (m t : Int) : valV (dk l m t) (Sum.inr "cells") = some (V.ref l) := by rfl
theorem dk_mixed (l : Addr) (m t : Int) : valV (dk l m t) (Sum.inr "mixed") = some (V.int m) := by rfl
theorem dk_turn (l : Addr) (m t : Int) : valV (dk l m t) (Sum.inr "turn") = some (V.int t) := by rfl
theorem dk_put (l : Addr) (m t u : Int) : putK (dk l m t) (Sum.inr "turn") (V.int u) = dk l m u := by rfl
/-- H0 is what stays in H: neither the deck nor its list -/
structure DeckAt (H0 H : Hp) (p l : Addr) (t : Int) : Prop where
  s : Same H0 H
  p0 : H0 p = none
  l0 : H0 l = none
  d : ∃ (ns : List Int) (m : Int), H p = some (.dK (dk l m t)) ∧ H l = some (.lst (ns.map V.int)) ∧ ns.length ≤ 63 ∧ 0 ≤ m ∧ m < 2147483629
theorem DeckAt.notP {H0 H : Hp} {p l a : Addr} {t : Int} (D : DeckAt H0 H p l t) (n : H a = none) : a ≠ p ∧ a ≠ l := by
  obtain ⟨ns, m, hp, hl, _⟩ := D.d
  refine ⟨?_, ?_⟩
  · rintro rfl
    rw [hp] at n
    cases n
  · rintro rfl
    rw [hl] at n
    cases n
theorem DeckAt.ne {H0 H : Hp} {p l : Addr} {t : Int} (D : DeckAt H0 H p l t) : l ≠ p := by
  obtain ⟨ns, m, hp, hl, _⟩ := D.d
  exact ne_of hl hp (by intro q; cases q)
/-- something new, that stays -/
theorem DeckAt.new {H0 H : Hp} {p l a : Addr} {t : Int} {o : HO} (D : DeckAt H0 H p l t) (n : H a = none) : DeckAt (upd H0 a o) (upd H a o) p l t := by
  obtain ⟨ap, al⟩ := D.notP n
  obtain ⟨ns, m, hp, hl, r⟩ := D.d
  refine ⟨fun b u e => ?_, ?_, ?_, ns, m, ?_, ?_, r⟩
  · by_cases z : b = a
    · subst z
      rw [upd_same] at e ⊢
      exact e
    · rw [upd_ne z] at e ⊢
      exact D.s _ _ e
  · rw [upd_ne ap.symm]
    exact D.p0
  · rw [upd_ne al.symm]
    exact D.l0
  · rw [upd_ne ap.symm]
    exact hp
  · rw [upd_ne al.symm]
    exact hl
/-- something that does not stay: new, or changed -/
theorem DeckAt.put {H0 H : Hp} {p l a : Addr} {t : Int} {o : HO} (D : DeckAt H0 H p l t) (ap : a ≠ p) (al : a ≠ l) (n : H0 a = none) : DeckAt H0 (upd H a o) p l t := by
  obtain ⟨ns, m, hp, hl, r⟩ := D.d
  refine ⟨fun b u e => ?_, D.p0, D.l0, ns, m, ?_, ?_, r⟩
  · rw [upd_ne (ne_of_none e n)]
    exact D.s _ _ e
  · rw [upd_ne ap.symm]
    exact hp
  · rw [upd_ne al.symm]
    exact hl
theorem DeckAt.put0 {H0 H : Hp} {p l a : Addr} {t : Int} {o : HO} (D : DeckAt H0 H p l t) (n : H a = none) : DeckAt H0 (upd H a o) p l t :=
  D.put (D.notP n).1 (D.notP n).2 (D.s.free n)
/-- something that stood and stays from now on -/
theorem DeckAt.keep {H0 H : Hp} {p l a : Addr} {t : Int} {o : HO} (D : DeckAt H0 H p l t) (ap : a ≠ p) (al : a ≠ l) (h : H a = some o) : DeckAt (upd H0 a o) H p l t := by
  refine ⟨fun b u e => ?_, ?_, ?_, D.d⟩
  · by_cases z : b = a
    · subst z
      rw [upd_same] at e
      rw [h]
      exact e
    · rw [upd_ne z] at e
      exact D.s _ _ e
  · rw [upd_ne ap.symm]
    exact D.p0
  · rw [upd_ne al.symm]
    exact D.l0
theorem DeckAt.less {H0 H1 H : Hp} {p l : Addr} {t : Int} (D : DeckAt H1 H p l t) (S : Same H0 H1) : DeckAt H0 H p l t :=
  ⟨S.trans D.s, S.free D.p0, S.free D.l0, D.d⟩
/-- from a state (kept H0, heap H, turn t) to another one, by at most n draws -/
structure Go (p l : Addr) (H0 H : Hp) (t : Int) (H1 H' : Hp) (t' : Int) (n : Int) : Prop where
  s : Same H0 H1
  d : DeckAt H1 H' p l t'
  f : ∀ b o, b ≠ p → b ≠ l → H b = some o → H' b = some o
  o : ∀ b, H0 b = none → H b ≠ none → H1 b = none
  t0 : t ≤ t'
  t1 : t' ≤ t + n
theorem Go.refl {p l : Addr} {H0 H : Hp} {t : Int} (D : DeckAt H0 H p l t) : Go p l H0 H t H0 H t 0 := ⟨Same.refl _, D, fun _ _ _ _ e => e, fun _ e _ => e, by omega, by omega⟩
theorem Go.trans {p l : Addr} {H0 H H1 H' H2 H'' : Hp} {t t' t'' n n' : Int} (a : Go p l H0 H t H1 H' t' n) (b : Go p l H1 H' t' H2 H'' t'' n') : Go p l H0 H t H2 H'' t'' (n + n') := by
  refine ⟨a.s.trans b.s, b.d, fun c o cp cl e => b.f _ _ cp cl (a.f _ _ cp cl e), fun c e h => ?_, Int.le_trans a.t0 b.t0, ?_⟩
  · have h1 := a.o c e h
    by_cases cp : c = p
    · subst cp
      exact b.d.p0
    by_cases cl : c = l
    · subst cl
      exact b.d.l0
    cases z : H c with
    | none => exact absurd z h
    | some o => exact b.o c h1 (by rw [a.f c o cp cl z]; simp)
  · have := a.t1
    have := b.t1
    omega
theorem Go.more {p l : Addr} {H0 H H1 H' : Hp} {t t' n n' : Int} (a : Go p l H0 H t H1 H' t' n) (h : n ≤ n') : Go p l H0 H t H1 H' t' n' :=
  ⟨a.s, a.d, a.f, a.o, a.t0, Int.le_trans a.t1 (by omega)⟩
/-- something new that stays -/
theorem Go.new {p l a : Addr} {H0 H H1 H' : Hp} {t t' n : Int} {o : HO} (g : Go p l H0 H t H1 H' t' n) (na : H' a = none) : Go p l H0 H t (upd H1 a o) (upd H' a o) t' n := by
  have n1 : H1 a = none := g.d.s.free na
  refine ⟨fun b u e => ?_, g.d.new na, fun b u bp bl e => ?_, fun b e h => ?_, g.t0, g.t1⟩
  · have e1 := g.s _ _ e
    rw [upd_ne (ne_of_none e1 n1)]
    exact e1
  · have e1 := g.f _ _ bp bl e
    rw [upd_ne (ne_of_none e1 na)]
    exact e1
  · have e1 := g.o b e h
    by_cases z : b = a
    · subst z
      exfalso
      obtain ⟨bp, bl⟩ := g.d.notP na
      cases y : H b with
      | none => exact h y
      | some u =>
        have := g.f _ _ bp bl y
        rw [na] at this
        cases this
    · rw [upd_ne z]
      exact e1
/-- something new that does not stay as it is -/
theorem Go.put0 {p l a : Addr} {H0 H H1 H' : Hp} {t t' n : Int} {o : HO} (g : Go p l H0 H t H1 H' t' n) (na : H' a = none) : Go p l H0 H t H1 (upd H' a o) t' n :=
  ⟨g.s, g.d.put0 na, fun b u bp bl e => by
    have e1 := g.f _ _ bp bl e
    rw [upd_ne (ne_of_none e1 na)]
    exact e1, g.o, g.t0, g.t1⟩
/-- something of one's own that is changed -/
theorem Go.put {p l a : Addr} {H0 H H1 H' : Hp} {t t' n : Int} {o : HO} (g : Go p l H0 H t H1 H' t' n) (na : H a = none) (ap : a ≠ p) (al : a ≠ l) (n1 : H1 a = none) : Go p l H0 H t H1 (upd H' a o) t' n :=
  ⟨g.s, g.d.put ap al n1, fun b u bp bl e => by
    rw [upd_ne (ne_of_none e na)]
    exact g.f _ _ bp bl e, g.o, g.t0, g.t1⟩
/-- something of one's own that stays from now on -/
theorem Go.keep {p l a : Addr} {H0 H H1 H' : Hp} {t t' n : Int} {o : HO} (g : Go p l H0 H t H1 H' t' n) (na : H a = none) (ap : a ≠ p) (al : a ≠ l) (h : H' a = some o) (h1 : H1 a = none) : Go p l H0 H t (upd H1 a o) H' t' n :=
  ⟨fun b u e => by
    have e1 := g.s _ _ e
    rw [upd_ne (ne_of_none e1 h1)]
    exact e1, g.d.keep ap al h, g.f, fun b e hb => by
    rw [upd_ne (show b ≠ a from fun z => hb (by rw [z]; exact na))]
    exact g.o b e hb, g.t0, g.t1⟩
theorem Go.own {p l a : Addr} {H0 H H1 H' : Hp} {t t' n : Int} {o : HO} (g : Go p l H0 H t H1 H' t' n) (D : DeckAt H0 H p l t) (h : H a = some o) (n0 : H0 a = none) (ap : a ≠ p) (al : a ≠ l) : H' a = some o ∧ H1 a = none :=
  ⟨g.f _ _ ap al h, g.o _ n0 (by rw [h]; simp)⟩
def spDeck (K : PySem.W.Frag) : Sp := fun vs H Q _ => ∃ (a : Addr) (ns : List Int), vs = [.ref a] ∧ SqL K H a (ns.map V.int) ∧ ns.length ≤ 63 ∧ ∀ H' p l, DeckAt H H' p l 0 → Q (.ref p) H'
def spDrawS : Sp := fun vs H Q _ => ∃ (H0 : Hp) (p l : Addr) (t b : Int), vs = [.ref p, .int b] ∧ DeckAt H0 H p l t ∧ 0 ≤ t ∧ t < 1048576 ∧ 0 < b ∧ b < 1048576 ∧ ∀ H' r, DeckAt H0 H' p l (t + 1) → 0 ≤ r → r < b → Q (.int r) H'
def spDraw : Sp := fun vs H Q _ => ∃ (H0 : Hp) (p l : Addr) (t b : Int), vs = [.ref p, .int b] ∧ DeckAt H0 H p l t ∧ 0 ≤ t ∧ t < 1048576 ∧ 0 < b ∧ b < 1048576 ∧ ∀ H' r, Go p l H0 H t H0 H' (t + 1) 1 → 0 ≤ r → r < b → Q (.int r) H'
theorem draw_go {vs : List V} {H : Hp} {Q : VK} {E : XK} (h : spDraw vs H Q E) : spDrawS vs H Q E := by
  obtain ⟨H0, p, l, t, b, rfl, D, t0, t1, b0, b1, k⟩ := h
  refine ⟨fun c => if c = p ∨ c = l then none else H c, p, l, t, b, rfl, ⟨fun c o e => ?_, if_pos (.inl rfl), if_pos (.inr rfl), D.d⟩, t0, t1, b0, b1, fun H' r D' r0 rb => k H' r ?_ r0 rb⟩
  · have e : (if c = p ∨ c = l then none else H c) = some o := e
    by_cases z : c = p ∨ c = l
    · rw [if_pos z] at e
      cases e
    · rw [if_neg z] at e
      exact e
  · have f : ∀ c o, c ≠ p → c ≠ l → H c = some o → H' c = some o := fun c o cp cl e => D'.s _ _ (by
      show (if c = p ∨ c = l then none else H c) = some o
      rw [if_neg (by rintro (z | z); exact cp z; exact cl z), e])
    refine ⟨Same.refl _, ⟨fun c o e => ?_, D.p0, D.l0, D'.d⟩, f, fun _ e _ => e, by omega, by omega⟩
    refine f c o ?_ ?_ (D.s _ _ e)
    · rintro rfl
      rw [D.p0] at e
      cases e
    · rintro rfl
      rw [D.l0] at e
      cases e
end KL
set_option Elab.async false
set_option linter.all false
set_option maxRecDepth 100000
set_option maxHeartbeats 2000000
namespace KL
open PySem L2
structure TxtD (mg : Str → Option Value) : Prop where
  list : mg "list" = none
  int : mg "int" = none
  len : mg "len" = none
section
variable {P : Program} {w : World} {K : PySem.W.Frag} {mg : Str → Option Value} {base : Heap}
theorem scDeck : FnScope ["_law_script", "_law_cells", "_law_mixed", "_law_cell"] ["_law_script"] (defScope lDeck) := ⟨rfl, rfl, rfl, by decide +kernel, rfl, by decide +kernel, by decide +kernel⟩
theorem cut_ints (ns : List Int) (lo hi : Option Int) : ∃ ms : List Int, cutV (ns.map V.int) lo hi = ms.map V.int ∧ ms.length ≤ ns.length :=
  ⟨(ns.drop (HT.sIx (ns.map V.int).length 0 lo)).take (HT.sIx (ns.map V.int).length (ns.map V.int).length hi - HT.sIx (ns.map V.int).length 0 lo), by unfold cutV; rw [List.map_take, List.map_drop], by rw [List.length_take, List.length_drop]; omega⟩
theorem ok_deck {f : Addr} {fd : FuncData} (F : Fun K "_law_deck" "_law_deck" lDeck f fd) (T : TxtD mg) : FnOk P w K mg base CX0 1 f fd ["_law_script"] (spDeck K) := by
  refine F.ok scDeck (fun vs H Q E h => ?_) (fun cdv A outer s H vs Q E hr h => ?_)
  · obtain ⟨a, ns, rfl, _⟩ := h
    rfl
  · obtain ⟨a, ns, rfl, hS, hlen, k⟩ := h
    refine ⟨_, pss_cons (ps_par (i := 1) (j := 2) (by rfl) scDeck.nd rfl rfl (by decide) rfl rfl (pa_cons (pe_callTy call_list_of (by rfl) T.list (by decide +kernel) (pa_cons (pe_slice sl_list (pv 0) po_none (po_some pe_int)) pa_nil)) (pa_cons pe_int pa_nil)) (by rfl))
      (pss_cons (ps_for PassesOwn.never rfl (pi_list (pv 1)) (pg_name (i := 3) scDeck.nd rfl (.inl rfl))
        (pss_one (ps_set (i := 2) scDeck.nd rfl (.inl rfl) (pe_op op_mod (pe_callTy call_int1 (by rfl) T.int (by decide +kernel) (pa_cons (pe_op op_add (pe_op op_add (pe_op op_mul (pv 2) pe_int) (pe_op op_mod (pe_callTy call_int1 (by rfl) T.int (by decide +kernel) (pa_cons (pv 3) pa_nil)) pe_int)) pe_int) pa_nil)) pe_int))))
      (pss_one (ps_ret (pe_disp (pps_cons pe_str (pe_revL (pv 1)) (pps_cons pe_str (pv 2) (pps_cons pe_str pe_int pps_nil))) (by rfl) (by rfl) (fun z => by cases z) (by decide))))), ?_⟩
    refine ⟨_, rfl, _, rfl, a, _, rfl, hS, fun p0 hp0 => ?_⟩
    obtain ⟨ms, ems, hms⟩ := cut_ints ns none (some 63)
    refine ⟨p0, ms.map V.int, rfl, .inl (SqL.of (by rw [upd_same]; exact congrArg some (congrArg HO.lst ems))), fun l hl => ?_⟩
    have npl : l ≠ p0 := fun q => by
      rw [q, upd_same] at hl
      cases hl
    have hl0 : H l = none := by
      rw [upd_ne npl] at hl
      exact hl
    refine ⟨_, _, rfl, ?_⟩
    have hSm : SqL K (upd (upd H p0 (HO.lst (cutV (List.map V.int ns) none (some 63)))) l (HO.lst (List.map V.int ms))) l (ms.map V.int) := SqL.of upd_same
    refine ⟨_, rfl, l, rfl, ⟨_, hSm⟩, for_list (K := K) (a := l) (xs := ms.map V.int) (fun i σ H' => H' = upd (upd H p0 (HO.lst (cutV (List.map V.int ns) none (some 63)))) l (HO.lst (List.map V.int ms)) ∧ ∃ (m : Int) (v : Option V), σ = [some (.ref a), some (.ref l), some (.int m), v] ∧ 0 ≤ m ∧ m < 2147483629)
      ⟨rfl, 186338, none, rfl, by decide, by decide⟩ (fun i σ H' _ ⟨e, _⟩ => e ▸ hSm) ?_ ?_⟩
    · rintro i y σ H' hi ⟨rfl, m, v, rfl, m0, m1⟩
      obtain ⟨u, rfl⟩ : ∃ u, y = V.int u := by
        rw [List.getElem?_map] at hi
        cases e : ms[i]? with
        | none =>
          rw [e] at hi
          cases hi
        | some u =>
          rw [e] at hi
          exact ⟨u, (Option.some.inj hi).symm⟩
      refine ⟨_, rfl, _, _, rfl, rfl, .inl ⟨by omega, by omega⟩, ?_⟩
      refine ⟨_, rfl, .inl ⟨_, rfl, ?_⟩⟩
      refine ⟨_, _, rfl, rfl, (by show (0 : Int) < 2147483587; decide), ?_⟩
      refine ⟨_, _, rfl, rfl, _, _, rfl, rfl, .inl ⟨_, rfl, ?_⟩⟩
      refine ⟨_, _, rfl, rfl, (by show (0 : Int) < 2147483629; decide), ?_⟩
      exact ⟨rfl, _, _, rfl, Int.emod_nonneg _ (by decide), Int.emod_lt_of_pos _ (by decide)⟩
    · rintro σ H' ⟨rfl, m, v, rfl, m0, m1⟩
      have same1 : Same H (upd (upd H p0 (HO.lst (cutV (List.map V.int ns) none (some 63)))) l (HO.lst (List.map V.int ms))) := fun b o e => by
        rw [upd_ne (ne_of_none e hl0), upd_ne (ne_of_none e hp0)]
        exact e
      revert hSm same1
      generalize upd (upd H p0 (HO.lst (cutV (List.map V.int ns) none (some 63)))) l (HO.lst (List.map V.int ms)) = H1
      intro hSm same1 p hp
      refine ⟨_, rfl, l, _, rfl, Same.seq (fun b o e => by rw [upd_ne (ne_of_none e hp)]; exact e) hSm, fun q hq => ?_⟩
      have nqp : q ≠ p := fun z => by
        rw [z, upd_same] at hq
        cases hq
      have hq1 : H1 q = none := by
        rw [upd_ne nqp] at hq
        exact hq
      refine ⟨_, rfl, (by rw [upd_ne nqp.symm, upd_same]), [(Sum.inr "cells", V.ref q), (Sum.inr "mixed", V.int m), (Sum.inr "turn", V.int 0)], rfl, (by show 3 ≤ 15; decide), k _ _ _ ⟨fun b o e => ?_, same1.free hp, same1.free hq1, ms.reverse, m, upd_same, ?_, ?_, m0, m1⟩⟩
      · have e1 := same1 b o e
        rw [upd_ne (ne_of_none e1 hp), upd_ne (ne_of_none e1 hq1), upd_ne (ne_of_none e1 hp)]
        exact e1
      · rw [upd_ne nqp, upd_same, List.map_reverse]
      · rw [List.length_reverse]
        exact Nat.le_trans hms hlen
end
theorem dg_cells {H : Hp} {p l : Addr} {m t : Int} (h : H p = some (.dK (dk l m t))) : DGet H p (.str "cells") (some (.ref l)) := DGet.k (k := Sum.inr "cells") h
theorem dg_mixed {H : Hp} {p l : Addr} {m t : Int} (h : H p = some (.dK (dk l m t))) : DGet H p (.str "mixed") (some (.int m)) := DGet.k (k := Sum.inr "mixed") h
theorem dg_turn {H : Hp} {p l : Addr} {m t : Int} (h : H p = some (.dK (dk l m t))) : DGet H p (.str "turn") (some (.int t)) := DGet.k (k := Sum.inr "turn") h
theorem dp_turn {H : Hp} {p l : Addr} {m t u : Int} (h : H p = some (.dK (dk l m t))) : DPut H p (.str "turn") (.int u) (upd H p (.dK (dk l m u))) := DPut.k (k := Sum.inr "turn") h (by show 3 < sizeLine; decide)
theorem dp_ints {K : PySem.W.Frag} {H : Hp} : ∀ ns : List Int, DpAll K H (ns.map V.int) (ns.map PyData.int)
  | [] => .nil
  | n :: r => .cons (.int n) (dp_ints r)
theorem lay_ints : ∀ ns : List Int, PyData.canLayAll0 (ns.map PyData.int) = true
  | [] => rfl
  | n :: r => by
    show (true && PyData.canLayAll0 (r.map PyData.int)) = true
    rw [lay_ints r]
    rfl
theorem depth_ints : ∀ ns : List Int, PyData.depthAll (ns.map PyData.int) = 0
  | [] => rfl
  | n :: r => by
    show max 0 (PyData.depthAll (r.map PyData.int)) = 0
    rw [depth_ints r]
    rfl
theorem shaped_ints (ns : List Int) : SeqAt.shaped (PyData.list (ns.map PyData.int)) = true := by
  show (PyData.canLayAll0 (ns.map PyData.int) && decide (PyData.depthAll (ns.map PyData.int) + 1 ≤ 64)) = true
  rw [lay_ints, depth_ints]
  rfl
section
variable {P : Program} {w : World} {K : PySem.W.Frag} {mg : Str → Option Value} {base : Heap}
theorem scDraw : FnScope ["_law_deck_here", "_law_below", "_law_mixed", "_law_cell"] ["_law_deck_here", "_law_below"] (defScope lDraw) := ⟨rfl, rfl, rfl, by decide +kernel, rfl, by decide +kernel, by decide +kernel⟩
theorem ok_drawS {f : Addr} {fd : FuncData} (F : Fun K "_law_draw" "_law_draw" lDraw f fd) (T : TxtD mg) : FnOk P w K mg base CX0 1 f fd ["_law_deck_here", "_law_below"] spDrawS := by
  refine F.ok scDraw (fun vs H Q E h => ?_) (fun cdv A outer s H vs Q E hr h => ?_)
  · obtain ⟨H0, p, l, t, b, rfl, _⟩ := h
    rfl
  · obtain ⟨H0, p, l, t, b, rfl, ⟨s0, p0, l0, ns, m, hp, hl, hlen, m0, m1⟩, t0, t1, b0, b1, k⟩ := h
    have hu := hu_of hr
    have nlp : l ≠ p := ne_of hl hp (by intro q; cases q)
    refine ⟨_, pss_cons (ps_dput hu (pv 0) pe_str (pe_op op_add (pe_dget hu (pv 0) pe_str (fun _ _ => rfl)) pe_int) rfl)
      (pss_cons (ps_set (i := 2) scDraw.nd rfl (.inl rfl) (pe_op op_add (pe_dget hu (pv 0) pe_str (fun _ _ => rfl)) (pe_op op_mul (pe_op op_mul pe_int (pe_dget hu (pv 0) pe_str (fun _ _ => rfl))) (pe_dget hu (pv 0) pe_str (fun _ _ => rfl)))))
      (pss_cons (ps_if (pt_cmpR (op_neD hr.units) (pe_dget hu (pv 0) pe_str (fun _ _ => rfl)) (pe_lst pa_nil) (nomark _))
        (pss_cons (ps_set (i := 3) scDraw.nd rfl (.inl rfl) (pe_bm0 PySem.F.plainAttrs_list PySem.F.slot_list_pop PySem.F.type_list_pop mt_pop (pe_dget hu (pv 0) pe_str (fun _ _ => rfl))))
        (pss_cons (ps_if (pt_cmpR op_ge (pv 3) (pe_op op_pow pe_int pe_int) (nomark _))
          (pss_cons (ps_expr (pe_bm PySem.F.plainAttrs_list PySem.F.slot_list_append PySem.F.type_list_append mt_append (pe_dget hu (pv 0) pe_str (fun _ _ => rfl)) (pa_cons (pe_op op_fdiv (pv 3) (pv 1)) pa_nil)))
          (pss_one (ps_ret (pe_op op_mod (pe_callTy call_int1 (by rfl) T.int (by decide +kernel) (pa_cons (pv 3) pa_nil)) (pv 1))))) pss_nil)
        (pss_one (ps_set (i := 2) scDraw.nd rfl (.inl rfl) (pe_op op_add (pv 2) (pe_op op_mod (pe_callTy call_int1 (by rfl) T.int (by decide +kernel) (pa_cons (pv 3) pa_nil)) pe_int)))))) pss_nil)
      (pss_cons (ps_set (i := 2) scDraw.nd rfl (.inl rfl) (pe_op op_mod (pe_callTy call_int1 (by rfl) T.int (by decide +kernel) (pa_cons (pe_op op_add (pe_op op_mul (pe_op op_mod (pv 2) pe_int) pe_int) (pe_dget hu (pv 0) pe_str (fun _ _ => rfl))) pa_nil)) pe_int))
      (pss_cons (ps_set (i := 2) scDraw.nd rfl (.inl rfl) (pe_op op_mod (pe_callTy call_int1 (by rfl) T.int (by decide +kernel) (pa_cons (pe_op op_add (pe_op op_add (pe_op op_mul (pv 2) (pv 2)) (pe_op op_mul pe_int (pe_dget hu (pv 0) pe_str (fun _ _ => rfl)))) pe_int) pa_nil)) pe_int))
      (pss_one (ps_ret (pe_op op_mod (pe_op op_fdiv (pe_op op_mod (pe_callTy call_int1 (by rfl) T.int (by decide +kernel) (pa_cons (pe_op op_mul (pv 2) pe_int) pa_nil)) pe_int) pe_int) (pv 1)))))))), ?_⟩
    refine ⟨_, rfl, p, _, rfl, dg_turn hp, _, _, rfl, rfl, _, rfl, p, _, rfl, dp_turn hp, ?_⟩
    have hp1 : (upd H p (.dK (dk l m (t + 1)))) p = some (.dK (dk l m (t + 1))) := upd_same
    have hl1 : (upd H p (.dK (dk l m (t + 1)))) l = some (.lst (ns.map V.int)) := by rw [upd_ne nlp]; exact hl
    have s1 : Same H0 (upd H p (.dK (dk l m (t + 1)))) := fun b o e => by
      rw [upd_ne (ne_of_none e p0)]
      exact s0 b o e
    clear hp hl s0
    revert hp1 hl1 s1
    generalize upd H p (.dK (dk l m (t + 1))) = H1
    intro hp hl s0
    refine ⟨_, rfl, p, _, rfl, dg_mixed hp, _, rfl, p, _, rfl, dg_turn hp, _, _, rfl, rfl, .inl ⟨by decide, by decide⟩, ?_⟩
    refine ⟨_, rfl, p, _, rfl, dg_turn hp, _, _, rfl, rfl, .inr ⟨by omega, by omega⟩, _, _, rfl, rfl, ?_⟩
    refine ⟨_, rfl, p, _, rfl, dg_cells hp, Nat.zero_le _, fun q hq => ?_⟩
    have hp1 : (upd H1 q (.lst [])) p = some (.dK (dk l m (t + 1))) := by rw [upd_ne (ne_of_none hp hq)]; exact hp
    have hl1 : (upd H1 q (.lst [])) l = some (.lst (ns.map V.int)) := by rw [upd_ne (ne_of_none hl hq)]; exact hl
    have hq1 : (upd H1 q (.lst [])) q = some (.lst []) := upd_same
    have s1 : Same H0 (upd H1 q (.lst [])) := fun b o e => by
      have e1 := s0 b o e
      rw [upd_ne (ne_of_none e1 hq)]
      exact e1
    clear hp hl s0 hq
    revert hp1 hl1 s1 hq1
    generalize upd H1 q (.lst []) = H2
    intro hp hl hq s0
    refine ⟨.list (ns.map .int), .list [], .lst (SqL.of hl) (dp_ints ns), .lst (SqL.of hq) .nil, shaped_ints ns, by decide, _, rfl, ?_⟩
    revert hl
    rcases ns with _ | ⟨n0, nr⟩
    · intro hl
      refine iteF ?_
      generalize m + 186340 * (t + 1) * (t + 1) = M
      refine ⟨_, rfl, _, _, rfl, rfl, (by show (0 : Int) < 2147483549; decide), _, _, rfl, rfl, .inr ⟨by decide, by decide⟩, _, rfl, p, _, rfl, dg_turn hp, _, _, rfl, rfl, .inl ⟨_, rfl, _, _, rfl, rfl, (by show (0 : Int) < 2147483647; decide), ?_⟩⟩
      have c0 := Int.emod_nonneg (M % 2147483549 * 40692 + (t + 1)) (b := 2147483647) (by decide)
      have c1 := Int.emod_lt_of_pos (M % 2147483549 * 40692 + (t + 1)) (b := 2147483647) (by decide)
      revert c0 c1
      generalize (M % 2147483549 * 40692 + (t + 1)) % 2147483647 = M2
      intro c0 c1
      refine ⟨_, rfl, _, rfl, _, _, rfl, rfl, .inl ⟨by omega, by omega⟩, _, rfl, p, _, rfl, dg_turn hp, _, _, rfl, rfl, .inl ⟨by decide, by decide⟩, _, _, rfl, rfl, _, _, rfl, rfl, .inl ⟨_, rfl, _, _, rfl, rfl, (by show (0 : Int) < 2147483579; decide), ?_⟩⟩
      refine ⟨_, rfl, _, _, rfl, rfl, .inr ⟨by decide, by decide⟩, .inl ⟨_, rfl, _, _, rfl, rfl, (by show (0 : Int) < 2147483629; decide), _, _, rfl, rfl, ⟨by decide, by decide⟩, _, rfl, _, _, rfl, rfl, b0, ?_⟩⟩
      exact k _ _ ⟨s0, p0, l0, [], m, hp, hl, hlen, m0, m1⟩ (Int.emod_nonneg _ (by omega)) (Int.emod_lt_of_pos _ b0)
    · intro hl
      refine iteT ?_
      have hne : n0 :: nr ≠ [] := fun z => by cases z
      have elast : (List.map V.int (n0 :: nr))[(List.map V.int (n0 :: nr)).length - 1]? = some (V.int ((n0 :: nr).getLast hne)) := by
        rw [List.getElem?_map, List.length_map, ← List.getLast?_eq_getElem?, List.getLast?_eq_some_getLast hne]
        rfl
      refine ⟨_, rfl, p, _, rfl, dg_cells hp, .inl ⟨rfl, _, SqL.of hl⟩, l, _, _, rfl, rfl, hl, elast, ?_⟩
      have edrop : (List.map V.int (n0 :: nr)).dropLast = ((n0 :: nr).dropLast).map V.int := by
        rw [List.map_dropLast]
      have hd63 : (n0 :: nr).dropLast.length + 1 ≤ 63 := by
        rw [List.length_dropLast]
        have : 1 ≤ (n0 :: nr).length := by simp
        omega
      rw [edrop]
      generalize (n0 :: nr).getLast hne = c
      have hp1 : (upd H2 l (.lst (((n0 :: nr).dropLast).map V.int))) p = some (.dK (dk l m (t + 1))) := by rw [upd_ne nlp.symm]; exact hp
      have hl1 : (upd H2 l (.lst (((n0 :: nr).dropLast).map V.int))) l = some (.lst (((n0 :: nr).dropLast).map V.int)) := upd_same
      have s1 : Same H0 (upd H2 l (.lst (((n0 :: nr).dropLast).map V.int))) := fun b o e => by
        rw [upd_ne (ne_of_none e l0)]
        exact s0 b o e
      clear hp hl s0 hq
      revert hp1 hl1 s1 hd63
      generalize upd H2 l (.lst (((n0 :: nr).dropLast).map V.int)) = H3
      generalize (n0 :: nr).dropLast = ns
      intro hlen hp hl s0
      refine ⟨_, rfl, _, _, rfl, rfl, ⟨by decide, by decide, by decide⟩, _, _, rfl, rfl, _, rfl, ?_⟩
      refine ite2 (fun _ => ?_) (fun _ => ?_)
      · refine ⟨_, rfl, p, _, rfl, dg_cells hp, .inl ⟨rfl, _, SqL.of hl⟩, _, rfl, _, rfl, _, _, rfl, rfl, ⟨b0, by omega⟩, l, _, _, rfl, rfl, hl, ?_, ?_⟩
        · rw [List.length_map]
          exact Nat.lt_of_le_of_lt (Nat.le_of_succ_le hlen) (by decide)
        · refine ⟨_, rfl, .inl ⟨_, rfl, _, rfl, _, _, rfl, rfl, b0, ?_⟩⟩
          refine k _ _ ⟨fun b o e => ?_, p0, l0, ns ++ [c / b], m, ?_, ?_, ?_, m0, m1⟩ (Int.emod_nonneg _ (by omega)) (Int.emod_lt_of_pos _ b0)
          · rw [upd_ne (ne_of_none e l0)]
            exact s0 b o e
          · rw [upd_ne nlp.symm]
            exact hp
          · rw [upd_same, List.map_append]
            rfl
          · rw [List.length_append]
            exact hlen
      · refine ⟨_, rfl, _, rfl, .inl ⟨_, rfl, _, _, rfl, rfl, (by show (0 : Int) < 2147483563; decide), _, _, rfl, rfl, ?_⟩⟩
        have hlen : ns.length ≤ 63 := by omega
        generalize m + 186340 * (t + 1) * (t + 1) + c % 2147483563 = M
        refine ⟨_, rfl, _, _, rfl, rfl, (by show (0 : Int) < 2147483549; decide), _, _, rfl, rfl, .inr ⟨by decide, by decide⟩, _, rfl, p, _, rfl, dg_turn hp, _, _, rfl, rfl, .inl ⟨_, rfl, _, _, rfl, rfl, (by show (0 : Int) < 2147483647; decide), ?_⟩⟩
        have c0 := Int.emod_nonneg (M % 2147483549 * 40692 + (t + 1)) (b := 2147483647) (by decide)
        have c1 := Int.emod_lt_of_pos (M % 2147483549 * 40692 + (t + 1)) (b := 2147483647) (by decide)
        revert c0 c1
        generalize (M % 2147483549 * 40692 + (t + 1)) % 2147483647 = M2
        intro c0 c1
        refine ⟨_, rfl, _, rfl, _, _, rfl, rfl, .inl ⟨by omega, by omega⟩, _, rfl, p, _, rfl, dg_turn hp, _, _, rfl, rfl, .inl ⟨by decide, by decide⟩, _, _, rfl, rfl, _, _, rfl, rfl, .inl ⟨_, rfl, _, _, rfl, rfl, (by show (0 : Int) < 2147483579; decide), ?_⟩⟩
        refine ⟨_, rfl, _, _, rfl, rfl, .inr ⟨by decide, by decide⟩, .inl ⟨_, rfl, _, _, rfl, rfl, (by show (0 : Int) < 2147483629; decide), _, _, rfl, rfl, ⟨by decide, by decide⟩, _, rfl, _, _, rfl, rfl, b0, ?_⟩⟩
        exact k _ _ ⟨s0, p0, l0, ns, m, hp, hl, hlen, m0, m1⟩ (Int.emod_nonneg _ (by omega)) (Int.emod_lt_of_pos _ b0)
theorem ok_draw {f : Addr} {fd : FuncData} (F : Fun K "_law_draw" "_law_draw" lDraw f fd) (T : TxtD mg) : FnOk P w K mg base CX0 1 f fd ["_law_deck_here", "_law_below"] spDraw :=
  (ok_drawS F T).imp fun _ _ _ _ => draw_go
end
end KL
set_option Elab.async false
set_option linter.all false
set_option maxRecDepth 100000
set_option maxHeartbeats 4000000
namespace KL
open PySem L2 PySem.Spec PyProof.Rows
/-- once: the tuple itself -/
theorem tuple_once (l : Addr) (its : Array Value) (n : Nat) (dd : Option Addr) (sl : Array (Option Value)) (x : Int) (u : Tok) (c0 : (decide (x < -(2 ^ 63)) || decide (x ≥ 2 ^ 63)) = false) (c1 : (its.isEmpty || x == 1) = true) :
    Meets (Builtin.«tuple.__mul__» ⟨[.ref l, .int x u], []⟩) (fun _ R s => s.heap.get? l = some ⟨.type "tuple", dd, .seq its n, sl⟩ ∧ R (.ok (.ret (.ref l))) s) :=
  .of_wp fun prog w A R s hh => by
    obtain ⟨hp, g, d, tk, os⟩ := s
    obtain ⟨hl, hh⟩ := hh
    have f1 := AutoSeq1.idx_int
    wp_walk using wpAny_loadPart' hl
    repeat (first
      | (refine wpAny_ite_false (decide_eq_false (by rw [c0]; exact Bool.false_ne_true)) ?_; wp_walk using wpAny_loadPart' hl)
      | (refine wpAny_ite_true (decide_eq_true c1) ?_; wp_walk using wpAny_loadPart' hl))
    exact ⟨_, rfl, hh⟩
def rRepU (K : PySem.W.Frag) : R2 := fun x y H Q => ∃ l k xs, x = .ref l ∧ y = .int k ∧ SqT K H l xs ∧ xs ≠ [] ∧ 1 ≤ k ∧ k ≤ 1000 ∧ xs.length ≤ 1000 ∧ (k = 1 → Q (.ref l) H) ∧ (k ≠ 1 → ∀ p, H p = none → Q (.ref p) (upd H p (.tup (List.replicate k.toNat xs).flatten)))
theorem op_repU {X : Cx} : OpR X (binaryOp .Mult) (rRepU X.K) := by
  intro pins s σ H x y v u Q I rx ry h
  obtain ⟨l, k, xs, rfl, rfl, hT, hne, h1, h2, hz, q1, q2⟩ := h
  by_cases e : k = 1
  · subst e
    cases rx
    obtain ⟨t, rfl⟩ := ry
    obtain ⟨its, r, ⟨⟨cls, dd, data, sl⟩, ho, hc, n, hd⟩, hs⟩ := I.tuple hT
    simp only at hc hd
    subst hc hd
    refine wpAny_binaryOp_repeat_ref (T := "tuple") (U := "int") (by decide) ⟨_, ho, rfl⟩ (fun s' => typeIs_int s' 1 t) noFill_tuple_mul F.fills_int_mul F.slot_int_rmul repeat_tuple F.slot_int_index.lookup ?_
    refine call_meets F.slot_int_rmul (typeIs_int s 1 t) F.entry_int_rmul (F.args_int_rmul_2 _ _) (int_rmul_tuple 1 t l its.toArray n dd sl) ⟨ho, rfl, ⟨_, ho, rfl⟩, ?_⟩
    refine call_meets F.slot_tuple_mul ⟨_, ho, rfl⟩ F.entry_tuple_mul (F.args_tuple_mul_2 _ _) (tuple_once l its.toArray n dd sl 1 t (by decide) (by simp)) ⟨ho, ?_⟩
    exact ⟨.ref l, H, I, rfl, q1 rfl⟩
  · exact op_repT pins s σ H _ _ v u Q I rx ry ⟨l, k, xs, rfl, rfl, hT, hne, by omega, h2, hz, q2 e⟩
end KL
set_option Elab.async false
set_option linter.all false
set_option maxRecDepth 100000
set_option maxHeartbeats 4000000
namespace KL
open PySem L2
/-- an object of one's own, that changes -/
structure Own (p l a : Addr) (Hb H0 H : Hp) (o : HO) : Prop where
  b : Hb a = none
  ap : a ≠ p
  al : a ≠ l
  n : H0 a = none
  h : H a = some o
section
variable {p l a b : Addr} {Hs Hb H0 H H1 H' : Hp} {t t' t'' n c : Int} {o o' ob : HO}
theorem Own.start (g : Go p l Hs Hb t H0 H t' n) (na : H a = none) : Own p l a Hb H0 (upd H a o) o := by
  obtain ⟨ap, al⟩ := g.d.notP na
  refine ⟨?_, ap, al, g.d.s.free na, upd_same⟩
  cases z : Hb a with
  | none => rfl
  | some u =>
    have := g.f _ _ ap al z
    rw [na] at this
    cases this
theorem Own.go (w : Own p l a Hb H0 H o) (g : Go p l H0 H t H1 H' t' c) : Own p l a Hb H1 H' o :=
  ⟨w.b, w.ap, w.al, g.o _ w.n (by rw [w.h]; simp), g.f _ _ w.ap w.al w.h⟩
theorem Own.upd (w : Own p l a Hb H0 H o) (ne : a ≠ b) : Own p l a Hb H0 (upd H b o') o :=
  ⟨w.b, w.ap, w.al, w.n, by rw [upd_ne ne]; exact w.h⟩
theorem Own.ne (w : Own p l a Hb H0 H o) (nb : H b = none) : a ≠ b := fun z => by
  subst z
  rw [w.h] at nb
  cases nb
theorem Own.put (w : Own p l a Hb H0 H o) (nb : H b = none) : Own p l a Hb H0 (L2.upd H b o') o := w.upd (w.ne nb)
theorem Own.new (w : Own p l a Hb H0 H o) (nb : H b = none) : Own p l a Hb (L2.upd H0 b ob) (L2.upd H b ob) o :=
  ⟨w.b, w.ap, w.al, by rw [upd_ne (w.ne nb)]; exact w.n, by rw [upd_ne (w.ne nb)]; exact w.h⟩
theorem Own.set (w : Own p l a Hb H0 H o) : Own p l a Hb H0 (L2.upd H a o') o' := ⟨w.b, w.ap, w.al, w.n, upd_same⟩
theorem Own.freeze (w : Own p l a Hb H0 H o) (ne : a ≠ b) : Own p l a Hb (L2.upd H0 b ob) H o := ⟨w.b, w.ap, w.al, by rw [upd_ne ne]; exact w.n, w.h⟩
theorem Go.setO (g : Go p l Hs Hb t H0 H t' n) (w : Own p l a Hb H0 H o) : Go p l Hs Hb t H0 (L2.upd H a o') t' n := g.put w.b w.ap w.al w.n
theorem Go.keepO (g : Go p l Hs Hb t H0 H t' n) (w : Own p l a Hb H0 H o) : Go p l Hs Hb t (L2.upd H0 a o) H t' n := g.keep w.b w.ap w.al w.h w.n
end
/-- a list that is being made, behind i turns of at most c draws -/
def Making (p l D : Addr) (Hs Hb : Hp) (t c : Int) (P : Nat → List PyData → Prop) (i : Nat) (H : Hp) : Prop :=
  ∃ H0 t' ys ds, Go p l Hs Hb t H0 H t' ((i : Int) * c) ∧ Own p l D Hb H0 H (.lst ys) ∧ DqAll H0 ys ds ∧ P i ds
theorem dq_len {H : Hp} {ys : List V} {ds : List PyData} (q : DqAll H ys ds) : ys.length = ds.length := q.len
section
variable {p l D : Addr} {Hs Hb H0 H H1 H' : Hp} {t t' t'' n c : Int} {P : Nat → List PyData → Prop} {i : Nat} {ys : List V} {ds : List PyData}
theorem Making.start (dk : DeckAt Hs Hb p l t) (nD : Hb D = none) (h : P 0 []) : Making p l D Hs Hb t c P 0 (upd Hb D (.lst [])) :=
  ⟨Hs, t, [], [], ((Go.refl dk).put0 nD).more (by omega), Own.start (Go.refl dk) nD, .nil, h⟩
theorem Making.turn (g : Go p l Hs Hb t H0 H t' ((i : Int) * c)) (w : Own p l D Hb H0 H (.lst ys)) (q : DqAll H0 ys ds) (g2 : Go p l H0 H t' H1 H' t'' c) {v : V} {d : PyData} (hd : Dq H1 v d) (hn : ds.length < 1000) (hp : P (i + 1) (ds ++ [d])) :
    ∃ acc, H' D = some (.lst acc) ∧ acc.length < sizeLine ∧ Making p l D Hs Hb t c P (i + 1) (upd H' D (.lst (acc ++ [v]))) := by
  have w2 := w.go g2
  refine ⟨ys, w2.h, by rw [dq_len q, sizeLine_eq]; omega, H1, t'', ys ++ [v], ds ++ [d], ?_, w2.set, (DqAll.same g2.s _ _ q).snoc hd, hp⟩
  refine ((g.trans g2).more ?_).setO w2
  rw [Int.natCast_add, Int.add_mul]
  omega
theorem Making.skip (g : Go p l Hs Hb t H0 H t' ((i : Int) * c)) (w : Own p l D Hb H0 H (.lst ys)) (q : DqAll H0 ys ds) (g2 : Go p l H0 H t' H1 H' t'' c) (hp : P (i + 1) ds) : Making p l D Hs Hb t c P (i + 1) H' := by
  refine ⟨H1, t'', ys, ds, (g.trans g2).more ?_, w.go g2, DqAll.same g2.s _ _ q, hp⟩
  rw [Int.natCast_add, Int.add_mul]
  omega
theorem dq_new {H : Hp} {q : Addr} {ys : List V} {ds : List PyData} (nq : H q = none) (h : DqAll H ys ds) : Dq (upd H q (.tup ys)) (.ref q) (.tuple ds) := .tup upd_same (DqAll.same (same_new nq) _ _ h)
end
/-- what a def hands back that draws at most n times -/
def Gives (p l : Addr) (H0 H : Hp) (t n : Int) (G : PyData → Prop) (Q : VK) : Prop := ∀ H1 H' t' v d, Go p l H0 H t H1 H' t' n → Dq H1 v d → G d → Q v H'
theorem Gives.of {p l : Addr} {Hs Hb H0 H : Hp} {t t' n m k : Int} {G : PyData → Prop} {Q : VK} (h : Gives p l Hs Hb t k G Q) (g : Go p l Hs Hb t H0 H t' n) (e : n + m ≤ k) : Gives p l H0 H t' m G Q :=
  fun _ _ _ _ _ g2 hd hG => h _ _ _ _ _ ((g.trans g2).more e) hd hG
/-- a form of n registers with small numbers -/
def FormS (n : Int) (d : PyData) : Prop := ∃ ns : List Int, d = .tuple (ns.map .int) ∧ (ns.length : Int) = n + 1 ∧ ∀ i ∈ ns, -10 ≤ i ∧ i ≤ 10
def spPick : Sp := fun vs H Q _ => ∃ (H0 : Hp) (p l : Addr) (t : Int) (a : Addr) (xs : List V), vs = [.ref p, .ref a] ∧ DeckAt H0 H p l t ∧ 0 ≤ t ∧ t < 1048576 ∧ H a = some (.lst xs) ∧ a ≠ p ∧ a ≠ l ∧ 0 < xs.length ∧ xs.length < 1000 ∧ ∀ H' (i : Nat) v, Go p l H0 H t H0 H' (t + 1) 1 → xs[i]? = some v → Q v H'
section
variable {P : Program} {w : World} {K : PySem.W.Frag} {mg : Str → Option Value} {base : Heap}
theorem scPick : FnScope ["_law_deck_here", "_law_some"] ["_law_deck_here", "_law_some"] (defScope lPick) := ⟨rfl, rfl, rfl, by decide +kernel, rfl, by decide +kernel, by decide +kernel⟩
theorem ok_pick {f g : Addr} {fd gd : FuncData} (F : Fun K "_law_pick" "_law_pick" lPick f fd) (T : TxtD mg) (G : FnOk P w K mg base CX0 1 g gd ["_law_deck_here", "_law_below"] spDraw) (c : Cal K mg "_law_draw" g gd ["_law_deck_here", "_law_below"]) :
    FnOk P w K mg base CX0 2 f fd ["_law_deck_here", "_law_some"] spPick := by
  refine F.ok scPick (fun vs H Q E h => ?_) (fun cdv A outer s H vs Q E hr h => ?_)
  · obtain ⟨H0, p, l, t, a, xs, rfl, _⟩ := h
    rfl
  · obtain ⟨H0, p, l, t, a, xs, rfl, D, t0, t1, ha, ap, al, hx0, hx1, k⟩ := h
    refine ⟨_, pss_one (ps_ret (pe_ix ix_list (pv 1) (pe_call G hr rfl c.m c.k c.b .nil pass0 (pa_cons (pv 0) (pa_cons (pe_callB call_len_seq (by rfl) T.len PySem.boot_len (pa_cons (pv 1) pa_nil)) pa_nil))) (fun _ _ => rfl))), ?_⟩
    refine ⟨_, rfl, _, rfl, _, rfl, a, xs, rfl, .inl (SqL.of ha), H0, p, l, t, _, rfl, D, t0, t1, by omega, by omega, fun H' r g r0 rb => ?_⟩
    obtain ⟨j, rfl⟩ := Int.eq_ofNat_of_zero_le r0
    have hj : j < xs.length := by omega
    exact ⟨a, xs, _, xs[j], rfl, rfl, SqL.of (g.f _ _ ap al ha), atI_nat (List.getElem?_eq_getElem hj), k H' j _ g (List.getElem?_eq_getElem hj)⟩
end
structure TxtG (mg : Str → Option Value) : Prop where
  d : TxtD mg
  range : mg "range" = none
  tuple : mg "tuple" = none
  sorted : mg "sorted" = none
  min : mg "min" = none
  repr : mg "repr" = none
end KL
set_option Elab.async false
set_option linter.all false
set_option maxRecDepth 100000
set_option maxHeartbeats 4000000
namespace KL
open PySem L2 PySem.Spec PyProof.Rows HT
theorem rev_bounds (n : Nat) : Builtin.Slice.sliceAdjust none none (-1) (n : Int) = ((n : Int) - 1, -1) := by
  have h : (-1 : Int) < 0 := by decide
  unfold Builtin.Slice.sliceAdjust
  simp only [h, if_true]
theorem rev_count (n : Nat) : Builtin.Slice.slicePlaces ((n : Int) - 1) (-1) (-1) = n := by
  have h : ¬ ((-1 : Int) > 0) := by decide
  unfold Builtin.Slice.slicePlaces
  simp only [h, if_false, Int.neg_neg, Int.ediv_one]
  split <;> omega
theorem rev_pick (xs : Array Value) : ((List.range xs.size).filterMap fun (k : Nat) => xs[((xs.size : Int) - 1 + (k : Int) * (-1)).toNat]?).toArray = xs.toList.reverse.toArray := by
  congr 1
  have e : ∀ (m : Nat), m ≤ xs.size → (List.range m).filterMap (fun (k : Nat) => xs[((xs.size : Int) - 1 + (k : Int) * (-1)).toNat]?) = xs.toList.reverse.take m := by
    intro m
    induction m with
    | zero => intro _; rfl
    | succ m ih =>
      intro hm
      rw [List.range_succ, List.filterMap_append, ih (by omega), List.take_add_one]
      congr 1
      have i1 : ((xs.size : Int) - 1 + ((m : Nat) : Int) * (-1)).toNat = xs.size - 1 - m := by omega
      have i2 : xs.toList.reverse[m]? = xs[xs.size - 1 - m]? := by
        rw [List.getElem?_reverse (by simp; omega)]
        simp
      rw [i2]
      show List.filterMap _ [m] = _
      rw [List.filterMap_cons, i1]
      cases z : xs[xs.size - 1 - m]? <;> rfl
  have := e xs.size (Nat.le_refl _)
  rw [this, List.take_of_length_le (by simp)]
section
variable {prog : Program} {w : World} {A : Around} {E : Value → Shared → Prop} {s : Shared}
theorem tup_rev {t sl : Addr} {items : Array Value} {u : Tok} {Q : Value → Shared → Prop} (ht : IsTup s.heap t items) (hs : s.heap.IsSliceOf sl .none .none (.int (-1) u))
    (h : Q (.ref s.heap.objs.size) { s with heap := s.heap.push { cls := .type "tuple", data := .seq items.toList.reverse.toArray } }) (hz : items.size ≤ sizeLine) : wpAny (model prog w) A (getItem (.ref t) (.ref sl)) Q E s := by
  have ok : sizeOk (.seq items.toList.reverse.toArray) := by
    show items.toList.reverse.toArray.size ≤ sizeLine
    rw [List.size_toArray, List.length_reverse, Array.length_toList]
    exact hz
  obtain ⟨os, h1, h2, h3⟩ := id hs
  have tS : s.TypeIs (.ref sl) "slice" := ⟨os, h1, h2⟩
  unfold getItem
  try with_reducible refine wpAny_holding ?_
  first | refine wpAny_bind (wpAny_pure ?_) | skip
  refine wpAny_bind (wpAny_sequenceKey ht.typeIs (by decide) ?_)
  refine wpAny_bind (wpAny_callSpecial?_slot (name := Str.ofString "__getitem__") ht.typeIs slot_tuple_getitem (wpAny_call_entry slot_tuple_getitem ht.typeIs entry_tuple_getitem ?_ (args_tuple_getitem _ _)))
  refine wpAny_bind (m := Builtin.Tuple.tupleItemsOf (.ref t)) (tupleItemsOf_ ht (wpAny_bind (wpAny_typeOf tS ?_)))
  rw [if_pos (by decide)]
  refine wpAny_bind (m := Builtin.Slice.sliceApplied (.ref sl) (pure (items.size : Int))) ?_
  unfold Builtin.Slice.sliceApplied Builtin.Slice.sliceFields
  refine wpAny_bind (wpAny_bind (wpAny_field h1 h3 (x := Value.none) rfl (wpAny_bind (wpAny_field h1 h3 (x := Value.none) rfl (wpAny_bind (wpAny_field h1 h3 (x := .int (-1) u) rfl (wpAny_pure ?_)))))))
  refine wpAny_bind (slicePart_int ?_)
  show wpAny _ _ (if ((-1 : Int) == 0) = true then _ else _) _ _ s
  rw [if_neg (by decide)]
  refine wpAny_bind (slicePart_none (wpAny_bind (slicePart_none (wpAny_bind (wpAny_pure ?_)))))
  show wpAny _ _ (match Builtin.Slice.sliceAdjust none none (-1) (items.size : Int) with | (a, b) => pure (a, (-1 : Int), Builtin.Slice.slicePlaces a b (-1))) _ _ s
  rw [rev_bounds]
  show wpAny _ _ (pure ((items.size : Int) - 1, (-1 : Int), Builtin.Slice.slicePlaces ((items.size : Int) - 1) (-1) (-1))) _ _ s
  rw [rev_count]
  refine wpAny_pure ?_
  show wpAny _ _ (if (((items.size : Int) - 1 == 0) && ((-1 : Int) == 1) && (items.size == items.size)) = true then _ else _) _ _ s
  rw [if_neg (by simp), rev_pick]
  first
    | exact wpAny_bind (m := Builtin.Tuple.tupleExact _) (wpAny_newObj_type (wpAny_pure ⟨_, rfl, wpAny_pure h⟩) ok)
    | exact wpAny_bind (m := Builtin.Tuple.tupleExact _) (wpAny_newObj_type (wpAny_bind (wpAny_pure (wpAny_pure ⟨_, rfl, wpAny_pure h⟩))) ok)
    | exact wpAny_bind (wpAny_bind (m := Builtin.Tuple.tupleExact _) (wpAny_newObj_type (wpAny_pure (wpAny_pure ⟨_, rfl, wpAny_pure h⟩)) ok))
    | exact wpAny_bind (wpAny_bind (m := Builtin.Tuple.tupleExact _) (wpAny_newObj_type (wpAny_pure ⟨_, rfl, wpAny_pure h⟩) ok))
end
def tRevT (K : PySem.W.Frag) (te : TE) : TE := fun σ H Q => te σ H fun x H1 => ∃ a xs, x = .ref a ∧ SqT K H1 a xs ∧ ∀ p, H1 p = none → Q (.ref p) (upd H1 p (.tup xs.reverse))
section
variable {X : Cx}
theorem pe_revT {e : Expr} {te : TE} {k : Nat} {p1 p2 p3 pos : Pos} (he : PE X e te) : PE X (.Subscript e (.Slice none none (some (.UnaryOp .USub (.Constant (.int 1) k p1) p2)) p3) pos) (tRevT X.K te) := by
  refine ⟨fun pins s σ H Q I h => ?_⟩
  refine Subscript_ (thn (he.run pins s σ H _ I h) fun v s1 ⟨x, H1, I1, r1, a, xs, ex, hx, q⟩ => ?_)
  subst ex
  cases r1
  have st : PO X (some (.UnaryOp .USub (.Constant (.int 1) k p1) p2)) (tPart (tUn (rU fun i => .int (-i)) (tC (.int 1)))) := po_some (pe_un un_neg pe_int)
  refine wpAny_Slice (thn (po_none.run pins s1 σ H1 (fun o H2 => o = none ∧ H2 = H1) I1 ⟨rfl, rfl⟩) fun vl s2 ⟨l, H2, I2, pl, el, e2⟩ => ?_)
  subst el e2
  refine thn (po_none.run pins s2 σ H2 (fun o H3 => o = none ∧ H3 = H2) I2 ⟨rfl, rfl⟩) fun vu s3 ⟨u, H3, I3, pu, eu, e3⟩ => ?_
  subst eu e3
  refine thn (st.run pins s3 σ H3 (fun o H4 => o = some (-1) ∧ H4 = H3) I3 ⟨1, rfl, -1, rfl, rfl, rfl⟩) fun vs s4 ⟨o, H4, I4, ps, eo, e4⟩ => ?_
  subst eo e4
  have I5 : Inv X pins σ H4 { s4 with heap := s4.heap.push ⟨.type "slice", none, .fields #[vl, vu, vs], #[]⟩ } := I4.kept (t' := s4.toks) fun b ob q => Heap.get?_push_of_some _ q
  cases pl
  cases pu
  cases ps with
  | int i tk =>
    obtain ⟨its, r, ht, hz⟩ := I5.tuple hx
    have hl := r.length
    refine tail_any (ops := [.ref a, .ref s4.heap.objs.size]) ht.typeIs (slot_tuple_getitem.lookup) ?_ (by with_unfolding_all rfl)
    refine tup_rev ht (Heap.IsSliceOf.new _ .none .none (.int (-1) tk)) ?_ (by rw [List.size_toArray]; omega)
    refine ⟨.ref _, _, I5.laid (t' := s4.toks) (o := .tup xs.reverse) (fun b ob q => Heap.get?_push_of_some _ q) (Nat.le_refl _) ?_, rfl, q _ (I5.hok.fresh (Nat.le_refl _))⟩
    exact ⟨by rw [List.length_reverse]; exact hz, _, r.reverse, IsTup.new _ _⟩
/-- an int or a bool, and a number -/
def numB : V → Option Int
  | .int i => some i
  | .bl b => some (if b = true then 1 else 0)
  | _ => none
def rNumB (g : Int → Int → Int) : R2 := fun x y H Q => ∃ i j, numB x = some i ∧ y = .int j ∧ Q (.int (g i j)) H
theorem op_addB : OpR X (binaryOp .Add) (rNumB fun i j => i + j) := by
  intro pins s σ H x y v u Q I rx ry h
  obtain ⟨i, j, hx, rfl, q⟩ := h
  cases x with
  | int i' =>
    cases hx
    exact op_add pins s σ H _ _ v u Q I rx ry ⟨_, _, rfl, rfl, q⟩
  | bl b =>
    cases hx
    obtain ⟨t, rfl⟩ := ry
    cases rx
    exact PySem.IntBool.add_bool_int ⟨.int _, H, I.tok _, ⟨_, rfl⟩, q⟩
  | _ => cases hx
theorem op_subB : OpR X (binaryOp .Sub) (rNumB fun i j => i - j) := by
  intro pins s σ H x y v u Q I rx ry h
  obtain ⟨i, j, hx, rfl, q⟩ := h
  cases x with
  | int i' =>
    cases hx
    exact op_sub pins s σ H _ _ v u Q I rx ry ⟨_, _, rfl, rfl, q⟩
  | bl b =>
    cases hx
    obtain ⟨t, rfl⟩ := ry
    cases rx
    exact PySem.IntBool.sub_bool_int ⟨.int _, H, I.tok _, ⟨_, rfl⟩, q⟩
  | _ => cases hx
def rEqB : R2 := fun x y H Q => ∃ i j, numB x = some i ∧ y = .int j ∧ ∀ b, Q (.bl b) H
theorem op_eqB : OpR X (compareOp .Eq) rEqB := by
  intro pins s σ H x y v u Q I rx ry h
  obtain ⟨i, j, hx, rfl, q⟩ := h
  cases x with
  | int i' => exact op_eq pins s σ H _ _ v u Q I rx ry ⟨rfl, q _⟩
  | bl b =>
    obtain ⟨t, rfl⟩ := ry
    cases rx
    exact SeqAt.RcAt.bool_int b j t _ _ _ _ ⟨.bl _, H, I, rfl, q _⟩
  | _ => cases hx
/-- str of an int or a bool -/
def rStrB : List V → Hp → VK → Prop := fun xs H Q => (∃ i, xs = [.int i] ∧ i.natAbs.log2 < 1920 ∧ Q (.str (toString i)) H) ∨ ∃ b, xs = [.bl b] ∧ Q (.str (if b = true then "True" else "False" : String)) H
theorem call_strB : CallR X (.type "str") rStrB := by
  intro pins s σ H xs us Q I r h
  rcases h with ⟨i, rfl, z, q⟩ | ⟨b, rfl, q⟩
  · exact call_str_int pins s σ H _ us Q I r ⟨i, rfl, z, q⟩
  · obtain ⟨u, rfl, e⟩ := vals1 r
    cases (show u = Value.bool b from e)
    refine PySem.P.str_of_bool ⟨.str _, H, I.tok _, ⟨_, rfl⟩, ?_⟩
    cases b <;> exact q
end
end KL
set_option Elab.async false
set_option linter.all false
set_option maxRecDepth 100000
set_option maxHeartbeats 4000000
namespace KL
open PySem L2 PySem.Spec PyProof.Rows
/-- a def's promise where no guard stands around its call -/
structure FnG (P : Program) (w : World) (K : PySem.W.Frag) (mg : Str → Option Value) (base : Heap) (CX : CXT) (k : Nat) (f : Addr) (fd : FuncData) (ps : List Str) (sp : Sp) : Prop where
  len : ∀ vs H Q E, sp vs H Q E → vs.length = ps.length
  run : ∀ (A : Around) (outer : List Env) (s : Shared) (H : Hp) (args : Args) (us : List Value) (vs : List V) (Q : VK) (E : XK), A.guards = some [] → Room k A → Env0 P w K mg base A outer s H → BindsTo s fd args (ps.zip us) → Vals vs us → sp vs H Q E →
    codeAny (model P w) A (.call (.ref f) args) (CR CX outer P w H s Q E) s
section
variable {P : Program} {w : World} {K : PySem.W.Frag} {mg : Str → Option Value} {base : Heap}
theorem fnG {CX : CXT} {k : Nat} {f : Addr} {qual x : Str} {st : Stmt} {N ps : List Str} {sp : Sp} {fd : FuncData} (F : Fun K x qual st f fd) (S : FnScope N ps (defScope st)) (len : ∀ vs H Q E, sp vs H Q E → vs.length = ps.length)
    (hbody : ∀ (cdv : Value) (A : Around) (outer : List Env) (s : Shared) (H : Hp) (vs : List V) (Q : VK) (E : XK), A.guards = some [] → Room k (A.deeper (envOfC qual (defScope st) s.heap.objs.size f cdv)) → sp vs H Q E →
      ∃ t, PSs (cxOf CX P w K mg base N qual (defScope st) f cdv A outer s H E) (defBody st) t ∧ t { nx := fun _ H' => Q .non H', rt := Q } (start N vs) H) : FnG P w K mg base CX (k + 1) f fd ps sp := by
  obtain ⟨oc, od, kV, doc, pm, an, cdv, ct, osl, rfl, lk, hcd⟩ := F.ex
  refine ⟨len, fun A outer s H args us vs Q E hg hr e0 hb r hs => ?_⟩
  have hl := len _ _ _ _ hs
  have KX := e0.mod.kin.keeps fun b o e => (e0.bs b o e).1
  have lim := e0.mod.nolimit.keeps fun b o e => (e0.bs b o e).1
  have hk : ∀ y ∈ ps.zip us, (defScope st).names.lookup y.1 = some .local ∨ ((defScope st).names.lookup y.1 = some .cell ∧ ((cellsFrom (s.heap.objs.size + 1) (defScope st).names []).lookup y.1).isSome = true) := by
    rintro ⟨n, v⟩ hy
    rcases S.par n (List.of_mem_zip hy).1 with q | q
    · exact Or.inl q
    · exact Or.inr ⟨q, PySem.W.cellsFrom_some _ _ _ (Or.inl q)⟩
  refine codeAny_call_function hr.depth (KX _ _ lk) rfl S.co S.gen rfl (PySem.W.codeRec_of KX hcd) (hb _ _ _ _ ?_)
  refine wpAny_newFunctionEnv_cells S.kind hk fun env he s1 z => ?_
  subst he
  refine ⟨lim.keeps z.toInCall.keep, codeAny_func ?_⟩
  obtain ⟨t, ht, hq⟩ := hbody cdv A outer s H vs Q E hg (hr.deeper _) hs
  have J0 := inv_start (CX := CX) (E := E) S hr.hd e0 hl r z
  refine wpAny_mono (ht.run [] s1 (start N vs) H _ J0 hq) (fun fl s' y => ?_) fun e s' y => y
  match fl, y with
  | .ret u, ⟨v, σ', H', J, rv, q⟩ => exact ⟨v, H', J.os, J.bare, J.base, J.hok, rv, q⟩
  | .next, ⟨σ', H', J, q⟩ => exact ⟨V.non, H', J.os, J.bare, J.base, J.hok, rfl, q⟩
  | .brk, ⟨_, _, _, q⟩ => exact q.elim
  | .cont, ⟨_, _, _, q⟩ => exact q.elim
end
section
variable {X : Cx} {CX : CXT} {k : Nat} {f : Addr} {fd : FuncData} {ps : List Str} {sp : Sp} {E : XK} {x : Str} {p pos : Pos} {e : Expr} {es : List Expr} {t : TA}
theorem pe_callG (F : FnG X.prog X.w X.K X.mg X.base CX k f fd ps sp) (hG : X.A.guards = some []) (hr : Room k X.A) (hg : Gl X x) (hm : X.mg x = some (.ref f)) (hk : PySem.W.keepIn X.K (.ref f) = true) (hb : L2.Binds X.K fd ps []) (hx : Passes CX X E)
    (ha : PA X (e :: es) t) (hdb : (x == ("__debug__" : Str)) = false := by decide) (he : starEach (e :: es) X.env = (false, eval e X.env) :: starEach es X.env := by rfl) (hpl : (backTo pos (starEach es X.env)).any (·.1) = false := by rfl) :
    PE X (.Call (.Name x p) (e :: es) [] pos) (tCall sp [] E t) := by
  refine ⟨fun pins s σ H Q I h => ?_⟩
  refine wpAny_Call_Name_kw (ld_glob I hg hm ?_ hdb)
  refine PySem.W.callWith_K (h₀ := X.base) I.ok.mod.kin hk (thn (ha.run pos pins s σ H _ I h) fun us s1 ⟨vs, H1, I1, r, q⟩ => ⟨I1.kIn, ?_⟩) he hpl
  have q' : sp vs H1 Q E := by
    have z : sp (vs ++ []) H1 Q E := q
    rwa [List.append_nil] at z
  have hl : (us ++ []).length = ps.length := by
    rw [List.append_nil, ← r.length]
    exact F.len _ _ _ _ q'
  have bd := hb s1 us I1.kIn hl
  rw [List.append_nil] at bd
  refine wpAny_call (codeAny_mono (F.run X.A X.stack s1 H1 ⟨us, []⟩ us vs Q E hG hr I1.env0 bd r q') fun res s' y => ?_)
  match res, y with
  | .error er, y => exact hx pins σ H1 s1 er s' I1 y
  | .ok (.ret u), y => exact I1.after y
  | .ok .next, y => exact False.elim y
  | .ok .brk, y => exact False.elim y
  | .ok .cont, y => exact False.elim y
end
section
variable {P : Program} {w : World} {K : PySem.W.Frag} {mg mb : Str → Option Value} {CX : CXT} {k : Nat} {fa a : Addr} {fd : FuncData} {x : Str} {sp : Sp} {s1 : Shared} {vs : List Value} {ns : List Int}
/-- the law's call, from a heap in which the script alone may be tracked -/
theorem law_core (KX : K.In s1.heap) (hns : s1.heap.Ns mainGlobals mg) (hb : s1.heap.Ns builtinsNs mb) (hbb : ∀ x : Str, x ≠ "__name__" → mb x = bootBuiltins x) (hlim : s1.heap.NoLimit) (hg : s1.gens = #[])
    (ha : s1.heap.get? a = some { cls := .type "list", data := .seq vs.toArray }) (hr : Room k PySem.callerA)
    (F : ∀ base : Heap, K.In base → base.Ns mainGlobals mg → FnG P w K mg base CX k fa fd [x] sp) (hbind : ∀ (s : Shared) (u : Value), BindsTo s fd ⟨[u], []⟩ [(x, u)])
    (hCX : ∀ H e s', CX [] H s1 (fun _ _ _ => False) e s' → False) (H : Hp) (hO : Only H) (q0 : sp [.ref a] H (fun v _ => v = .bl true) fun _ _ _ => False) (hok : HOk P w H s1.heap) (hA : ∀ b, H b ≠ none → b = a) (hK : H a ≠ none → K.lookup a = none) :
    codeAny (model P w) PySem.callerA (.call (.ref fa) ⟨[.ref a], []⟩) (fun r s' => r = .ok (.ret (.bool true)) ∧ OldK s1.heap s'.heap ∧ s'.os = s1.os ∧ AllBare s'.gens) s1 := by
  have only_a : ∀ {b : Addr} {u : HO}, H b = some u → b = a := fun {b u} q => hA b (by rw [q]; simp)
  have dict_free : ∀ {b : Addr} {o : Obj} {es : Array DictEntry} {ep : Nat}, s1.heap.get? b = some o → o.data = .dict es ep → H b = none := fun {b o es ep} e d => by
    cases q : H b with
    | none => rfl
    | some u =>
      have z := only_a q
      subst z
      rw [ha] at e
      cases e
      have d' : Data.seq vs.toArray _ = Data.dict es ep := d
      cases d'
  have up : ∀ {b : Addr} {m : Str → Option Value}, s1.heap.Ns b m → (hidT s1.heap H).Ns b m := fun {b m} ⟨o, es, ep, e, d, r⟩ => ⟨o, es, ep, hidT_get e (dict_free e d), d, r⟩
  have kIn : K.In (hidT s1.heap H) := fun b o e => by
    refine hidT_get (KX b o e) ?_
    cases q : H b with
    | none => rfl
    | some u =>
      have z := only_a q
      subst z
      rw [hK (by rw [q]; simp)] at e
      cases e
  have M : Mod K mg (hidT s1.heap H) := ⟨kIn, up hns, ⟨mb, up hb, hbb⟩, let ⟨mc, y1, y2⟩ := hlim; ⟨mc, up y1, y2⟩⟩
  have nil : ∀ b : Addr, b ∉ ([] : List Addr) := fun b z => by simp at z
  have e0 : Env0 P w K mg (hidT s1.heap H) PySem.callerA [] s1 H := ⟨rfl, M, fun b o e => of_hidT e, Nat.le_of_eq (hidT_size _ _), trivial, fun b z => absurd z (nil b), hok, .of_eq hg⟩
  refine codeAny_mono ((F _ kIn (up hns)).run PySem.callerA [] s1 H ⟨[.ref a], []⟩ [.ref a] [.ref a] _ _ rfl hr e0 (hbind s1 (.ref a)) (.cons rfl .nil) q0) fun r s' y => ?_
  match r, y with
  | .error e, y => exact (hCX H e s' y).elim
  | .ok .next, y => exact y.elim
  | .ok .brk, y => exact y.elim
  | .ok .cont, y => exact y.elim
  | .ok (.ret u), ⟨v, H', os, bare, un, hok', rv, q⟩ =>
    have q' : v = .bl true := q
    subst q'
    have eu : u = Value.bool true := rv
    subst eu
    refine ⟨rfl, OldK.of_keep fun b o e => ?_, os, bare⟩
    cases q : H b with
    | none => exact un.keep b o e q (nil b) (nil b)
    | some u =>
      rcases hO b with z | ⟨ob, xs, z⟩
      · rw [q] at z
        cases z
      · have e1 := (hok b _ z).1
        have e2 := (hok' b _ (un.frzs b ob _ z)).1
        rw [e] at e1
        cases e1
        exact e2
theorem law_callG (KX : K.In s1.heap) (hns : s1.heap.Ns mainGlobals mg) (hb : s1.heap.Ns builtinsNs mb) (hbb : ∀ x : Str, x ≠ "__name__" → mb x = bootBuiltins x) (hlim : s1.heap.NoLimit) (hg : s1.gens = #[])
    (ha : s1.heap.get? a = some { cls := .type "list", data := .seq vs.toArray }) (hi : IntsAre vs ns) (hl : ns.length ≤ sizeLine) (hr : Room k PySem.callerA)
    (F : ∀ base : Heap, K.In base → base.Ns mainGlobals mg → FnG P w K mg base CX k fa fd [x] sp) (hbind : ∀ (s : Shared) (u : Value), BindsTo s fd ⟨[u], []⟩ [(x, u)])
    (hsp : ∀ H : Hp, Only H → SqL K H a (ns.map V.int) → sp [.ref a] H (fun v _ => v = .bl true) fun _ _ _ => False) (hCX : ∀ H e s', CX [] H s1 (fun _ _ _ => False) e s' → False) :
    codeAny (model P w) PySem.callerA (.call (.ref fa) ⟨[.ref a], []⟩) (fun r s' => r = .ok (.ret (.bool true)) ∧ OldK s1.heap s'.heap ∧ s'.os = s1.os ∧ AllBare s'.gens) s1 := by
  have rv := vals_ints hi
  have lenV := hi.length
  cases hk : K.lookup a with
  | some o =>
    have e := KX a o hk
    rw [ha] at e
    cases e
    have hO : Only (fun _ => none) := fun _ => .inl rfl
    refine law_core KX hns hb hbb hlim hg ha hr F hbind hCX (fun _ => none) hO (hsp _ hO (.inr ⟨_, vs.toArray, _, hk, rfl, rfl, rfl, by rw [List.size_toArray, lenV]; exact hl, by simpa using rv⟩)) (fun b u z => ?_) (fun b z => absurd rfl z) fun z => absurd rfl z
    have z' : (none : Option HO) = some u := z
    cases z'
  | none =>
    let T : Hp := fun b => if b = a then some (.frz { cls := .type "list", data := .seq vs.toArray } (.lst (ns.map V.int))) else none
    have Ta : T a = some (.frz { cls := .type "list", data := .seq vs.toArray } (.lst (ns.map V.int))) := if_pos rfl
    have Tb : ∀ b, b ≠ a → T b = none := fun b hb => if_neg hb
    have hO : Only T := fun b => by
      by_cases z : b = a
      · exact .inr ⟨_, _, by rw [z]; exact Ta⟩
      · exact .inl (Tb b z)
    refine law_core KX hns hb hbb hlim hg ha hr F hbind hCX T hO (hsp T hO (.inl (.inr ⟨_, Ta⟩))) (fun b u z => ?_) (fun b z => ?_) fun _ => hk
    · by_cases y : b = a
      · subst y
        have z' := Ta.symm.trans z
        cases z'
        exact ⟨ha, by rw [List.length_map]; exact hl, vs, _, rv, ha⟩
      · have z' := (Tb b y).symm.trans z
        cases z'
    · by_cases y : b = a
      · exact y
      · exact absurd (Tb b y) z
end
/-- the goal that the head leaves, from the law's promise -/
theorem walkG {l : PySem.W.OpenLaw} {n k : Nat} {q : Program} {loose : List Str} {XP : (Str → Option Value) → Heap → Prop} {YP : World → Heap → Prop} {d : DefRec} {K : Params → PySem.W.Frag} {CX : World → CXT} {sp : World → Sp} {x : Str}
    (hn : l.most = some n) (hn2 : n ≤ sizeLine) (hdf : d.params.defaults = []) (hr : Room k PySem.callerA) (hY : ∀ (w : World) (h : Heap), YP w h → (K w.params).In h)
    (F : ∀ (w : World) (mg : Str → Option Value) (fa : Addr) (h : Heap), (K w.params).In h → h.Ns mainGlobals mg → mg d.name = some (.ref fa) →
      ∃ fd : FuncData, (∀ (s : Shared) (u : Value), BindsTo s fd ⟨[u], []⟩ [(x, u)]) ∧ ∀ base : Heap, (K w.params).In base → base.Ns mainGlobals mg → FnG l.prog w (K w.params) mg base (CX w) k fa fd [x] (sp w))
    (hsp : ∀ (w : World) (H : Hp) (a : Addr) (ns : List Int), ns.length ≤ n → Only H → SqL (K w.params) H a (ns.map V.int) → sp w [.ref a] H (fun v _ => v = .bl true) fun _ _ _ => False)
    (hCX : ∀ (w : World) (H : Hp) (s : Shared) (e : Value) (s' : Shared), CX w [] H s (fun _ _ _ => False) e s' → False) : PySem.W.WalkO q loose XP YP l.row.toRowW d [] (fun f vs => PySem.call f vs) := by
  refine Att.attach_call hn hdf fun w s0 s1 mg mb fa o pm cd doc a vs ns G Y ho hd hcd hmg hobj hints hlen hg => ?_
  have KX := hY w _ Y
  obtain ⟨fd, hb, hF⟩ := F w mg fa _ KX G.T.g hmg
  exact law_callG KX G.T.g G.T.b G.T.builtins G.T.nolimit hg hobj hints (Nat.le_trans hlen hn2) hr hF hb (fun H hO hS => hsp w H a ns hlen hO hS) fun H e s' => hCX w H s1 e s'
theorem fnG0 {P : Program} {w : World} {K : PySem.W.Frag} {mg : Str → Option Value} {base : Heap} {k : Nat} {f : Addr} {qual x : Str} {st : Stmt} {N ps : List Str} {sp : Sp} {fd : FuncData} (F : Fun K x qual st f fd) (S : FnScope N ps (defScope st)) (len : ∀ vs H Q E, sp vs H Q E → vs.length = ps.length)
    (hbody : ∀ (cdv : Value) (A : Around) (outer : List Env) (s : Shared) (H : Hp) (vs : List V) (Q : VK) (E : XK), A.guards = some [] → Room k (A.deeper (envOfC qual (defScope st) s.heap.objs.size f cdv)) → sp vs H Q E →
      ∃ t, PSs (cxOf CX0 P w K mg base N qual (defScope st) f cdv A outer s H E).nox (defBody st) t ∧ t { nx := fun _ H' => Q .non H', rt := Q } (start N vs) H) : FnG P w K mg base CX0 (k + 1) f fd ps sp :=
  fnG F S len fun cdv A outer s H vs Q E hg hr hs => by
    obtain ⟨t, ht, hq⟩ := hbody cdv A outer s H vs Q E hg hr hs
    exact ⟨t, ht.nox, hq⟩
end KL
set_option Elab.async false
set_option linter.all false
set_option maxRecDepth 100000
set_option maxHeartbeats 2000000
namespace KL
open PySem L2 PySem.Spec PyProof.Rows
section
variable {X : Cx} {pins : List (Addr × Obj)} {σ : L2.St} {H : Hp} {s : Shared}
theorem most_two {h : Heap} {n m : Nat} {as bs : List Addr} (x : ReadAtMost h n as) (y : ReadAtMost h m bs) : ReadAtMost h (max n m) (as ++ bs) :=
  (x.mono (Nat.le_max_left n m)).append (y.mono (Nat.le_max_right n m))
mutual
theorem Dq.repr (I : Inv X pins σ H s) : ∀ (d : PyData) (v : V) (u : Value), Dq H v d → RelV v u → d.showable = true → d.shown.length ≤ sizeLine → ∃ bs, ReadAtMost s.heap d.depth bs ∧ ReprK X.prog X.w bs s.heap d.depth u d.shown
  | .list ds, v, u, h, r, w, z => by
    obtain ⟨as, rd, _⟩ := Dq.reads I (.list ds) v u h r
    cases h with
    | lst q ha =>
      cases r
      obtain ⟨_, its, n, rv, ho⟩ := I.hok _ _ q
      have z : (listText (PyData.shownAll ds)).length ≤ sizeLine := by simpa only [PyData.shown] using z
      obtain ⟨bs, h1, h2⟩ := DqAll.repr I ds _ its ha rv (by simpa [PyData.showable] using w) fun t ht => Nat.le_trans (listText_mem_le ht) z
      have out := not_mem_of_deeper rd (n := PyData.depthAll ds) (Nat.lt_succ_self _) h1
      refine ⟨_ :: bs, ReadAtMost.cons rd (Nat.le_succ (PyData.depthAll ds)) h1, ?_⟩
      rw [PyData.depth, PyData.shown]
      cases its with
      | nil =>
        cases ds with
        | nil =>
          rw [PyData.shownAll, listText_nil]
          exact ReprK.listEmpty ho rfl rfl
        | cons d ds => cases h2
      | cons x l => exact ReprK.list ho rfl rfl out (h2.length_eq.trans (by simp)) fun i y e => h2.item i y (by simpa using e)
  | .tuple ds, v, u, h, r, w, z => by
    obtain ⟨as, rd, _⟩ := Dq.reads I (.tuple ds) v u h r
    cases h with
    | tup q ha =>
      cases r
      obtain ⟨_, its, rv, o, o1, o2, n, o3⟩ := I.hok _ _ q
      have z : (tupleText (PyData.shownAll ds)).length ≤ sizeLine := by simpa only [PyData.shown] using z
      obtain ⟨bs, h1, h2⟩ := DqAll.repr I ds _ its ha rv (by simpa [PyData.showable] using w) fun t ht => Nat.le_trans (tupleText_mem_le ht) z
      refine ⟨_ :: bs, ReadAtMost.cons rd (Nat.le_succ (PyData.depthAll ds)) h1, ?_⟩
      rw [PyData.depth, PyData.shown]
      exact ReprK.tuple o1 o2 o3 (not_mem_of_deeper rd (n := PyData.depthAll ds) (Nat.lt_succ_self _) h1) h2
  | .none, v, u, h, r, w, z => let ⟨_, rd, _⟩ := Dq.reads I _ v u h r; ReprK.of_reads rd w (fun x => by cases x) z
  | .bool _, v, u, h, r, w, z => let ⟨_, rd, _⟩ := Dq.reads I _ v u h r; ReprK.of_reads rd w (fun x => by cases x) z
  | .int _, v, u, h, r, w, z => let ⟨_, rd, _⟩ := Dq.reads I _ v u h r; ReprK.of_reads rd w (fun x => by cases x) z
  | .str _, v, u, h, r, w, z => let ⟨_, rd, _⟩ := Dq.reads I _ v u h r; ReprK.of_reads rd w (fun x => by cases x) z
  | .dict _, v, u, h, r, w, z => let ⟨_, rd, sm⟩ := Dq.reads I _ v u h r; ReprK.of_reads rd w (fun _ => sm rfl) z
theorem DqAll.repr (I : Inv X pins σ H s) : ∀ (ds : List PyData) (vs : List V) (us : List Value), DqAll H vs ds → Vals vs us → PyData.showableAll ds = true → (∀ t ∈ PyData.shownAll ds, t.length ≤ sizeLine) →
    ∃ bs, ReadAtMost s.heap (PyData.depthAll ds) bs ∧ ReprAllK X.prog X.w bs s.heap (PyData.depthAll ds) us (PyData.shownAll ds)
  | [], _, _, h, r, _, _ => by
    cases h
    cases r
    exact ⟨[], (fun _ x => nomatch x), ReprAllK.nil⟩
  | d :: ds, _, _, h, r, w, z => by
    cases h with
    | cons h1 h2 =>
      cases r with
      | cons r1 r2 =>
        have w' := Bool.and_eq_true_iff.mp (show (d.showable && PyData.showableAll ds) = true from w)
        obtain ⟨b1, k1, j1⟩ := Dq.repr I d _ _ h1 r1 w'.1 (z _ (.head _))
        obtain ⟨b2, k2, j2⟩ := DqAll.repr I ds _ _ h2 r2 w'.2 fun t ht => z t (.tail _ ht)
        refine ⟨b1 ++ b2, most_two k1 k2, .cons ((j1.more fun b hb => ?_).level_le (Nat.le_max_left _ _)) (j2.more_le (fun b hb => ?_) (Nat.le_max_right _ _))⟩
        · exact List.mem_append_left b2 hb
        · exact List.mem_append_right b1 hb
end
end
/-- what the text of data needs -/
structure Seen (d : PyData) : Prop where
  w : d.showable = true
  z : d.shown.length ≤ 4000000
  p : d.depth ≤ 20
/-- repr of a list with items -/
def rRepL : List V → Hp → VK → Prop := fun xs H Q => ∃ (q : Addr) (v : V) (vs : List V) (d : PyData) (ds : List PyData), xs = [.ref q] ∧ H q = some (.lst (v :: vs)) ∧ DqAll H (v :: vs) (d :: ds) ∧ Seen (.list (d :: ds)) ∧ Q (.str (PyData.list (d :: ds)).shown) H
theorem call_repL {X : Cx} (hG : X.A.guards = some []) (hu : X.A.units + 64 < cLine) : CallR X (.builtin "repr") rRepL := by
  intro pins s σ H xs us Q I r h
  obtain ⟨q, v, vs, d, ds, rfl, hq, hd, S, k⟩ := h
  obtain ⟨u, rfl, ru⟩ := vals1 r
  cases (show u = Value.ref q from ru)
  obtain ⟨as, rd, _⟩ := Dq.reads I (.list (d :: ds)) (.ref q) (.ref q) (.lst hq hd) rfl
  obtain ⟨_, its, n, rv, ho⟩ := I.hok _ _ hq
  cases rv with
  | cons r1 rv =>
    rename_i u1 us1
    have zz : (PyData.list (d :: ds)).shown.length ≤ sizeLine := Nat.le_trans S.z (by rw [sizeLine_eq]; omega)
    have z : (listText (PyData.shownAll (d :: ds))).length ≤ sizeLine := by simpa only [PyData.shown] using zz
    obtain ⟨bs, h1, h2⟩ := DqAll.repr I (d :: ds) _ (u1 :: us1) hd (.cons r1 rv) (by simpa [PyData.showable] using S.w) fun t ht => Nat.le_trans (listText_mem_le ht) z
    have out := not_mem_of_deeper rd (n := PyData.depthAll (d :: ds)) (Nat.lt_succ_self _) h1
    have dp : PyData.depthAll (d :: ds) + 1 ≤ 20 := S.p
    refine call_repr_slot (T := "list") (idr := "list.__repr__") (by omega) ⟨_, ho, rfl⟩ F.slot_list_repr.toG ?_
    refine call_list_reprK (ts := PyData.shownAll (d :: ds)) (d := PyData.depthAll (d :: ds)) ho rfl rfl out (h2.length_eq.trans (by simp)) (fun i y e => h2.item i y (by simpa using e)) (g := []) hG (fun b _ => Clear.nil b) (by show X.A.units + 1 + (PyData.depthAll (d :: ds) + 1) < cLine; omega) (fun b o e => e) (fun h' u tk hk => ⟨_, _, rfl, .str _, H, I.kept hk, ⟨u, by simp only [PyData.shown]⟩, k⟩) z
end KL
set_option Elab.async false
set_option linter.all false
set_option maxRecDepth 100000
set_option maxHeartbeats 4000000
namespace KL
open PySem L2 PySem.Spec PyProof.Rows
/-! ### o.m(k=v) -/
def tMthK (C : Addr) (m : Str) (sp : Sp) (gV : List V → List V → List V) (E : XK) (ta : TE) (tk : TA) : TE := fun σ H Q => ta σ H fun x H1 => ∃ a dx fs, x = .ref a ∧ H1 a = some (.ins C dx fs) ∧ fs.lookup m = none ∧ tk σ H1 fun zs H2 => sp (gV [x] zs) H2 Q E
theorem pe_methK0 {X : Cx} {CX : CXT} {k : Nat} {f C : Addr} {fd : FuncData} {ps ks : List Str} {sp : Sp} {E : XK} {o : Expr} {m : Str} {apos pos : Pos} {kws : List Keyword} {ta : TE} {tk : TA} {g : List Value → List Value → List Value} {gV : List V → List V → List V} {pl : Sem Bool}
    (he : PE X o ta) (c : Cls X.K C) (hm : Meth X.K C m f) (F : FnOk X.prog X.w X.K X.mg X.base CX k f fd ps sp) (hr : Room k X.A) (hb : KBinds X.K fd ps ks g gV) (hx : Passes CX X E) (hkw : PK X kws tk)
    (hall : (backToKw pos (keywordEach kws X.env)).all (·.1.isSome) = true := by rfl) (hks : (backToKw pos (keywordEach kws X.env)).filterMap (·.1) = ks := by rfl)
    (hpl : ((backTo pos (starEach [] X.env)).any (·.1) || (backToKw pos (keywordEach kws X.env)).any (·.1.isNone)) = false := by rfl)
    (ht : eval (.Call (.Attribute o m apos) [] kws pos) X.env = (do
      let ov ← eval o X.env
      standAt apos.atName
      let (f, first) ← holding [ov] (getMethod ov m pl)
      callWith pos f first (backTo pos (starEach [] X.env)) (backToKw pos (keywordEach kws X.env))) := by rfl) :
    PE X (.Call (.Attribute o m apos) [] kws pos) (tMthK C m sp gV E ta tk) := by
  refine ⟨fun pins s σ H Q I h => ?_⟩
  refine PySem.W.methodCall_KW (pl := pl) (thn (he.run pins s σ H _ I h) fun u s1 ⟨x, H1, I1, rx, a, dx, fs, ex, ea, l, q⟩ => ?_) ht
  subst ex
  obtain rfl : u = Value.ref a := rx
  refine getmeth_ok I1 ea c hm l ?_
  refine PySem.W.callWith_KW0 (first := [.ref a]) (h₀ := X.base) I.ok.mod.kin hm.kp hall (thn (hkw.run pos pins s1 σ H1 _ I1 q) fun ws s2 ⟨zs, H2, I2, rz, q2⟩ => ⟨I2.kIn, ?_⟩) hpl
  rw [hks]
  exact run_fnk (us := [.ref a]) (vs := [.ref a]) F hr hb hx I2 (.cons rfl .nil) rz q2
/-- repr of a tuple -/
def rRepT : List V → Hp → VK → Prop := fun xs H Q => ∃ (q : Addr) (vs : List V) (ds : List PyData), xs = [.ref q] ∧ H q = some (.tup vs) ∧ DqAll H vs ds ∧ Seen (.tuple ds) ∧ Q (.str (PyData.tuple ds).shown) H
theorem call_repT {X : Cx} (hG : X.A.guards = some []) (hu : X.A.units + 64 < cLine) : CallR X (.builtin "repr") rRepT := by
  intro pins s σ H xs us Q I r h
  obtain ⟨q, vs, ds, rfl, hq, hd, S, k⟩ := h
  obtain ⟨u, rfl, ru⟩ := vals1 r
  cases (show u = Value.ref q from ru)
  obtain ⟨as, rd, _⟩ := Dq.reads I (.tuple ds) (.ref q) (.ref q) (.tup hq hd) rfl
  obtain ⟨_, its, rv, o, o1, o2, n, o3⟩ := I.hok _ _ hq
  have zz : (PyData.tuple ds).shown.length ≤ sizeLine := Nat.le_trans S.z (by rw [sizeLine_eq]; omega)
  have z : (tupleText (PyData.shownAll ds)).length ≤ sizeLine := by simpa only [PyData.shown] using zz
  obtain ⟨bs, h1, h2⟩ := DqAll.repr I ds _ its hd rv (by simpa [PyData.showable] using S.w) fun t ht => Nat.le_trans (tupleText_mem_le ht) z
  have out := not_mem_of_deeper rd (n := PyData.depthAll ds) (Nat.lt_succ_self _) h1
  have dp : PyData.depthAll ds + 1 ≤ 20 := S.p
  refine call_repr_slot (T := "tuple") (idr := "tuple.__repr__") (by omega) ⟨_, o1, o2⟩ F.slot_tuple_repr ?_
  exact call_tuple_reprK (ts := PyData.shownAll ds) (d := PyData.depthAll ds) o1 o2 o3 out h2 (g := []) hG (fun b _ => Clear.nil b) (by show X.A.units + 1 + (PyData.depthAll ds + 1) < cLine; omega) (fun b o e => e) (fun h' u tk hk => ⟨_, _, rfl, .str _, H, I.kept hk, ⟨u, by simp only [PyData.shown]⟩, k⟩) z
end KL
set_option Elab.async false
set_option linter.all false
set_option maxRecDepth 100000
set_option maxHeartbeats 2000000
namespace KL
open PySem L2 PySem.Spec PyProof.Rows
mutual
/-- how long the text of data is at most -/
def wt : PyData → Nat
  | .none => 4
  | .bool _ => 5
  | .int i => i.natAbs.log2 + 2
  | .str x => 10 * x.length + 2
  | .list ds => wtAll ds + 2
  | .tuple ds => wtAll ds + 3
  | .dict kvs => (PyData.dict kvs).shown.length
def wtAll : List PyData → Nat
  | [] => 0
  | d :: r => wt d + 2 + wtAll r
end
mutual
/-- how wide data is at its widest -/
def wd : PyData → Nat
  | .none => 0
  | .bool _ => 0
  | .int i => i.natAbs.log2
  | .str x => x.length
  | .list ds => max ds.length (wdAll ds)
  | .tuple ds => max ds.length (wdAll ds)
  | .dict kvs => if kvs = [] then 0 else 2000
def wdAll : List PyData → Nat
  | [] => 0
  | d :: r => max (wd d) (wdAll r)
end
def txS (x : Str) : Bool := x.cps.toList.all fun c => decide (c < 128)
mutual
/-- plain signs alone -/
def txD : PyData → Bool
  | .str x => txS x
  | .list ds => txAll ds
  | .tuple ds => txAll ds
  | _ => true
def txAll : List PyData → Bool
  | [] => true
  | d :: r => txD d && txAll r
end
theorem list_len (ts : List Str) : (listText ts).length ≤ piled ts + 2 := by
  cases ts with
  | nil => decide +kernel
  | cons t r =>
    have h := textFrom_length_pos r 1 (("[" : Str) ++ (if (0 : Nat) > 0 then ", " else "" : String) ++ t) Nat.one_pos
    have e : (("[" : Str) ++ (if (0 : Nat) > 0 then ", " else "" : String) ++ t).length = 1 + t.length := by
      rw [strLen_append, strLen_append]
      rfl
    have x : (listText (t :: r)).length = (textFrom 1 (("[" : Str) ++ (if (0 : Nat) > 0 then ", " else "" : String) ++ t) r).length + 1 := by
      show (textFrom 0 "[" (t :: r) ++ "]").length = _
      rw [strLen_append]
      rfl
    rw [x, h, e, piled_cons]
    omega
theorem tup_tlen (ts : List Str) : (tupleText ts).length ≤ piled ts + 3 := by
  unfold tupleText
  rw [strLen_append, strLen_append]
  have a : (("(" : Str)).length = 1 := rfl
  have b : ((if (ts.length == 1) = true then ",)" else ")" : String) : Str).length ≤ 2 := by
    split
    · decide +kernel
    · decide +kernel
  have c : (Str.join ", " ts).length ≤ piled ts := by
    cases ts with
    | nil => decide +kernel
    | cons t r =>
      have := join_length_add (t :: r) (by simp)
      omega
  omega
mutual
theorem shown_wt : ∀ (d : PyData), txD d = true → d.shown.length ≤ wt d
  | .none, _ => by decide +kernel
  | .bool b, _ => by cases b <;> decide +kernel
  | .int i, _ => by
    have e := int_text_length_le (a := i) (k := i.natAbs.log2 + 1) (Nat.succ_pos _) (Nat.lt_succ_self _)
    rw [PyData.shown]
    show (Str.ofString (toString i)).length ≤ i.natAbs.log2 + 2
    rw [PySem.ofString_length]
    exact e
  | .str x, h => by
    rw [PyData.shown]
    refine StrLaws.reprText_len x fun c hc => ?_
    have := of_decide_eq_true (List.all_eq_true.mp (show x.cps.toList.all (fun c => decide (c < 128)) = true from h) c hc)
    exact Nat.lt_trans this (by decide)
  | .list ds, h => by
    rw [PyData.shown]
    exact Nat.le_trans (list_len _) (Nat.add_le_add_right (shown_all ds h) 2)
  | .tuple ds, h => by
    rw [PyData.shown]
    exact Nat.le_trans (tup_tlen _) (Nat.add_le_add_right (shown_all ds h) 3)
  | .dict kvs, _ => Nat.le_refl _
theorem shown_all : ∀ (ds : List PyData), txAll ds = true → piled (PyData.shownAll ds) ≤ wtAll ds
  | [], _ => Nat.le_refl _
  | d :: ds, h => by
    have h' := Bool.and_eq_true_iff.mp (show (txD d && txAll ds) = true from h)
    rw [PyData.shownAll, piled_cons]
    have q1 := shown_wt d h'.1
    have q2 := shown_all ds h'.2
    show _ ≤ wt d + 2 + wtAll ds
    omega
end
mutual
theorem sm_wd : ∀ (d : PyData), wd d ≤ 1000 → smB d = true ∧ d.showable = true
  | .none, _ => ⟨rfl, rfl⟩
  | .bool _, _ => ⟨rfl, rfl⟩
  | .int i, h => by
    have h : i.natAbs.log2 ≤ 1000 := h
    exact ⟨decide_eq_true (by omega), decide_eq_true (by omega)⟩
  | .str x, h => ⟨decide_eq_true h, rfl⟩
  | .list ds, h => by
    have h : max ds.length (wdAll ds) ≤ 1000 := h
    obtain ⟨q1, q2⟩ := sm_wdAll ds (by omega)
    refine ⟨?_, q2⟩
    show (decide (ds.length ≤ 1000) && smAll ds) = true
    rw [q1, decide_eq_true (by omega)]
    rfl
  | .tuple ds, h => by
    have h : max ds.length (wdAll ds) ≤ 1000 := h
    obtain ⟨q1, q2⟩ := sm_wdAll ds (by omega)
    refine ⟨?_, q2⟩
    show (decide (ds.length ≤ 1000) && smAll ds) = true
    rw [q1, decide_eq_true (by omega)]
    rfl
  | .dict kvs, h => by
    have h : (if kvs = [] then 0 else 2000) ≤ 1000 := h
    by_cases e : kvs = []
    · subst e
      exact ⟨rfl, rfl⟩
    · rw [if_neg e] at h
      omega
theorem sm_wdAll : ∀ (ds : List PyData), wdAll ds ≤ 1000 → smAll ds = true ∧ PyData.showableAll ds = true
  | [], _ => ⟨rfl, rfl⟩
  | d :: ds, h => by
    have h : max (wd d) (wdAll ds) ≤ 1000 := h
    obtain ⟨a1, a2⟩ := sm_wd d (by omega)
    obtain ⟨b1, b2⟩ := sm_wdAll ds (by omega)
    refine ⟨?_, ?_⟩
    · show (smB d && smAll ds) = true
      rw [a1, b1]
      rfl
    · show (d.showable && PyData.showableAll ds) = true
      rw [a2, b2]
      rfl
end
/-- data of a size -/
structure Gd (w p W : Nat) (d : PyData) : Prop where
  wd : wd d ≤ w
  dp : d.depth ≤ p
  wt : wt d ≤ W
  tx : txD d = true
theorem Gd.mono {w p W w' p' W' : Nat} {d : PyData} (h : Gd w p W d) (h1 : w ≤ w') (h2 : p ≤ p') (h3 : W ≤ W') : Gd w' p' W' d := ⟨Nat.le_trans h.wd h1, Nat.le_trans h.dp h2, Nat.le_trans h.wt h3, h.tx⟩
end KL
namespace VM
section
variable {α : Type} [DecidableEq α]
/-! ### counts that are capped, in the order of their first -/
def put {κ : Type} [DecidableEq κ] : List (κ × Nat) → κ → Nat → List (κ × Nat)
  | [], k, v => [(k, v)]
  | (k', v') :: t, k, v => if k' = k then (k, v) :: t else (k', v') :: put t k v
def get {κ : Type} [DecidableEq κ] : List (κ × Nat) → κ → Nat
  | [], _ => 0
  | (k', v') :: t, k => if k' = k then v' else get t k
def cntF (m : Nat) (acc : List (α × Nat)) (q : α) : List (α × Nat) := put acc q (min (get acc q + 1) m)
def cnt (m : Nat) (L : List α) : List (α × Nat) := L.foldl (cntF m) []
theorem put_keys : ∀ (t : List (α × Nat)) (k : α) (v : Nat), (put t k v).map (·.1) = if k ∈ t.map (·.1) then t.map (·.1) else t.map (·.1) ++ [k]
  | [], k, v => rfl
  | (k', v') :: t, k, v => by
    unfold put
    by_cases e : k' = k
    · subst e
      simp
    · rw [if_neg e]
      have ih := put_keys t k v
      simp only [List.map_cons, ih, List.mem_cons]
      by_cases q : k ∈ t.map (·.1)
      · rw [if_pos q, if_pos (.inr q)]
      · rw [if_neg q, if_neg (by rintro (h | h); exact e h.symm; exact q h)]
        rfl
theorem get_put : ∀ (t : List (α × Nat)) (k : α) (v : Nat) (j : α), get (put t k v) j = if k = j then v else get t j
  | [], k, v, j => by
    unfold put get
    by_cases e : k = j
    · rw [if_pos e, if_pos e]
    · rw [if_neg e, if_neg e]
      rfl
  | (k', v') :: t, k, v, j => by
    unfold put
    by_cases e : k' = k
    · subst e
      rw [if_pos rfl]
      unfold get
      by_cases q : k' = j
      · rw [if_pos q, if_pos q]
      · rw [if_neg q, if_neg q, if_neg q]
    · rw [if_neg e]
      unfold get
      by_cases q : k' = j
      · subst q
        rw [if_pos rfl, if_neg (fun z => e z.symm), if_pos rfl]
      · rw [if_neg q, if_neg q]
        exact get_put t k v j
theorem put_nodup {t : List (α × Nat)} {k : α} {v : Nat} (h : (t.map (·.1)).Nodup) : ((put t k v).map (·.1)).Nodup := by
  rw [put_keys]
  by_cases q : k ∈ t.map (·.1)
  · rw [if_pos q]
    exact h
  · rw [if_neg q]
    refine List.nodup_append.mpr ⟨h, by simp, fun a ha b hb => ?_⟩
    rw [List.mem_singleton.mp hb]
    rintro rfl
    exact q ha
/-- a key that is there has its value -/
theorem mem_get : ∀ {t : List (α × Nat)}, (t.map (·.1)).Nodup → ∀ {k : α} {v : Nat}, (k, v) ∈ t ↔ k ∈ t.map (·.1) ∧ get t k = v
  | [], _, k, v => by simp
  | (k', v') :: t, h, k, v => by
    have h2 := List.nodup_cons.mp (show (k' :: t.map (·.1)).Nodup from h)
    have ih := mem_get (t := t) h2.2 (k := k) (v := v)
    unfold get
    by_cases e : k' = k
    · subst e
      rw [if_pos rfl]
      constructor
      · intro q
        rcases List.mem_cons.mp q with q | q
        · cases q
          exact ⟨by simp, rfl⟩
        · exact absurd (List.mem_map.mpr ⟨_, q, rfl⟩) h2.1
      · rintro ⟨_, rfl⟩
        exact List.mem_cons_self
    · rw [if_neg e]
      constructor
      · intro q
        rcases List.mem_cons.mp q with q | q
        · cases q
          exact absurd rfl e
        · have := ih.mp q
          exact ⟨List.mem_cons_of_mem _ this.1, this.2⟩
      · rintro ⟨q, r⟩
        rcases List.mem_cons.mp q with q | q
        · exact absurd q.symm e
        · exact List.mem_cons_of_mem _ (ih.mpr ⟨q, r⟩)
structure CntOk (m : Nat) (L : List α) (t : List (α × Nat)) : Prop where
  nd : (t.map (·.1)).Nodup
  keys : ∀ k, k ∈ t.map (·.1) ↔ k ∈ L
  val : ∀ k, get t k = min (L.count k) m
theorem cntOk_step {m : Nat} {L : List α} {t : List (α × Nat)} (q : α) (h : CntOk m L t) : CntOk m (L ++ [q]) (cntF m t q) := by
  refine ⟨put_nodup h.nd, fun k => ?_, fun k => ?_⟩
  · unfold cntF
    rw [put_keys]
    by_cases z : q ∈ t.map (·.1)
    · rw [if_pos z, h.keys k, List.mem_append, List.mem_singleton]
      constructor
      · exact .inl
      · rintro (r | r)
        · exact r
        · rw [r]
          exact (h.keys q).mp z
    · rw [if_neg z, List.mem_append, List.mem_append, h.keys k]
  · unfold cntF
    rw [get_put, h.val q, h.val k, List.count_append]
    by_cases e : q = k
    · subst e
      rw [if_pos rfl, List.count_singleton_self]
      omega
    · rw [if_neg e, List.count_singleton, if_neg (by simpa using e)]
      rfl
theorem cntOk_fold {m : Nat} : ∀ (M : List α) {L : List α} {t : List (α × Nat)}, CntOk m L t → CntOk m (L ++ M) (M.foldl (cntF m) t)
  | [], L, t, h => by
    rw [List.append_nil]
    exact h
  | q :: M, L, t, h => by
    have := cntOk_fold M (cntOk_step q h)
    rw [List.append_assoc] at this
    exact this
theorem cntOk (m : Nat) (L : List α) : CntOk m L (cnt m L) := cntOk_fold (L := []) (t := []) L ⟨List.nodup_nil, fun k => Iff.rfl, fun k => by simp [get]⟩
/-- the same counts, capped -/
def Alike (m : Nat) (L M : List α) : Prop := ∀ k, min (L.count k) m = min (M.count k) m
theorem cnt_mem {m : Nat} {L : List α} {k : α} {v : Nat} : (k, v) ∈ cnt m L ↔ k ∈ L ∧ min (L.count k) m = v := by
  have h := cntOk m L
  rw [mem_get h.nd, h.keys, h.val]
theorem cnt_nodup {m : Nat} {L : List α} : (cnt m L).Nodup := (List.pairwise_map.mp (cntOk m L).nd).imp fun h e => h (by rw [e])
theorem alike_of_mem {m : Nat} {L M : List α} (h : ∀ p, p ∈ cnt m L ↔ p ∈ cnt m M) : Alike m L M := fun k => by
  by_cases z : k ∈ L
  · have := (h (k, min (L.count k) m)).mp (cnt_mem.mpr ⟨z, rfl⟩)
    exact (cnt_mem.mp this).2.symm
  · have z2 : k ∉ M := fun q => by
      have := (h (k, min (M.count k) m)).mpr (cnt_mem.mpr ⟨q, rfl⟩)
      exact z (cnt_mem.mp this).1
    rw [List.count_eq_zero.mpr z, List.count_eq_zero.mpr z2]
theorem mem_of_alike {m : Nat} (hm : 1 ≤ m) {L M : List α} (h : Alike m L M) : ∀ p, p ∈ cnt m L ↔ p ∈ cnt m M := by
  rintro ⟨k, v⟩
  rw [cnt_mem, cnt_mem, h k]
  have z : ∀ {A B : List α}, min (A.count k) m = min (B.count k) m → k ∈ A → k ∈ B := fun {A B} e q => by
    have q1 := List.count_pos_iff.mpr q
    exact List.count_pos_iff.mp (by omega)
  exact ⟨fun q => ⟨z (h k) q.1, q.2⟩, fun q => ⟨z (h k).symm q.1, q.2⟩⟩
theorem perm_of_alike {m : Nat} (hm : 1 ≤ m) {L M : List α} (h : Alike m L M) : (cnt m L).Perm (cnt m M) := (List.perm_ext_iff_of_nodup cnt_nodup cnt_nodup).mpr (mem_of_alike hm h)
theorem Alike.less {m m' : Nat} (hm : m' ≤ m) {L M : List α} (h : Alike m L M) : Alike m' L M := fun k => by
  have := h k
  omega
/-- what has one mark fewer is counted by what has one more -/
theorem alike_countP {m : Nat} {L M : List α} (h : Alike m L M) (P : α → Bool) : min (L.countP P) m = min (M.countP P) m := by
  by_cases z : ∃ q, P q = true ∧ m ≤ L.count q
  · obtain ⟨q, hq, hm⟩ := z
    have hm2 : m ≤ M.count q := by
      have := h q
      omega
    have up : ∀ A : List α, A.count q ≤ A.countP P := fun A => by
      rw [List.count_eq_countP]
      refine List.countP_mono_left fun x _ e => ?_
      rw [eq_of_beq e]
      exact hq
    have := up L
    have := up M
    omega
  · have e : ∀ q, P q = true → L.count q = M.count q := fun q hq => by
      have h1 := h q
      have h2 : ¬ m ≤ L.count q := fun w => z ⟨q, hq, w⟩
      omega
    have pm : (L.filter P).Perm (M.filter P) := List.perm_iff_count.mpr fun q => by
      by_cases hq : P q = true
      · rw [List.count_filter hq, List.count_filter hq, e q hq]
      · rw [List.count_eq_zero.mpr fun w => hq (List.mem_filter.mp w).2, List.count_eq_zero.mpr fun w => hq (List.mem_filter.mp w).2]
    rw [List.countP_eq_length_filter, List.countP_eq_length_filter, pm.length_eq]
/-! ### pieces -/
def piece (s : Nat) (r : List α) (i : Nat) : List α := (r.drop i).take s
def pieces (s : Nat) (r : List α) : List (List α) := (List.range (r.length - s + 1)).map (piece s r)
theorem pieces_less {s : Nat} {r : List α} (hs : 1 ≤ s) (hr : s + 1 ≤ r.length) : pieces s r = (pieces (s + 1) r).map (List.take s) ++ [r.drop (r.length - s)] := by
  unfold pieces
  rw [show r.length - s + 1 = (r.length - (s + 1) + 1) + 1 by omega, List.range_succ, List.map_append, List.map_map]
  congr 1
  · refine List.map_congr_left fun i _ => ?_
    show (r.drop i).take s = ((r.drop i).take (s + 1)).take s
    rw [List.take_take, show min s (s + 1) = s by omega]
  · show [(r.drop _).take s] = _
    rw [show r.length - (s + 1) + 1 = r.length - s by omega, List.take_of_length_le]
    rw [List.length_drop]
    omega
theorem count_app {κ : Type} [DecidableEq κ] (k : κ) (A B : List κ) : (A ++ B).count k = A.count k + B.count k := List.count_append
theorem count_mapd {κ β : Type} [DecidableEq κ] (f : β → κ) (k : κ) (L : List β) : (L.map f).count k = L.countP fun q => decide (f q = k) := by
  rw [List.count_eq_countP, List.countP_map]
  rfl
/-- what a slit shows of two rows, both long enough -/
structure Eqv (s m : Nat) (r o : List α) : Prop where
  lr : s ≤ r.length
  lo : s ≤ o.length
  hd : r.take (s - 1) = o.take (s - 1)
  tl : r.drop (r.length - s + 1) = o.drop (o.length - s + 1)
  al : Alike m (pieces s r) (pieces s o)
theorem Eqv.narrow {s m : Nat} (hs : 1 ≤ s) {r o : List α} (h : Eqv (s + 1) m r o) : Eqv s m r o := by
  have lr := h.lr
  have lo := h.lo
  have t0 : r.drop (r.length - s) = o.drop (o.length - s) := by
    have := h.tl
    rw [show r.length - (s + 1) + 1 = r.length - s by omega, show o.length - (s + 1) + 1 = o.length - s by omega] at this
    exact this
  refine ⟨by omega, by omega, ?_, ?_, fun k => ?_⟩
  · have := congrArg (List.take (s - 1)) h.hd
    rw [List.take_take, List.take_take, show min (s - 1) (s + 1 - 1) = s - 1 by omega] at this
    exact this
  · have := congrArg (List.drop 1) t0
    rw [List.drop_drop, List.drop_drop] at this
    exact this
  · rw [pieces_less hs lr, pieces_less hs lo, count_app, count_app, t0]
    have := alike_countP h.al (fun q => decide (q.take s = k))
    rw [count_mapd, count_mapd]
    omega
theorem Eqv.down {m m' : Nat} (hm : m' ≤ m) {r o : List α} {s' : Nat} (hs : 1 ≤ s') : ∀ (d : Nat), Eqv (s' + d) m r o → Eqv s' m' r o
  | 0, h => ⟨h.lr, h.lo, h.hd, h.tl, h.al.less hm⟩
  | d + 1, h => Eqv.down hm hs d (Eqv.narrow (by omega) h)
end
end VM
set_option Elab.async false
set_option linter.all false
set_option maxRecDepth 100000
set_option maxHeartbeats 4000000
namespace KL
open PySem L2 PySem.Spec PyProof.Rows
/-! ### rows of marks, as data -/
def strsD (w : List Str) : PyData := .tuple (w.map .str)
theorem strs_dq {H : Hp} : ∀ w : List Str, DqAll H (w.map V.str) (w.map .str)
  | [] => .nil
  | x :: w => .cons (.str x) (strs_dq w)
theorem strs_of {H : Hp} : ∀ {w : List Str} {xs : List V}, DqAll H xs (w.map .str) → xs = w.map V.str
  | [], _, h => by
    cases h
    rfl
  | x :: w, _, h => by
    cases h with
    | cons h1 h2 =>
      cases h1
      rw [strs_of h2]
      rfl
theorem strsD_of {H : Hp} {v : V} {w : List Str} (h : Dq H v (strsD w)) : ∃ a, v = .ref a ∧ H a = some (.tup (w.map V.str)) := by
  cases h with
  | @tup a xs _ e h => exact ⟨a, rfl, by rw [e, strs_of h]⟩
theorem strs_inj : ∀ {a b : List Str}, a.map PyData.str = b.map PyData.str → a = b
  | [], [], _ => rfl
  | [], _ :: _, h => by cases h
  | _ :: _, [], h => by cases h
  | x :: a, y :: b, h => by
    have h1 := List.cons.inj (show PyData.str x :: a.map PyData.str = PyData.str y :: b.map PyData.str from h)
    have h2 := h1.1
    injection h2 with h2
    rw [h2, strs_inj h1.2]
/-! ### plain data: equal by Python is equal -/
mutual
def plainD : PyData → Bool
  | .int _ => true
  | .str _ => true
  | .tuple ds => plainAll ds
  | _ => false
def plainAll : List PyData → Bool
  | [] => true
  | d :: r => plainD d && plainAll r
end
mutual
theorem plain_eq : ∀ (x y : PyData), plainD x = true → plainD y = true → PyData.eqv x y = true → x = y
  | .int i, y, _, hy, h => by
    cases y with
    | int j => rw [eq_of_beq (show (i == j) = true from by simpa [PyData.eqv] using h)]
    | str _ => simp [PyData.eqv] at h
    | tuple _ => simp [PyData.eqv] at h
    | _ => simp [plainD] at hy
  | .str a, y, _, hy, h => by
    cases y with
    | str b => rw [eq_of_beq (show (a == b) = true from by simpa [PyData.eqv] using h)]
    | int _ => simp [PyData.eqv] at h
    | tuple _ => simp [PyData.eqv] at h
    | _ => simp [plainD] at hy
  | .tuple xs, y, hx, hy, h => by
    cases y with
    | tuple ys => rw [plain_all_eq xs ys (by simpa [plainD] using hx) (by simpa [plainD] using hy) (by simpa [PyData.eqv] using h)]
    | int _ => simp [PyData.eqv] at h
    | str _ => simp [PyData.eqv] at h
    | _ => simp [plainD] at hy
  | .none, _, hx, _, _ => by simp [plainD] at hx
  | .bool _, _, hx, _, _ => by simp [plainD] at hx
  | .list _, _, hx, _, _ => by simp [plainD] at hx
  | .dict _, _, hx, _, _ => by simp [plainD] at hx
theorem plain_all_eq : ∀ (xs ys : List PyData), plainAll xs = true → plainAll ys = true → PyData.eqvAll xs ys = true → xs = ys
  | [], [], _, _, _ => rfl
  | [], _ :: _, _, _, h => by simp [PyData.eqvAll] at h
  | _ :: _, [], _, _, h => by simp [PyData.eqvAll] at h
  | x :: xs, y :: ys, hx, hy, h => by
    have hx := Bool.and_eq_true_iff.mp (show (plainD x && plainAll xs) = true from by simpa [plainAll] using hx)
    have hy := Bool.and_eq_true_iff.mp (show (plainD y && plainAll ys) = true from by simpa [plainAll] using hy)
    have h := Bool.and_eq_true_iff.mp (show (PyData.eqv x y && PyData.eqvAll xs ys) = true from by simpa [PyData.eqvAll] using h)
    rw [plain_eq x y hx.1 hy.1 h.1, plain_all_eq xs ys hx.2 hy.2 h.2]
end
mutual
theorem plain_refl : ∀ (x : PyData), plainD x = true → PyData.eqv x x = true
  | .int i, _ => by simp [PyData.eqv]
  | .str a, _ => by simp [PyData.eqv]
  | .tuple xs, h => by
    rw [PyData.eqv]
    exact plain_all_refl xs (by simpa [plainD] using h)
  | .none, h => by simp [plainD] at h
  | .bool _, h => by simp [plainD] at h
  | .list _, h => by simp [plainD] at h
  | .dict _, h => by simp [plainD] at h
theorem plain_all_refl : ∀ (xs : List PyData), plainAll xs = true → PyData.eqvAll xs xs = true
  | [], _ => by simp [PyData.eqvAll]
  | x :: xs, h => by
    have h := Bool.and_eq_true_iff.mp (show (plainD x && plainAll xs) = true from by simpa [plainAll] using h)
    rw [PyData.eqvAll, plain_refl x h.1, plain_all_refl xs h.2]
    rfl
end
theorem plain_strs : ∀ w : List Str, plainAll (w.map .str) = true
  | [] => by simp [plainAll]
  | x :: w => by
    show (plainD (.str x) && plainAll (w.map .str)) = true
    rw [plain_strs w]
    simp [plainD]
/-! ### the order of items -/
def pcD (p : List Str × Nat) : PyData := .tuple [strsD p.1, .int (p.2 : Int)]
theorem item_inj {p q : List Str × Nat} (h : pcD p = pcD q) : p = q := by
  injection h with h
  injection h with h1 h2
  injection h2 with h2 _
  injection h2 with h2
  injection h1 with h1
  obtain ⟨a, b⟩ := p
  obtain ⟨c, d⟩ := q
  have h1 : a = c := strs_inj h1
  have h2 : b = d := Int.ofNat.inj h2
  rw [h1, h2]
theorem plain_item (p : List Str × Nat) : plainD (pcD p) = true := by
  show plainD (.tuple [.tuple (p.1.map .str), .int (p.2 : Int)]) = true
  simp [plainD, plainAll, plain_strs]
theorem plain_items : ∀ t : List (List Str × Nat), plainAll (t.map pcD) = true
  | [] => by simp [plainAll]
  | p :: t => by
    show (plainD (pcD p) && plainAll (t.map pcD)) = true
    rw [plain_item, plain_items t]
    rfl
theorem alike_strs : ∀ a b : List Str, PySem.W.alikeAll (a.map .str) (b.map .str) = true
  | [], _ => by simp [PySem.W.alikeAll]
  | _ :: _, [] => by simp [PySem.W.alikeAll]
  | x :: a, y :: b => by
    show PySem.W.alikeAll (PyData.str x :: a.map .str) (PyData.str y :: b.map .str) = true
    rw [PySem.W.alikeAll, alike_strs a b]
    simp [PySem.W.alike]
theorem alike_item (p q : List Str × Nat) : PySem.W.alike (pcD p) (pcD q) = true := by
  show PySem.W.alike (.tuple [.tuple (p.1.map .str), .int (p.2 : Int)]) (.tuple [.tuple (q.1.map .str), .int (q.2 : Int)]) = true
  simp [PySem.W.alike, PySem.W.alikeAll, alike_strs]
theorem toks_inj {x y : PyData} (h : PySem.W.alike x y = true) (e : PySem.W.keyToks x = PySem.W.keyToks y) : PyData.eqv x y = true := by
  cases z : PyData.eqv x y with
  | true => rfl
  | false =>
    have q := (PySem.W.toks_eqv x y h).2 z [.inl 0] [.inl 1]
    rw [e, PySem.W.lex_pre] at q
    rw [show PyProof.Rows.lexLt itemOrd (PySem.W.keyToks y) (PySem.W.keyToks y) = false from PyProof.Rows.lex_irrefl _] at q
    exact absurd q (by decide)
def leI (p q : List Str × Nat) : Bool := leD (pcD p) (pcD q)
theorem leD_total : PySem.W.TotalLe leD := PySem.W.sortLe_total (listOrd itemOrd) false fun b => PySem.W.keyToks (id b)
theorem leI_trans (a b c : List Str × Nat) (h1 : leI a b = true) (h2 : leI b c = true) : leI a c = true := leD_total.trans _ _ _ h1 h2
theorem leI_total (a b : List Str × Nat) : (leI a b || leI b a) = true := by
  rcases leD_total.total (pcD a) (pcD b) with h | h
  · rw [show leI a b = true from h]
    rfl
  · rw [show leI b a = true from h, Bool.or_true]
theorem leI_anti (a b : List Str × Nat) (h1 : leI a b = true) (h2 : leI b a = true) : a = b := by
  have z1 : (listOrd itemOrd).blt (PySem.W.keyToks (pcD b)) (PySem.W.keyToks (pcD a)) = false := by
    have h : (!(listOrd itemOrd).blt (PySem.W.keyToks (pcD b)) (PySem.W.keyToks (pcD a))) = true := h1
    simpa using h
  have z2 : (listOrd itemOrd).blt (PySem.W.keyToks (pcD a)) (PySem.W.keyToks (pcD b)) = false := by
    have h : (!(listOrd itemOrd).blt (PySem.W.keyToks (pcD a)) (PySem.W.keyToks (pcD b))) = true := h2
    simpa using h
  have e := (listOrd itemOrd).total _ _ z2 z1
  exact item_inj (plain_eq _ _ (plain_item a) (plain_item b) (toks_inj (alike_item a b) e))
/-- the counted pieces, sorted -/
def sc (m : Nat) (L : List (List Str)) : List PyData := ((VM.cnt m L).map pcD).mergeSort leD
theorem sc_map (m : Nat) (L : List (List Str)) : sc m L = ((VM.cnt m L).mergeSort leI).map pcD := (List.map_mergeSort (r := leI) (s := leD) (f := pcD) fun _ _ _ _ => rfl).symm
theorem sc_of {m : Nat} (hm : 1 ≤ m) {L M : List (List Str)} (h : VM.Alike m L M) : sc m L = sc m M := by
  rw [sc_map, sc_map]
  congr 1
  refine List.Perm.eq_of_pairwise (le := fun a b => leI a b = true) (fun a b _ _ => leI_anti a b) (List.pairwise_mergeSort leI_trans leI_total _) (List.pairwise_mergeSort leI_trans leI_total _) ?_
  exact (List.mergeSort_perm _ _).trans ((VM.perm_of_alike hm h).trans (List.mergeSort_perm _ _).symm)
theorem map_inj : ∀ {a b : List (List Str × Nat)}, a.map pcD = b.map pcD → a = b
  | [], [], _ => rfl
  | [], _ :: _, h => by cases h
  | _ :: _, [], h => by cases h
  | x :: a, y :: b, h => by
    have h1 := List.cons.inj (show pcD x :: a.map pcD = pcD y :: b.map pcD from h)
    rw [item_inj h1.1, map_inj h1.2]
theorem alike_of_sc {m : Nat} {L M : List (List Str)} (h : sc m L = sc m M) : VM.Alike m L M := by
  rw [sc_map, sc_map] at h
  have e := map_inj h
  refine VM.alike_of_mem fun p => ?_
  have := congrArg (fun l => p ∈ l) e
  have h2 := Eq.mp (congrArg (fun q : Prop => (p ∈ (VM.cnt m L).mergeSort leI ↔ q)) this) Iff.rfl
  rw [List.mem_mergeSort, List.mem_mergeSort] at h2
  exact h2
/-! ### the view of a slit -/
def viewD (s m : Nat) (r : List Str) : PyData :=
  if r.length < s then .tuple [.str "whole", strsD r] else .tuple [.str "slit", strsD (r.take (s - 1)), strsD (r.drop (r.length - s + 1)), .tuple (sc m (VM.pieces s r))]
theorem plain_view (s m : Nat) (r : List Str) : plainD (viewD s m r) = true := by
  unfold viewD
  split
  · simp [plainD, plainAll, strsD, plain_strs]
  · rw [sc_map]
    have a1 := plain_strs (r.take (s - 1))
    have a2 := plain_strs (r.drop (r.length - s + 1))
    have a3 := plain_items ((VM.cnt m (VM.pieces s r)).mergeSort leI)
    show (plainD (.str "slit") && (plainAll ((r.take (s - 1)).map .str) && (plainAll ((r.drop (r.length - s + 1)).map .str) && (plainAll (((VM.cnt m (VM.pieces s r)).mergeSort leI).map pcD) && true)))) = true
    rw [a1, a2, a3]
    simp [plainD]
theorem view_less {s m s' m' : Nat} {r o : List Str} (hs : 1 ≤ s') (hm : 1 ≤ m') (ls : s' ≤ s) (lm : m' ≤ m) (h : viewD s m r = viewD s m o) : viewD s' m' r = viewD s' m' o := by
  unfold viewD at h
  by_cases hr : r.length < s
  · rw [if_pos hr] at h
    by_cases ho : o.length < s
    · rw [if_pos ho] at h
      injection h with h
      injection h with _ h
      injection h with h _
      injection h with h
      rw [strs_inj h]
    · rw [if_neg ho] at h
      injection h with h
      injection h with h _
      injection h with h
      exact absurd h (by decide +kernel)
  · rw [if_neg hr] at h
    by_cases ho : o.length < s
    · rw [if_pos ho] at h
      injection h with h
      injection h with h _
      injection h with h
      exact absurd h (by decide +kernel)
    · rw [if_neg ho] at h
      injection h with h
      injection h with _ h
      injection h with h1 h
      injection h with h2 h
      injection h with h3 _
      injection h1 with h1
      injection h2 with h2
      injection h3 with h3
      have E : VM.Eqv s m r o := ⟨by omega, by omega, strs_inj h1, strs_inj h2, alike_of_sc h3⟩
      obtain ⟨d, rfl⟩ := Nat.exists_eq_add_of_le ls
      have E' := VM.Eqv.down lm hs d E
      unfold viewD
      have lr := E'.lr
      have lo := E'.lo
      rw [if_neg (by omega), if_neg (by omega), E'.hd, E'.tl, sc_of hm E'.al]
theorem view_mono {s m s' m' : Nat} {r o : List Str} (hs : 1 ≤ s') (hm : 1 ≤ m') (ls : s' ≤ s) (lm : m' ≤ m) (h : PyData.eqv (viewD s m r) (viewD s m o) = true) : PyData.eqv (viewD s' m' r) (viewD s' m' o) = true := by
  rw [view_less hs hm ls lm (plain_eq _ _ (plain_view _ _ _) (plain_view _ _ _) h)]
  exact plain_refl _ (plain_view _ _ _)
end KL
set_option Elab.async false
set_option linter.all false
set_option maxRecDepth 100000
set_option maxHeartbeats 4000000
namespace KL
open PySem L2 PySem.Spec PyProof.Rows
/-! ### counts in a dict whose keys are rows -/
def ky (w : List Str) : List Key := w.map Sum.inr
theorem ky_kV (w : List Str) : (ky w).map kV = w.map V.str := by
  unfold ky
  rw [List.map_map]
  rfl
theorem ky_inj : ∀ {a b : List Str}, ky a = ky b → a = b
  | [], [], _ => rfl
  | [], _ :: _, h => by cases h
  | _ :: _, [], h => by cases h
  | x :: a, y :: b, h => by
    have h1 := List.cons.inj (show (Sum.inr x : Key) :: ky a = Sum.inr y :: ky b from h)
    have h2 := h1.1
    injection h2 with h2
    rw [h2, ky_inj h1.2]
def cK (t : List (List Str × Nat)) : List (List Key × V) := t.map fun p => (ky p.1, V.int (p.2 : Int))
theorem cK_get : ∀ (t : List (List Str × Nat)) (q : List Str), (valV (cK t) (ky q)).getD (.int 0) = .int (VM.get t q : Int)
  | [], q => rfl
  | (k, v) :: t, q => by
    show (valV ((ky k, V.int (v : Int)) :: cK t) (ky q)).getD (.int 0) = _
    unfold VM.get
    by_cases e : k = q
    · subst e
      rw [valV_pos rfl, if_pos rfl]
      rfl
    · rw [valV_neg (fun z => e (ky_inj z)), if_neg e]
      exact cK_get t q
theorem cK_at {t : List (List Str × Nat)} {q : List Str} {c : Nat} (nd : (t.map (·.1)).Nodup) (h : (q, c) ∈ t) : valV (cK t) (ky q) = some (.int (c : Int)) := by
  induction t with
  | nil => cases h
  | cons p t ih =>
    obtain ⟨k, v⟩ := p
    have nd2 := List.nodup_cons.mp (show (k :: t.map (·.1)).Nodup from nd)
    show valV ((ky k, V.int (v : Int)) :: cK t) (ky q) = _
    rcases List.mem_cons.mp h with h | h
    · injection h with h1 h2
      subst h1 h2
      exact valV_pos rfl
    · have e : ¬ k = q := fun z => nd2.1 (List.mem_map.mpr ⟨_, h, z.symm⟩)
      rw [valV_neg (fun z => e (ky_inj z))]
      exact ih nd2.2 h
theorem putK_neg {κ : Type} [DecidableEq κ] {p : κ × V} {r : List (κ × V)} {k : κ} {v : V} (e : ¬ p.1 = k) : putK (p :: r) k v = p :: putK r k v := by
  unfold putK
  rw [List.any_cons, decide_eq_false e, Bool.false_or]
  split
  · rw [List.map_cons, if_neg e]
  · rfl
theorem putK_pos {κ : Type} [DecidableEq κ] {p : κ × V} {r : List (κ × V)} {k : κ} {v : V} (e : p.1 = k) (n : ∀ x ∈ r, x.1 ≠ k) : putK (p :: r) k v = (k, v) :: r := by
  unfold putK
  rw [List.any_cons, decide_eq_true e, Bool.true_or, if_pos rfl, List.map_cons, if_pos e, e]
  congr 1
  refine (List.map_congr_left (g := id) fun x hx => ?_).trans (List.map_id _)
  rw [if_neg (n x hx)]
  rfl
theorem cK_put : ∀ {t : List (List Str × Nat)} (q : List Str) (v : Nat), (t.map (·.1)).Nodup → putK (cK t) (ky q) (.int (v : Int)) = cK (VM.put t q v)
  | [], q, v, _ => rfl
  | (k, c) :: t, q, v, nd => by
    have nd2 := List.nodup_cons.mp (show (k :: t.map (·.1)).Nodup from nd)
    show putK ((ky k, V.int (c : Int)) :: cK t) (ky q) (.int (v : Int)) = _
    unfold VM.put
    by_cases e : k = q
    · subst e
      rw [if_pos rfl, putK_pos rfl]
      · rfl
      · intro x hx z
        obtain ⟨y, hy, rfl⟩ := List.mem_map.mp hx
        exact nd2.1 (List.mem_map.mpr ⟨y, hy, ky_inj z⟩)
    · rw [if_neg e, putK_neg (fun z => e (ky_inj z)), cK_put q v nd2.2]
      rfl
theorem put_len : ∀ (t : List (List Str × Nat)) (q : List Str) (v : Nat), (VM.put t q v).length ≤ t.length + 1
  | [], _, _ => Nat.le_refl _
  | (k, c) :: t, q, v => by
    unfold VM.put
    split
    · exact Nat.le_succ _
    · exact Nat.succ_le_succ (put_len t q v)
theorem cnt_snoc (m : Nat) (L : List (List Str)) (q : List Str) : VM.cnt m (L ++ [q]) = VM.put (VM.cnt m L) q (min (VM.get (VM.cnt m L) q + 1) m) := by
  unfold VM.cnt
  rw [List.foldl_append]
  rfl
theorem cnt_len (m : Nat) : ∀ L : List (List Str), (VM.cnt m L).length ≤ L.length := fun L => by
  have key : ∀ (M : List (List Str)) (t : List (List Str × Nat)), (M.foldl (VM.cntF m) t).length ≤ t.length + M.length := fun M => by
    induction M with
    | nil => exact fun t => Nat.le_refl _
    | cons q M ih =>
      intro t
      have h1 := ih (VM.cntF m t q)
      have h2 := put_len t q (min (VM.get t q + 1) m)
      show (M.foldl (VM.cntF m) (VM.cntF m t q)).length ≤ t.length + (M.length + 1)
      have h3 : (VM.cntF m t q).length ≤ t.length + 1 := h2
      omega
  have h : (VM.cnt m L).length ≤ 0 + L.length := key L []
  omega
theorem cK_len (t : List (List Str × Nat)) : (cK t).length = t.length := List.length_map _
theorem cK_take {t : List (List Str × Nat)} {i : Nat} {k : List Key} {v : V} (h : (cK t)[i]? = some (k, v)) : ∃ q c, t[i]? = some (q, c) ∧ k = ky q ∧ v = .int (c : Int) := by
  unfold cK at h
  rw [List.getElem?_map] at h
  cases e : t[i]? with
  | none =>
    rw [e] at h
    cases h
  | some p =>
    rw [e] at h
    obtain ⟨q, c⟩ := p
    cases h
    exact ⟨q, c, rfl, rfl, rfl⟩
theorem min_int (g m : Nat) : (if (m : Int) < (g : Int) + 1 then (m : Int) else (g : Int) + 1) = ((min (g + 1) m : Nat) : Int) := by
  split
  · omega
  · omega
theorem min_int2 (g m : Nat) : (if (g : Int) + 1 < (m : Int) then (g : Int) + 1 else (m : Int)) = ((min (g + 1) m : Nat) : Int) := by
  split
  · omega
  · omega
/-! ### sorting the counted pieces -/
def OkW (w : List Str) : Prop := ∀ y ∈ w, PyData.strOk y = true
theorem lay_strs : ∀ {w : List Str}, OkW w → PyData.canLayAll0 (w.map .str) = true
  | [], _ => rfl
  | x :: w, h => by
    show (PyData.strOk x && PyData.canLayAll0 (w.map .str)) = true
    rw [lay_strs fun y hy => h y (List.mem_cons_of_mem _ hy), h x List.mem_cons_self]
    rfl
theorem dep_strs : ∀ w : List Str, PyData.depthAll (w.map PyData.str) = 0
  | [] => rfl
  | x :: w => by
    show max 0 (PyData.depthAll (w.map .str)) = 0
    rw [dep_strs w]
    rfl
theorem lay_pcs : ∀ {t : List (List Str × Nat)}, (∀ p ∈ t, OkW p.1) → PyData.canLayAll0 (t.map pcD) = true
  | [], _ => rfl
  | p :: t, h => by
    show ((PyData.canLayAll0 (p.1.map .str) && (true && true)) && PyData.canLayAll0 (t.map pcD)) = true
    rw [lay_strs (h p List.mem_cons_self), lay_pcs fun q hq => h q (List.mem_cons_of_mem _ hq)]
    rfl
theorem dep_pcs : ∀ t : List (List Str × Nat), PyData.depthAll (t.map pcD) ≤ 2
  | [] => Nat.zero_le _
  | p :: t => by
    show max (max (PyData.depthAll (p.1.map .str) + 1) (max 0 0) + 1) (PyData.depthAll (t.map pcD)) ≤ 2
    have := dep_pcs t
    rw [dep_strs]
    omega
/-- what a comprehension has made, apart from its list and another thing -/
def Made2 (H0 : Hp) (D d : Addr) (es : List PyData) (H : Hp) : Prop := ∃ J ys, Same H0 J ∧ J D = none ∧ J d = none ∧ Same J H ∧ H D = some (.lst ys) ∧ DqAll J ys es
theorem Made2.push {H0 H H' : Hp} {D d : Addr} {es : List PyData} {v : V} {e : PyData} (M : Made2 H0 D d es H) (S : ∀ c o, c ≠ d → H c = some o → H' c = some o) (dD : d ≠ D) (hv : Dq (fun c => if c = D ∨ c = d then none else H' c) v e) :
    ∃ acc, H' D = some (.lst acc) ∧ acc.length = es.length ∧ Made2 H0 D d (es ++ [e]) (upd H' D (.lst (acc ++ [v]))) := by
  obtain ⟨J, ys, S0, nD, nd, S1, hb, dd⟩ := M
  have SJ : Same J (fun c => if c = D ∨ c = d then none else H' c) := fun c o e => by
    have h1 : c ≠ D := fun z => by
      rw [z, nD] at e
      cases e
    have h2 : c ≠ d := fun z => by
      rw [z, nd] at e
      cases e
    show (if c = D ∨ c = d then none else H' c) = _
    rw [if_neg (by rintro (z | z); exact h1 z; exact h2 z)]
    exact S _ _ h2 (S1 _ _ e)
  refine ⟨ys, S _ _ dD.symm hb, dd.len, fun c => if c = D ∨ c = d then none else H' c, ys ++ [v], S0.trans SJ, if_pos (.inl rfl), if_pos (.inr rfl), fun c o e => ?_, upd_same, DqAll.snoc (DqAll.same SJ _ _ dd) hv⟩
  have e2 : (if c = D ∨ c = d then none else H' c) = some o := e
  by_cases z : c = D ∨ c = d
  · rw [if_pos z] at e2
    cases e2
  · rw [if_neg z] at e2
    rw [upd_ne (fun q => z (.inl q))]
    exact e2
/-- sorted and made a tuple -/
theorem sorted_pcs {K : PySem.W.Frag} {J H : Hp} {D : Addr} {ys : List V} {t : List (List Str × Nat)} {Q : VK} (S : Same J H) (hD : H D = some (.lst ys)) (hq : DqAll J ys (t.map pcD)) (ok : ∀ p ∈ t, OkW p.1)
    (k : ∀ H' q, Same H H' → Dq H' (.ref q) (.tuple ((t.map pcD).mergeSort leD)) → Q (.ref q) H') : rSortedQ K [.ref D] H fun v H' => kTup K v H' Q := by
  refine ⟨J, D, ys, _, rfl, SqL.of hD, S, hq, lay_pcs ok, PySem.W.AllAlike.of fun b b' => alike_item b b', PySem.W.Sortable.tuples fun b => ⟨_, _, rfl⟩, Nat.le_trans (dep_pcs t) (by decide), fun zs p dz np => ?_⟩
  refine .inl ⟨p, zs, rfl, SqL.of upd_same, fun q nq => ?_⟩
  have S1 := same_new (o := .lst zs) np
  exact k _ _ (S1.trans (same_new nq)) (.tup upd_same (DqAll.same (S.trans (S1.trans (same_new nq))) _ _ dz))
end KL
set_option Elab.async false
set_option linter.all false
set_option maxRecDepth 100000
set_option maxHeartbeats 4000000
namespace KL
open PySem L2 PySem.Spec PyProof.Rows
/-- a list of rows -/
def RowsAt (H : Hp) (a : Addr) (L : List (List Str)) : Prop := ∃ as : List Addr, H a = some (.lst (as.map V.ref)) ∧ as.length = L.length ∧ ∀ (i : Nat) (p : Addr) (q : List Str), as[i]? = some p → L[i]? = some q → H p = some (.tup (q.map V.str))
def spCounted : Sp := fun vs H Q _ => ∃ (a : Addr) (m : Nat) (L : List (List Str)), vs = [.ref a, .int (m : Int)] ∧ RowsAt H a L ∧ L.length ≤ 1000 ∧ (∀ q ∈ L, OkW q) ∧ ∀ H' v, Same H H' → Dq H' v (.tuple (sc m L)) → Q v H'
section
variable {P : Program} {w : World} {K : PySem.W.Frag} {mg : Str → Option Value} {base : Heap}
abbrev nCounted : List Str := ["pieces", "most", "counts", "piece"]
theorem scCounted : FnScope nCounted ["pieces", "most"] (defScope sCounted) := ⟨rfl, rfl, rfl, by decide +kernel, rfl, by decide +kernel, by decide +kernel⟩
theorem ok_counted {f : Addr} {fd : FuncData} (F : Fun K "counted" "counted" sCounted f fd) (T : TxtG mg) : FnOk P w K mg base CX0 1 f fd ["pieces", "most"] spCounted := by
  refine F.ok scCounted (fun vs H Q E h => ?_) (fun cdv A outer s H vs Q E hr h => ?_)
  · obtain ⟨a, m, L, rfl, _⟩ := h
    rfl
  · obtain ⟨a, m, L, rfl, hL, hl, hok, k⟩ := h
    have nd := scCounted.nd
    have hu := hu_of hr
    let X0 : Cx := (cxOf CX0 P w K mg base nCounted "counted" (defScope sCounted) f cdv A outer s H E).nox
    refine ⟨_, C8.pss_cut (ps_set (i := 2) nd rfl (.inr rfl) pe_dnewT)
      (C8.pss_cut (ps_for PassesOwn.never rfl (pi_list (pv 0)) (pg_name (i := 3) nd rfl (.inl rfl))
        (pss_one (ps_dput hu (pv 2) (pv 3) (pe_callB (call_min2 rfl) (by rfl) T.min (by decide +kernel) (pa_cons (pe_op op_add (pe_dget2 hu (pv 2) (pv 3) pe_int ⟨rfl, rfl, rfl, rfl⟩) pe_int) (pa_cons (pv 1) pa_nil))) rfl)))
      (pss_one (ps_ret (pe_tupleOf (by rfl) T.tuple (pe_callB (cr_sortedQ (X := X0) hr.units) (by rfl) T.sorted (by decide +kernel) (pa_cons (pe_lock (pe_lc (own := [("piece", 3)]) (g := gName 3) (tt := tYes) rfl nd (pi_keys (pv 2))
        (blkOk_by (N := nCounted) (sc := defScope sCounted) (by decide +kernel)) (fun _ _ _ _ _ => pg_name (i := 3) nd rfl (.inl rfl)) (fun _ _ _ _ _ => pts_nil)
        (fun _ _ _ _ _ => pe_tup (pa_cons (pv 3) (pa_cons (pe_dget hu (pv 2) (pv 3) (fun _ _ => rfl)) pa_nil))))) pa_nil)))))), ?_⟩
    obtain ⟨as, ha, las, hp⟩ := hL
    refine ⟨fun σ H' => ∃ d, σ = [some (.ref a), some (.int (m : Int)), some (.ref d), none] ∧ H d = none ∧ H' = upd H d (.dT []), fun d nd => ⟨d, rfl, nd, rfl⟩, ?_⟩
    rintro σ1 H1 ⟨d, rfl, nd0, rfl⟩
    have st : ∀ {kvs : List (List Key × V)} {b : Addr} {o : HO}, H b = some o → upd H d (.dT kvs) b = some o := fun {kvs b o} e => by
      rw [upd_ne (ne_of_none e nd0)]
      exact e
    refine ⟨fun σ H' => ∃ o, σ = [some (.ref a), some (.int (m : Int)), some (.ref d), o] ∧ H' = upd H d (.dT (cK (VM.cnt m L))), ?_, ?_⟩
    · refine ⟨_, rfl, a, rfl, ⟨_, SqL.of (st ha)⟩, for_list (K := K) (a := a) (xs := as.map V.ref) (fun i σ H' => ∃ o, σ = [some (.ref a), some (.int (m : Int)), some (.ref d), o] ∧ H' = upd H d (.dT (cK (VM.cnt m (L.take i))))) ⟨none, rfl, rfl⟩ (fun i σ H' _ ⟨o, _, e⟩ => e ▸ SqL.of (st ha)) ?_ ?_⟩
      · rintro i x σ H' hi ⟨o, rfl, rfl⟩
        obtain ⟨p, hpi, rfl⟩ : ∃ p, as[i]? = some p ∧ x = V.ref p := by
          rw [List.getElem?_map] at hi
          cases e : as[i]? with
          | none =>
            rw [e] at hi
            cases hi
          | some p =>
            rw [e] at hi
            exact ⟨p, rfl, (Option.some.inj hi).symm⟩
        have hlt : i < L.length := by
          rw [← las]
          exact (List.getElem?_eq_some_iff.mp hpi).1
        have hq := hp i p L[i] hpi (List.getElem?_eq_getElem hlt)
        have et : L.take (i + 1) = L.take i ++ [L[i]] := by rw [List.take_add_one, List.getElem?_eq_getElem hlt]; rfl
        have ndk := (VM.cntOk m (L.take i)).nd
        have hk : ∀ kvs, upd H d (.dT kvs) p = some (.tup ((ky L[i]).map kV)) := fun kvs => by
          rw [ky_kV]
          exact st hq
        have hz : (cK (VM.cnt m (L.take i))).length < sizeLine := by
          have h1 := cnt_len m (L.take i)
          rw [List.length_take] at h1
          rw [cK_len, sizeLine_eq]
          omega
        refine ⟨_, rfl, d, rfl, .inr ⟨_, .inl upd_same⟩, _, rfl, _, DGet.t upd_same (hk _), _, _, cK_get _ _, rfl, _, rfl, _, _, rfl, _, rfl, _, rfl, d, _, rfl, DPut.t upd_same (hk _) hz, _, rfl, ?_⟩
        rw [upd_upd, et, cnt_snoc, min_int, cK_put _ _ ndk]
      · rintro σ H' ⟨o, rfl, rfl⟩
        refine ⟨o, rfl, ?_⟩
        rw [List.length_map, las, List.take_length]
    rintro σ2 H2 ⟨o, rfl, rfl⟩
    refine ⟨d, _, upd_same, trivial, fun od => ?_⟩
    have ek : ∀ b o, b ≠ d → H b = some o → upd H d (.dT (cK (VM.cnt m L))) b = some o := fun b o nb e => by
      rw [upd_ne nb]
      exact e
    rw [upd_upd]
    have hd1 : upd H d (HO.frz od (HO.dT (cK (VM.cnt m L)))) d = some (.frz od (.dT (cK (VM.cnt m L)))) := upd_same
    have S1 : Same H (upd H d (HO.frz od (HO.dT (cK (VM.cnt m L))))) := same_new nd0
    generalize upd H d (HO.frz od (HO.dT (cK (VM.cnt m L)))) = H1 at *
    refine ⟨_, rfl, d, od, rfl, .inr ⟨_, hd1, fun D nD => ?_⟩⟩
    have dD : d ≠ D := ne_of_none hd1 nD
    have ndk := (VM.cntOk m L).nd
    have hlk : (cK (VM.cnt m L)).length ≤ 1000 := by
      have h1 := cnt_len m L
      rw [cK_len]
      omega
    refine lc_it walk_keysT (fun i H2 => Same H1 H2 ∧ Made2 H D d (((VM.cnt m L).take i).map pcD) H2) ⟨same_new nD, H, [], Same.refl _, S1.free nD, nd0, S1.trans (same_new nD), upd_same, .nil⟩ (fun i H2 _ M => M.1 _ _ hd1) ?_ ?_
    · rintro i x H2 H3 hi ⟨S2, M⟩ ⟨rfl, kk, v, q, hkv, rfl, hq⟩
      obtain ⟨qq, c, ht, rfl, rfl⟩ := cK_take hkv
      have hd2 := S2 _ _ hd1
      have hm : (qq, c) ∈ VM.cnt m L := List.mem_of_getElem? ht
      refine ⟨rfl, _, rfl, _, rfl, _, rfl, d, _, rfl, .inr ⟨_, ky qq, q, .inr ⟨od, hd2⟩, rfl, hq, (cK_at ndk hm).symm⟩, (by show 2 ≤ sizeLine; decide), fun b nb => ?_⟩
      obtain ⟨_, _, _, _, _, _, hDl, _⟩ := id M
      have bD : b ≠ D := fun z => by
        rw [z, hDl] at nb
        cases nb
      have bd : b ≠ d := fun z => by
        rw [z, hd2] at nb
        cases nb
      have qD : q ≠ D := fun z => by
        rw [z, hDl] at hq
        cases hq
      have qd : q ≠ d := fun z => by
        rw [z, hd2] at hq
        cases hq
      obtain ⟨acc, h1, h2, M2⟩ := M.push (H' := upd H3 b (.tup [.ref q, .int (c : Int)])) (v := .ref b) (e := pcD (qq, c)) (fun x o _ e => by rw [upd_ne (ne_of_none e nb)]; exact e) dD (by
        refine .tup (xs := [.ref q, .int (c : Int)]) ?_ (.cons (.tup (xs := qq.map V.str) ?_ (strs_dq qq)) (.cons (.int _) .nil))
        · show (if b = D ∨ b = d then none else _) = _
          rw [if_neg (by rintro (z | z); exact bD z; exact bd z), upd_same]
        · show (if q = D ∨ q = d then none else _) = _
          rw [if_neg (by rintro (z | z); exact qD z; exact qd z), upd_ne (ne_of_none hq nb), hq, ky_kV])
      refine ⟨acc, h1, ?_, fun x o e => ?_, ?_⟩
      · rw [h2, List.length_map, List.length_take, sizeLine_eq]
        rw [cK_len] at hlk
        omega
      · have e2 := S2 _ _ e
        rw [upd_ne (ne_of_none e nD), upd_ne (ne_of_none e2 nb)]
        exact e2
      · rw [List.take_add_one, ht, List.map_append]
        exact M2
    · rintro H2 ⟨S2, M⟩
      obtain ⟨J, ys, S0, nJD, nJd, SJ, hD, hy⟩ := M
      refine ⟨S2 _ _ hd1, ?_⟩
      rw [cK_len, List.take_length] at hy
      have SJ2 : Same J (upd H2 d (.dT (cK (VM.cnt m L)))) := fun x o e => by
        rw [upd_ne (ne_of_none e nJd)]
        exact SJ _ _ e
      refine sorted_pcs SJ2 (by rw [upd_ne dD.symm]; exact hD) hy (fun p hpm => hok p.1 (VM.cnt_mem.mp hpm).1) fun H' q S' dv => k H' _ ((S0.trans SJ2).trans S') dv
end
end KL
set_option Elab.async false
set_option linter.all false
set_option maxRecDepth 100000
set_option maxHeartbeats 4000000
namespace KL
open PySem L2 PySem.Spec PyProof.Rows L2.DX
/-! ### list(view of the items of a dict whose keys are tuples) -/
def pairT (p : Addr × V) : HO := .tup [.ref p.1, p.2]
def layT (H : Hp) : List (Addr × (Addr × V)) → Hp
  | [] => H
  | z :: r => upd (layT H r) z.1 (pairT z.2)
theorem layT_off {b : Addr} {H : Hp} : ∀ {zs : List (Addr × (Addr × V))}, (∀ z ∈ zs, z.1 ≠ b) → layT H zs b = H b
  | [], _ => rfl
  | z :: r, h => by
    unfold layT
    rw [upd_ne (fun e => h z List.mem_cons_self e.symm)]
    exact layT_off fun y hy => h y (List.mem_cons_of_mem _ hy)
theorem layT_on {H : Hp} : ∀ {zs : List (Addr × (Addr × V))}, (zs.map (·.1)).Nodup → ∀ {z}, z ∈ zs → layT H zs z.1 = some (pairT z.2)
  | [], _, z, h => by cases h
  | y :: r, nd, z, h => by
    have nd2 := List.nodup_cons.mp (show (y.1 :: r.map (·.1)).Nodup from nd)
    unfold layT
    rcases List.mem_cons.mp h with rfl | h
    · exact upd_same
    · rw [upd_ne (fun e => nd2.1 (List.mem_map.mpr ⟨z, h, e⟩))]
      exact layT_on nd2.2 h
section
variable {X : Cx} {pins : List (Addr × Obj)} {σ : L2.St} {H : Hp} {s : Shared}
/-- a list of new pairs, with the pairs -/
theorem laid_pairs {h' : Heap} {tk c : Nat} {acc : Array Value} {zs : List (Addr × (Addr × V))} (I : Inv X pins σ H s) (hz : zs.length ≤ sizeLine) (kp : ∀ b o, s.heap.get? b = some o → h'.get? b = some o)
    (hS : h'.get? s.heap.objs.size = some { cls := .type "list", dict := none, data := .seq acc c, slots := #[] }) (hacc : acc.toList = zs.map fun z => Value.ref z.1) (nd : (zs.map (·.1)).Nodup) (ab : ∀ z ∈ zs, s.heap.objs.size < z.1)
    (hp : ∀ z ∈ zs, ∃ x, RelV z.2.2 x ∧ h'.get? z.1 = some { cls := .type "tuple", data := .seq #[Value.ref z.2.1, x] }) :
    Inv X pins σ (upd (layT H zs) s.heap.objs.size (.lst (zs.map fun z => V.ref z.1))) { s with heap := h', toks := tk } := by
  have off : ∀ b o, s.heap.get? b = some o → b ≠ s.heap.objs.size ∧ ∀ z ∈ zs, z.1 ≠ b := fun b o e => by
    have l := Heap.lt_size e
    exact ⟨Nat.ne_of_lt l, fun z hz q => absurd (ab z hz) (by rw [q]; exact Nat.not_lt.mpr (Nat.le_of_lt l))⟩
  have newS : H s.heap.objs.size = none := I.hok.fresh (Nat.le_refl _)
  have nwz : ∀ z ∈ zs, H z.1 = none := fun z hz => I.hok.fresh (Nat.le_of_lt (ab z hz))
  have keep : ∀ b u, H b = some u → upd (layT H zs) s.heap.objs.size (.lst (zs.map fun z => V.ref z.1)) b = some u := fun b u e => by
    rw [upd_ne (ne_of_none e newS), layT_off fun z hz q => by rw [← q, nwz z hz] at e; cases e]
    exact e
  refine I.call' (ch := []) rfl ⟨fun b o q _ _ _ => kp b o q, fun b o q _ _ _ => ⟨o.slots, kp b o q⟩, fun b o q n _ => ?_, fun b o q _ => ⟨o, kp b o q⟩, fun b xs q => keep b _ q, fun b o u q => keep b _ q, fun b ps q => ⟨#[], by rw [keep b _ q]; simp⟩⟩ (fun b u q => ?_) I.bare (by simp)
  · obtain ⟨z1, z2⟩ := off b o q
    rw [upd_ne z1, layT_off z2]
    exact n
  · by_cases hb : b = s.heap.objs.size
    · subst hb
      rw [upd_same] at q
      cases q
      refine ⟨by rw [List.length_map]; exact hz, acc.toList, c, ?_, by rw [Array.toArray_toList]; exact hS⟩
      rw [hacc]
      clear hacc hp ab nd hz off nwz keep
      induction zs with
      | nil => exact .nil
      | cons z r ih => exact .cons rfl ih
    · rw [upd_ne hb] at q
      by_cases hm : ∃ z ∈ zs, z.1 = b
      · obtain ⟨z, hz1, rfl⟩ := hm
        rw [layT_on nd hz1] at q
        cases q
        obtain ⟨x, rx, hx⟩ := hp z hz1
        exact ⟨(by show 2 ≤ sizeLine; decide), [.ref z.2.1, x], .cons rfl (.cons rx .nil), _, hx, rfl, _, rfl⟩
      · rw [layT_off fun z hz q => hm ⟨z, hz, q⟩] at q
        exact (I.hok b u q).stay (fun d v _ y => kp d v y) (fun d y => keep d _ y) fun d xs y => keep d _ y
def rListIt : List V → Hp → VK → Prop := fun xs H Q => ∃ (p a : Addr) (kvs : List (List Key × V)), xs = [.ref p] ∧ H p = some (itemsO p a) ∧ H a = some (.dT kvs) ∧
  ∀ (H' : Hp) (l : Addr) (zs : List (Addr × (Addr × V))), Same H H' → H l = none → H' l = some (.lst (zs.map fun z => V.ref z.1)) → Paired (fun (kv : List Key × V) (z : Addr × (Addr × V)) => H' z.1 = some (pairT z.2) ∧ H z.2.1 = some (.tup (kv.1.map kV)) ∧ z.2.2 = kv.2) kvs zs → Q (.ref l) H'
theorem paired_zip {H : Hp} : ∀ {kvs : List (List Key × V)} {xs : List (List Key × Addr × Value)} {as : List Addr}, KT H kvs xs → as.length = xs.length →
    Paired (fun (kv : List Key × V) (z : Addr × (Addr × V)) => H z.2.1 = some (.tup (kv.1.map kV)) ∧ z.2.2 = kv.2) kvs (as.zip ((xs.zip kvs).map fun y => (y.1.2.1, y.2.2)))
  | _, _, [], .nil, _ => .nil
  | _, _, _ :: _, .nil, h => by cases h
  | _, _, [], .cons _ _, h => by cases h
  | _, _, a :: as, .cons h t, hl => .cons ⟨h.2.1, rfl⟩ (paired_zip t (Nat.succ.inj hl))
theorem paired_at {α β : Type} {R : α → β → Prop} : ∀ {xs : List α} {ys : List β}, Paired R xs ys → ∀ {j : Nat} {y : β}, ys[j]? = some y → ∃ x, xs[j]? = some x ∧ R x y
  | _, _, .nil, j, y, h => by simp at h
  | _, _, .cons h t, 0, y, e => by
    simp at e
    subst e
    exact ⟨_, rfl, h⟩
  | _, _, .cons h t, j + 1, y, e => by
    obtain ⟨x, h1, h2⟩ := paired_at t (j := j) (by simpa using e)
    exact ⟨x, by simpa using h1, h2⟩
theorem paired_and {α β : Type} {R S : α → β → Prop} : ∀ {xs : List α} {ys : List β}, Paired R xs ys → (∀ y ∈ ys, ∀ x, R x y → S x y) → Paired S xs ys
  | _, _, .nil, _ => .nil
  | _, _, .cons h t, k => .cons (k _ List.mem_cons_self _ h) (paired_and t fun y hy => k y (List.mem_cons_of_mem _ hy))
theorem call_listIt (hc : X.calm = true) : CallR X (.type "list") rListIt := by
  intro pins s σ H xs us Q I r h
  obtain ⟨p, a, kvs, rfl, hp, ha, q⟩ := h
  obtain rfl := Vals.ref1 r
  have view : s.heap.IsItemsView p a := (show ObjOk X.prog X.w H s.heap p (itemsO p a) from I.hok p _ hp).1
  obtain ⟨z, hd, xs', rel, o, es, ep, ho, hx, hdat, hes, his, hn⟩ := dt_of I.hok ha
  have l1 : kvs.length = xs'.length := Paired.length rel
  have l2 : es.size = xs'.length := size_of_entries hes
  refine PySem.W.dil_call (es := es) (ep := ep) (I.ok.hd hc) view ⟨o, ho, hx, hdat⟩ (by omega) fun h' tk acc c as kp hS hl hG hacc => ?_
  have new : ∀ b, s.heap.objs.size ≤ b → H b = none := fun b hb => I.hok.fresh hb
  have lk : as.length = xs'.length := by omega
  let ks : List (Addr × V) := (xs'.zip kvs).map fun y => (y.1.2.1, y.2.2)
  have lks : ks.length = as.length := by
    show ((xs'.zip kvs).map _).length = _
    rw [List.length_map, List.length_zip]
    omega
  have fst : (as.zip ks).map (·.1) = as := List.map_fst_zip (by omega)
  have each : ∀ z ∈ as.zip ks, s.heap.objs.size < z.1 := fun z hz => hG.above _ (List.of_mem_zip hz).1
  have inv := laid_pairs (X := X) (h' := h') (tk := tk) (c := c) (acc := acc) (zs := as.zip ks) I (by rw [List.length_zip]; omega) kp hS (by
      rw [hacc]
      have e := congrArg (List.map Value.ref) fst
      rw [List.map_map] at e
      exact e.symm) (by rw [fst]; exact hG.rise.imp fun h => Nat.ne_of_lt h) each (fun z hz => ?_)
  · refine ⟨.ref s.heap.objs.size, _, inv, rfl, q _ s.heap.objs.size (as.zip ks) (fun b o e => ?_) (new _ (Nat.le_refl _)) upd_same (paired_and (paired_zip rel lk) fun z hz kv h => ⟨?_, h⟩)⟩
    · rw [upd_ne (ne_of_none e (new _ (Nat.le_refl _))), layT_off fun z hz w => by rw [← w, new _ (Nat.le_of_lt (each z hz))] at e; cases e]
      exact e
    · rw [upd_ne (Nat.ne_of_gt (each z hz))]
      exact layT_on (by rw [fst]; exact hG.rise.imp fun h => Nat.ne_of_lt h) hz
  · obtain ⟨j, hj⟩ := List.mem_iff_getElem?.mp hz
    have hj2 := List.getElem?_zip_eq_some.mp hj
    obtain ⟨hje, hg⟩ := hG.pairs j _ hj2.1
    have k2 : (xs'.zip kvs)[j]?.map (fun y => (y.1.2.1, y.2.2)) = some z.2 := by
      rw [← List.getElem?_map]
      exact hj2.2
    cases hxk : (xs'.zip kvs)[j]? with
    | none =>
      rw [hxk] at k2
      cases k2
    | some y =>
      rw [hxk] at k2
      have k3 := List.getElem?_zip_eq_some.mp hxk
      have ez : z.2 = (y.1.2.1, y.2.2) := (Option.some.inj k2).symm
      obtain ⟨e0, he0, r1, r2, r3⟩ := paired_at rel k3.1
      rw [k3.2] at he0
      cases he0
      have en := entry_at hes j
      rw [k3.1, Array.getElem?_eq_getElem hje] at en
      have en2 : es[j] = entryOfKey (tupleKind (mixKind X.prog X.w)) y.1 := Option.some.inj en
      refine ⟨y.1.2.2, by rw [ez]; exact r3, ?_⟩
      rw [hg, en2, ez]
      rfl
end
end KL
set_option Elab.async false
set_option linter.all false
set_option maxRecDepth 100000
set_option maxHeartbeats 4000000
namespace KL
open PySem L2 PySem.Spec PyProof.Rows L2.DX
/-! ### slices of rows -/
def subS (r : List Str) (lo hi : Option Int) : List Str := (r.drop (HT.sIx r.length 0 lo)).take (HT.sIx r.length r.length hi - HT.sIx r.length 0 lo)
theorem cut_strs (r : List Str) (lo hi : Option Int) : cutV (r.map V.str) lo hi = (subS r lo hi).map V.str := by
  unfold cutV subS
  rw [List.length_map, List.map_take, List.map_drop]
theorem slice_strs {K : PySem.W.Frag} {H : Hp} {a : Addr} {r : List Str} {lo hi : Option Int} {Q : VK} (ha : H a = some (.tup (r.map V.str))) (k : ∀ H' p, Same H H' → H' p = some (.tup ((subS r lo hi).map V.str)) → Q (.ref p) H') : rSlA K (.ref a) lo hi H Q := by
  refine ⟨a, _, rfl, SqT.of ha, fun z => k _ _ (Same.refl _) ?_, fun _ p np => k _ _ (same_new np) ?_⟩
  · rw [ha, ← cut_strs]
    unfold cutV
    rw [z.1, z.2, List.drop_zero, Nat.sub_zero, List.take_length]
  · rw [upd_same, cut_strs]
theorem sub_at (r : List Str) {i s : Nat} (h : i + s ≤ r.length) : subS r (some (i : Int)) (some ((i : Int) + (s : Int))) = VM.piece s r i := by
  unfold subS VM.piece
  rw [show ((i : Int) + (s : Int)) = ((i + s : Nat) : Int) from (Int.natCast_add i s).symm, HT.sIx_nat, HT.sIx_nat, Nat.min_eq_left h, Nat.min_eq_left (by omega : i ≤ r.length), Nat.add_sub_cancel_left]
theorem sub_to (r : List Str) {s : Nat} (h1 : 1 ≤ s) (h : s ≤ r.length) : subS r none (some ((s : Int) - 1)) = r.take (s - 1) := by
  unfold subS
  rw [show ((s : Int) - 1) = ((s - 1 : Nat) : Int) by omega, HT.sIx_nat, HT.sIx_none, Nat.min_eq_left (by omega), List.drop_zero, Nat.sub_zero]
theorem sub_from (r : List Str) {s : Nat} (h1 : 1 ≤ s) (h : s ≤ r.length) : subS r (some ((r.length : Int) - (s : Int) + 1)) none = r.drop (r.length - s + 1) := by
  unfold subS
  rw [show ((r.length : Int) - (s : Int) + 1) = ((r.length - s + 1 : Nat) : Int) by omega, HT.sIx_nat, HT.sIx_none, Nat.min_eq_left (by omega), List.take_of_length_le]
  rw [List.length_drop]
  omega
theorem ok_piece {r : List Str} (h : OkW r) (s i : Nat) : OkW (VM.piece s r i) := fun y hy => h y (List.mem_of_mem_drop (List.mem_of_mem_take hy))
theorem ok_pieces {r : List Str} (h : OkW r) (s : Nat) : ∀ q ∈ VM.pieces s r, OkW q := fun q hq => by
  obtain ⟨i, _, rfl⟩ := List.mem_map.mp hq
  exact ok_piece h s i
theorem pieces_len (s : Nat) (r : List Str) : (VM.pieces s r).length = r.length - s + 1 := by
  unfold VM.pieces
  rw [List.length_map, List.length_range]
theorem pieces_take (s : Nat) (r : List Str) {i : Nat} (h : i < r.length - s + 1) : (VM.pieces s r).take (i + 1) = (VM.pieces s r).take i ++ [VM.piece s r i] := by
  have e : (VM.pieces s r)[i]? = some (VM.piece s r i) := by
    unfold VM.pieces
    rw [List.getElem?_map, List.getElem?_range h]
    rfl
  rw [List.take_add_one, e]
  rfl
theorem MadeN.push {H0 H H' : Hp} {D : Addr} {es : List PyData} {v : V} {e : PyData} (M : MadeN H0 D es H) (S : Same H H') (hv : Dq (fun c => if c = D then none else H' c) v e) :
    ∃ acc, H' D = some (.lst acc) ∧ acc.length = es.length ∧ MadeN H0 D (es ++ [e]) (upd H' D (.lst (acc ++ [v]))) := by
  obtain ⟨J, ys, S0, nD, S1, hb, dd⟩ := M
  have SJ : Same J (fun c => if c = D then none else H' c) := fun c o e => by
    have h1 : c ≠ D := fun z => by
      rw [z, nD] at e
      cases e
    show (if c = D then none else H' c) = _
    rw [if_neg h1]
    exact S _ _ (S1 _ _ e)
  refine ⟨ys, S _ _ hb, dd.len, fun c => if c = D then none else H' c, ys ++ [v], S0.trans SJ, if_pos rfl, fun c o e => ?_, upd_same, DqAll.snoc (DqAll.same SJ _ _ dd) hv⟩
  have e2 : (if c = D then none else H' c) = some o := e
  by_cases z : c = D
  · rw [if_pos z] at e2
    cases e2
  · rw [if_neg z] at e2
    rw [upd_ne z]
    exact e2
theorem rows_of {H : Hp} : ∀ {L : List (List Str)} {ys : List V}, DqAll H ys (L.map strsD) → ∃ as : List Addr, ys = as.map V.ref ∧ as.length = L.length ∧ ∀ (i : Nat) (p : Addr) (q : List Str), as[i]? = some p → L[i]? = some q → H p = some (.tup (q.map V.str))
  | [], _, h => by
    cases h
    exact ⟨[], rfl, rfl, fun i p q e => by simp at e⟩
  | w :: L, _, h => by
    cases h with
    | cons h1 h2 =>
      obtain ⟨a, rfl, ha⟩ := strsD_of h1
      obtain ⟨as, rfl, hl, k⟩ := rows_of h2
      refine ⟨a :: as, rfl, congrArg (· + 1) hl, fun i p q e1 e2 => ?_⟩
      cases i with
      | zero =>
        simp at e1 e2
        rw [← e1, ← e2]
        exact ha
      | succ i => exact k i p q (by simpa using e1) (by simpa using e2)
/-- a view of a slit -/
def spView : Sp := fun vs H Q _ => ∃ (sl r : Addr) (s m : Nat) (row : List Str), vs = [.ref sl, .ref r] ∧ H sl = some (.tup [.int (s : Int), .int (m : Int)]) ∧ H r = some (.tup (row.map V.str)) ∧ 1 ≤ s ∧ s ≤ 3 ∧ 1 ≤ m ∧ row.length ≤ 100 ∧ OkW row ∧ ∀ H' v, Same H H' → Dq H' v (viewD s m row) → Q v H'
section
variable {P : Program} {w : World} {K : PySem.W.Frag} {mg : Str → Option Value} {base : Heap}
abbrev nViewOf : List Str := ["slit", "marks", "width", "most", "pieces", "at"]
theorem scViewOf : FnScope nViewOf ["slit", "marks"] (defScope sViewOf) := ⟨rfl, rfl, rfl, by decide +kernel, rfl, by decide +kernel, by decide +kernel⟩
theorem ok_viewof {f g : Addr} {fd gd : FuncData} (F : Fun K "view_of" "view_of" sViewOf f fd) (T : TxtG mg) (G : FnOk P w K mg base CX0 1 g gd ["pieces", "most"] spCounted) (c : Cal K mg "counted" g gd ["pieces", "most"]) : FnOk P w K mg base CX0 2 f fd ["slit", "marks"] spView := by
  refine F.ok scViewOf (fun vs H Q E h => ?_) (fun cdv A outer s H vs Q E hr h => ?_)
  · obtain ⟨sl, r, n, m, row, rfl, _⟩ := h
    rfl
  · obtain ⟨sl, r, n, m, row, rfl, hsl, hrow, n1, n3, m1, rl, ok, k⟩ := h
    have nd := scViewOf.nd
    have hu := hu_of hr
    let X0 : Cx := (cxOf CX0 P w K mg base nViewOf "view_of" (defScope sViewOf) f cdv A outer s H E).nox
    refine ⟨_, C8.pss_cut (ps_asg (pv 0) (pg_tup rfl (pgs_cons (pg_name (i := 2) nd rfl (.inr rfl)) (pgs_cons (pg_name (i := 3) nd rfl (.inl rfl)) pgs_nil))))
      (C8.pss_cut (ps_if (pt_cmpR op_lt (pe_callB call_len_seq (by rfl) T.d.len PySem.boot_len (pa_cons (pv 1) pa_nil)) (pv 2) (nomark _)) (pss_one (ps_ret (pe_tup (pa_cons pe_str (pa_cons (pv 1) pa_nil))))) pss_nil)
      (C8.pss_cut (ps_setLc (i := 4) (own := [("at", 5)]) (g := gName 5) (tt := tYes) rfl nd rfl rfl (by rfl) (pi_range1 (by rfl) T.range (pa_cons (pe_op op_add (pe_op op_sub (pe_callB call_len_seq (by rfl) T.d.len PySem.boot_len (pa_cons (pv 1) pa_nil)) (pv 2)) pe_int) pa_nil))
        (blkOk_by (N := nViewOf) (sc := defScope sViewOf) (by decide +kernel)) (fun _ _ _ _ _ => pg_name (i := 5) nd rfl (.inl rfl)) (fun _ _ _ _ _ => pts_nil)
        (fun _ _ _ _ _ => pe_slice (r := rSlA K) sl_tupA (pv 1) (po_some (pv 5)) (po_some (pe_op op_add (pv 5) (pv 2)))))
      (pss_one (ps_ret (pe_tup (pa_cons pe_str (pa_cons (pe_slice (r := rSlA K) sl_tupA (pv 1) po_none (po_some (pe_op op_sub (pv 2) pe_int))) (pa_cons (pe_slice (r := rSlA K) sl_tupA (pv 1) (po_some (pe_op op_add (pe_op op_sub (pe_callB call_len_seq (by rfl) T.d.len PySem.boot_len (pa_cons (pv 1) pa_nil)) (pv 2)) pe_int)) po_none)
        (pa_cons (pe_call G hr (by rfl) c.m c.k c.b .nil pass0 (pa_cons (pv 4) (pa_cons (pv 3) pa_nil))) pa_nil))))))))), ?_⟩
    refine ⟨fun σ H' => σ = [some (.ref sl), some (.ref r), some (.int (n : Int)), some (.int (m : Int)), none, none] ∧ H' = H, ⟨_, rfl, sl, _, rfl, SqT.of hsl, rfl, _, _, rfl, _, _, rfl, rfl, rfl, rfl⟩, ?_⟩
    rintro σ1 H1 ⟨rfl, rfl⟩
    refine ⟨fun σ H' => σ = [some (.ref sl), some (.ref r), some (.int (n : Int)), some (.int (m : Int)), none, none] ∧ H' = H1 ∧ n ≤ row.length, ?_, ?_⟩
    · refine ⟨_, rfl, r, _, rfl, .inr (SqT.of hrow), _, rfl, _, _, rfl, rfl, _, rfl, ?_⟩
      rw [List.length_map]
      by_cases hlt : (row.length : Int) < (n : Int)
      · refine iteYes (decide_eq_true hlt) ⟨_, rfl, (by show 2 ≤ sizeLine; decide), fun p np => k _ _ (same_new np) ?_⟩
        rw [viewD, if_pos (by omega)]
        exact .tup upd_same (.cons (.str _) (.cons (.tup (xs := row.map V.str) (same_new np _ _ hrow) (strs_dq row)) .nil))
      · exact iteNo (decide_eq_false hlt) ⟨rfl, rfl, by omega⟩
    rintro σ2 H2 ⟨rfl, rfl, hn⟩
    refine ⟨fun σ H' => ∃ b ys, σ = [some (.ref sl), some (.ref r), some (.int (n : Int)), some (.int (m : Int)), some (.ref b), none] ∧ Same H2 H' ∧ H' b = some (.lst ys) ∧ DqAll H' ys ((VM.pieces n row).map strsD), ?_, ?_⟩
    · refine ⟨_, rfl, r, _, rfl, .inr (SqT.of hrow), _, rfl, _, _, rfl, rfl, _, _, rfl, rfl, _, rfl, (by rw [List.length_map]; omega), (by rw [List.length_map]; omega), fun D nD => ?_⟩
      rw [List.length_map]
      refine lc_range (fun i H' => MadeN H2 D (((VM.pieces n row).take i).map strsD) H') (MadeN.start nD) ?_ ?_
      · rintro i H3 hi M
        have hi : i < row.length - n + 1 := by omega
        refine ⟨rfl, _, rfl, _, rfl, _, rfl, _, rfl, _, rfl, _, _, rfl, rfl, _, rfl, ?_⟩
        rw [Int.zero_add]
        refine slice_strs (M.same _ _ hrow) fun H4 p S4 hp => ?_
        rw [sub_at row (by omega)] at hp
        obtain ⟨_, _, _, _, _, hDl, _⟩ := id M
        have pD : p ≠ D := fun z => by
          rw [z, S4 _ _ hDl] at hp
          cases hp
        obtain ⟨acc, h1, h2, M2⟩ := M.push (v := .ref p) (e := strsD (VM.piece n row i)) S4 (.tup (xs := (VM.piece n row i).map V.str) (by show (if p = D then none else H4 p) = _; rw [if_neg pD]; exact hp) (strs_dq _))
        refine ⟨acc, h1, ?_, ?_⟩
        · rw [h2, List.length_map, List.length_take, sizeLine_eq]
          omega
        · rw [pieces_take n row hi, List.map_append]
          exact M2
      · rintro H3 M
        obtain ⟨J, ys, S0, nJ, S1, hb, dd⟩ := M
        rw [List.take_of_length_le (by rw [pieces_len]; omega)] at dd
        exact ⟨D, ys, rfl, S0.trans S1, hb, DqAll.same S1 _ _ dd⟩
    rintro σ3 H3 ⟨b, ys, rfl, S3, hb, dy⟩
    obtain ⟨as, rfl, las, hat⟩ := rows_of dy
    refine ⟨_, rfl, _, rfl, _, _, rfl, rfl, _, rfl, slice_strs (S3 _ _ hrow) fun H4 p4 S4 hp4 => ?_⟩
    refine ⟨_, rfl, _, rfl, r, _, rfl, .inr (SqT.of (S4 _ _ (S3 _ _ hrow))), _, rfl, _, _, rfl, rfl, _, _, rfl, rfl, _, rfl, ?_⟩
    dsimp only [tNoPart]
    refine slice_strs (S4 _ _ (S3 _ _ hrow)) fun H5 p5 S5 hp5 => ?_
    have S35 := S4.trans S5
    refine ⟨_, rfl, _, rfl, b, m, VM.pieces n row, rfl, ⟨as, S35 _ _ hb, las, fun i p q e1 e2 => S35 _ _ (hat i p q e1 e2)⟩, (by rw [pieces_len]; omega), ok_pieces ok n, fun H6 v S6 dv => ?_⟩
    refine ⟨(by show 4 ≤ sizeLine; decide), fun p np => k _ _ (S3.trans (S35.trans (S6.trans (same_new np)))) ?_⟩
    rw [viewD, if_neg (by omega)]
    rw [sub_to row n1 hn] at hp4
    rw [List.length_map, sub_from row n1 hn] at hp5
    have Sp := same_new (o := .tup [.str "slit", .ref p4, .ref p5, v]) np
    exact .tup upd_same (.cons (.str _) (.cons (.tup (Sp _ _ (S6 _ _ (S5 _ _ hp4))) (strs_dq _)) (.cons (.tup (Sp _ _ (S6 _ _ hp5)) (strs_dq _)) (.cons (Dq.same Sp _ _ dv) .nil))))
end
end KL
set_option Elab.async false
set_option linter.all false
set_option maxRecDepth 100000
set_option maxHeartbeats 4000000
namespace KL
open PySem L2 PySem.Spec PyProof.Rows L2.DX
theorem items_dq {H : Hp} : ∀ {t : List (List Str × Nat)} {zs : List (Addr × (Addr × V))}, Paired (fun (kv : List Key × V) (z : Addr × (Addr × V)) => H z.1 = some (pairT z.2) ∧ H z.2.1 = some (.tup (kv.1.map kV)) ∧ z.2.2 = kv.2) (cK t) zs → DqAll H (zs.map fun z => V.ref z.1) (t.map pcD)
  | [], _, .nil => .nil
  | (q, c) :: t, _, .cons (b := z) h r => by
    refine .cons ?_ (items_dq r)
    obtain ⟨h1, h2, h3⟩ := h
    refine .tup h1 (.cons (.tup (xs := q.map V.str) ?_ (strs_dq q)) (.cons ?_ .nil))
    · rw [h2, ky_kV]
    · rw [h3]
      exact .int _
section
variable {P : Program} {w : World} {K : PySem.W.Frag} {mg : Str → Option Value} {base : Heap}
theorem scView : FnScope ["slit", "marks"] ["slit", "marks"] (defScope sView) := ⟨rfl, rfl, rfl, by decide +kernel, rfl, by decide +kernel, by decide +kernel⟩
theorem ok_view {f g : Addr} {fd gd : FuncData} (F : Fun K "view" "view" sView f fd) (G : FnOk P w K mg base CX0 2 g gd ["slit", "marks"] spView) (c : Cal K mg "view_of" g gd ["slit", "marks"]) : FnOk P w K mg base CX0 3 f fd ["slit", "marks"] spView := by
  refine F.ok scView (fun vs H Q E h => ?_) (fun cdv A outer s H vs Q E hr h => ?_)
  · obtain ⟨sl, r, n, m, row, rfl, _⟩ := h
    rfl
  · obtain ⟨sl, r, n, m, row, rfl, hh⟩ := h
    exact ⟨_, pss_one (ps_ret (pe_call G hr (by rfl) c.m c.k c.b .nil pass0 (pa_cons (pv 0) (pa_cons (pv 1) pa_nil)))), _, rfl, _, rfl, sl, r, n, m, row, rfl, hh⟩
abbrev nLView : List Str := ["_law_slit", "_law_row_here", "_law_size", "_law_most", "_law_counts", "_law_k", "_law_last"]
theorem scLView : FnScope nLView ["_law_slit", "_law_row_here"] (defScope lView) := ⟨rfl, rfl, rfl, by decide +kernel, rfl, by decide +kernel, by decide +kernel⟩
theorem ok_lview {f : Addr} {fd : FuncData} (F : Fun K "_law_view" "_law_view" lView f fd) (T : TxtG mg) : FnOk P w K mg base CX0 1 f fd ["_law_slit", "_law_row_here"] spView := by
  refine F.ok scLView (fun vs H Q E h => ?_) (fun cdv A outer s H vs Q E hr h => ?_)
  · obtain ⟨sl, r, n, m, row, rfl, _⟩ := h
    rfl
  · obtain ⟨sl, r, n, m, row, rfl, hsl, hrow, n1, n3, m1, rl, ok, k⟩ := h
    have nd := scLView.nd
    have hu := hu_of hr
    let X0 : Cx := (cxOf CX0 P w K mg base nLView "_law_view" (defScope lView) f cdv A outer s H E).nox
    refine ⟨_, C8.pss_cut (ps_asg (pv 0) (pg_tup rfl (pgs_cons (pg_name (i := 2) nd rfl (.inl rfl)) (pgs_cons (pg_name (i := 3) nd rfl (.inl rfl)) pgs_nil))))
      (C8.pss_cut (ps_if (pt_cmpR op_lt (pe_callB call_len_seq (by rfl) T.d.len PySem.boot_len (pa_cons (pv 1) pa_nil)) (pv 2) (nomark _)) (pss_one (ps_ret (pe_tup (pa_cons pe_str (pa_cons (pv 1) pa_nil))))) pss_nil)
      (C8.pss_cut (ps_set (i := 4) nd rfl (.inl rfl) pe_dnewT)
      (C8.pss_cut (ps_for PassesOwn.never rfl (pi_range1 (by rfl) T.range (pa_cons (pe_op op_add (pe_op op_sub (pe_callB call_len_seq (by rfl) T.d.len PySem.boot_len (pa_cons (pv 1) pa_nil)) (pv 2)) pe_int) pa_nil)) (pg_name (i := 5) nd rfl (.inl rfl))
        (pss_one (ps_dput hu (pv 4) (pe_slice (r := rSlA K) sl_tupA (pv 1) (po_some (pv 5)) (po_some (pe_op op_add (pv 5) (pv 2)))) (pe_callB (call_min2 rfl) (by rfl) T.min (by decide +kernel) (pa_cons (pv 3) (pa_cons (pe_op op_add (pe_dget2 hu (pv 4) (pe_slice (r := rSlA K) sl_tupA (pv 1) (po_some (pv 5)) (po_some (pe_op op_add (pv 5) (pv 2)))) pe_int ⟨rfl, rfl, rfl, rfl⟩) pe_int) pa_nil))) rfl)))
      (C8.pss_cut (ps_set (i := 6) nd rfl (.inl rfl) (pe_slice (r := rSlA K) sl_tupA (pv 1) (po_some (pe_op op_add (pe_op op_sub (pe_callB call_len_seq (by rfl) T.d.len PySem.boot_len (pa_cons (pv 1) pa_nil)) (pv 2)) pe_int)) po_none))
      (pss_one (ps_ret (pe_tup (pa_cons pe_str (pa_cons (pe_slice (r := rSlA K) sl_tupA (pv 1) po_none (po_some (pe_op op_sub (pv 2) pe_int))) (pa_cons (pv 6) (pa_cons (pe_tupleOf (by rfl) T.tuple (pe_callB (cr_sortedQ (X := X0) hr.units) (by rfl) T.sorted (by decide +kernel) (pa_cons
        (pe_callTy (call_listIt rfl) (by rfl) T.d.list (by decide +kernel) (pa_cons (pe_bm0 PySem.F.plainAttrs_dict PySem.F.slot_dict_items PySem.F.type_dict_items mt_itemsT (pv 4)) pa_nil)) pa_nil))) pa_nil))))))))))), ?_⟩
    refine ⟨fun σ H' => σ = [some (.ref sl), some (.ref r), some (.int (n : Int)), some (.int (m : Int)), none, none, none] ∧ H' = H, ⟨_, rfl, sl, _, rfl, SqT.of hsl, rfl, _, _, rfl, _, _, rfl, rfl, rfl, rfl⟩, ?_⟩
    rintro σ1 H1 ⟨rfl, rfl⟩
    refine ⟨fun σ H' => σ = [some (.ref sl), some (.ref r), some (.int (n : Int)), some (.int (m : Int)), none, none, none] ∧ H' = H1 ∧ n ≤ row.length, ?_, ?_⟩
    · refine ⟨_, rfl, r, _, rfl, .inr (SqT.of hrow), _, rfl, _, _, rfl, rfl, _, rfl, ?_⟩
      rw [List.length_map]
      by_cases hlt : (row.length : Int) < (n : Int)
      · refine iteYes (decide_eq_true hlt) ⟨_, rfl, (by show 2 ≤ sizeLine; decide), fun p np => k _ _ (same_new np) ?_⟩
        rw [viewD, if_pos (by omega)]
        exact .tup upd_same (.cons (.str _) (.cons (.tup (xs := row.map V.str) (same_new np _ _ hrow) (strs_dq row)) .nil))
      · exact iteNo (decide_eq_false hlt) ⟨rfl, rfl, by omega⟩
    rintro σ2 H2 ⟨rfl, rfl, hn⟩
    refine ⟨fun σ H' => ∃ d, σ = [some (.ref sl), some (.ref r), some (.int (n : Int)), some (.int (m : Int)), some (.ref d), none, none] ∧ H2 d = none ∧ Same H2 H' ∧ H' d = some (.dT []), fun d nd0 => ⟨d, rfl, nd0, same_new nd0, upd_same⟩, ?_⟩
    rintro σ3 H3 ⟨d, rfl, nd0, S3, hd⟩
    refine ⟨fun σ H' => ∃ o, σ = [some (.ref sl), some (.ref r), some (.int (n : Int)), some (.int (m : Int)), some (.ref d), o, none] ∧ Same H2 H' ∧ H' d = some (.dT (cK (VM.cnt m (VM.pieces n row)))), ?_, ?_⟩
    · refine ⟨_, rfl, r, _, rfl, .inr (SqT.of (S3 _ _ hrow)), _, rfl, _, _, rfl, rfl, _, _, rfl, rfl, _, rfl, (by rw [List.length_map]; omega), (by rw [List.length_map]; omega), ?_⟩
      rw [List.length_map]
      refine for_range (fun i σ H' => ∃ o, σ = [some (.ref sl), some (.ref r), some (.int (n : Int)), some (.int (m : Int)), some (.ref d), o, none] ∧ Same H2 H' ∧ H' d = some (.dT (cK (VM.cnt m ((VM.pieces n row).take i))))) ⟨none, rfl, S3, hd⟩ ?_ ?_
      · rintro i σ H4 hi ⟨o, rfl, S4, hd4⟩
        have hi : i < row.length - n + 1 := by omega
        have ndk := (VM.cntOk m ((VM.pieces n row).take i)).nd
        have hz : (cK (VM.cnt m ((VM.pieces n row).take i))).length < sizeLine := by
          have h1 := cnt_len m ((VM.pieces n row).take i)
          rw [List.length_take] at h1
          have h2 := pieces_len n row
          rw [cK_len, sizeLine_eq]
          omega
        refine ⟨_, rfl, _, rfl, d, rfl, .inr ⟨_, .inl hd4⟩, _, rfl, _, rfl, _, rfl, _, rfl, _, rfl, _, _, rfl, rfl, _, rfl, slice_strs (S4 _ _ hrow) fun H5 p5 S5 hp5 => ?_⟩
        rw [Int.zero_add, sub_at row (by omega), ← ky_kV] at hp5
        refine ⟨_, DGet.t (S5 _ _ hd4) hp5, _, _, cK_get _ _, rfl, _, _, rfl, _, rfl, _, rfl, _, rfl, _, rfl, _, rfl, _, rfl, _, _, rfl, rfl, _, rfl, slice_strs (S5 _ _ (S4 _ _ hrow)) fun H6 p6 S6 hp6 => ?_⟩
        rw [Int.zero_add, sub_at row (by omega), ← ky_kV] at hp6
        refine ⟨d, _, rfl, DPut.t (S6 _ _ (S5 _ _ hd4)) hp6 hz, _, rfl, fun b o e => ?_, ?_⟩
        · rw [upd_ne (ne_of_none e nd0)]
          exact S6 _ _ (S5 _ _ (S4 _ _ e))
        · rw [upd_same, pieces_take n row hi, cnt_snoc, min_int2, cK_put _ _ ndk]
      · rintro σ H4 ⟨o, rfl, S4, hd4⟩
        rw [List.take_of_length_le (by rw [pieces_len]; omega)] at hd4
        exact ⟨o, rfl, S4, hd4⟩
    clear S3 hd
    rintro σ4 H4 ⟨o, rfl, S4, hd⟩
    refine ⟨fun σ H' => ∃ p6, σ = [some (.ref sl), some (.ref r), some (.int (n : Int)), some (.int (m : Int)), some (.ref d), o, some (.ref p6)] ∧ Same H4 H' ∧ H' p6 = some (.tup ((row.drop (row.length - n + 1)).map V.str)), ?_, ?_⟩
    · refine ⟨_, rfl, _, rfl, r, _, rfl, .inr (SqT.of (S4 _ _ hrow)), _, rfl, _, _, rfl, rfl, _, _, rfl, rfl, _, rfl, ?_⟩
      dsimp only [tNoPart]
      refine slice_strs (S4 _ _ hrow) fun H5 p5 S5 hp5 => ⟨p5, rfl, S5, ?_⟩
      rw [List.length_map, sub_from row n1 hn] at hp5
      exact hp5
    rintro σ5 H5 ⟨p6, rfl, S5, hp6⟩
    refine ⟨_, rfl, _, rfl, _, _, rfl, rfl, _, rfl, slice_strs (S5 _ _ (S4 _ _ hrow)) fun H6 p7 S6 hp7 => ?_⟩
    rw [sub_to row n1 hn] at hp7
    have hd6 := S6 _ _ (S5 _ _ hd)
    refine ⟨_, rfl, _, rfl, .inr (.inr (.inl ⟨rfl, .inr ⟨_, hd6⟩⟩)), d, _, rfl, rfl, hd6, fun it nit => ?_⟩
    have S7 := same_new (o := itemsO it d) nit
    refine ⟨it, d, _, rfl, upd_same, S7 _ _ hd6, fun H8 l zs S8 nl hl pz => ?_⟩
    refine sorted_pcs (J := H8) (Same.refl _) hl (items_dq (paired_and pz fun z _ kv h => ⟨h.1, S8 _ _ h.2.1, h.2.2⟩)) (fun p hp => ok_pieces ok n p.1 (VM.cnt_mem.mp hp).1) fun H9 q S9 dq => ?_
    refine ⟨(by show 4 ≤ sizeLine; decide), fun p np => ?_⟩
    have Sp := same_new (o := .tup [.str "slit", .ref p7, .ref p6, .ref q]) np
    have S69 := S7.trans (S8.trans (S9.trans Sp))
    refine k _ _ (S4.trans (S5.trans (S6.trans S69))) ?_
    rw [viewD, if_neg (by omega)]
    exact .tup upd_same (.cons (.str _) (.cons (.tup (S69 _ _ hp7) (strs_dq _)) (.cons (.tup (S69 _ _ (S6 _ _ hp6)) (strs_dq _)) (.cons (Dq.same Sp _ _ dq) .nil))))
end
end KL
set_option Elab.async false
set_option linter.all false
set_option maxRecDepth 100000
set_option maxHeartbeats 4000000
namespace KL
open PySem L2 PySem.Spec PyProof.Rows L2.DX
/-! ### drawn rows -/
abbrev al9 : List Str := ["a", "b", "x", "a:1", "a:0", "-", "0", "1,-1", "b:3"]
theorem al9_ok : ∀ y ∈ al9, txS y = true ∧ y.length ≤ 4 ∧ PyData.strOk y = true := by decide +kernel
def In9 (w : List Str) : Prop := ∀ y ∈ w, y ∈ al9
theorem In9.ok {w : List Str} (h : In9 w) : OkW w := fun y hy => (al9_ok y (h y hy)).2.2
theorem In9.sub {w : List Str} (h : In9 w) (lo hi : Option Int) : In9 (subS w lo hi) := fun y hy => h y (List.mem_of_mem_drop (List.mem_of_mem_take hy))
theorem sub_len (w : List Str) (lo hi : Option Int) : (subS w lo hi).length ≤ w.length := by
  unfold subS
  rw [List.length_take, List.length_drop]
  omega
theorem cat_of {K : PySem.W.Frag} {H : Hp} {Q : VK} {a b : Addr} {xs ys : List V} (h1 : H a = some (.tup xs)) (h2 : H b = some (.tup ys)) (hz : xs.length + ys.length ≤ sizeLine) (k : ∀ p H', Same H H' → H' p = some (.tup (xs ++ ys)) → Q (.ref p) H') : rCatA K (.ref a) (.ref b) H Q := by
  refine ⟨a, b, xs, ys, rfl, rfl, SqT.of h1, SqT.of h2, hz, fun e => ?_, fun _ e => ?_, fun _ _ p np => ?_⟩
  · subst e
    exact k b H (Same.refl H) h2
  · subst e
    refine k a H (Same.refl H) ?_
    rw [List.append_nil]
    exact h1
  · exact k p _ (same_new np) upd_same
theorem DeckAt.mono {H0 H H' : Hp} {p l : Addr} {t : Int} (D : DeckAt H0 H p l t) (S : Same H H') : DeckAt H0 H' p l t := by
  obtain ⟨ns, m, hp, hl, r⟩ := D.d
  exact ⟨D.s.trans S, D.p0, D.l0, ns, m, S _ _ hp, S _ _ hl, r⟩
theorem Go.mono {p l : Addr} {H0 H H1 H' H'' : Hp} {t t' n : Int} (g : Go p l H0 H t H1 H' t' n) (S : Same H' H'') : Go p l H0 H t H1 H'' t' n :=
  ⟨g.s, g.d.mono S, fun b o bp bl e => S _ _ (g.f b o bp bl e), g.o, g.t0, g.t1⟩
theorem pick_lit {H0 H : Hp} {p l q : Addr} {t : Int} {xs : List V} {Q : VK} {E : XK} (D : DeckAt H0 H p l t) (t0 : 0 ≤ t) (t1 : t < 1048576) (hx0 : 0 < xs.length) (hx1 : xs.length < 1000) (nq : H q = none) (k : ∀ H' v, Go p l H0 H t H0 H' (t + 1) 1 → v ∈ xs → Q v H') :
    spPick [.ref p, .ref q] (upd H q (.lst xs)) Q E :=
  ⟨H0, p, l, t, q, xs, rfl, D.put0 nq, t0, t1, upd_same, (D.notP nq).1, (D.notP nq).2, hx0, hx1, fun H' i v g hv => k H' v ((((Go.refl D).put0 nq).trans g).more (by omega)) (List.mem_of_getElem? hv)⟩
def WdD (n : Nat) (ds : List PyData) : Prop := ∃ w : List Str, ds = w.map .str ∧ w.length = n ∧ In9 w
theorem WdD.zero : WdD 0 [] := ⟨[], rfl, rfl, fun _ h => nomatch h⟩
theorem WdD.snoc {n : Nat} {ds : List PyData} {y : Str} (h : WdD n ds) (hy : y ∈ al9) : WdD (n + 1) (ds ++ [.str y]) := by
  obtain ⟨w, rfl, hl, h9⟩ := h
  refine ⟨w ++ [y], by simp, by simp [hl], fun z hz => ?_⟩
  rcases List.mem_append.mp hz with q | q
  · exact h9 z q
  · rw [List.mem_singleton.mp q]
    exact hy
def pools : List (List Str) := [["a", "b"], ["x"], ["a:1", "a:0", "-"], ["0", "1,-1", "b:3", "x"]]
theorem pools_ok : ∀ ks ∈ pools, In9 ks ∧ 1 ≤ ks.length ∧ ks.length ≤ 4 := by
  intro ks h
  simp only [pools, List.mem_cons, List.not_mem_nil, or_false] at h
  rcases h with rfl | rfl | rfl | rfl
  · exact ⟨by intro y hy; simp only [List.mem_cons, List.not_mem_nil, or_false] at hy; rcases hy with rfl | rfl <;> simp [al9], by decide, by decide⟩
  · exact ⟨by intro y hy; simp only [List.mem_cons, List.not_mem_nil, or_false] at hy; rcases hy with rfl <;> simp [al9], by decide, by decide⟩
  · exact ⟨by intro y hy; simp only [List.mem_cons, List.not_mem_nil, or_false] at hy; rcases hy with rfl | rfl | rfl <;> simp [al9], by decide, by decide⟩
  · exact ⟨by intro y hy; simp only [List.mem_cons, List.not_mem_nil, or_false] at hy; rcases hy with rfl | rfl | rfl | rfl <;> simp [al9], by decide, by decide⟩
def spRow : Sp := fun vs H Q _ => ∃ (H0 : Hp) (p l : Addr) (t : Int), vs = [.ref p] ∧ DeckAt H0 H p l t ∧ 0 ≤ t ∧ t < 1000000 ∧ ∀ H1 H' t' q w, Go p l H0 H t H1 H' t' 16 → H1 q = some (.tup (w.map V.str)) → w.length ≤ 12 → In9 w → Q (.ref q) H'
def spTurned : Sp := fun vs H Q _ => ∃ (H0 : Hp) (p l r : Addr) (t : Int) (row : List Str), vs = [.ref p, .ref r] ∧ DeckAt H0 H p l t ∧ 0 ≤ t ∧ t < 1000000 ∧ H0 r = some (.tup (row.map V.str)) ∧ row.length ≤ 12 ∧ In9 row ∧ ∀ H' t' q w, Go p l H0 H t H0 H' t' 2 → H' q = some (.tup (w.map V.str)) → w.length ≤ 40 → In9 w → Q (.ref q) H'
section
variable {P : Program} {w : World} {K : PySem.W.Frag} {mg : Str → Option Value} {base : Heap}
abbrev nRow : List Str := ["_law_deck_here", "_law_pool", "_law_k"]
theorem scRow : FnScope nRow ["_law_deck_here"] (defScope lRow) := ⟨rfl, rfl, rfl, by decide +kernel, rfl, by decide +kernel, by decide +kernel⟩
theorem ok_row {f g1 g2 : Addr} {fd gd1 gd2 : FuncData} (F : Fun K "_law_row" "_law_row" lRow f fd) (T : TxtG mg) (G1 : FnOk P w K mg base CX0 1 g1 gd1 ["_law_deck_here", "_law_below"] spDraw) (c1 : Cal K mg "_law_draw" g1 gd1 ["_law_deck_here", "_law_below"])
    (G2 : FnOk P w K mg base CX0 2 g2 gd2 ["_law_deck_here", "_law_some"] spPick) (c2 : Cal K mg "_law_pick" g2 gd2 ["_law_deck_here", "_law_some"]) : FnOk P w K mg base CX0 3 f fd ["_law_deck_here"] spRow := by
  refine F.ok scRow (fun vs H Q E h => ?_) (fun cdv A outer s H vs Q E hr h => ?_)
  · obtain ⟨H0, p, l, t, rfl, _⟩ := h
    rfl
  · obtain ⟨Hs, p, l, t, rfl, D, t0, t1, k⟩ := h
    have hr1 : Room 1 _ := hr.mono (by decide)
    have nd := scRow.nd
    refine ⟨_, C8.pss_cut (ps_set (i := 1) nd rfl (.inr rfl) (pe_call G2 hr (by rfl) c2.m c2.k c2.b .nil pass0 (pa_cons (pv 0) (pa_cons (pe_lst (pa_cons (pe_lst (pa_cons pe_str (pa_cons pe_str pa_nil))) (pa_cons (pe_lst (pa_cons pe_str pa_nil)) (pa_cons (pe_lst (pa_cons pe_str (pa_cons pe_str (pa_cons pe_str pa_nil)))) (pa_cons (pe_lst (pa_cons pe_str (pa_cons pe_str (pa_cons pe_str (pa_cons pe_str pa_nil))))) pa_nil))))) pa_nil))))
      (pss_one (ps_ret (pe_tupleOf (by rfl) T.tuple (pe_lc (own := [("_law_k", 2)]) (g := gName 2) (tt := tYes) rfl nd (pi_range1 (by rfl) T.range (pa_cons (pe_call G1 hr1 (by rfl) c1.m c1.k c1.b .nil pass0 (pa_cons (pv 0) (pa_cons pe_int pa_nil))) pa_nil))
          (blkOk_by (N := nRow) (sc := defScope lRow) (by decide +kernel)) (fun _ _ _ _ _ => pg_name (i := 2) nd rfl (.inl rfl)) (fun _ _ _ _ _ => pts_nil)
          (fun _ _ _ _ _ => pe_call G2 hr (by rfl) c2.m c2.k c2.b .nil pass0 (pa_cons (pv 0) (pa_cons (pv 1) pa_nil))))))), ?_⟩
    refine ⟨fun σ H' => ∃ H0 kn ks, σ = [some (.ref p), some (.ref kn), none] ∧ Go p l Hs H t H0 H' (t + 1) 1 ∧ ks ∈ pools ∧ H0 kn = some (.lst (ks.map V.str)), ?_, ?_⟩
    · refine ⟨_, rfl, (by show 2 ≤ sizeLine; decide), fun q1 n1 => ⟨(by show 1 ≤ sizeLine; decide), fun q2 n2 => ⟨(by show 3 ≤ sizeLine; decide), fun q3 n3 => ⟨(by show 4 ≤ sizeLine; decide), fun q4 n4 => ⟨(by show 4 ≤ sizeLine; decide), fun q nq => ?_⟩⟩⟩⟩⟩
      have b1 := (Go.refl D).new (o := .lst [V.str "a", V.str "b"]) n1
      have b2 := b1.new (o := .lst [V.str "x"]) n2
      have b3 := b2.new (o := .lst [V.str "a:1", V.str "a:0", V.str "-"]) n3
      have b4 := b3.new (o := .lst [V.str "0", V.str "1,-1", V.str "b:3", V.str "x"]) n4
      have S2 := same_new (o := .lst [V.str "x"]) (b1.d.s.free n2)
      have S3 := same_new (o := .lst [V.str "a:1", V.str "a:0", V.str "-"]) (b2.d.s.free n3)
      have S4 := same_new (o := .lst [V.str "0", V.str "1,-1", V.str "b:3", V.str "x"]) (b3.d.s.free n4)
      have e1 := S4 _ _ (S3 _ _ (S2 _ _ (upd_same (H := Hs) (a := q1) (o := .lst [V.str "a", V.str "b"]))))
      have e2 := S4 _ _ (S3 _ _ (upd_same (H := upd Hs q1 (.lst [V.str "a", V.str "b"])) (a := q2) (o := .lst [V.str "x"])))
      have e3 := S4 _ _ (upd_same (H := upd (upd Hs q1 (.lst [V.str "a", V.str "b"])) q2 (.lst [V.str "x"])) (a := q3) (o := .lst [V.str "a:1", V.str "a:0", V.str "-"]))
      have e4 := upd_same (H := upd (upd (upd Hs q1 (.lst [V.str "a", V.str "b"])) q2 (.lst [V.str "x"])) q3 (.lst [V.str "a:1", V.str "a:0", V.str "-"])) (a := q4) (o := .lst [V.str "0", V.str "1,-1", V.str "b:3", V.str "x"])
      revert b4 e1 e2 e3 e4 nq
      generalize upd (upd (upd (upd H q1 (.lst [V.str "a", V.str "b"])) q2 (.lst [V.str "x"])) q3 (.lst [V.str "a:1", V.str "a:0", V.str "-"])) q4 (.lst [V.str "0", V.str "1,-1", V.str "b:3", V.str "x"]) = H2
      generalize upd (upd (upd (upd Hs q1 (.lst [V.str "a", V.str "b"])) q2 (.lst [V.str "x"])) q3 (.lst [V.str "a:1", V.str "a:0", V.str "-"])) q4 (.lst [V.str "0", V.str "1,-1", V.str "b:3", V.str "x"]) = H02
      intro nq g e1 e2 e3 e4
      refine pick_lit (E := E0) g.d (by omega) (by omega) (Nat.succ_pos 3) (by show 4 < 1000; decide) nq fun H3 v g3 hv => ?_
      have g := (g.trans g3).more (show (0 : Int) + 1 ≤ 1 by decide)
      simp only [List.mem_cons, List.not_mem_nil, or_false] at hv
      rcases hv with rfl | rfl | rfl | rfl
      · exact ⟨H02, q1, ["a", "b"], rfl, g, by simp [pools], e1⟩
      · exact ⟨H02, q2, ["x"], rfl, g, by simp [pools], e2⟩
      · exact ⟨H02, q3, ["a:1", "a:0", "-"], rfl, g, by simp [pools], e3⟩
      · exact ⟨H02, q4, ["0", "1,-1", "b:3", "x"], rfl, g, by simp [pools], e4⟩
    rintro σ1 H1 ⟨H0, kn, ks, rfl, g, hks, hkn⟩
    obtain ⟨h9, l1, l4⟩ := pools_ok ks hks
    refine ⟨_, rfl, H0, p, l, t + 1, 13, rfl, g.d, by omega, by omega, by decide, by decide, fun H3 nn g3 n0 n1 => ⟨nn, rfl, by omega, by omega, fun B nB => ?_⟩⟩
    have g := (g.trans g3).more (show (1 : Int) + 1 ≤ 2 by decide)
    refine lc_range (fun e H' => Making p l B H0 H3 (t + 1 + 1) 1 WdD e H') (Making.start g.d nB WdD.zero) ?_ ?_
    · rintro e H4 he ⟨H02, t3, zs, ds, g4, w4, q4, hP⟩
      have g4t := g4.t1
      have g4t0 := g4.t0
      have hk4 : H02 kn = some (.lst (ks.map V.str)) := g4.s _ _ hkn
      have kp : kn ≠ p := fun z => by
        have := g4.d.p0
        rw [← z, hk4] at this
        cases this
      have kl : kn ≠ l := fun z => by
        have := g4.d.l0
        rw [← z, hk4] at this
        cases this
      refine ⟨rfl, _, rfl, _, rfl, H02, p, l, t3, kn, _, rfl, g4.d, by omega, by omega, g4.d.s _ _ hk4, kp, kl, by rw [List.length_map]; omega, by rw [List.length_map]; omega, fun H5 i v g5 hv => ?_⟩
      obtain ⟨y, rfl, hy⟩ : ∃ y : Str, v = .str y ∧ y ∈ al9 := by
        obtain ⟨y, hy, rfl⟩ := List.mem_map.mp (List.mem_of_getElem? hv)
        exact ⟨y, rfl, h9 y hy⟩
      refine Making.turn g4 w4 q4 g5 (.str y) ?_ (hP.snoc hy)
      obtain ⟨w, rfl, hw, _⟩ := hP
      rw [List.length_map]
      omega
    · rintro H4 ⟨H02, t3, zs, ds, g4, w4, q4, w, rfl, hw, h9w⟩
      have g4t := g4.t1
      refine .inl ⟨B, zs, rfl, SqL.of w4.h, fun q nq => ?_⟩
      have g5 := ((g.trans g4).new (o := .tup zs) nq).more (show _ ≤ (16 : Int) by omega)
      have d5 := dq_new (g4.d.s.free nq) q4
      obtain ⟨qa, eqa, hqa⟩ := strsD_of (w := w) d5
      cases eqa
      exact k _ _ _ q w g5 hqa (by omega) h9w
end
end KL
set_option Elab.async false
set_option linter.all false
set_option maxRecDepth 100000
set_option maxHeartbeats 4000000
namespace KL
open PySem L2 PySem.Spec PyProof.Rows L2.DX
section
variable {P : Program} {w : World} {K : PySem.W.Frag} {mg : Str → Option Value} {base : Heap}
abbrev nTurned : List Str := ["_law_deck_here", "_law_row_here", "_law_at", "_law_many"]
theorem scTurned : FnScope nTurned ["_law_deck_here", "_law_row_here"] (defScope lTurned) := ⟨rfl, rfl, rfl, by decide +kernel, rfl, by decide +kernel, by decide +kernel⟩
theorem In9.app {a b : List Str} (h1 : In9 a) (h2 : In9 b) : In9 (a ++ b) := fun y hy => by
  rcases List.mem_append.mp hy with q | q
  · exact h1 y q
  · exact h2 y q
theorem ok_turned {f g1 : Addr} {fd gd1 : FuncData} (F : Fun K "_law_turned" "_law_turned" lTurned f fd) (T : TxtG mg) (G1 : FnOk P w K mg base CX0 1 g1 gd1 ["_law_deck_here", "_law_below"] spDraw) (c1 : Cal K mg "_law_draw" g1 gd1 ["_law_deck_here", "_law_below"]) :
    FnOk P w K mg base CX0 2 f fd ["_law_deck_here", "_law_row_here"] spTurned := by
  refine F.ok scTurned (fun vs H Q E h => ?_) (fun cdv A outer s H vs Q E hr h => ?_)
  · obtain ⟨H0, p, l, r, t, row, rfl, _⟩ := h
    rfl
  · obtain ⟨Hs, p, l, r, t, row, rfl, D, t0, t1, hrow, rl, h9, k⟩ := h
    have nd := scTurned.nd
    refine ⟨_, C8.pss_cut (ps_if (pt_cmpR op_lt (pe_callB call_len_seq (by rfl) T.d.len PySem.boot_len (pa_cons (pv 1) pa_nil)) pe_int (nomark _)) (pss_one (ps_ret (pv 1))) pss_nil)
      (C8.pss_cut (ps_par (i := 2) (j := 3) (by rfl) nd rfl rfl (by decide) rfl rfl (pa_cons (pe_call G1 hr (by rfl) c1.m c1.k c1.b .nil pass0 (pa_cons (pv 0) (pa_cons (pe_callB call_len_seq (by rfl) T.d.len PySem.boot_len (pa_cons (pv 1) pa_nil)) pa_nil))) (pa_cons (pe_op op_add pe_int (pe_call G1 hr (by rfl) c1.m c1.k c1.b .nil pass0 (pa_cons (pv 0) (pa_cons pe_int pa_nil)))) pa_nil)) (by rfl))
      (pss_one (ps_ret (pe_op (r := rCatA K) op_catA (pe_op (r := rCatA K) op_catA (pe_slice (r := rSlA K) sl_tupA (pv 1) po_none (po_some (pv 2))) (pe_revT (pe_slice (r := rSlA K) sl_tupA (pv 1) (po_some (pv 2)) (po_some (pe_op op_add (pv 2) (pv 3))))))
        (pe_slice (r := rSlA K) sl_tupA (pv 1) (po_some (pe_op op_add (pv 2) (pv 3))) po_none))))), ?_⟩
    have hr0 := D.s _ _ hrow
    refine ⟨fun σ H' => σ = [some (.ref p), some (.ref r), none, none] ∧ H' = H ∧ 2 ≤ row.length, ?_, ?_⟩
    · refine ⟨_, rfl, r, _, rfl, .inr (SqT.of hr0), _, _, rfl, rfl, _, rfl, ?_⟩
      rw [List.length_map]
      by_cases hlt : (row.length : Int) < 2
      · exact iteYes (decide_eq_true hlt) ⟨_, rfl, k H t r row ((Go.refl D).more (by decide)) hr0 (by omega) h9⟩
      · exact iteNo (decide_eq_false hlt) ⟨rfl, rfl, by omega⟩
    rintro σ1 H1 ⟨rfl, rfl, l2⟩
    refine ⟨fun σ H' => ∃ a b : Int, σ = [some (.ref p), some (.ref r), some (.int a), some (.int b)] ∧ Go p l Hs H1 t Hs H' (t + 1 + 1) 2, ?_, ?_⟩
    · refine ⟨_, rfl, _, rfl, r, _, rfl, .inr (SqT.of hr0), Hs, p, l, t, _, rfl, D, t0, by omega, by rw [List.length_map]; omega, by rw [List.length_map]; omega, fun H2 a g a0 a1 => ?_⟩
      refine ⟨_, rfl, Hs, p, l, t + 1, 4, rfl, g.d, by omega, by omega, by decide, by decide, fun H3 b g2 b0 b1 => ?_⟩
      exact ⟨_, _, rfl, rfl, _, _, rfl, a, _, rfl, (g.trans g2).more (by decide)⟩
    rintro σ2 H2 ⟨a, b, rfl, g⟩
    have hrow2 := g.d.s _ _ hrow
    refine ⟨_, rfl, _, rfl, _, rfl, slice_strs hrow2 fun H3 p3 S3 hp3 => ?_⟩
    refine ⟨_, rfl, _, rfl, _, rfl, _, rfl, _, rfl, _, _, rfl, rfl, _, rfl, slice_strs (S3 _ _ hrow2) fun H4 p4 S4 hp4 => ?_⟩
    refine ⟨p4, _, rfl, SqT.of hp4, fun p5 n5 => ?_⟩
    have S5 := same_new (o := .tup ((subS row (some a) (some (a + b))).map V.str).reverse) n5
    have hp5 : upd H4 p5 (.tup ((subS row (some a) (some (a + b))).map V.str).reverse) p5 = some (.tup ((subS row (some a) (some (a + b))).reverse.map V.str)) := by
      rw [upd_same, List.map_reverse]
    have hp3' := S5 _ _ (S4 _ _ hp3)
    have hr5 := S5 _ _ (S4 _ _ (S3 _ _ hrow2))
    have S25 := S3.trans (S4.trans S5)
    generalize upd H4 p5 (.tup ((subS row (some a) (some (a + b))).map V.str).reverse) = H5 at *
    have m1 := sub_len row none (some a)
    have m2 := sub_len row (some a) (some (a + b))
    refine cat_of hp3' hp5 (by rw [List.length_map, List.length_map, List.length_reverse, sizeLine_eq]; omega) fun p6 H6 S6 hp6 => ?_
    rw [← List.map_append] at hp6
    refine ⟨_, rfl, _, rfl, _, rfl, _, _, rfl, rfl, _, rfl, ?_⟩
    dsimp only [tNoPart]
    refine slice_strs (S6 _ _ hr5) fun H7 p7 S7 hp7 => ?_
    have m3 := sub_len row (some (a + b)) none
    refine cat_of (S7 _ _ hp6) hp7 (by rw [List.length_map, List.length_map, List.length_append, List.length_reverse, sizeLine_eq]; omega) fun p8 H8 S8 hp8 => ?_
    rw [← List.map_append] at hp8
    refine k H8 (t + 1 + 1) p8 _ (g.mono (S25.trans (S6.trans (S7.trans S8)))) hp8 (by rw [List.length_append, List.length_append, List.length_reverse]; omega) ?_
    exact ((h9.sub _ _).app fun y hy => (h9.sub _ _) y (List.mem_reverse.mp hy)).app (h9.sub _ _)
end
end KL
set_option Elab.async false
set_option linter.all false
set_option maxRecDepth 100000
set_option maxHeartbeats 4000000
namespace KL
open PySem L2 PySem.Spec PyProof.Rows L2.DX
/-! ### f(k=v, ..) without arguments by position -/
section
variable {X : Cx} {CX : CXT} {kk : Nat} {f : Addr} {fd : FuncData} {ps ks : List Str} {sp : Sp} {E : XK} {x : Str} {p pos : Pos} {kws : List Keyword} {tk : TA} {g : List Value → List Value → List Value} {gV : List V → List V → List V}
def tCallK0 (sp : Sp) (gV : List V → List V → List V) (E : XK) (tk : TA) : TE := fun σ H Q => tk σ H fun zs H2 => sp (gV [] zs) H2 Q E
theorem pe_callK0 (F : FnOk X.prog X.w X.K X.mg X.base CX kk f fd ps sp) (hr : Room kk X.A) (hg : Gl X x) (hm : X.mg x = some (.ref f)) (hk : PySem.W.keepIn X.K (.ref f) = true) (hb : KBinds X.K fd ps ks g gV) (hx : Passes CX X E) (hkw : PK X kws tk)
    (hall : (backToKw pos (keywordEach kws X.env)).all (·.1.isSome) = true := by rfl) (hks : (backToKw pos (keywordEach kws X.env)).filterMap (·.1) = ks := by rfl) (hdb : (x == ("__debug__" : Str)) = false := by decide)
    (hpl : ((backTo pos (starEach [] X.env)).any (·.1) || (backToKw pos (keywordEach kws X.env)).any (·.1.isNone)) = false := by rfl) :
    PE X (.Call (.Name x p) [] kws pos) (tCallK0 sp gV E tk) := by
  refine ⟨fun pins s σ H Q I h => ?_⟩
  refine wpAny_Call_Name_kw (ld_glob I hg hm ?_ hdb)
  refine PySem.W.callWith_KW0 (first := []) (h₀ := X.base) I.ok.mod.kin hk hall (thn (hkw.run pos pins s σ H _ I h) fun ws s2 ⟨zs, H2, I2, rz, q2⟩ => ⟨I2.kIn, ?_⟩) hpl
  rw [hks]
  exact run_fnk (us := []) (vs := []) F hr hb hx I2 .nil rz q2
end
def gMS : List Value → List Value → List Value
  | [], [m, s] => [s, m]
  | _, _ => []
def gMSV : List V → List V → List V
  | [], [m, s] => [s, m]
  | _, _ => []
theorem gMS_rel {vs : List V} {us : List Value} {zs : List V} {ws : List Value} (r : Vals vs us) (rz : Vals zs ws) : Vals (gMSV vs zs) (gMS us ws) := by
  cases r with
  | cons _ _ => cases rz <;> exact .nil
  | nil =>
    cases rz with
    | nil => exact .nil
    | cons p1 q1 =>
      cases q1 with
      | nil => exact .nil
      | cons p2 q2 =>
        cases q2 with
        | nil => exact .cons p2 (.cons p1 .nil)
        | cons _ _ => exact .nil
theorem kb_view {K : PySem.W.Frag} {fd : FuncData} (h : ∀ m s : Value, bindArgs fd ⟨[], [(("marks" : Str), m), (("slit" : Str), s)]⟩ = pure [(("slit" : Str), s), (("marks" : Str), m)]) : KBinds K fd ["slit", "marks"] ["marks", "slit"] gMS gMSV :=
  ⟨fun s us ws _ hl => match us, ws, hl with
    | [], [m, s], _ => .of_eq (h m s), gMS_rel⟩
/-! ### data compared -/
mutual
theorem dp_of {K : PySem.W.Frag} {H : Hp} : ∀ (d : PyData) (v : V), plainD d = true → Dq H v d → Dp K H v d
  | .int i, _, _, h => by
    cases h
    exact .int i
  | .str x, _, _, h => by
    cases h
    exact .str x
  | .tuple ds, _, p, h => by
    cases h with
    | tup e hs => exact .tup (SqT.of e) (dp_all ds _ (by simpa [plainD] using p) hs)
  | .none, _, p, _ => by simp [plainD] at p
  | .bool _, _, p, _ => by simp [plainD] at p
  | .list _, _, p, _ => by simp [plainD] at p
  | .dict _, _, p, _ => by simp [plainD] at p
theorem dp_all {K : PySem.W.Frag} {H : Hp} : ∀ (ds : List PyData) (vs : List V), plainAll ds = true → DqAll H vs ds → DpAll K H vs ds
  | [], _, _, h => by
    cases h
    exact .nil
  | d :: ds, _, p, h => by
    have p := Bool.and_eq_true_iff.mp (show (plainD d && plainAll ds) = true from by simpa [plainAll] using p)
    cases h with
    | cons h1 h2 => exact .cons (dp_of d _ p.1 h1) (dp_all ds _ p.2 h2)
end
/-! ### sizes of views -/
structure Sz (ds : List PyData) : Prop where
  t : txAll ds = true
  w : wdAll ds ≤ 100
  p : PyData.depthAll ds ≤ 2
  l : PyData.canLayAll0 ds = true
theorem words_sz : ∀ {w : List Str}, In9 w → txAll (w.map .str) = true ∧ wdAll (w.map .str) ≤ 4 ∧ wtAll (w.map .str) ≤ 44 * w.length
  | [], _ => ⟨rfl, Nat.zero_le _, Nat.zero_le _⟩
  | x :: w, h => by
    obtain ⟨q1, q2, q3⟩ := words_sz (w := w) fun y hy => h y (List.mem_cons_of_mem _ hy)
    obtain ⟨r1, r2, _⟩ := al9_ok x (h x List.mem_cons_self)
    refine ⟨?_, ?_, ?_⟩
    · show (txS x && txAll (w.map .str)) = true
      rw [r1, q1]
      rfl
    · show max x.length (wdAll (w.map .str)) ≤ 4
      omega
    · show 10 * x.length + 2 + 2 + wtAll (w.map .str) ≤ 44 * (w.length + 1)
      omega
theorem log_small {c : Nat} (h : c ≤ 100) : ((c : Int).natAbs).log2 ≤ 7 := by
  rw [Int.natAbs_natCast]
  have : c < 2 ^ 8 := by omega
  by_cases z : c = 0
  · subst z
    decide
  · have := (Nat.log2_lt z).mpr this
    omega
theorem pcs_sz : ∀ {t : List (List Str × Nat)}, (∀ p ∈ t, In9 p.1 ∧ p.1.length ≤ 12 ∧ p.2 ≤ 100) → txAll (t.map pcD) = true ∧ wdAll (t.map pcD) ≤ 12 ∧ wtAll (t.map pcD) ≤ 600 * t.length
  | [], _ => ⟨rfl, Nat.zero_le _, Nat.zero_le _⟩
  | p :: t, h => by
    obtain ⟨q1, q2, q3⟩ := pcs_sz (t := t) fun y hy => h y (List.mem_cons_of_mem _ hy)
    obtain ⟨h9, hl, hc⟩ := h p List.mem_cons_self
    obtain ⟨r1, r2, r3⟩ := words_sz h9
    have lg := log_small hc
    refine ⟨?_, ?_, ?_⟩
    · show ((txAll (p.1.map .str) && (true && true)) && txAll (t.map pcD)) = true
      rw [r1, q1]
      rfl
    · show max (max 2 (max (max (p.1.map PyData.str).length (wdAll (p.1.map .str))) (max ((p.2 : Int).natAbs.log2) 0))) (wdAll (t.map pcD)) ≤ 12
      rw [List.length_map]
      omega
    · show (((wtAll (p.1.map .str) + 3) + 2 + (((p.2 : Int).natAbs.log2 + 2) + 2 + 0)) + 3) + 2 + wtAll (t.map pcD) ≤ 600 * (t.length + 1)
      omega
structure Vw (d : PyData) : Prop where
  t : txD d = true
  w : wd d ≤ 1000
  z : wt d ≤ 100000
  p : d.depth ≤ 4
  l : d.canLay0 = true
theorem sc_mem {m : Nat} {r : List Str} {s : Nat} (h9 : In9 r) (hl : r.length ≤ 100) (s12 : s ≤ 12) (m100 : m ≤ 100) : ∀ p ∈ (VM.cnt m (VM.pieces s r)).mergeSort leI, In9 p.1 ∧ p.1.length ≤ 12 ∧ p.2 ≤ 100 := fun p hp => by
  rw [List.mem_mergeSort] at hp
  obtain ⟨h1, h2⟩ := VM.cnt_mem.mp hp
  obtain ⟨i, _, e⟩ := List.mem_map.mp h1
  refine ⟨fun y hy => h9 y ?_, ?_, by omega⟩
  · rw [← e] at hy
    exact List.mem_of_mem_drop (List.mem_of_mem_take hy)
  · rw [← e]
    unfold VM.piece
    rw [List.length_take]
    omega
theorem vw_view {s m : Nat} {r : List Str} (h9 : In9 r) (hl : r.length ≤ 40) (s12 : s ≤ 12) (m100 : m ≤ 100) : Vw (viewD s m r) := by
  unfold viewD
  have w := words_sz h9
  have ly := lay_strs h9.ok
  by_cases hlt : r.length < s
  · rw [if_pos hlt]
    refine ⟨?_, ?_, ?_, ?_, ?_⟩
    · show (true && (txAll (r.map .str) && true)) = true
      rw [w.1]
      rfl
    · show max 2 (max 5 (max (max (r.map PyData.str).length (wdAll (r.map .str))) 0)) ≤ 1000
      rw [List.length_map]
      omega
    · show ((10 * 5 + 2) + 2 + ((wtAll (r.map .str) + 3) + 2 + 0)) + 3 ≤ 100000
      omega
    · show max 0 (max (PyData.depthAll (r.map .str) + 1) 0) + 1 ≤ 4
      rw [dep_strs]
      decide
    · show (PyData.strOk "whole" && (PyData.canLayAll0 (r.map .str) && true)) = true
      rw [ly, show PyData.strOk "whole" = true from by decide +kernel]
      rfl
  · rw [if_neg hlt, sc_map]
    have a9 : In9 (r.take (s - 1)) := fun y hy => h9 y (List.mem_of_mem_take hy)
    have b9 : In9 (r.drop (r.length - s + 1)) := fun y hy => h9 y (List.mem_of_mem_drop hy)
    have a := words_sz a9
    have b := words_sz b9
    have al := lay_strs a9.ok
    have bl := lay_strs b9.ok
    have la : (r.take (s - 1)).length ≤ 40 := by rw [List.length_take]; omega
    have lb : (r.drop (r.length - s + 1)).length ≤ 40 := by rw [List.length_drop]; omega
    have mem := sc_mem (s := s) (m := m) h9 (by omega) s12 m100
    have c := pcs_sz mem
    have cl := lay_pcs (t := (VM.cnt m (VM.pieces s r)).mergeSort leI) fun p hp => (mem p hp).1.ok
    have cd := dep_pcs ((VM.cnt m (VM.pieces s r)).mergeSort leI)
    have lc : ((VM.cnt m (VM.pieces s r)).mergeSort leI).length ≤ 41 := by
      rw [List.length_mergeSort]
      have h1 := cnt_len m (VM.pieces s r)
      have h2 := pieces_len s r
      omega
    generalize (VM.cnt m (VM.pieces s r)).mergeSort leI = t at *
    generalize r.take (s - 1) = u at *
    generalize r.drop (r.length - s + 1) = v at *
    refine ⟨?_, ?_, ?_, ?_, ?_⟩
    · show (true && (txAll (u.map .str) && (txAll (v.map .str) && (txAll (t.map pcD) && true)))) = true
      rw [a.1, b.1, c.1]
      rfl
    · show max 4 (max 4 (max (max (u.map PyData.str).length (wdAll (u.map .str))) (max (max (v.map PyData.str).length (wdAll (v.map .str))) (max (max (t.map pcD).length (wdAll (t.map pcD))) 0)))) ≤ 1000
      rw [List.length_map, List.length_map, List.length_map]
      omega
    · show ((10 * 4 + 2) + 2 + ((wtAll (u.map .str) + 3) + 2 + ((wtAll (v.map .str) + 3) + 2 + ((wtAll (t.map pcD) + 3) + 2 + 0)))) + 3 ≤ 100000
      omega
    · show max 0 (max (PyData.depthAll (u.map .str) + 1) (max (PyData.depthAll (v.map .str) + 1) (max (PyData.depthAll (t.map pcD) + 1) 0))) + 1 ≤ 4
      rw [dep_strs, dep_strs]
      omega
    · show (PyData.strOk "slit" && (PyData.canLayAll0 (u.map .str) && (PyData.canLayAll0 (v.map .str) && (PyData.canLayAll0 (t.map pcD) && true)))) = true
      rw [al, bl, cl, show PyData.strOk "slit" = true from by decide +kernel]
      rfl
theorem Vw.shaped {d : PyData} (h : Vw d) : SeqAt.shaped d = true := by
  unfold SeqAt.shaped
  rw [h.l, decide_eq_true (Nat.le_trans h.p (by decide))]
  rfl
theorem Vw.seen {d : PyData} (h : Vw d) : Seen (.list [d, d, d]) := by
  have t : txD (.list [d, d, d]) = true := by
    show (txD d && (txD d && (txD d && true))) = true
    rw [h.t]
    rfl
  have w : wd (.list [d, d, d]) ≤ 1000 := by
    show max 3 (max (wd d) (max (wd d) (max (wd d) 0))) ≤ 1000
    have := h.w
    omega
  refine ⟨(sm_wd _ w).2, Nat.le_trans (shown_wt _ t) ?_, ?_⟩
  · show wt d + 2 + (wt d + 2 + (wt d + 2 + 0)) + 2 ≤ 4000000
    have := h.z
    omega
  · show max d.depth (max d.depth (max d.depth 0)) + 1 ≤ 20
    have := h.p
    omega
end KL
set_option Elab.async false
set_option linter.all false
set_option maxRecDepth 100000
set_option maxHeartbeats 4000000
namespace KL
open PySem L2 PySem.Spec PyProof.Rows L2.DX
/-! ### readings by data -/
def LitAt (σ : L2.St) (H0 : Hp) (t : TE) (d : PyData) : Prop := ∀ H Q, Same H0 H → (∀ H' v, Same H H' → Dq H' v d → Q v H') → t σ H Q
def LitsAt (σ : L2.St) (H0 : Hp) (t : TA) (ds : List PyData) : Prop := ∀ H Q, Same H0 H → (∀ H' vs, Same H H' → DqAll H' vs ds → Q vs H') → t σ H Q
section
variable {σ : L2.St} {H0 : Hp}
theorem lit_int {i : Int} : LitAt σ H0 (tC (.int i)) (.int i) := fun H Q _ k => k H _ (Same.refl _) (.int i)
theorem lit_str {x : Str} : LitAt σ H0 (tC (.str x)) (.str x) := fun H Q _ k => k H _ (Same.refl _) (.str x)
theorem lit_non : LitAt σ H0 (tC .non) .none := fun H Q _ k => k H _ (Same.refl _) .non
theorem lits_nil : LitsAt σ H0 tNil [] := fun H Q _ k => k H _ (Same.refl _) .nil
theorem lits_cons {t : TE} {ts : TA} {d : PyData} {ds : List PyData} (h : LitAt σ H0 t d) (hs : LitsAt σ H0 ts ds) : LitsAt σ H0 (tCons t ts) (d :: ds) := fun H Q S k =>
  h H _ S fun H1 v S1 d1 => hs H1 _ (S.trans S1) fun H2 vs S2 d2 => k H2 _ (S1.trans S2) (.cons (Dq.same S2 _ _ d1) d2)
theorem lit_tup {ts : TA} {ds : List PyData} (hs : LitsAt σ H0 ts ds) (hn : ds.length ≤ 1000) : LitAt σ H0 (tTup ts) (.tuple ds) := fun H Q S k =>
  hs H _ S fun H1 vs S1 d1 => ⟨by rw [d1.len, sizeLine_eq]; omega, fun p np => k _ _ (S1.trans (same_new np)) (dq_new np d1)⟩
theorem lit_lst {ts : TA} {ds : List PyData} (hs : LitsAt σ H0 ts ds) (hn : ds.length ≤ 1000) : LitAt σ H0 (tLst ts) (.list ds) := fun H Q S k =>
  hs H _ S fun H1 vs S1 d1 => ⟨by rw [d1.len, sizeLine_eq]; omega, fun p np => k _ _ (S1.trans (same_new np)) (.lst upd_same (DqAll.same (same_new np) _ _ d1))⟩
theorem lit_var {i : Nat} {v : V} {d : PyData} (e : σ[i]? = some (some v)) (h : Dq H0 v d) : LitAt σ H0 (tVar i) d := fun H Q S k => ⟨v, e, k H v (Same.refl _) (Dq.same S _ _ h)⟩
/-- a test that comes out false -/
def NoAt (σ : L2.St) (H0 : Hp) (t : TT) : Prop := ∀ H (Q : Bool → Hp → Prop), Same H0 H → (∀ H', Same H H' → Q false H') → t σ H Q
theorem no_or {t u : TT} (h1 : NoAt σ H0 t) (h2 : NoAt σ H0 u) : NoAt σ H0 (tOr t u) := fun H Q S k => h1 H _ S fun H1 S1 => iteNo rfl (h2 H1 Q (S.trans S1) fun H2 S2 => k H2 (S1.trans S2))
theorem ifs_no {c : TT} {a : TS} {D : Ends} (h : NoAt σ H0 c) (k : ∀ H', Same H0 H' → D.nx σ H') : tIfS c a tNext D σ H0 := h H0 _ (Same.refl _) fun H' S => iteNo rfl (k H' S)
theorem asg_lit {t : TE} {d : PyData} {i : Nat} {D : Ends} (h : LitAt σ H0 t d) (k : ∀ H' v, Same H0 H' → Dq H' v d → D.nx (σ.set i (some v)) H') : tAsg t (gName i) D σ H0 := h H0 _ (Same.refl _) k

theorem lit_rep3 {t : TE} {d : PyData} (h : LitAt σ H0 t d) : LitAt σ H0 (tOp rRep (tLst (tCons t tNil)) (tC (.int 3))) (.list [d, d, d]) := fun H Q S k =>
  h H _ S fun H1 v S1 d1 => ⟨(by show 1 ≤ sizeLine; decide), fun L nL => ⟨L, 3, [v], rfl, rfl, upd_same, by decide, by decide, (by show 1 * 3 ≤ sizeLine; decide), fun p np => k _ _ (S1.trans ((same_new nL).trans (same_new np))) (by
    have dd := Dq.same ((same_new (o := .lst [v]) nL).trans (same_new (o := .lst [v, v, v]) np)) _ _ d1
    exact .lst (xs := [v, v, v]) upd_same (.cons dd (.cons dd (.cons dd .nil))))⟩⟩
theorem no_reprs {t u : TE} {d : PyData} {ds : List PyData} (h1 : LitAt σ H0 t (.list (d :: ds))) (h2 : LitAt σ H0 u (.list (d :: ds))) (s : Seen (.list (d :: ds))) : NoAt σ H0 (tTest (tOp rNe (tCB rRepL (tCons t tNil)) (tCB rRepL (tCons u tNil)))) := fun H Q S k =>
  h1 H _ S fun H1 v S1 d1 => by
    cases d1 with
    | @lst a xs _ e hh =>
    cases hh with
    | cons q r =>
    refine ⟨a, _, _, d, ds, rfl, e, .cons q r, s, h2 H1 _ (S.trans S1) fun H2 v2 S2 d2 => ?_⟩
    cases d2 with
    | @lst a2 xs2 _ e2 hh2 =>
    cases hh2 with
    | cons q2 r2 =>
    refine ⟨a2, _, _, d, ds, rfl, e2, .cons q2 r2, s, rfl, _, rfl, ?_⟩
    rw [decide_eq_true rfl]
    exact k H2 (S1.trans S2)
/-- what a view is asked with -/
structure Asked (H : Hp) (sl r s m : Nat) (row : List Str) : Prop where
  hs : H sl = some (.tup [.int (s : Int), .int (m : Int)])
  hr : H r = some (.tup (row.map V.str))
  s1 : 1 ≤ s
  s3 : s ≤ 3
  m1 : 1 ≤ m
  l : row.length ≤ 40
  n9 : In9 row
theorem Asked.same {H H' : Hp} {sl r s m : Nat} {row : List Str} (h : Asked H sl r s m row) (S : Same H H') : Asked H' sl r s m row := ⟨S _ _ h.hs, S _ _ h.hr, h.s1, h.s3, h.m1, h.l, h.n9⟩
theorem Asked.view {H : Hp} {sl r s m : Nat} {row : List Str} {Q : VK} {E : XK} (h : Asked H sl r s m row) (k : ∀ H' v, Same H H' → Dq H' v (viewD s m row) → Q v H') : spView [.ref sl, .ref r] H Q E :=
  ⟨sl, r, s, m, row, rfl, h.hs, h.hr, h.s1, h.s3, h.m1, by have := h.l; omega, h.n9.ok, k⟩
theorem lit_view {E : XK} {i j sl r s m : Nat} {row : List Str} (h : Asked H0 sl r s m row) (ei : σ[i]? = some (some (.ref sl))) (ej : σ[j]? = some (some (.ref r))) : LitAt σ H0 (tCall spView [] E (tCons (tVar i) (tCons (tVar j) tNil))) (viewD s m row) := fun H Q S k =>
  ⟨_, ei, _, ej, (h.same S).view (E := E) k⟩
theorem lit_viewK {E : XK} {i j sl r s m : Nat} {row : List Str} (h : Asked H0 sl r s m row) (ei : σ[i]? = some (some (.ref sl))) (ej : σ[j]? = some (some (.ref r))) : LitAt σ H0 (tCallK0 spView gMSV E (tCons (tVar j) (tCons (tVar i) tNil))) (viewD s m row) := fun H Q S k =>
  ⟨_, ej, _, ei, (h.same S).view (E := E) k⟩
/-- two views compared -/
theorem lit_eqv {K : PySem.W.Frag} {t u : TE} {d e : PyData} {H : Hp} {Q : VK} (h1 : LitAt σ H0 t d) (h2 : LitAt σ H0 u e) (p1 : plainD d = true) (p2 : plainD e = true) (s1 : SeqAt.shaped d = true) (s2 : SeqAt.shaped e = true) (S : Same H0 H) (k : ∀ H', Same H H' → Q (.bl (PyData.eqv d e)) H') :
    tOp (rEqD K) t u σ H Q := h1 H _ S fun H1 v S1 d1 => h2 H1 _ (S.trans S1) fun H2 u S2 d2 => ⟨_, _, dp_of _ _ p1 (Dq.same S2 _ _ d1), dp_of _ _ p2 d2, s1, s2, k _ (S1.trans S2)⟩
end
end KL
set_option Elab.async false
set_option linter.all false
set_option maxRecDepth 100000
set_option maxHeartbeats 8000000
namespace KL
open PySem L2 PySem.Spec PyProof.Rows L2.DX
def spLaw (K : PySem.W.Frag) : Sp := fun vs H Q _ => ∃ (a : Addr) (ns : List Int), vs = [.ref a] ∧ SqL K H a (ns.map V.int) ∧ ns.length ≤ 63 ∧ ∀ H', Q (.bl true) H'
abbrev nLaw : List Str := ["_law_script", "_law_deck_here", "_law_go", "_law_row_here", "_law_other", "_law_views", "_law_size", "_law_most", "_law_slit", "_law_due", "_law_near", "_law_lesser"]
/-! ### which views are equal, kept in a dict -/
def keyN (n : Nat) : List Key := [Sum.inl (1 + ((n / 3 : Nat) : Int)), Sum.inl (1 + ((n % 3 : Nat) : Int))]
def vwK (f : Nat → Nat → Bool) (n : Nat) : List (List Key × V) := (List.range n).map fun k => (keyN k, V.bl (f (k / 3) (k % 3)))
theorem keyN_inj {a b : Nat} (h : keyN a = keyN b) : a = b := by
  unfold keyN at h
  injection h with h1 h2
  injection h2 with h2 _
  injection h1 with h1
  injection h2 with h2
  omega
theorem vwK_put (f : Nat → Nat → Bool) (n : Nat) : putK (vwK f n) (keyN n) (.bl (f (n / 3) (n % 3))) = vwK f (n + 1) := by
  have no : (vwK f n).any (fun kv => decide (kv.1 = keyN n)) = false := by
    rw [List.any_eq_false]
    intro x hx
    obtain ⟨k, hk, rfl⟩ := List.mem_map.mp hx
    have := List.mem_range.mp hk
    have ne : ¬ keyN k = keyN n := fun z => by
      have := keyN_inj z
      omega
    simp [ne]
  unfold putK
  rw [no, if_neg (by simp)]
  unfold vwK
  rw [List.range_succ, List.map_append]
  rfl
theorem vwK_at {f : Nat → Nat → Bool} {n i : Nat} {k : List Key} {v : V} (h : (vwK f n)[i]? = some (k, v)) : i < n ∧ k = keyN i ∧ v = .bl (f (i / 3) (i % 3)) := by
  unfold vwK at h
  rw [List.getElem?_map] at h
  by_cases hi : i < n
  · rw [List.getElem?_range hi] at h
    have h := Option.some.inj h
    injection h with h1 h2
    exact ⟨hi, h1.symm, h2.symm⟩
  · rw [List.getElem?_eq_none (by rw [List.length_range]; omega)] at h
    cases h
theorem vwK_val {f : Nat → Nat → Bool} : ∀ {n i : Nat}, i < n → valV (vwK f n) (keyN i) = some (.bl (f (i / 3) (i % 3)))
  | 0, i, h => by omega
  | n + 1, i, h => by
    rw [← vwK_put, valV_put]
    by_cases e : i = n
    · subst e
      rw [if_pos rfl]
    · rw [if_neg (fun z => e (keyN_inj z))]
      exact vwK_val (by omega)
theorem vwK_len (f : Nat → Nat → Bool) (n : Nat) : (vwK f n).length = n := by
  unfold vwK
  rw [List.length_map, List.length_range]
theorem aaaa9 : In9 ["a", "a", "a", "a"] := by
  intro y hy
  simp only [List.mem_cons, List.not_mem_nil, or_false, or_self] at hy
  rw [hy]
  simp [al9]
def litV : PyData := .tuple [.str "slit", strsD ["a"], strsD ["a"], .tuple [.tuple [strsD ["a", "a"], .int 2]]]
theorem cnt_lit : VM.cnt 2 (VM.pieces 2 (["a", "a", "a", "a"] : List Str)) = [((["a", "a"] : List Str), 2)] := by decide +kernel
theorem view_lit : viewD 2 2 ["a", "a", "a", "a"] = litV := by
  unfold viewD
  rw [if_neg (by decide)]
  unfold sc
  rw [cnt_lit, List.map_singleton, List.mergeSort_singleton]
  rfl
theorem eqv_lit : PyData.eqv (viewD 2 2 ["a", "a", "a", "a"]) litV = true := by
  rw [view_lit]
  decide +kernel
theorem lit_viewT {σ : L2.St} {H0 : Hp} {E : XK} {t u : TE} {s m : Nat} {row : List Str} (h1 : LitAt σ H0 t (.tuple [.int (s : Int), .int (m : Int)])) (h2 : LitAt σ H0 u (strsD row)) (s1 : 1 ≤ s) (s3 : s ≤ 3) (m1 : 1 ≤ m) (l : row.length ≤ 40) (n9 : In9 row) :
    LitAt σ H0 (tCall spView [] E (tCons t (tCons u tNil))) (viewD s m row) := fun H Q S k => h1 H _ S fun H1 v S1 d1 => h2 H1 _ (S.trans S1) fun H2 u S2 d2 => by
  obtain ⟨r, rfl, hr⟩ := strsD_of d2
  cases d1 with
  | @tup a xs _ e hh =>
  cases hh with
  | cons q r1 =>
  cases r1 with
  | cons q2 r2 =>
  cases q
  cases q2
  cases r2
  exact (Asked.mk (S2 _ _ e) hr s1 s3 m1 l n9).view (E := E) fun H' w S' dw => k H' w (S1.trans (S2.trans S')) dw
section
variable {P : Program} {w : World} {K : PySem.W.Frag} {mg : Str → Option Value} {base : Heap}
theorem scLaw : FnScope nLaw ["_law_script"] (defScope lLaw) := ⟨rfl, rfl, rfl, by decide +kernel, rfl, by decide +kernel, by decide +kernel⟩
variable {gDeck gRow gTurned gLView gView : Addr} {dDeck dRow dTurned dLView dView : FuncData}
structure LawFns (P : Program) (w : World) (K : PySem.W.Frag) (mg : Str → Option Value) (base : Heap) (gDeck gRow gTurned gLView gView : Addr) (dDeck dRow dTurned dLView dView : FuncData) : Prop where
  deck : FnOk P w K mg base CX0 1 gDeck dDeck ["_law_script"] (spDeck K)
  cDeck : Cal K mg "_law_deck" gDeck dDeck ["_law_script"]
  row : FnOk P w K mg base CX0 3 gRow dRow ["_law_deck_here"] spRow
  cRow : Cal K mg "_law_row" gRow dRow ["_law_deck_here"]
  turned : FnOk P w K mg base CX0 2 gTurned dTurned ["_law_deck_here", "_law_row_here"] spTurned
  cTurned : Cal K mg "_law_turned" gTurned dTurned ["_law_deck_here", "_law_row_here"]
  lview : FnOk P w K mg base CX0 1 gLView dLView ["_law_slit", "_law_row_here"] spView
  cLView : Cal K mg "_law_view" gLView dLView ["_law_slit", "_law_row_here"]
  view : FnOk P w K mg base CX0 3 gView dView ["slit", "marks"] spView
  cView : Cal K mg "view" gView dView ["slit", "marks"]
  kView : KBinds K dView ["slit", "marks"] ["marks", "slit"] gMS gMSV
theorem ok_law {f : Addr} {fd : FuncData} (F : Fun K "law" "law" lLaw f fd) (T : TxtG mg) (L : LawFns P w K mg base gDeck gRow gTurned gLView gView dDeck dRow dTurned dLView dView) : FnG P w K mg base CX0 4 f fd ["_law_script"] (spLaw K) := by
  refine fnG0 F scLaw (fun vs H Q E h => ?_) (fun cdv A outer s H vs Q E hG hr h => ?_)
  · obtain ⟨a, ns, rfl, _⟩ := h
    rfl
  · obtain ⟨a, ns, rfl, hS, hlen, fin⟩ := h
    have nd := scLaw.nd
    have hu := hu_of hr
    let X0 : Cx := (cxOf CX0 P w K mg base nLaw "law" (defScope lLaw) f cdv A outer s H E).nox
    have r1 : Room 1 X0.A := hr.mono (by decide)
    have r2 : Room 2 X0.A := hr.mono (by decide)
    refine ⟨_, (C8.pss_cut (ps_set (i := 1) nd rfl (.inl rfl) (pe_call L.deck r1 (by rfl) L.cDeck.m L.cDeck.k L.cDeck.b .nil pass0 (pa_cons (pv 0) pa_nil)))
      (C8.pss_cut (ps_for PassesOwn.never rfl (pi_range1 (by rfl) T.range (pa_cons pe_int pa_nil)) (pg_name (i := 2) nd rfl (.inl rfl)) (C8.pss_cut (ps_set (i := 3) nd rfl (.inl rfl) (pe_call L.row hr (by rfl) L.cRow.m L.cRow.k L.cRow.b .nil pass0 (pa_cons (pv 1) pa_nil)))
      (C8.pss_cut (ps_asg (pe_tup (pa_cons (pe_call L.turned r2 (by rfl) L.cTurned.m L.cTurned.k L.cTurned.b .nil pass0 (pa_cons (pv 1) (pa_cons (pv 3) pa_nil))) (pa_cons pe_dnewT pa_nil))) (pg_tup rfl (pgs_cons (pg_name (i := 4) nd rfl (.inl rfl)) (pgs_cons (pg_name (i := 5) nd rfl (.inr rfl)) pgs_nil))))
      (C8.pss_cut (ps_for PassesOwn.never rfl (pi_range2 (by rfl) T.range (pa_cons pe_int (pa_cons pe_int pa_nil))) (pg_name (i := 6) nd rfl (.inr rfl)) (pss_one (ps_for PassesOwn.never rfl (pi_range2 (by rfl) T.range (pa_cons pe_int (pa_cons pe_int pa_nil))) (pg_name (i := 7) nd rfl (.inr rfl)) (C8.pss_cut (ps_set (i := 8) nd rfl (.inl rfl) (pe_tup (pa_cons (pv 6) (pa_cons (pv 7) pa_nil))))
      (C8.pss_cut (ps_set (i := 9) nd rfl (.inl rfl) (pe_call L.lview r1 (by rfl) L.cLView.m L.cLView.k L.cLView.b .nil pass0 (pa_cons (pv 8) (pa_cons (pv 3) pa_nil))))
      (C8.pss_cut (ps_if (pt_cmpR op_ne (pe_callB (call_repL (X := X0) hG hr.units) (by rfl) T.repr (by decide +kernel) (pa_cons (pe_lst (pa_cons (pe_call L.view hr (by rfl) L.cView.m L.cView.k L.cView.b .nil pass0 (pa_cons (pv 8) (pa_cons (pv 3) pa_nil))) (pa_cons (pe_callK0 L.view hr (by rfl) L.cView.m L.cView.k L.kView pass0 (pk_cons (pv 3) (pk_cons (pv 8) pk_nil))) (pa_cons (pe_call L.view hr (by rfl) L.cView.m L.cView.k L.cView.b .nil pass0 (pa_cons (pv 8) (pa_cons (pv 3) pa_nil))) pa_nil)))) pa_nil)) (pe_callB (call_repL (X := X0) hG hr.units) (by rfl) T.repr (by decide +kernel) (pa_cons (pe_op op_rep (pe_lst (pa_cons (pv 9) pa_nil)) pe_int) pa_nil)) (nomark _)) (pss_one (ps_ret pe_bl)) pss_nil)
      (pss_one (ps_dput hu (pv 5) (pv 8) (pe_cmpR (op_eqD (X := X0) hr.units) (pe_call L.view hr (by rfl) L.cView.m L.cView.k L.cView.b .nil pass0 (pa_cons (pv 8) (pa_cons (pv 4) pa_nil))) (pv 9) (nomark _)) rfl))))))))
      (pss_one (ps_lock (ps_for PassesOwn.never rfl (pi_keys (pv 5)) (pg_tup rfl (pgs_cons (pg_name (i := 6) nd rfl (.inr rfl)) (pgs_cons (pg_name (i := 7) nd rfl (.inr rfl)) pgs_nil))) (C8.pss_cut (ps_setLc (i := 11) (own := [("_law_near", 10)]) (g := gName 10) rfl nd rfl rfl (by rfl) (pi_keys (pv 5)) (blkOk_by (N := nLaw) (sc := defScope lLaw) (by decide +kernel)) (fun _ _ _ _ _ => pg_name (i := 10) nd rfl (.inl rfl))
        (fun _ _ _ _ _ => pts_one (PW.pt (pw_and (pt_cmpR op_le (pe_ix (r := rIxT K) ix_tup (pv 10) pe_int (fun _ _ => rfl)) (pv 6) (nomark _)) (pw_and1 (pt_cmpR op_le (pe_ix (r := rIxT K) ix_tup (pv 10) pe_int (fun _ _ => rfl)) (pv 7) (nomark _)))))) (fun _ _ _ _ _ => pe_dget hu (pv 5) (pv 10) (fun _ _ => rfl)))
      (pss_one (ps_if (PW.pt (pw_and (pt_val (pe_dget hu (pv 5) (pe_tup (pa_cons (pv 6) (pa_cons (pv 7) pa_nil))) (fun _ _ => rfl))) (pw_and1 (pt_cmpR op_in_seq pe_bl (pv 11) (by rfl))))) (pss_one (ps_ret pe_bl)) pss_nil))))))))))
      (pss_one (ps_ret (pe_cmpR (op_eqD (X := X0) hr.units) (pe_call L.view hr (by rfl) L.cView.m L.cView.k L.cView.b .nil pass0 (pa_cons (pe_tup (pa_cons pe_int (pa_cons pe_int pa_nil))) (pa_cons (pe_tup (pa_cons pe_str (pa_cons pe_str (pa_cons pe_str (pa_cons pe_str pa_nil))))) pa_nil))) (pe_tup (pa_cons pe_str (pa_cons (pe_tup (pa_cons pe_str pa_nil)) (pa_cons (pe_tup (pa_cons pe_str pa_nil)) (pa_cons (pe_tup (pa_cons (pe_tup (pa_cons (pe_tup (pa_cons pe_str (pa_cons pe_str pa_nil))) (pa_cons pe_int pa_nil))) pa_nil)) pa_nil))))) (nomark _)))))), ?_⟩
    refine ⟨fun σ H' => ∃ p l, σ = [some (.ref a), some (.ref p), none, none, none, none, none, none, none, none, none, none] ∧ DeckAt H H' p l 0, ?_, ?_⟩
    · exact ⟨_, rfl, a, ns, rfl, hS, hlen, fun H' p l D => ⟨p, l, rfl, D⟩⟩
    rintro σ1 H1 ⟨p, l, rfl, D⟩
    refine ⟨fun σ H' => ∃ o2 o3 o4 o5 o6 o7 o8 o9 oa ob, σ = [some (.ref a), some (.ref p), o2, o3, o4, o5, o6, o7, o8, o9, oa, ob], ?_, ?_⟩
    · refine ⟨_, rfl, by decide, by decide, for_range (fun i σ H' => ∃ o2 o3 o4 o5 o6 o7 o8 o9 oa ob, σ = [some (.ref a), some (.ref p), o2, o3, o4, o5, o6, o7, o8, o9, oa, ob] ∧ ∃ H0 t, DeckAt H0 H' p l t ∧ 0 ≤ t ∧ t ≤ 20 * (i : Int)) ⟨_, _, _, _, _, _, _, _, _, _, rfl, H, 0, D, by omega, by simp⟩ ?_ ?_⟩
      · rintro i σ H2 hi ⟨o2, o3, o4, o5, o6, o7, o8, o9, oa, ob, rfl, H0, t, D, t0, tb⟩
        have hi : i < 4 := hi
        clear hS
        refine ⟨fun σ H' => ∃ o2 r row H1 t', σ = [some (.ref a), some (.ref p), o2, some (.ref r), o4, o5, o6, o7, o8, o9, oa, ob] ∧ DeckAt H1 H' p l t' ∧ 0 ≤ t' ∧ t' ≤ 20 * (i : Int) + 16 ∧ H1 r = some (.tup (row.map V.str)) ∧ row.length ≤ 12 ∧ In9 row, ?_, ?_⟩
        · refine ⟨_, rfl, H0, p, l, t, rfl, D, t0, by omega, fun H1 H' t' q w g hq wl w9 => ⟨_, q, w, H1, t', rfl, g.d, ?_, ?_, hq, wl, w9⟩⟩
          · have := g.t0
            omega
          · have := g.t1
            omega
        clear D t0 tb t H0 H2
        rintro σ2 H2 ⟨o2, r, row, H0, t, rfl, D, t0, tb, hr0, rl, r9⟩
        refine ⟨fun σ H' => ∃ q other B t' d, σ = [some (.ref a), some (.ref p), o2, some (.ref r), some (.ref q), some (.ref d), o6, o7, o8, o9, oa, ob] ∧ DeckAt H0 B p l t' ∧ 0 ≤ t' ∧ t' ≤ 20 * (i : Int) + 20 ∧ B q = some (.tup (other.map V.str)) ∧ other.length ≤ 40 ∧ In9 other ∧ B d = none ∧ Same B H' ∧ H' d = some (.dT []), ?_, ?_⟩
        · refine ⟨_, rfl, _, rfl, H0, p, l, r, t, row, rfl, D, t0, by omega, hr0, rl, r9, fun B t' q w g hq wl w9 => ?_⟩
          intro d nd0
          refine ⟨(by show 2 ≤ sizeLine; decide), fun pp np => ?_⟩
          have S1 := same_new (o := .dT []) nd0
          have S2 := same_new (o := .tup [.ref q, .ref d]) np
          refine ⟨pp, _, rfl, SqT.of upd_same, rfl, _, _, rfl, _, _, rfl, rfl, q, w, B, t', d, rfl, g.d, ?_, ?_, hq, wl, w9, nd0, S1.trans S2, S2 _ _ upd_same⟩
          · have := g.t0
            omega
          · have := g.t1
            omega
        clear tb t0
        rintro σ3 H3 ⟨q, other, B, t', d, rfl, DB, t0, tb, hq0, ol, o9c, nd0, S3, hd3⟩
        have hrB := DB.s _ _ hr0
        clear D t H2 hr0
        obtain ⟨f, hf⟩ : ∃ f : Nat → Nat → Bool, f = fun i j => PyData.eqv (viewD (1 + i) (1 + j) other) (viewD (1 + i) (1 + j) row) := ⟨_, rfl⟩
        refine ⟨fun σ H' => ∃ o6 o7 o8 o9, σ = [some (.ref a), some (.ref p), o2, some (.ref r), some (.ref q), some (.ref d), o6, o7, o8, o9, oa, ob] ∧ Same B H' ∧ H' d = some (.dT (vwK f 9)), ?_, ?_⟩
        · refine ⟨1, 4, rfl, ⟨by decide, by decide, by decide, by decide⟩, for_range (fun i σ H' => ∃ o6 o7 o8 o9, σ = [some (.ref a), some (.ref p), o2, some (.ref r), some (.ref q), some (.ref d), o6, o7, o8, o9, oa, ob] ∧ Same B H' ∧ H' d = some (.dT (vwK f (3 * i)))) ⟨_, _, _, _, rfl, S3, hd3⟩ ?_ ?_⟩
          · clear S3 hd3
            rintro i1 σ H4 hi1 ⟨o6, o7, o8, o9, rfl, S4, hd4⟩
            have hi1 : i1 < 3 := hi1
            have ci : (1 : Int) + (i1 : Int) = ((1 + i1 : Nat) : Int) := (Int.natCast_add 1 i1).symm
            refine ⟨1, 4, rfl, ⟨by decide, by decide, by decide, by decide⟩, for_range (fun j σ H' => ∃ o7 o8 o9, σ = [some (.ref a), some (.ref p), o2, some (.ref r), some (.ref q), some (.ref d), some (.int ((1 + i1 : Nat) : Int)), o7, o8, o9, oa, ob] ∧ Same B H' ∧ H' d = some (.dT (vwK f (3 * i1 + j)))) ⟨_, _, _, by rw [ci]; rfl, S4, hd4⟩ ?_ ?_⟩
            · clear S4 hd4
              rintro j1 σ H5 hj1 ⟨o7, o8, o9, rfl, S5, hd5⟩
              have hj1 : j1 < 3 := hj1
              have cj : (1 : Int) + (j1 : Int) = ((1 + j1 : Nat) : Int) := (Int.natCast_add 1 j1).symm
              rw [cj]
              have kk : (keyN (3 * i1 + j1)).map kV = [V.int ((1 + i1 : Nat) : Int), V.int ((1 + j1 : Nat) : Int)] := by
                unfold keyN
                rw [show (3 * i1 + j1) / 3 = i1 by omega, show (3 * i1 + j1) % 3 = j1 by omega, ci, cj]
                rfl
              refine ⟨fun σ H' => ∃ sl, σ = [some (.ref a), some (.ref p), o2, some (.ref r), some (.ref q), some (.ref d), some (.int ((1 + i1 : Nat) : Int)), some (.int ((1 + j1 : Nat) : Int)), some (.ref sl), o9, oa, ob] ∧ Same B H' ∧ H' d = some (.dT (vwK f (3 * i1 + j1))) ∧ H' sl = some (.tup [V.int ((1 + i1 : Nat) : Int), V.int ((1 + j1 : Nat) : Int)]), ?_, ?_⟩
              · exact ⟨_, rfl, _, rfl, (by show 2 ≤ sizeLine; decide), fun sl nsl => ⟨sl, rfl, S5.trans (same_new nsl), same_new nsl _ _ hd5, upd_same⟩⟩
              clear S5 hd5
              rintro σ6 H6 ⟨sl, rfl, S6, hd6, hsl⟩
              have A1 : Asked H6 sl r (1 + i1) (1 + j1) row := ⟨hsl, S6 _ _ hrB, by omega, by omega, by omega, by omega, r9⟩
              have A2 : Asked H6 sl q (1 + i1) (1 + j1) other := ⟨hsl, S6 _ _ hq0, by omega, by omega, by omega, by omega, o9c⟩
              have W1 := vw_view (s := 1 + i1) (m := 1 + j1) r9 (by omega) (by omega) (by omega)
              have W2 := vw_view (s := 1 + i1) (m := 1 + j1) o9c (by omega) (by omega) (by omega)
              refine ⟨fun σ H' => ∃ v, σ = [some (.ref a), some (.ref p), o2, some (.ref r), some (.ref q), some (.ref d), some (.int ((1 + i1 : Nat) : Int)), some (.int ((1 + j1 : Nat) : Int)), some (.ref sl), some v, oa, ob] ∧ Same H6 H' ∧ Dq H' v (viewD (1 + i1) (1 + j1) row), ?_, ?_⟩
              · have L1 : LitAt [some (.ref a), some (.ref p), o2, some (.ref r), some (.ref q), some (.ref d), some (.int ((1 + i1 : Nat) : Int)), some (.int ((1 + j1 : Nat) : Int)), some (.ref sl), o9, oa, ob] H6 _ _ := lit_view (E := E0) (i := 8) (j := 3) A1 rfl rfl
                exact asg_lit L1 fun H' v S dv => ⟨v, rfl, S, dv⟩
              rintro σ7 H7 ⟨v, rfl, S7, dv⟩
              refine ⟨fun σ H' => σ = [some (.ref a), some (.ref p), o2, some (.ref r), some (.ref q), some (.ref d), some (.int ((1 + i1 : Nat) : Int)), some (.int ((1 + j1 : Nat) : Int)), some (.ref sl), some v, oa, ob] ∧ Same H7 H', ?_, ?_⟩
              · have B1 := A1.same S7
                have l1 : LitAt [some (.ref a), some (.ref p), o2, some (.ref r), some (.ref q), some (.ref d), some (.int ((1 + i1 : Nat) : Int)), some (.int ((1 + j1 : Nat) : Int)), some (.ref sl), some v, oa, ob] H7 _ (viewD (1 + i1) (1 + j1) row) := lit_view (E := E0) (i := 8) (j := 3) B1 rfl rfl
                have l2 : LitAt [some (.ref a), some (.ref p), o2, some (.ref r), some (.ref q), some (.ref d), some (.int ((1 + i1 : Nat) : Int)), some (.int ((1 + j1 : Nat) : Int)), some (.ref sl), some v, oa, ob] H7 _ (viewD (1 + i1) (1 + j1) row) := lit_viewK (E := E0) (i := 8) (j := 3) B1 rfl rfl
                have l3 : LitAt [some (.ref a), some (.ref p), o2, some (.ref r), some (.ref q), some (.ref d), some (.int ((1 + i1 : Nat) : Int)), some (.int ((1 + j1 : Nat) : Int)), some (.ref sl), some v, oa, ob] H7 _ (viewD (1 + i1) (1 + j1) row) := lit_var (i := 9) rfl dv
                have LA := lit_lst (lits_cons l1 (lits_cons l2 (lits_cons l1 lits_nil))) (by show 3 ≤ 1000; decide)
                exact ifs_no (no_reprs LA (lit_rep3 l3) W1.seen) fun H' S => ⟨rfl, S⟩
              rintro σ8 H8 ⟨rfl, S8⟩
              have S68 := S7.trans S8
              have l4 : LitAt [some (.ref a), some (.ref p), o2, some (.ref r), some (.ref q), some (.ref d), some (.int ((1 + i1 : Nat) : Int)), some (.int ((1 + j1 : Nat) : Int)), some (.ref sl), some v, oa, ob] H8 _ (viewD (1 + i1) (1 + j1) other) := lit_view (E := E0) (i := 8) (j := 4) (A2.same S68) rfl rfl
              have l5 : LitAt [some (.ref a), some (.ref p), o2, some (.ref r), some (.ref q), some (.ref d), some (.int ((1 + i1 : Nat) : Int)), some (.int ((1 + j1 : Nat) : Int)), some (.ref sl), some v, oa, ob] H8 _ (viewD (1 + i1) (1 + j1) row) := lit_var (i := 9) rfl (Dq.same S8 _ _ dv)
              unfold sDPut
              refine lit_eqv l4 l5 (plain_view _ _ _) (plain_view _ _ _) W2.shaped W1.shaped (Same.refl _) fun H9 S9 => ?_
              have S69 := S68.trans S9
              have hk9 : H9 sl = some (.tup ((keyN (3 * i1 + j1)).map kV)) := by
                rw [kk]
                exact S69 _ _ hsl
              refine ⟨_, rfl, _, rfl, d, _, rfl, DPut.t (S69 _ _ hd6) hk9 (by rw [vwK_len, sizeLine_eq]; omega), _, _, _, rfl, fun c o e => ?_, ?_⟩
              · rw [upd_ne (ne_of_none e nd0)]
                exact S69 _ _ (S6 _ _ e)
              · have ev : f ((3 * i1 + j1) / 3) ((3 * i1 + j1) % 3) = PyData.eqv (viewD (1 + i1) (1 + j1) other) (viewD (1 + i1) (1 + j1) row) := by
                  rw [show (3 * i1 + j1) / 3 = i1 by omega, show (3 * i1 + j1) % 3 = j1 by omega, hf]
                rw [upd_same, ← ev, vwK_put]
                rfl
            · rintro σ H5 ⟨o7, o8, o9, rfl, S5, hd5⟩
              exact ⟨_, _, _, _, rfl, S5, hd5⟩
          · rintro σ H4 ⟨o6, o7, o8, o9, rfl, S4, hd4⟩
            exact ⟨_, _, _, _, rfl, S4, hd4⟩
        clear S3 hd3 H3
        rintro σ3 H3 ⟨o6, o7, o8, o9, rfl, S3, hd3⟩
        refine ⟨d, _, hd3, trivial, fun od => ?_⟩
        have hdL : upd H3 d (.frz od (.dT (vwK f 9))) d = some (.frz od (.dT (vwK f 9))) := upd_same
        have back : ∀ H', Same (upd H3 d (.frz od (.dT (vwK f 9)))) H' → Same B (upd H' d (.dT (vwK f 9))) := fun H' S c o e => by
          have ne := ne_of_none e nd0
          rw [upd_ne ne]
          exact S _ _ (by rw [upd_ne ne]; exact S3 _ _ e)
        have mono : ∀ a b a' b' : Nat, f a b = true → a' ≤ a → b' ≤ b → f a' b' = true := fun a b a' b' h ha hb => by
          rw [hf] at h ⊢
          exact view_mono (by omega) (by omega) (by omega) (by omega) h
        generalize upd H3 d (.frz od (.dT (vwK f 9))) = HL at *
        refine ⟨_, rfl, d, od, rfl, .inr ⟨_, hdL, for_it walk_keysT (fun k σ H' => ∃ o6 o7 o8 o9 oa ob, σ = [some (.ref a), some (.ref p), o2, some (.ref r), some (.ref q), some (.ref d), o6, o7, o8, o9, oa, ob] ∧ Same HL H') ⟨_, _, _, _, _, _, rfl, Same.refl _⟩ (fun k σ H' _ ⟨_, _, _, _, _, _, _, S⟩ => S _ _ hdL) ?_ ?_⟩⟩
        · rintro k x σ H4 H5 hk ⟨o6, o7, o8, o9, oa, ob, rfl, S4⟩ ⟨rfl, kk, v, qk, hkv, rfl, hqk⟩
          obtain ⟨hk9, rfl, rfl⟩ := vwK_at hkv
          refine ⟨qk, _, rfl, SqT.of hqk, rfl, _, _, rfl, _, _, rfl, rfl, ?_⟩
          refine ⟨fun σ H' => ∃ L xs, σ = [some (.ref a), some (.ref p), o2, some (.ref r), some (.ref q), some (.ref d), some (.int (1 + ((k / 3 : Nat) : Int))), some (.int (1 + ((k % 3 : Nat) : Int))), o8, o9, oa, some (.ref L)] ∧ Same HL H' ∧ H' L = some (.lst xs) ∧ ∀ x ∈ xs, ∃ n : Nat, x = V.bl (f (n / 3) (n % 3)) ∧ n / 3 ≤ k / 3 ∧ n % 3 ≤ k % 3, ?_, ?_⟩
          · refine ⟨_, rfl, d, od, rfl, .inr ⟨_, S4 _ _ hdL, fun Dl nDl => ?_⟩⟩
            refine lc_it walk_keysT (fun e H' => Same HL H' ∧ ∃ xs, H' Dl = some (.lst xs) ∧ xs.length ≤ e ∧ ∀ x ∈ xs, ∃ n : Nat, x = V.bl (f (n / 3) (n % 3)) ∧ n / 3 ≤ k / 3 ∧ n % 3 ≤ k % 3) ⟨S4.trans (same_new nDl), [], upd_same, Nat.zero_le _, fun x h => nomatch h⟩ (fun e H' _ M => M.1 _ _ hdL) ?_ ?_
            · rintro e x H6 H7 he ⟨S6, xs, hx, lx, px⟩ ⟨rfl, kk, v, q2, hkv2, rfl, hq2⟩
              obtain ⟨he9, rfl, rfl⟩ := vwK_at hkv2
              refine ⟨rfl, _, rfl, q2, _, _, _, rfl, rfl, SqT.of hq2, rfl, _, rfl, _, _, rfl, rfl, _, rfl, ?_⟩
              by_cases c1 : (1 : Int) + ((e / 3 : Nat) : Int) ≤ 1 + ((k / 3 : Nat) : Int)
              · refine iteYes (decide_eq_true c1) ⟨_, rfl, q2, _, _, _, rfl, rfl, SqT.of hq2, rfl, _, rfl, _, _, rfl, rfl, _, rfl, ?_⟩
                by_cases c2 : (1 : Int) + ((e % 3 : Nat) : Int) ≤ 1 + ((k % 3 : Nat) : Int)
                · refine iteYes (decide_eq_true c2) ⟨_, rfl, _, rfl, d, _, rfl, .inr ⟨_, keyN e, q2, .inr ⟨od, S6 _ _ hdL⟩, rfl, hq2, (vwK_val he9).symm⟩, xs, hx, by rw [sizeLine_eq]; omega, fun c o ec => ?_, _, upd_same, ?_, fun y hy => ?_⟩
                  · rw [upd_ne (ne_of_none (S4 _ _ ec) nDl)]
                    exact S6 _ _ ec
                  · rw [List.length_append, List.length_singleton]
                    omega
                  · rcases List.mem_append.mp hy with z | z
                    · exact px y z
                    · rw [List.mem_singleton.mp z]
                      exact ⟨e, rfl, by omega, by omega⟩
                · exact iteNo (decide_eq_false c2) ⟨S6, xs, hx, by omega, px⟩
              · exact iteNo (decide_eq_false c1) (iteNo rfl ⟨S6, xs, hx, by omega, px⟩)
            · rintro H6 ⟨S6, xs, hx, lx, px⟩
              exact ⟨Dl, xs, rfl, S6, hx, px⟩
          rintro σ6 H6 ⟨Lx, xs, rfl, S6, hL, px⟩
          refine ⟨_, rfl, _, rfl, _, rfl, (by show 2 ≤ sizeLine; decide), fun pk npk => ?_⟩
          have Sk := same_new (o := .tup [V.int (1 + ((k / 3 : Nat) : Int)), V.int (1 + ((k % 3 : Nat) : Int))]) npk
          refine ⟨d, _, rfl, .inr ⟨_, keyN k, pk, .inr ⟨od, Sk _ _ (S6 _ _ hdL)⟩, rfl, upd_same, (vwK_val hk9).symm⟩, _, rfl, ?_⟩
          cases hfk : f (k / 3) (k % 3) with
          | false => exact iteNo rfl (iteNo rfl ⟨_, _, _, _, _, _, rfl, S6.trans Sk⟩)
          | true =>
            refine iteYes rfl ⟨_, rfl, Lx, xs, rfl, .inl (SqL.of (Sk _ _ hL)), rfl, List.all_eq_true.mpr fun x hx => ?_, _, rfl, iteNo ?_ ⟨_, _, _, _, _, _, rfl, S6.trans Sk⟩⟩
            · obtain ⟨n, rfl, _⟩ := px x hx
              rfl
            · refine List.any_eq_false.mpr fun x hx => ?_
              obtain ⟨n, rfl, h1, h2⟩ := px x hx
              rw [mono _ _ _ _ hfk h1 h2]
              decide
        · rintro σ H4 ⟨o6, o7, o8, o9, oa, ob, rfl, S4⟩
          exact ⟨S4 _ _ hdL, _, _, _, _, _, _, _, _, _, _, rfl, H0, t', (DB.mono (back _ S4)), t0, by rw [Int.natCast_add]; omega⟩
      · rintro σ H2 ⟨o2, o3, o4, o5, o6, o7, o8, o9, oa, ob, rfl, _⟩
        exact ⟨_, _, _, _, _, _, _, _, _, _, rfl⟩
    rintro σ2 H2 ⟨o2, o3, o4, o5, o6, o7, o8, o9, oa, ob, rfl⟩
    have l1 : LitAt [some (.ref a), some (.ref p), o2, o3, o4, o5, o6, o7, o8, o9, oa, ob] H2 _ (viewD 2 2 ["a", "a", "a", "a"]) := lit_viewT (E := E0) (s := 2) (m := 2) (row := ["a", "a", "a", "a"]) (lit_tup (lits_cons (lit_int (i := 2)) (lits_cons (lit_int (i := 2)) lits_nil)) (by decide)) (lit_tup (lits_cons (lit_str (x := "a")) (lits_cons (lit_str (x := "a")) (lits_cons (lit_str (x := "a")) (lits_cons (lit_str (x := "a")) lits_nil)))) (by decide)) (by decide) (by decide) (by decide) (by decide) aaaa9
    have l2 : LitAt [some (.ref a), some (.ref p), o2, o3, o4, o5, o6, o7, o8, o9, oa, ob] H2 _ litV := lit_tup (lits_cons (lit_str (x := "slit")) (lits_cons (lit_tup (lits_cons (lit_str (x := "a")) lits_nil) (by decide)) (lits_cons (lit_tup (lits_cons (lit_str (x := "a")) lits_nil) (by decide)) (lits_cons (lit_tup (lits_cons (lit_tup (lits_cons (lit_tup (lits_cons (lit_str (x := "a")) (lits_cons (lit_str (x := "a")) lits_nil)) (by decide)) (lits_cons (lit_int (i := 2)) lits_nil)) (by decide)) lits_nil) (by decide)) lits_nil)))) (by decide)
    unfold tRet
    refine lit_eqv l1 l2 (plain_view _ _ _) (by decide +kernel) (vw_view aaaa9 (by decide) (by decide) (by decide)).shaped (by decide +kernel) (Same.refl _) fun H' S => ?_
    rw [eqv_lit]
    exact fin _
end
end KL
set_option Elab.async false
set_option linter.all false
set_option maxRecDepth 100000
set_option maxHeartbeats 8000000
namespace KL
open PySem L2 PySem.W PyProof.Rows
theorem all_mk {l : PySem.W.OpenLaw} {w : World} {K : Frag} {h : Heap} {mg : Str → Option Value} {fa : Addr} {gCounted gViewOf gView gDeck gDraw gPick gLView gRow gTurned gLaw : Addr} (X : K.In h) (G : h.Ns mainGlobals mg) (hfa : mg "law" = some (.ref fa))
    {odCounted anCounted : Option Addr} {ocCounted kVCounted docCounted pmCounted cdvCounted ctCounted : Value} {oslCounted : Array (Option Value)}
    {odViewOf anViewOf : Option Addr} {ocViewOf kVViewOf docViewOf pmViewOf cdvViewOf ctViewOf : Value} {oslViewOf : Array (Option Value)}
    {odView anView : Option Addr} {ocView kVView docView pmView cdvView ctView : Value} {oslView : Array (Option Value)}
    {odDeck anDeck : Option Addr} {ocDeck kVDeck docDeck pmDeck cdvDeck ctDeck : Value} {oslDeck : Array (Option Value)}
    {odDraw anDraw : Option Addr} {ocDraw kVDraw docDraw pmDraw cdvDraw ctDraw : Value} {oslDraw : Array (Option Value)}
    {odPick anPick : Option Addr} {ocPick kVPick docPick pmPick cdvPick ctPick : Value} {oslPick : Array (Option Value)}
    {odLView anLView : Option Addr} {ocLView kVLView docLView pmLView cdvLView ctLView : Value} {oslLView : Array (Option Value)}
    {odRow anRow : Option Addr} {ocRow kVRow docRow pmRow cdvRow ctRow : Value} {oslRow : Array (Option Value)}
    {odTurned anTurned : Option Addr} {ocTurned kVTurned docTurned pmTurned cdvTurned ctTurned : Value} {oslTurned : Array (Option Value)}
    {odLaw anLaw : Option Addr} {ocLaw kVLaw docLaw pmLaw cdvLaw ctLaw : Value} {oslLaw : Array (Option Value)}
    (aCounted : nsIn K mainGlobals "counted" = some (some (.ref gCounted)))
    (lk_Counted : K.lookup gCounted = some ⟨ocCounted, odCounted, .func (fnOf "counted" "counted" (defArgs sCounted) (defBody sCounted) (defScope sCounted) .none kVCounted docCounted pmCounted anCounted cdvCounted ctCounted), oslCounted⟩)
    (cCounted : codeIn K cdvCounted "counted" = true)
    (kCounted : keepIn K (.ref gCounted) = true)
    (aViewOf : nsIn K mainGlobals "view_of" = some (some (.ref gViewOf)))
    (lk_ViewOf : K.lookup gViewOf = some ⟨ocViewOf, odViewOf, .func (fnOf "view_of" "view_of" (defArgs sViewOf) (defBody sViewOf) (defScope sViewOf) .none kVViewOf docViewOf pmViewOf anViewOf cdvViewOf ctViewOf), oslViewOf⟩)
    (cViewOf : codeIn K cdvViewOf "view_of" = true)
    (kViewOf : keepIn K (.ref gViewOf) = true)
    (aView : nsIn K mainGlobals "view" = some (some (.ref gView)))
    (lk_View : K.lookup gView = some ⟨ocView, odView, .func (fnOf "view" "view" (defArgs sView) (defBody sView) (defScope sView) .none kVView docView pmView anView cdvView ctView), oslView⟩)
    (cView : codeIn K cdvView "view" = true)
    (kView : keepIn K (.ref gView) = true)
    (aDeck : nsIn K mainGlobals "_law_deck" = some (some (.ref gDeck)))
    (lk_Deck : K.lookup gDeck = some ⟨ocDeck, odDeck, .func (fnOf "_law_deck" "_law_deck" (defArgs lDeck) (defBody lDeck) (defScope lDeck) .none kVDeck docDeck pmDeck anDeck cdvDeck ctDeck), oslDeck⟩)
    (cDeck : codeIn K cdvDeck "_law_deck" = true)
    (kDeck : keepIn K (.ref gDeck) = true)
    (aDraw : nsIn K mainGlobals "_law_draw" = some (some (.ref gDraw)))
    (lk_Draw : K.lookup gDraw = some ⟨ocDraw, odDraw, .func (fnOf "_law_draw" "_law_draw" (defArgs lDraw) (defBody lDraw) (defScope lDraw) .none kVDraw docDraw pmDraw anDraw cdvDraw ctDraw), oslDraw⟩)
    (cDraw : codeIn K cdvDraw "_law_draw" = true)
    (kDraw : keepIn K (.ref gDraw) = true)
    (aPick : nsIn K mainGlobals "_law_pick" = some (some (.ref gPick)))
    (lk_Pick : K.lookup gPick = some ⟨ocPick, odPick, .func (fnOf "_law_pick" "_law_pick" (defArgs lPick) (defBody lPick) (defScope lPick) .none kVPick docPick pmPick anPick cdvPick ctPick), oslPick⟩)
    (cPick : codeIn K cdvPick "_law_pick" = true)
    (kPick : keepIn K (.ref gPick) = true)
    (aLView : nsIn K mainGlobals "_law_view" = some (some (.ref gLView)))
    (lk_LView : K.lookup gLView = some ⟨ocLView, odLView, .func (fnOf "_law_view" "_law_view" (defArgs lView) (defBody lView) (defScope lView) .none kVLView docLView pmLView anLView cdvLView ctLView), oslLView⟩)
    (cLView : codeIn K cdvLView "_law_view" = true)
    (kLView : keepIn K (.ref gLView) = true)
    (aRow : nsIn K mainGlobals "_law_row" = some (some (.ref gRow)))
    (lk_Row : K.lookup gRow = some ⟨ocRow, odRow, .func (fnOf "_law_row" "_law_row" (defArgs lRow) (defBody lRow) (defScope lRow) .none kVRow docRow pmRow anRow cdvRow ctRow), oslRow⟩)
    (cRow : codeIn K cdvRow "_law_row" = true)
    (kRow : keepIn K (.ref gRow) = true)
    (aTurned : nsIn K mainGlobals "_law_turned" = some (some (.ref gTurned)))
    (lk_Turned : K.lookup gTurned = some ⟨ocTurned, odTurned, .func (fnOf "_law_turned" "_law_turned" (defArgs lTurned) (defBody lTurned) (defScope lTurned) .none kVTurned docTurned pmTurned anTurned cdvTurned ctTurned), oslTurned⟩)
    (cTurned : codeIn K cdvTurned "_law_turned" = true)
    (kTurned : keepIn K (.ref gTurned) = true)
    (aLaw : nsIn K mainGlobals "law" = some (some (.ref gLaw)))
    (lk_Law : K.lookup gLaw = some ⟨ocLaw, odLaw, .func (fnOf "law" "law" (defArgs lLaw) (defBody lLaw) (defScope lLaw) .none kVLaw docLaw pmLaw anLaw cdvLaw ctLaw), oslLaw⟩)
    (cLaw : codeIn K cdvLaw "law" = true)
    (kLaw : keepIn K (.ref gLaw) = true)
    (zlist : nsIn K mainGlobals "list" = some none)
    (zint : nsIn K mainGlobals "int" = some none)
    (zlen : nsIn K mainGlobals "len" = some none)
    (zrange : nsIn K mainGlobals "range" = some none)
    (ztuple : nsIn K mainGlobals "tuple" = some none)
    (zsorted : nsIn K mainGlobals "sorted" = some none)
    (zmin : nsIn K mainGlobals "min" = some none)
    (zrepr : nsIn K mainGlobals "repr" = some none)
    : ∃ fd : FuncData, (∀ (s : Shared) (u : Value), BindsTo s fd ⟨[u], []⟩ [("_law_script", u)]) ∧ ∀ base : Heap, K.In base → base.Ns mainGlobals mg → FnG l.prog w K mg base CX0 4 fa fd ["_law_script"] (spLaw K) := by
  have e := hfa.symm.trans (mg_of X G aLaw)
  cases e
  have TD : TxtD mg := ⟨mg_none_of X G zlist, mg_none_of X G zint, mg_none_of X G zlen⟩
  have TG : TxtG mg := ⟨TD, mg_none_of X G zrange, mg_none_of X G ztuple, mg_none_of X G zsorted, mg_none_of X G zmin, mg_none_of X G zrepr⟩
  have FCounted := fun_mk (st := sCounted) lk_Counted cCounted kCounted
  have bCounted := FCounted.binds (ps := ["pieces", "most"]) fun _ _ _ _ _ _ us hl => match us, hl with | [_, _], _ => rfl
  have FViewOf := fun_mk (st := sViewOf) lk_ViewOf cViewOf kViewOf
  have bViewOf := FViewOf.binds (ps := ["slit", "marks"]) fun _ _ _ _ _ _ us hl => match us, hl with | [_, _], _ => rfl
  have FView := fun_mk (st := sView) lk_View cView kView
  have bView := FView.binds (ps := ["slit", "marks"]) fun _ _ _ _ _ _ us hl => match us, hl with | [_, _], _ => rfl
  have FDeck := fun_mk (st := lDeck) lk_Deck cDeck kDeck
  have bDeck := FDeck.binds (ps := ["_law_script"]) fun _ _ _ _ _ _ us hl => match us, hl with | [_], _ => rfl
  have FDraw := fun_mk (st := lDraw) lk_Draw cDraw kDraw
  have bDraw := FDraw.binds (ps := ["_law_deck_here", "_law_below"]) fun _ _ _ _ _ _ us hl => match us, hl with | [_, _], _ => rfl
  have FPick := fun_mk (st := lPick) lk_Pick cPick kPick
  have bPick := FPick.binds (ps := ["_law_deck_here", "_law_some"]) fun _ _ _ _ _ _ us hl => match us, hl with | [_, _], _ => rfl
  have FLView := fun_mk (st := lView) lk_LView cLView kLView
  have bLView := FLView.binds (ps := ["_law_slit", "_law_row_here"]) fun _ _ _ _ _ _ us hl => match us, hl with | [_, _], _ => rfl
  have FRow := fun_mk (st := lRow) lk_Row cRow kRow
  have bRow := FRow.binds (ps := ["_law_deck_here"]) fun _ _ _ _ _ _ us hl => match us, hl with | [_], _ => rfl
  have FTurned := fun_mk (st := lTurned) lk_Turned cTurned kTurned
  have bTurned := FTurned.binds (ps := ["_law_deck_here", "_law_row_here"]) fun _ _ _ _ _ _ us hl => match us, hl with | [_, _], _ => rfl
  have FLaw := fun_mk (st := lLaw) lk_Law cLaw kLaw
  have bLaw := FLaw.binds (ps := ["_law_script"]) fun _ _ _ _ _ _ us hl => match us, hl with | [_], _ => rfl
  have kbView : KBinds K (fnOf "view" "view" (defArgs sView) (defBody sView) (defScope sView) .none kVView docView pmView anView cdvView ctView) ["slit", "marks"] ["marks", "slit"] gMS gMSV := kb_view fun _ _ => rfl
  refine ⟨_, fun s u => .of_eq (fd := fnOf "law" "law" (defArgs lLaw) (defBody lLaw) (defScope lLaw) .none kVLaw docLaw pmLaw anLaw cdvLaw ctLaw) rfl, fun base _ _ => ?_⟩
  have CCounted : Cal K mg "counted" gCounted _ ["pieces", "most"] := ⟨mg_of X G aCounted, kCounted, bCounted⟩
  have CViewOf : Cal K mg "view_of" gViewOf _ ["slit", "marks"] := ⟨mg_of X G aViewOf, kViewOf, bViewOf⟩
  have CView : Cal K mg "view" gView _ ["slit", "marks"] := ⟨mg_of X G aView, kView, bView⟩
  have CDeck : Cal K mg "_law_deck" gDeck _ ["_law_script"] := ⟨mg_of X G aDeck, kDeck, bDeck⟩
  have CDraw : Cal K mg "_law_draw" gDraw _ ["_law_deck_here", "_law_below"] := ⟨mg_of X G aDraw, kDraw, bDraw⟩
  have CPick : Cal K mg "_law_pick" gPick _ ["_law_deck_here", "_law_some"] := ⟨mg_of X G aPick, kPick, bPick⟩
  have CLView : Cal K mg "_law_view" gLView _ ["_law_slit", "_law_row_here"] := ⟨mg_of X G aLView, kLView, bLView⟩
  have CRow : Cal K mg "_law_row" gRow _ ["_law_deck_here"] := ⟨mg_of X G aRow, kRow, bRow⟩
  have CTurned : Cal K mg "_law_turned" gTurned _ ["_law_deck_here", "_law_row_here"] := ⟨mg_of X G aTurned, kTurned, bTurned⟩
  have GCounted := ok_counted (P := l.prog) (w := w) (mg := mg) (base := base) FCounted TG
  have GViewOf := ok_viewof (P := l.prog) (w := w) (mg := mg) (base := base) FViewOf TG GCounted CCounted
  have GView := ok_view (P := l.prog) (w := w) (mg := mg) (base := base) FView GViewOf CViewOf
  have GDeck := ok_deck (P := l.prog) (w := w) (mg := mg) (base := base) FDeck TD
  have GDraw := ok_draw (P := l.prog) (w := w) (mg := mg) (base := base) FDraw TD
  have GPick := ok_pick (P := l.prog) (w := w) (mg := mg) (base := base) FPick TD GDraw CDraw
  have GLView := ok_lview (P := l.prog) (w := w) (mg := mg) (base := base) FLView TG
  have GRow := ok_row (P := l.prog) (w := w) (mg := mg) (base := base) FRow TG GDraw CDraw GPick CPick
  have GTurned := ok_turned (P := l.prog) (w := w) (mg := mg) (base := base) FTurned TG GDraw CDraw
  have LF : LawFns l.prog w K mg base gDeck gRow gTurned gLView gView _ _ _ _ _ := ⟨GDeck, CDeck, GRow, CRow, GTurned, CTurned, GLView, CLView, GView, CView, kbView⟩
  exact ok_law FLaw TG LF
theorem walk {l : PySem.W.OpenLaw} {q : Program} {loose : List Str} {XP : (Str → Option Value) → Heap → Prop} {YP : World → Heap → Prop} {d : DefRec} {K : Params → Frag} (hn : l.most = some 63) (hdf : d.params.defaults = []) (hY : ∀ (w : World) (h : Heap), YP w h → (K w.params).In h)
    (F : ∀ (w : World) (mg : Str → Option Value) (fa : Addr) (h : Heap), (K w.params).In h → h.Ns mainGlobals mg → mg d.name = some (.ref fa) →
      ∃ fd : FuncData, (∀ (s : Shared) (u : Value), BindsTo s fd ⟨[u], []⟩ [("_law_script", u)]) ∧ ∀ base : Heap, (K w.params).In base → base.Ns mainGlobals mg → FnG l.prog w (K w.params) mg base CX0 4 fa fd ["_law_script"] (spLaw (K w.params))) : WalkO q loose XP YP l.row.toRowW d [] (fun f vs => PySem.call f vs) :=
  walkG (n := 63) (k := 4) (x := "_law_script") (CX := fun _ => CX0) (sp := fun w => spLaw (K w.params)) hn (by decide) hdf ⟨rfl, by decide, by decide⟩ hY F (fun _ _ a ns hl _ hS => ⟨a, ns, rfl, hS, hl, fun _ => rfl⟩) fun _ _ _ _ _ z => z
end KL
set_option Elab.async false
open PySem PySem.W PyProof.Rows in
set_option maxRecDepth 100000 in
set_option maxHeartbeats 0 in
theorem PySem.Challenge.cw_loghouse_k38_views_of_slits_holds : PySem.Challenge.rw_loghouse_k38_views_of_slits.Holds := by
  w_on; o_law; k_head; (case hw => w_witness2)
  k_fill
  refine KL.walk (l := PySem.Challenge.rw_loghouse_k38_views_of_slits) rfl rfl (fun w h Y => PySem.W.kIn_of Y) ?F
  case F =>
    intro w mg fa h KX G hmg
    refine' KL.all_mk KX G hmg ?aCounted ?lk_Counted ?cCounted ?kCounted ?aViewOf ?lk_ViewOf ?cViewOf ?kViewOf ?aView ?lk_View ?cView ?kView ?aDeck ?lk_Deck ?cDeck ?kDeck ?aDraw ?lk_Draw ?cDraw ?kDraw ?aPick ?lk_Pick ?cPick ?kPick ?aLView ?lk_LView ?cLView ?kLView ?aRow ?lk_Row ?cRow ?kRow ?aTurned ?lk_Turned ?cTurned ?kTurned ?aLaw ?lk_Law ?cLaw ?kLaw ?zlist ?zint ?zlen ?zrange ?ztuple ?zsorted ?zmin ?zrepr
    (case aCounted => k_is)
    (case lk_Counted => k_is)
    (case cCounted => k_is)
    (case kCounted => k_is)
    (case aViewOf => k_is)
    (case lk_ViewOf => k_is)
    (case cViewOf => k_is)
    (case kViewOf => k_is)
    (case aView => k_is)
    (case lk_View => k_is)
    (case cView => k_is)
    (case kView => k_is)
    (case aDeck => k_is)
    (case lk_Deck => k_is)
    (case cDeck => k_is)
    (case kDeck => k_is)
    (case aDraw => k_is)
    (case lk_Draw => k_is)
    (case cDraw => k_is)
    (case kDraw => k_is)
    (case aPick => k_is)
    (case lk_Pick => k_is)
    (case cPick => k_is)
    (case kPick => k_is)
    (case aLView => k_is)
    (case lk_LView => k_is)
    (case cLView => k_is)
    (case kLView => k_is)
    (case aRow => k_is)
    (case lk_Row => k_is)
    (case cRow => k_is)
    (case kRow => k_is)
    (case aTurned => k_is)
    (case lk_Turned => k_is)
    (case cTurned => k_is)
    (case kTurned => k_is)
    (case aLaw => k_is)
    (case lk_Law => k_is)
    (case cLaw => k_is)
    (case kLaw => k_is)
    (case zlist => k_is)
    (case zint => k_is)
    (case zlen => k_is)
    (case zrange => k_is)
    (case ztuple => k_is)
    (case zsorted => k_is)
    (case zmin => k_is)
    (case zrepr => k_is)
