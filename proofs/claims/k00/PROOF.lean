import PyProof.Rows.All
import Wide.All
import OpenK.AllK
import Wide.FinOn
import HandS.ForMost
import HandS.ForExc
import HandS.IsInst
import HandS.Gcd
import HandS.Wide
import HandS.TupMul
import HandS.TupAny
import PySem.Challenge.RW_tametrees_k00_whole_fractions
set_option Elab.async false
set_option linter.all false
set_option maxRecDepth 100000
namespace TT
open PySem PySem.Spec PyProof.Rows L2

/-! ### more rules -/
def CDivNW (_ j : Int) : Prop := j ≠ 0 ∧ j.natAbs.log2 < 9000
section
variable {X : Cx}
theorem op_fdivNW : OpR X (binaryOp .FloorDiv) (rI CDivNW fun i j => .int (i.fdiv j)) := opI fun i j _ _ _ _ _ hc q =>
  floordiv_int hc.1 q (.inl (PyProof.noPylong_of_log2 hc.2))
theorem hu64 {k : Nat} (hr : Room k X.A) : X.A.units + 64 < cLine := by have := hr.un; omega
end

/-! ### built-in names -/
theorem bt_isinstance : bootBuiltins "isinstance" = some (.builtin "isinstance") := by decide +kernel
theorem bt_len : bootBuiltins "len" = some (.builtin "len") := by decide +kernel
theorem bt_abs : bootBuiltins "abs" = some (.builtin "abs") := by decide +kernel
theorem bt_max : bootBuiltins "max" = some (.builtin "max") := by decide +kernel
theorem bt_min : bootBuiltins "min" = some (.builtin "min") := by decide +kernel
theorem bt_sorted : bootBuiltins "sorted" = some (.builtin "sorted") := by decide +kernel
theorem bt_sum : bootBuiltins "sum" = some (.builtin "sum") := by decide +kernel
theorem bt_any : bootBuiltins "any" = some (.builtin "any") := by decide +kernel
theorem bt_all : bootBuiltins "all" = some (.builtin "all") := by decide +kernel
theorem bt_repr : bootBuiltins "repr" = some (.builtin "repr") := by decide +kernel
theorem bt_iter : bootBuiltins "iter" = some (.builtin "iter") := by decide +kernel
theorem bt_next : bootBuiltins "next" = some (.builtin "next") := by decide +kernel
theorem bt_divmod : bootBuiltins "divmod" = some (.builtin "divmod") := by decide +kernel
theorem bt_int : bootBuiltins "int" = some (.type "int") := by decide +kernel
theorem bt_bool : bootBuiltins "bool" = some (.type "bool") := by decide +kernel
theorem bt_str : bootBuiltins "str" = some (.type "str") := by decide +kernel
theorem bt_tuple : bootBuiltins "tuple" = some (.type "tuple") := by decide +kernel
theorem bt_list : bootBuiltins "list" = some (.type "list") := by decide +kernel
theorem bt_dict : bootBuiltins "dict" = some (.type "dict") := by decide +kernel
theorem bt_set : bootBuiltins "set" = some (.type "set") := by decide +kernel
theorem bt_range : bootBuiltins "range" = some (.type "range") := by decide +kernel
theorem bt_zip : bootBuiltins "zip" = some (.type "zip") := by decide +kernel
theorem bt_enumerate : bootBuiltins "enumerate" = some (.type "enumerate") := by decide +kernel
theorem bt_reversed : bootBuiltins "reversed" = some (.type "reversed") := by decide +kernel

/-! ### bounds by tens -/
def B (k : Nat) (x : Int) : Prop := x.natAbs < 10 ^ k
theorem ten_two (k : Nat) : (10 : Nat) ^ k ≤ 2 ^ (4 * k) := by
  rw [Nat.pow_mul]; exact Nat.pow_le_pow_left (by decide) k
theorem B.log {k : Nat} {x : Int} (h : B k x) (h0 : 0 < k) : x.natAbs.log2 < 4 * k :=
  PySem.Flt.log2_lt_of (by omega) (Nat.lt_of_lt_of_le h (ten_two k))
theorem B.mono {j k : Nat} {x : Int} (h : B j x) (l : j ≤ k) : B k x := Nat.lt_of_lt_of_le h (Nat.pow_le_pow_right (by decide) l)
theorem B.mul {j k : Nat} {x y : Int} (h : B j x) (h' : B k y) : B (j + k) (x * y) := by
  unfold B at *; rw [Int.natAbs_mul, Nat.pow_add]; exact Nat.mul_lt_mul'' h h'
theorem B.add {k : Nat} {x y : Int} (h : B k x) (h' : B k y) : B (k + 1) (x + y) := by
  unfold B at *; rw [Nat.pow_succ]; omega
theorem B.sub {k : Nat} {x y : Int} (h : B k x) (h' : B k y) : B (k + 1) (x - y) := by
  unfold B at *; rw [Nat.pow_succ]; omega
theorem B.neg {k : Nat} {x : Int} (h : B k x) : B k (-x) := by unfold B at *; omega
theorem cmul {j k : Nat} {x y : Int} (h : B j x) (h' : B k y) (l : j + k ≤ 20000) : CMulW x y := by
  have a := (h.mono (Nat.le_succ j)).log (by omega)
  have b := (h'.mono (Nat.le_succ k)).log (by omega)
  unfold CMulW; omega
theorem cdiv {k : Nat} {x y : Int} (h0 : y ≠ 0) (h : B k y) (l : k ≤ 2000) : CDivNW x y := by
  have b := (h.mono (Nat.le_succ k)).log (by omega)
  exact ⟨h0, by omega⟩

/-! ### heaps -/
theorem same_upd {H : Hp} {p : Addr} {o : HO} (h : H p = none) : Same H (upd H p o) := fun b x e => by
  rw [upd_ne (ne_of_none e h)]
  exact e
theorem size2 : (2 : Nat) ≤ sizeLine := by decide
/-- isinstance of a value with a built-in class -/
theorem isi_of {K : PySem.W.Frag} {H : Hp} {x : V} {a b : String} {r : Bool} {Q : VK} (t : TyX K H x (.type a)) (e : kitB a b = some r) (q : Q (.bl r) H) : rIsi K [x, .ty b] H Q :=
  ⟨x, .ty b, _, _, r, rfl, .ty b, t, kit_ty e, q⟩

/-! ### numbers -/
def Fr (H : Hp) (v : V) (q : Rat) : Prop := ∃ p, v = .ref p ∧ H p = some (.tup [.int q.num, .int q.den])
def Nu (H : Hp) (v : V) (q : Rat) : Prop := (q.den = 1 ∧ v = .int q.num) ∨ Fr H v q
theorem Fr.same {H H' : Hp} {v : V} {q : Rat} (s : Same H H') : Fr H v q → Fr H' v q := fun ⟨p, e, h⟩ => ⟨p, e, s _ _ h⟩
theorem Nu.same {H H' : Hp} {v : V} {q : Rat} (s : Same H H') : Nu H v q → Nu H' v q := fun h => h.elim .inl fun h => .inr (h.same s)

theorem fdiv_gcd_num (t b : Int) (hb : b ≠ 0) : t.fdiv (if b < 0 then -((Nat.gcd t.natAbs b.natAbs : Nat) : Int) else ((Nat.gcd t.natAbs b.natAbs : Nat) : Int)) = (Rat.divInt t b).num := by
  rw [Rat.num_divInt]
  have hg : (Int.gcd b t : Int) ≠ 0 := by
    intro h
    have := Int.gcd_eq_zero_iff.mp (Int.ofNat.inj h)
    exact hb this.1
  have e : ((Nat.gcd t.natAbs b.natAbs : Nat) : Int) = (Int.gcd b t : Int) := by rw [Int.gcd_comm]; rfl
  rw [e]
  have d1 : (Int.gcd b t : Int) ∣ t := Int.gcd_dvd_right ..
  obtain ⟨k, hk⟩ := d1
  by_cases h : b < 0
  · rw [if_pos h, Int.sign_eq_neg_one_of_neg h]
    generalize (Int.gcd b t : Int) = g at *
    subst hk
    rw [show (g * k).fdiv (-g) = -k from by rw [← Int.neg_mul_neg g k]; exact Int.mul_fdiv_cancel_left _ (by omega)]
    rw [show -1 * (g * k) = g * (-k) by rw [Int.mul_neg]; try rw [Int.neg_mul, Int.one_mul]]
    exact (Int.mul_ediv_cancel_left _ hg).symm
  · rw [if_neg h, Int.sign_eq_one_of_pos (by omega)]
    generalize (Int.gcd b t : Int) = g at *
    subst hk
    rw [Int.one_mul, Int.mul_fdiv_cancel_left _ hg, Int.mul_ediv_cancel_left _ hg]
theorem fdiv_gcd_den (t b : Int) (hb : b ≠ 0) : b.fdiv (if b < 0 then -((Nat.gcd t.natAbs b.natAbs : Nat) : Int) else ((Nat.gcd t.natAbs b.natAbs : Nat) : Int)) = ((Rat.divInt t b).den : Int) := by
  rw [Rat.den_divInt, if_neg hb]
  have hg : (Int.gcd b t : Int) ≠ 0 := by
    intro h
    have := Int.gcd_eq_zero_iff.mp (Int.ofNat.inj h)
    exact hb this.1
  have e : ((Nat.gcd t.natAbs b.natAbs : Nat) : Int) = (Int.gcd b t : Int) := by rw [Int.gcd_comm]; rfl
  rw [e, Int.natCast_ediv]
  have d1 : (Int.gcd b t : Int) ∣ b := Int.gcd_dvd_left ..
  obtain ⟨k, hk⟩ := d1
  have hp : 0 < (Int.gcd b t : Int) := by have := Int.natCast_nonneg (Int.gcd b t); omega
  by_cases h : b < 0
  · rw [if_pos h]
    have ea : ((b.natAbs : Nat) : Int) = -b := by omega
    rw [ea]
    generalize (Int.gcd b t : Int) = g at *
    subst hk
    rw [show (g * k).fdiv (-g) = -k from by rw [← Int.neg_mul_neg g k]; exact Int.mul_fdiv_cancel_left _ (by omega)]
    rw [show -(g * k) = g * (-k) by rw [Int.mul_neg]; try rw [Int.neg_mul, Int.one_mul]]
    exact (Int.mul_ediv_cancel_left _ hg).symm
  · rw [if_neg h]
    have ea : ((b.natAbs : Nat) : Int) = b := by omega
    rw [ea]
    generalize (Int.gcd b t : Int) = g at *
    subst hk
    rw [Int.mul_fdiv_cancel_left _ hg, Int.mul_ediv_cancel_left _ hg]
theorem divInt_num_le (t b : Int) : (Rat.divInt t b).num.natAbs ≤ t.natAbs := by
  rw [Rat.num_divInt, Int.natAbs_ediv_of_dvd (Int.dvd_mul_of_dvd_right (Int.gcd_dvd_right ..))]
  refine Nat.le_trans (Nat.div_le_self _ _) ?_
  rw [Int.natAbs_mul]
  have : b.sign.natAbs ≤ 1 := by rcases Int.lt_trichotomy b 0 with h | h | h <;> simp [Int.sign_eq_neg_one_of_neg, Int.sign_eq_one_of_pos, h]
  calc b.sign.natAbs * t.natAbs ≤ 1 * t.natAbs := Nat.mul_le_mul_right _ this
    _ = t.natAbs := Nat.one_mul _
theorem divInt_den_le (t b : Int) (hb : b ≠ 0) : (Rat.divInt t b).den ≤ b.natAbs := by
  rw [Rat.den_divInt, if_neg hb]; exact Nat.div_le_self _ _
end TT

set_option Elab.async false
set_option linter.all false
set_option maxRecDepth 100000
namespace TT
open PySem PySem.Spec PyProof.Rows L2

/-! ### data, as they lie in the heap -/
inductive Da where
  | non | bl (b : Bool) | int (i : Int) | str (s : Str) | tup (xs : List Da) | lst (xs : List Da) | dic
mutual
def Td (H : Hp) : Da → V → Prop
  | .non, v => v = .non
  | .bl b, v => v = .bl b
  | .int i, v => v = .int i
  | .str s, v => v = .str s
  | .tup ds, v => ∃ p vs, v = .ref p ∧ H p = some (.tup vs) ∧ TdL H ds vs
  | .lst ds, v => ∃ p vs, v = .ref p ∧ H p = some (.lst vs) ∧ TdL H ds vs
  | .dic, v => ∃ p, v = .ref p ∧ H p = some (.dK [])
def TdL (H : Hp) : List Da → List V → Prop
  | [], vs => vs = []
  | d :: ds, vs => ∃ v r, vs = v :: r ∧ Td H d v ∧ TdL H ds r
end
mutual
theorem Td.same {H H' : Hp} (s : Same H H') : ∀ (d : Da) (v : V), Td H d v → Td H' d v
  | .non, v, h => by simpa only [Td] using h
  | .bl b, v, h => by simpa only [Td] using h
  | .int i, v, h => by simpa only [Td] using h
  | .str x, v, h => by simpa only [Td] using h
  | .tup ds, v, h => by
    simp only [Td] at h ⊢
    obtain ⟨p, vs, e, h1, h2⟩ := h
    exact ⟨p, vs, e, s _ _ h1, TdL.same s ds vs h2⟩
  | .lst ds, v, h => by
    simp only [Td] at h ⊢
    obtain ⟨p, vs, e, h1, h2⟩ := h
    exact ⟨p, vs, e, s _ _ h1, TdL.same s ds vs h2⟩
  | .dic, v, h => by
    simp only [Td] at h ⊢
    obtain ⟨p, e, h1⟩ := h
    exact ⟨p, e, s _ _ h1⟩
theorem TdL.same {H H' : Hp} (s : Same H H') : ∀ (ds : List Da) (vs : List V), TdL H ds vs → TdL H' ds vs
  | [], vs, h => by simpa only [TdL] using h
  | d :: ds, vs, h => by
    simp only [TdL] at h ⊢
    obtain ⟨v, r, e, h1, h2⟩ := h
    exact ⟨v, r, e, Td.same s d v h1, TdL.same s ds r h2⟩
end
mutual
def Da.py : Da → PyData
  | .non => .none
  | .bl b => .bool b
  | .int i => .int i
  | .str s => .str s
  | .tup xs => .tuple (Da.pys xs)
  | .lst xs => .list (Da.pys xs)
  | .dic => .dict []
def Da.pys : List Da → List PyData
  | [] => []
  | d :: r => d.py :: Da.pys r
end
mutual
def Da.flat : Da → Bool
  | .tup xs => Da.flats xs
  | .lst xs => Da.flats xs
  | .dic => false
  | _ => true
def Da.flats : List Da → Bool
  | [] => true
  | d :: r => d.flat && Da.flats r
end
mutual
theorem Td.dp {K : PySem.W.Frag} {H : Hp} : ∀ (d : Da) (v : V), d.flat = true → Td H d v → Dp K H v d.py
  | .non, v, _, h => by simp only [Td] at h; subst h; simp only [Da.py]; exact .non
  | .bl b, v, _, h => by simp only [Td] at h; subst h; simp only [Da.py]; exact .bl b
  | .int i, v, _, h => by simp only [Td] at h; subst h; simp only [Da.py]; exact .int i
  | .str x, v, _, h => by simp only [Td] at h; subst h; simp only [Da.py]; exact .str x
  | .tup ds, v, f, h => by
    simp only [Td] at h; simp only [Da.flat] at f; simp only [Da.py]
    obtain ⟨p, vs, rfl, h1, h2⟩ := h
    exact .tup (.inl (.inl h1)) (TdL.dp ds vs f h2)
  | .lst ds, v, f, h => by
    simp only [Td] at h; simp only [Da.flat] at f; simp only [Da.py]
    obtain ⟨p, vs, rfl, h1, h2⟩ := h
    exact .lst (.inl (.inl h1)) (TdL.dp ds vs f h2)
  | .dic, v, f, h => by simp [Da.flat] at f
theorem TdL.dp {K : PySem.W.Frag} {H : Hp} : ∀ (ds : List Da) (vs : List V), Da.flats ds = true → TdL H ds vs → DpAll K H vs (Da.pys ds)
  | [], vs, _, h => by simp only [TdL] at h; subst h; simp only [Da.pys]; exact .nil
  | d :: ds, vs, f, h => by
    simp only [TdL] at h; simp only [Da.flats, Bool.and_eq_true] at f; simp only [Da.pys]
    obtain ⟨v, r, rfl, h1, h2⟩ := h
    exact .cons (Td.dp d v f.1 h1) (TdL.dp ds r f.2 h2)
end
/-- which built-in class -/
def Da.ty : Da → String
  | .non => "NoneType" | .bl _ => "bool" | .int _ => "int" | .str _ => "str" | .tup _ => "tuple" | .lst _ => "list" | .dic => "dict"
theorem Td.tyx {K : PySem.W.Frag} {H : Hp} {d : Da} {v : V} (h : Td H d v) : TyX K H v (.type d.ty) := by
  cases d <;> simp only [Td] at h <;> simp only [Da.ty]
  · subst h; exact .base .non
  · subst h; exact .base (.bl _)
  · subst h; exact .base (.int _)
  · subst h; exact .base (.str _)
  · obtain ⟨p, vs, rfl, h1, _⟩ := h; exact .base (.tup h1)
  · obtain ⟨p, vs, rfl, h1, _⟩ := h; exact .base (.lst h1)
  · obtain ⟨p, rfl, h1⟩ := h; exact .base (.dK h1)
def Da.isA (d : Da) (c : String) : Bool := (kitB d.ty c).getD false
theorem isi {K : PySem.W.Frag} {H : Hp} {d : Da} {v : V} {c : String} {Q : VK} (h : Td H d v) (hs : (kitB d.ty c).isSome = true) (q : Q (.bl (d.isA c)) H) : rIsi K [v, .ty c] H Q := by
  refine isi_of h.tyx ?_ q
  unfold Da.isA
  cases e : kitB d.ty c with
  | none => rw [e] at hs; cases hs
  | some r => rfl
def Da.isInt : Da → Bool | .int _ => true | .bl _ => true | _ => false
def Da.isBool : Da → Bool | .bl _ => true | _ => false
def Da.isTup : Da → Bool | .tup _ => true | _ => false
theorem isi_int {K : PySem.W.Frag} {H : Hp} {d : Da} {v : V} {Q : VK} (h : Td H d v) (q : Q (.bl d.isInt) H) : rIsi K [v, .ty "int"] H Q := by
  cases d <;> exact isi_of h.tyx (by simp only [Da.ty, Da.isInt, Da.isBool, Da.isTup]; decide +kernel) q
theorem isi_bool {K : PySem.W.Frag} {H : Hp} {d : Da} {v : V} {Q : VK} (h : Td H d v) (q : Q (.bl d.isBool) H) : rIsi K [v, .ty "bool"] H Q := by
  cases d <;> exact isi_of h.tyx (by simp only [Da.ty, Da.isInt, Da.isBool, Da.isTup]; decide +kernel) q
theorem isi_tup {K : PySem.W.Frag} {H : Hp} {d : Da} {v : V} {Q : VK} (h : Td H d v) (q : Q (.bl d.isTup) H) : rIsi K [v, .ty "tuple"] H Q := by
  cases d <;> exact isi_of h.tyx (by simp only [Da.ty, Da.isInt, Da.isBool, Da.isTup]; decide +kernel) q
theorem eqD_of {K : PySem.W.Frag} {H : Hp} {d e : Da} {x y : V} {Q : VK} (hx : Td H d x) (hy : Td H e y) (fd : d.flat = true) (fe : e.flat = true) (sd : SeqAt.shaped d.py = true) (se : SeqAt.shaped e.py = true) (q : Q (.bl (PyData.eqv d.py e.py)) H) : rEqD K x y H Q :=
  ⟨_, _, Td.dp d x fd hx, Td.dp e y fe hy, sd, se, q⟩
theorem neD_of {K : PySem.W.Frag} {H : Hp} {d e : Da} {x y : V} {Q : VK} (hx : Td H d x) (hy : Td H e y) (fd : d.flat = true) (fe : e.flat = true) (sd : SeqAt.shaped d.py = true) (se : SeqAt.shaped e.py = true) (q : Q (.bl (!PyData.eqv d.py e.py)) H) : rNeD K x y H Q :=
  ⟨_, _, Td.dp d x fd hx, Td.dp e y fe hy, sd, se, q⟩
/-- an item of a tuple, of a list -/
theorem ixT_of {K : PySem.W.Frag} {H : Hp} {p : Addr} {vs : List V} {i : Int} {v : V} {Q : VK} (h : H p = some (.tup vs)) (e : atI vs i = some v) (q : Q v H) : rIxT K (.ref p) (.int i) H Q :=
  ⟨p, vs, i, v, rfl, rfl, .inl (.inl h), e, q⟩
theorem ixL_of {K : PySem.W.Frag} {H : Hp} {p : Addr} {vs : List V} {i : Int} {v : V} {Q : VK} (h : H p = some (.lst vs)) (e : atI vs i = some v) (q : Q v H) : rIxL K (.ref p) (.int i) H Q :=
  ⟨p, vs, i, v, rfl, rfl, .inl (.inl h), e, q⟩
end TT
namespace TT
open PySem PySem.Spec PyProof.Rows L2
theorem Fr.td {H : Hp} {v : V} {q : Rat} (h : Fr H v q) : Td H (.tup [.int q.num, .int q.den]) v := by
  obtain ⟨p, rfl, hp⟩ := h
  simp only [Td, TdL]
  exact ⟨p, _, rfl, hp, _, _, rfl, rfl, _, _, rfl, rfl, rfl⟩
theorem Nu.td {H : Hp} {v : V} {q : Rat} (h : Nu H v q) : ∃ d, Td H d v ∧ ((d = .int q.num ∧ q.den = 1 ∧ v = .int q.num) ∨ (d = .tup [.int q.num, .int q.den] ∧ Fr H v q)) := by
  rcases h with ⟨h1, h2⟩ | h
  · exact ⟨.int q.num, by simp only [Td]; exact h2, .inl ⟨rfl, h1, h2⟩⟩
  · exact ⟨_, h.td, .inr ⟨rfl, h⟩⟩
theorem Fr.upd {H : Hp} {p : Addr} {q : Rat} {a b : Int} (ha : a = q.num) (hb : b = (q.den : Int)) : Fr (upd H p (.tup [.int a, .int b])) (.ref p) q := by
  subst ha hb; exact ⟨p, rfl, upd_same⟩
end TT
namespace TT
open PySem PySem.Spec PyProof.Rows L2
def rLen (K : PySem.W.Frag) : List V → Hp → VK → Prop := fun xs H Q => ∃ p ys, xs = [.ref p] ∧ (SqL K H p ys ∨ SqT K H p ys) ∧ Q (.int ys.length) H
theorem call_lenN {X : Cx} : CallR X (.builtin "len") (rLen X.K) := call_len_seq
theorem lenT_of {K : PySem.W.Frag} {H : Hp} {p : Addr} {vs : List V} {Q : VK} (h : H p = some (.tup vs)) (q : Q (.int vs.length) H) : rLen K [.ref p] H Q := ⟨p, vs, rfl, .inr (.inl (.inl h)), q⟩
theorem lenL_of {K : PySem.W.Frag} {H : Hp} {p : Addr} {vs : List V} {Q : VK} (h : H p = some (.lst vs)) (q : Q (.int vs.length) H) : rLen K [.ref p] H Q := ⟨p, vs, rfl, .inl (.inl (.inl h)), q⟩
theorem lenS_of {K : PySem.W.Frag} {H : Hp} {p : Addr} {vs : List V} {Q : VK} (h : SqL K H p vs) (q : Q (.int vs.length) H) : rLen K [.ref p] H Q := ⟨p, vs, rfl, .inl h, q⟩
def isWhole : Da → Bool | .int _ => true | _ => false
def isRatio : Da → Bool | .tup [.int a, .int b] => decide (0 < b) && decide (((Nat.gcd a.natAbs b.natAbs : Nat) : Int) = 1) | _ => false
def isInteger : Da → Bool | .int i => decide (-1000000000000000000000000000000000000000000000000000000000000 < i) && decide (i < 1000000000000000000000000000000000000000000000000000000000000) | _ => false
def isFraction : Da → Bool | .tup [.int a, .int b] => isRatio (.tup [.int a, .int b]) && isInteger (.int a) && isInteger (.int b) | _ => false
def isNumber (d : Da) : Bool := isInteger d || isFraction d
end TT
namespace TT
open PySem PySem.Spec PyProof.Rows L2
/-- the promise of a judge -/
def spJ (f : Da → Bool) : Sp := fun vs H Q _ => ∃ x d, vs = [x] ∧ Td H d x ∧ Q (.bl (f d)) H
theorem use_J {f : Da → Bool} {H : Hp} {x : V} {d : Da} {Q : VK} {E : XK} (h : Td H d x) (q : Q (.bl (f d)) H) : spJ f [x] H Q E := ⟨x, d, rfl, h, q⟩
theorem td_int {H : Hp} {i : Int} : Td H (.int i) (.int i) := by simp only [Td]
theorem td_bl {H : Hp} {b : Bool} : Td H (.bl b) (.bl b) := by simp only [Td]
theorem td_non {H : Hp} : Td H .non .non := by simp only [Td]
theorem td_str {H : Hp} {b : Str} : Td H (.str b) (.str b) := by simp only [Td]
theorem td_tup {H : Hp} {ds : List Da} {vs : List V} {p : Addr} (h : H p = some (.tup vs)) (t : TdL H ds vs) : Td H (.tup ds) (.ref p) := by simp only [Td]; exact ⟨p, vs, rfl, h, t⟩
theorem td_lst {H : Hp} {ds : List Da} {vs : List V} {p : Addr} (h : H p = some (.lst vs)) (t : TdL H ds vs) : Td H (.lst ds) (.ref p) := by simp only [Td]; exact ⟨p, vs, rfl, h, t⟩
theorem tdl_nil {H : Hp} : TdL H [] [] := by simp only [TdL]
theorem tdl_cons {H : Hp} {d : Da} {v : V} {ds : List Da} {vs : List V} (h : Td H d v) (t : TdL H ds vs) : TdL H (d :: ds) (v :: vs) := by simp only [TdL]; exact ⟨v, vs, rfl, h, t⟩
theorem TdL.len {H : Hp} : ∀ {ds : List Da} {vs : List V}, TdL H ds vs → vs.length = ds.length
  | [], vs, h => by simp only [TdL] at h; subst h; rfl
  | d :: ds, vs, h => by simp only [TdL] at h; obtain ⟨v, r, rfl, _, h2⟩ := h; simp only [List.length_cons, TdL.len h2]
end TT
namespace TT
open PySem PySem.Spec PyProof.Rows L2
theorem gtup_of {K : PySem.W.Frag} {n : Nat} {t : TGs} {p : Addr} {vs : List V} {σ : L2.St} {H : Hp} {Q : L2.St → Hp → Prop} (h : H p = some (.tup vs)) (l : vs.length = n) (q : t vs σ H Q) : gTup K n t (.ref p) σ H Q := ⟨p, vs, rfl, .inl (.inl h), l, q⟩
end TT
namespace TT
open PySem PySem.Spec PyProof.Rows L2
theorem setL_of {p : Addr} {vs : List V} {k : Int} {j : Nat} {v : V} {H : Hp} {Q : Hp → Prop} (h : H p = some (.lst vs)) (e : ixN vs.length k = some j) (q : Q (upd H p (.lst (vs.set j v)))) : rSetL (.ref p) (.int k) v H Q := ⟨p, vs, k, j, rfl, rfl, h, e, q⟩
/-- all that was tracked is as it was, but what stands at p -/
def But (p : Addr) (H H' : Hp) : Prop := ∀ b o, b ≠ p → H b = some o → H' b = some o
theorem But.refl {p : Addr} {H : Hp} : But p H H := fun _ _ _ h => h
theorem But.trans {p : Addr} {H H1 H2 : Hp} (a : But p H H1) (b : But p H1 H2) : But p H H2 := fun c o n h => b c o n (a c o n h)
theorem But.of {p : Addr} {H H' : Hp} (s : Same H H') : But p H H' := fun b o _ h => s b o h
theorem But.upd {p : Addr} {H : Hp} {o : HO} : But p H (upd H p o) := fun b u n h => by rw [upd_ne n]; exact h
theorem Fr.but {p : Addr} {H H' : Hp} {v : V} {q : Rat} {l : List V} (hp : H p = some (.lst l)) (s : But p H H') : Fr H v q → Fr H' v q := fun ⟨t, e, h⟩ => ⟨t, e, s _ _ (fun z => by subst z; rw [hp] at h; cases h) h⟩
theorem Nu.but {p : Addr} {H H' : Hp} {v : V} {q : Rat} {l : List V} (hp : H p = some (.lst l)) (s : But p H H') : Nu H v q → Nu H' v q := fun h => h.elim .inl fun h => .inr (h.but hp s)
/-- the dice -/
def Dice (H : Hp) (p : Addr) : Prop := ∃ x y z : Int, H p = some (.lst [.int x, .int y, .int z])
theorem Dice.same {H H' : Hp} {p : Addr} (s : Same H H') : Dice H p → Dice H' p := fun ⟨x, y, z, h⟩ => ⟨x, y, z, s _ _ h⟩
/-- no item of a tuple is at its index out of bounds: the item is one of them -/
theorem atI_some {vs : List V} {i : Int} (h0 : 0 ≤ i) (h1 : i < vs.length) : ∃ v, atI vs i = some v ∧ v ∈ vs := by
  have hj : i.toNat < vs.length := by omega
  refine ⟨vs[i.toNat], ?_, List.getElem_mem hj⟩
  unfold atI ixN
  rw [if_pos h0, if_pos h1]
  show vs[i.toNat]? = _
  exact List.getElem?_eq_getElem hj
theorem shaped_fr {a b : Int} : SeqAt.shaped (Da.py (.tup [.int a, .int b])) = true := by rfl
theorem neFr {K : PySem.W.Frag} {H : Hp} {x y : V} {p q : Rat} {Q : VK} (hx : Fr H x p) (hy : Fr H y q) (k : Q (.bl (!decide (p = q))) H) : rNeD K x y H Q := by
  refine neD_of hx.td hy.td rfl rfl shaped_fr shaped_fr ?_
  have e : PyData.eqv (Da.py (.tup [.int p.num, .int p.den])) (Da.py (.tup [.int q.num, .int q.den])) = decide (p = q) := by
    simp only [Da.py, Da.pys, PyData.eqv, PyData.eqvAll, Bool.and_true]
    by_cases h : p = q
    · subst h; simp
    · rw [decide_eq_false h]
      simp only [Bool.and_eq_false_iff, beq_eq_false_iff_ne, ne_eq]
      by_cases h1 : p.num = q.num
      · right; intro h2; exact h (Rat.ext h1 (Int.ofNat.inj h2))
      · left; exact h1
  rw [e]; exact k
theorem eqFr {K : PySem.W.Frag} {H : Hp} {x y : V} {p q : Rat} {Q : VK} (hx : Fr H x p) (hy : Fr H y q) (k : Q (.bl (decide (p = q))) H) : rEqD K x y H Q := by
  refine eqD_of hx.td hy.td rfl rfl shaped_fr shaped_fr ?_
  have e : PyData.eqv (Da.py (.tup [.int p.num, .int p.den])) (Da.py (.tup [.int q.num, .int q.den])) = decide (p = q) := by
    simp only [Da.py, Da.pys, PyData.eqv, PyData.eqvAll, Bool.and_true]
    by_cases h : p = q
    · subst h; simp
    · rw [decide_eq_false h]
      simp only [Bool.and_eq_false_iff, beq_eq_false_iff_ne, ne_eq]
      by_cases h1 : p.num = q.num
      · right; intro h2; exact h (Rat.ext h1 (Int.ofNat.inj h2))
      · left; exact h1
  rw [e]; exact k
end TT
namespace TT
open PySem PySem.Spec PyProof.Rows L2
theorem Same.but {p : Addr} {H H1 H2 : Hp} (hn : H p = none) (s : Same H H1) (b : But p H1 H2) : Same H H2 := fun c o h => b c o (fun z => by subst z; rw [hn] at h; cases h) (s c o h)
/-! ### loops, as they are asked -/
def Loop (J : It) (g : TG) (tb : TS) (D : Ends) (σ : L2.St) (H : Hp) : Prop := ∃ W : Nat → Nat → L2.St → Hp → Prop, (∃ m, W 0 m σ H) ∧ ∀ i m σ H, W i m σ H →
  (J.stop i H ∧ D.nx σ H) ∨ (J.go i H ∧ ∃ N : L2.St → Hp → Prop, (∀ σ' H', N σ' H' → ∃ m', m' < m ∧ W (i + 1) m' σ' H') ∧ ∀ x H', J.yld i H x H' → g x σ H' fun σ2 H2 => tb { D with nx := N, ct := N, bk := D.nx } σ2 H2)
section
variable {K : PySem.W.Frag} {ta : TA} {tl te : TE} {g : TG} {tb : TS} {tt : TT} {D : Ends} {σ : L2.St} {H : Hp} {Q : VK} {vs : List Nat}
theorem tFor_rng (h : ta σ H fun vs H1 => ∃ j : Int, vs = [.int j] ∧ -(2 ^ 62) ≤ j ∧ j < 2 ^ 62 ∧ Loop (Itr 0 j.toNat) g tb D σ H1) : tFor (iRng1 ta) g tb D σ H := h
theorem tFor_rng2 (h : ta σ H fun vs H1 => ∃ i j : Int, vs = [.int i, .int j] ∧ (-(2 ^ 62) ≤ i ∧ i < 2 ^ 62 ∧ -(2 ^ 62) ≤ j ∧ j < 2 ^ 62) ∧ Loop (Itr i (j - i).toNat) g tb D σ H1) : tFor (iRng2 ta) g tb D σ H := h
theorem tFor_list (h : tl σ H fun x H1 => ∃ a, x = .ref a ∧ (∃ xs, SqL K H1 a xs) ∧ Loop (Itl K a) g tb D σ H1) : tFor (iList K tl) g tb D σ H := h
theorem tFor_tup (h : tl σ H fun x H1 => ∃ a, x = .ref a ∧ (∃ xs, SqT K H1 a xs) ∧ Loop (Itt K a) g tb D σ H1) : tFor (iTup K tl) g tb D σ H := h
/-- a comprehension -/
def LoopC (J : It) (g : TG) (tt : TT) (te : TE) (vs : List Nat) (Q : VK) (σ : L2.St) (H1 : Hp) : Prop := ∀ D, H1 D = none → ∃ W : Nat → Nat → Hp → Prop, (∃ m, W 0 m (upd H1 D (.lst []))) ∧ ∀ i m H, W i m H →
  (J.stop i H ∧ Q (.ref D) H) ∨ (J.go i H ∧ ∃ Nx : Hp → Prop, (∀ H', Nx H' → ∃ m', m' < m ∧ W (i + 1) m' H') ∧ ∀ x H', J.yld i H x H' → g x (wipe σ vs) H' fun σ2 H2 => wipe σ2 vs = wipe σ vs ∧ tt σ2 H2 fun b H3 =>
    if b = true then te σ2 H3 fun y H4 => ∃ acc, H4 D = some (.lst acc) ∧ acc.length < sizeLine ∧ Nx (upd H4 D (.lst (acc ++ [y]))) else Nx H3)
theorem tLc_rng (h : ta σ H fun vs' H1 => ∃ j : Int, vs' = [.int j] ∧ -(2 ^ 62) ≤ j ∧ j < 2 ^ 62 ∧ LoopC (Itr 0 j.toNat) g tt te vs Q σ H1) : tLc (iRng1 ta) g tt te vs σ H Q := h
theorem tLc_list (h : tl σ H fun x H1 => ∃ a, x = .ref a ∧ (∃ xs, SqL K H1 a xs) ∧ LoopC (Itl K a) g tt te vs Q σ H1) : tLc (iList K tl) g tt te vs σ H Q := h
theorem tLc_tup (h : tl σ H fun x H1 => ∃ a, x = .ref a ∧ (∃ xs, SqT K H1 a xs) ∧ LoopC (Itt K a) g tt te vs Q σ H1) : tLc (iTup K tl) g tt te vs σ H Q := h
end
/-- a new tuple, a new list -/
theorem tup_of {H : Hp} {vs : List V} {Q : VK} (ds : List Da) (t : TdL H ds vs) (k : ∀ H' v, Same H H' → Td H' (.tup ds) v → Q v H') : ∀ p, H p = none → Q (.ref p) (upd H p (.tup vs)) := fun p hp =>
  k _ _ (same_upd hp) (td_tup upd_same (TdL.same (same_upd hp) _ _ t))
theorem lst_of {H : Hp} {vs : List V} {Q : VK} (ds : List Da) (t : TdL H ds vs) (k : ∀ H' v, Same H H' → Td H' (.lst ds) v → Q v H') : ∀ p, H p = none → Q (.ref p) (upd H p (.lst vs)) := fun p hp =>
  k _ _ (same_upd hp) (td_lst upd_same (TdL.same (same_upd hp) _ _ t))
theorem TdL.get {H : Hp} {ds : List Da} : ∀ {vs : List V} {i : Nat} {v : V}, TdL H ds vs → vs[i]? = some v → ∃ d, ds[i]? = some d ∧ Td H d v := by
  induction ds with
  | nil => intro vs i v h e; simp only [TdL] at h; subst h; simp at e
  | cons d ds ih =>
    intro vs i v h e
    simp only [TdL] at h; obtain ⟨v', r, rfl, h1, h2⟩ := h
    cases i with
    | zero => simp only [List.getElem?_cons_zero, Option.some.injEq] at e; subst e; exact ⟨d, rfl, h1⟩
    | succ i => simp only [List.getElem?_cons_succ] at e; exact ih h2 e
theorem szle0 : (0 ≤ sizeLine) = True := by simp
theorem szle1 : (1 ≤ sizeLine) = True := eq_true (by decide)
theorem szle2 : (2 ≤ sizeLine) = True := eq_true (by decide)
theorem szle3 : (3 ≤ sizeLine) = True := eq_true (by decide)
theorem szle4 : (4 ≤ sizeLine) = True := eq_true (by decide)
theorem szle5 : (5 ≤ sizeLine) = True := eq_true (by decide)
theorem szle6 : (6 ≤ sizeLine) = True := eq_true (by decide)
theorem szle8 : (8 ≤ sizeLine) = True := eq_true (by decide)
theorem szle13 : (13 ≤ sizeLine) = True := eq_true (by decide)
end TT
namespace TT
open PySem PySem.Spec PyProof.Rows L2
theorem TdL.mem {H : Hp} {ds : List Da} : ∀ {vs : List V} {v : V}, TdL H ds vs → v ∈ vs → ∃ d, d ∈ ds ∧ Td H d v := by
  induction ds with
  | nil => intro vs v h e; simp only [TdL] at h; subst h; simp at e
  | cons d ds ih =>
    intro vs v h e
    simp only [TdL] at h; obtain ⟨v', r, rfl, h1, h2⟩ := h
    rcases List.mem_cons.mp e with rfl | e
    · exact ⟨d, List.mem_cons_self, h1⟩
    · obtain ⟨d', m, t⟩ := ih h2 e; exact ⟨d', List.mem_cons_of_mem _ m, t⟩
theorem cat_of {a b : Addr} {xs ys : List V} {H : Hp} {Q : VK} (h1 : H a = some (.lst xs)) (h2 : H b = some (.lst ys)) (l : xs.length + ys.length ≤ sizeLine) (q : ∀ p, H p = none → Q (.ref p) (upd H p (.lst (xs ++ ys)))) : rCat (.ref a) (.ref b) H Q := ⟨a, b, xs, ys, rfl, rfl, h1, h2, l, q⟩
theorem rep_of {a : Addr} {k : Int} {xs : List V} {H : Hp} {Q : VK} (h1 : H a = some (.lst xs)) (l1 : -(2 ^ 63) ≤ k) (l2 : k < 2 ^ 63) (l : xs.length * k.toNat ≤ sizeLine) (q : ∀ p, H p = none → Q (.ref p) (upd H p (.lst (List.replicate k.toNat xs).flatten))) : rRep (.ref a) (.int k) H Q := ⟨a, k, xs, rfl, rfl, h1, l1, l2, l, q⟩
end TT
namespace TT
open PySem PySem.Spec PyProof.Rows L2
theorem lc_judge {f : Da → Bool} {K : PySem.W.Frag} {H : Hp} {p : Addr} {xs : List V} {ds : List Da} {σ : L2.St} {i : Nat} {Q : VK} (hp : H p = some (.tup xs)) (t : TdL H ds xs) (hl : xs.length < 100000) (hi : i < σ.length)
    (k : ∀ H' l, Same H H' → H' l = some (.lst (ds.map fun d => .bl (f d))) → Q (.ref l) H') : LoopC (Itt K p) (gName i) tYes (tCall (spJ f) [] E0 (tCons (tVar i) tNil)) [i] Q σ H := by
  intro D hD
  have e := t.len
  have nDp : p ≠ D := fun z => by subst z; rw [hp] at hD; cases hD
  refine lc_tup (fun n H' => Same H H' ∧ H' D = some (.lst ((ds.take n).map fun d => .bl (f d)))) ⟨same_upd hD, upd_same⟩ (fun i H' _ h => .inl (.inl (h.1 _ _ hp))) ?_ ?_
  · rintro n x H' hx ⟨S, hDD⟩
    obtain ⟨d, md, td⟩ := t.get hx
    have td := Td.same S _ _ td
    simp only [wipe, gName, tYes, tCall, tCons, tVar, tNil, List.append_nil, if_true]
    refine ⟨by rw [List.set_set, List.set_set], x, ?_, ?_⟩
    · rw [List.getElem?_set_self (by rw [List.length_set]; exact hi)]
    refine use_J td ?_
    refine ⟨_, hDD, ?_, ?_, ?_⟩
    · rw [List.length_map, List.length_take]
      exact Nat.lt_of_lt_of_le (show min n ds.length < 100000 by omega) (by decide)
    · exact fun b o h => by rw [upd_ne (fun z => by subst z; rw [hD] at h; cases h)]; exact S b o h
    · rw [upd_same, List.take_add_one, md]; simp
  · rintro H' ⟨S, hDD⟩
    refine k H' D S ?_
    rw [hDD, e, List.take_length]
end TT

set_option Elab.async false
set_option linter.all false
set_option maxRecDepth 100000
namespace K00
open PySem PySem.Spec PyProof.Rows L2 TT
def topS (i : Nat) : Stmt := PySem.Challenge.pw_tametrees_k00_whole_fractions.main.body.getD i (.Pass ⟨0, 0, 0, 0⟩)
abbrev s_is_whole : Stmt := topS 2
abbrev s_ratio : Stmt := topS 4
abbrev s_is_ratio : Stmt := topS 5
abbrev s_pair_of : Stmt := topS 6
abbrev s_ratio_sum : Stmt := topS 7
abbrev s_ratio_difference : Stmt := topS 8
abbrev s_ratio_product : Stmt := topS 9
abbrev s_ratio_quotient : Stmt := topS 10
abbrev s_is_integer : Stmt := topS 18
abbrev s_is_fraction : Stmt := topS 19
abbrev s_is_number : Stmt := topS 20
abbrev s_lowest : Stmt := topS 21
abbrev s_plus : Stmt := topS 22
abbrev s_minus : Stmt := topS 23
abbrev s_times : Stmt := topS 24
abbrev s_over : Stmt := topS 25
abbrev s_compare : Stmt := topS 26
abbrev s_floor_of : Stmt := topS 27
abbrev s_rest_of : Stmt := topS 28
abbrev s__pair : Stmt := topS 29
abbrev s__law_dice : Stmt := topS 31
abbrev s__law_roll : Stmt := topS 32
abbrev s__law_pick : Stmt := topS 33
abbrev s__law_near : Stmt := topS 34
abbrev s__law_gcd : Stmt := topS 35
abbrev s__law_fraction : Stmt := topS 36
abbrev s__law_fr_plus : Stmt := topS 37
abbrev s__law_fr_times : Stmt := topS 38
abbrev s__law_number_some : Stmt := topS 39
abbrev s__law_two_right : Stmt := topS 40
abbrev s__law_floor_right : Stmt := topS 41
abbrev s__law_right : Stmt := topS 42
abbrev s_law : Stmt := topS 43
theorem sc_is_whole : FnScope ["value"] ["value"] (defScope s_is_whole) := ⟨rfl, rfl, rfl, by decide +kernel, rfl, by decide +kernel, by decide +kernel⟩
theorem sc_ratio : FnScope ["top", "bottom", "shared"] ["top", "bottom"] (defScope s_ratio) := ⟨rfl, rfl, rfl, by decide +kernel, rfl, by decide +kernel, by decide +kernel⟩
theorem sc_is_ratio : FnScope ["value"] ["value"] (defScope s_is_ratio) := ⟨rfl, rfl, rfl, by decide +kernel, rfl, by decide +kernel, by decide +kernel⟩
theorem sc_pair_of : FnScope ["number"] ["number"] (defScope s_pair_of) := ⟨rfl, rfl, rfl, by decide +kernel, rfl, by decide +kernel, by decide +kernel⟩
theorem sc_ratio_sum : FnScope ["one", "other"] ["one", "other"] (defScope s_ratio_sum) := ⟨rfl, rfl, rfl, by decide +kernel, rfl, by decide +kernel, by decide +kernel⟩
theorem sc_ratio_difference : FnScope ["one", "other"] ["one", "other"] (defScope s_ratio_difference) := ⟨rfl, rfl, rfl, by decide +kernel, rfl, by decide +kernel, by decide +kernel⟩
theorem sc_ratio_product : FnScope ["one", "other"] ["one", "other"] (defScope s_ratio_product) := ⟨rfl, rfl, rfl, by decide +kernel, rfl, by decide +kernel, by decide +kernel⟩
theorem sc_ratio_quotient : FnScope ["one", "other"] ["one", "other"] (defScope s_ratio_quotient) := ⟨rfl, rfl, rfl, by decide +kernel, rfl, by decide +kernel, by decide +kernel⟩
theorem sc_is_integer : FnScope ["value"] ["value"] (defScope s_is_integer) := ⟨rfl, rfl, rfl, by decide +kernel, rfl, by decide +kernel, by decide +kernel⟩
theorem sc_is_fraction : FnScope ["value"] ["value"] (defScope s_is_fraction) := ⟨rfl, rfl, rfl, by decide +kernel, rfl, by decide +kernel, by decide +kernel⟩
theorem sc_is_number : FnScope ["value"] ["value"] (defScope s_is_number) := ⟨rfl, rfl, rfl, by decide +kernel, rfl, by decide +kernel, by decide +kernel⟩
theorem sc_lowest : FnScope ["top", "bottom"] ["top", "bottom"] (defScope s_lowest) := ⟨rfl, rfl, rfl, by decide +kernel, rfl, by decide +kernel, by decide +kernel⟩
theorem sc_plus : FnScope ["one", "other"] ["one", "other"] (defScope s_plus) := ⟨rfl, rfl, rfl, by decide +kernel, rfl, by decide +kernel, by decide +kernel⟩
theorem sc_minus : FnScope ["one", "other"] ["one", "other"] (defScope s_minus) := ⟨rfl, rfl, rfl, by decide +kernel, rfl, by decide +kernel, by decide +kernel⟩
theorem sc_times : FnScope ["one", "other"] ["one", "other"] (defScope s_times) := ⟨rfl, rfl, rfl, by decide +kernel, rfl, by decide +kernel, by decide +kernel⟩
theorem sc_over : FnScope ["one", "other", "top", "bottom"] ["one", "other"] (defScope s_over) := ⟨rfl, rfl, rfl, by decide +kernel, rfl, by decide +kernel, by decide +kernel⟩
theorem sc_compare : FnScope ["one", "other", "top", "_"] ["one", "other"] (defScope s_compare) := ⟨rfl, rfl, rfl, by decide +kernel, rfl, by decide +kernel, by decide +kernel⟩
theorem sc_floor_of : FnScope ["number", "top", "bottom"] ["number"] (defScope s_floor_of) := ⟨rfl, rfl, rfl, by decide +kernel, rfl, by decide +kernel, by decide +kernel⟩
theorem sc_rest_of : FnScope ["number", "top", "bottom"] ["number"] (defScope s_rest_of) := ⟨rfl, rfl, rfl, by decide +kernel, rfl, by decide +kernel, by decide +kernel⟩
theorem sc__pair : FnScope ["value"] ["value"] (defScope s__pair) := ⟨rfl, rfl, rfl, by decide +kernel, rfl, by decide +kernel, by decide +kernel⟩
theorem sc__law_dice : FnScope ["script", "spot", "cell", "left"] ["script", "spot"] (defScope s__law_dice) := ⟨rfl, rfl, rfl, by decide +kernel, rfl, by decide +kernel, by decide +kernel⟩
theorem sc__law_roll : FnScope ["dice", "total", "found", "one", "two"] ["dice", "total"] (defScope s__law_roll) := ⟨rfl, rfl, rfl, by decide +kernel, rfl, by decide +kernel, by decide +kernel⟩
theorem sc__law_pick : FnScope ["dice", "items"] ["dice", "items"] (defScope s__law_pick) := ⟨rfl, rfl, rfl, by decide +kernel, rfl, by decide +kernel, by decide +kernel⟩
theorem sc__law_near : FnScope ["dice", "most"] ["dice", "most"] (defScope s__law_near) := ⟨rfl, rfl, rfl, by decide +kernel, rfl, by decide +kernel, by decide +kernel⟩
theorem sc__law_gcd : FnScope ["one", "other"] ["one", "other"] (defScope s__law_gcd) := ⟨rfl, rfl, rfl, by decide +kernel, rfl, by decide +kernel, by decide +kernel⟩
theorem sc__law_fraction : FnScope ["top", "bottom", "shared"] ["top", "bottom"] (defScope s__law_fraction) := ⟨rfl, rfl, rfl, by decide +kernel, rfl, by decide +kernel, by decide +kernel⟩
theorem sc__law_fr_plus : FnScope ["one", "other"] ["one", "other"] (defScope s__law_fr_plus) := ⟨rfl, rfl, rfl, by decide +kernel, rfl, by decide +kernel, by decide +kernel⟩
theorem sc__law_fr_times : FnScope ["one", "other"] ["one", "other"] (defScope s__law_fr_times) := ⟨rfl, rfl, rfl, by decide +kernel, rfl, by decide +kernel, by decide +kernel⟩
theorem sc__law_number_some : FnScope ["dice", "most", "found"] ["dice"] (defScope s__law_number_some) := ⟨rfl, rfl, rfl, by decide +kernel, rfl, by decide +kernel, by decide +kernel⟩
theorem sc__law_two_right : FnScope ["one", "other", "total", "product", "due", "left", "right"] ["one", "other"] (defScope s__law_two_right) := ⟨rfl, rfl, rfl, by decide +kernel, rfl, by decide +kernel, by decide +kernel⟩
theorem sc__law_floor_right : FnScope ["one", "whole"] ["one"] (defScope s__law_floor_right) := ⟨rfl, rfl, rfl, by decide +kernel, rfl, by decide +kernel, by decide +kernel⟩
theorem sc__law_right : FnScope ["dice", "one", "other", "top", "bottom"] ["dice"] (defScope s__law_right) := ⟨rfl, rfl, rfl, by decide +kernel, rfl, by decide +kernel, by decide +kernel⟩
theorem sc_law : FnScope ["script", "spot", "odd", "told", "value"] ["script"] (defScope s_law) := ⟨rfl, rfl, rfl, by decide +kernel, rfl, by decide +kernel, by decide +kernel⟩
structure Txt (K : PySem.W.Frag) (mg : Str → Option Value) where
  a_is_whole : Addr
  d_is_whole : FuncData
  F_is_whole : Fun K "is_whole" "is_whole" s_is_whole a_is_whole d_is_whole
  g_is_whole : mg "is_whole" = some (.ref a_is_whole)
  b_is_whole : Binds K d_is_whole ["value"] []
  a_ratio : Addr
  d_ratio : FuncData
  F_ratio : Fun K "ratio" "ratio" s_ratio a_ratio d_ratio
  g_ratio : mg "ratio" = some (.ref a_ratio)
  b_ratio : Binds K d_ratio ["top", "bottom"] []
  a_is_ratio : Addr
  d_is_ratio : FuncData
  F_is_ratio : Fun K "is_ratio" "is_ratio" s_is_ratio a_is_ratio d_is_ratio
  g_is_ratio : mg "is_ratio" = some (.ref a_is_ratio)
  b_is_ratio : Binds K d_is_ratio ["value"] []
  a_pair_of : Addr
  d_pair_of : FuncData
  F_pair_of : Fun K "pair_of" "pair_of" s_pair_of a_pair_of d_pair_of
  g_pair_of : mg "pair_of" = some (.ref a_pair_of)
  b_pair_of : Binds K d_pair_of ["number"] []
  a_ratio_sum : Addr
  d_ratio_sum : FuncData
  F_ratio_sum : Fun K "ratio_sum" "ratio_sum" s_ratio_sum a_ratio_sum d_ratio_sum
  g_ratio_sum : mg "ratio_sum" = some (.ref a_ratio_sum)
  b_ratio_sum : Binds K d_ratio_sum ["one", "other"] []
  a_ratio_difference : Addr
  d_ratio_difference : FuncData
  F_ratio_difference : Fun K "ratio_difference" "ratio_difference" s_ratio_difference a_ratio_difference d_ratio_difference
  g_ratio_difference : mg "ratio_difference" = some (.ref a_ratio_difference)
  b_ratio_difference : Binds K d_ratio_difference ["one", "other"] []
  a_ratio_product : Addr
  d_ratio_product : FuncData
  F_ratio_product : Fun K "ratio_product" "ratio_product" s_ratio_product a_ratio_product d_ratio_product
  g_ratio_product : mg "ratio_product" = some (.ref a_ratio_product)
  b_ratio_product : Binds K d_ratio_product ["one", "other"] []
  a_ratio_quotient : Addr
  d_ratio_quotient : FuncData
  F_ratio_quotient : Fun K "ratio_quotient" "ratio_quotient" s_ratio_quotient a_ratio_quotient d_ratio_quotient
  g_ratio_quotient : mg "ratio_quotient" = some (.ref a_ratio_quotient)
  b_ratio_quotient : Binds K d_ratio_quotient ["one", "other"] []
  a_is_integer : Addr
  d_is_integer : FuncData
  F_is_integer : Fun K "is_integer" "is_integer" s_is_integer a_is_integer d_is_integer
  g_is_integer : mg "is_integer" = some (.ref a_is_integer)
  b_is_integer : Binds K d_is_integer ["value"] []
  a_is_fraction : Addr
  d_is_fraction : FuncData
  F_is_fraction : Fun K "is_fraction" "is_fraction" s_is_fraction a_is_fraction d_is_fraction
  g_is_fraction : mg "is_fraction" = some (.ref a_is_fraction)
  b_is_fraction : Binds K d_is_fraction ["value"] []
  a_is_number : Addr
  d_is_number : FuncData
  F_is_number : Fun K "is_number" "is_number" s_is_number a_is_number d_is_number
  g_is_number : mg "is_number" = some (.ref a_is_number)
  b_is_number : Binds K d_is_number ["value"] []
  a_lowest : Addr
  d_lowest : FuncData
  F_lowest : Fun K "lowest" "lowest" s_lowest a_lowest d_lowest
  g_lowest : mg "lowest" = some (.ref a_lowest)
  b_lowest : Binds K d_lowest ["top", "bottom"] []
  a_plus : Addr
  d_plus : FuncData
  F_plus : Fun K "plus" "plus" s_plus a_plus d_plus
  g_plus : mg "plus" = some (.ref a_plus)
  b_plus : Binds K d_plus ["one", "other"] []
  a_minus : Addr
  d_minus : FuncData
  F_minus : Fun K "minus" "minus" s_minus a_minus d_minus
  g_minus : mg "minus" = some (.ref a_minus)
  b_minus : Binds K d_minus ["one", "other"] []
  a_times : Addr
  d_times : FuncData
  F_times : Fun K "times" "times" s_times a_times d_times
  g_times : mg "times" = some (.ref a_times)
  b_times : Binds K d_times ["one", "other"] []
  a_over : Addr
  d_over : FuncData
  F_over : Fun K "over" "over" s_over a_over d_over
  g_over : mg "over" = some (.ref a_over)
  b_over : Binds K d_over ["one", "other"] []
  a_compare : Addr
  d_compare : FuncData
  F_compare : Fun K "compare" "compare" s_compare a_compare d_compare
  g_compare : mg "compare" = some (.ref a_compare)
  b_compare : Binds K d_compare ["one", "other"] []
  a_floor_of : Addr
  d_floor_of : FuncData
  F_floor_of : Fun K "floor_of" "floor_of" s_floor_of a_floor_of d_floor_of
  g_floor_of : mg "floor_of" = some (.ref a_floor_of)
  b_floor_of : Binds K d_floor_of ["number"] []
  a_rest_of : Addr
  d_rest_of : FuncData
  F_rest_of : Fun K "rest_of" "rest_of" s_rest_of a_rest_of d_rest_of
  g_rest_of : mg "rest_of" = some (.ref a_rest_of)
  b_rest_of : Binds K d_rest_of ["number"] []
  a__pair : Addr
  d__pair : FuncData
  F__pair : Fun K "_pair" "_pair" s__pair a__pair d__pair
  g__pair : mg "_pair" = some (.ref a__pair)
  b__pair : Binds K d__pair ["value"] []
  a__law_dice : Addr
  d__law_dice : FuncData
  F__law_dice : Fun K "_law_dice" "_law_dice" s__law_dice a__law_dice d__law_dice
  g__law_dice : mg "_law_dice" = some (.ref a__law_dice)
  b__law_dice : Binds K d__law_dice ["script", "spot"] []
  a__law_roll : Addr
  d__law_roll : FuncData
  F__law_roll : Fun K "_law_roll" "_law_roll" s__law_roll a__law_roll d__law_roll
  g__law_roll : mg "_law_roll" = some (.ref a__law_roll)
  b__law_roll : Binds K d__law_roll ["dice", "total"] []
  a__law_pick : Addr
  d__law_pick : FuncData
  F__law_pick : Fun K "_law_pick" "_law_pick" s__law_pick a__law_pick d__law_pick
  g__law_pick : mg "_law_pick" = some (.ref a__law_pick)
  b__law_pick : Binds K d__law_pick ["dice", "items"] []
  a__law_near : Addr
  d__law_near : FuncData
  F__law_near : Fun K "_law_near" "_law_near" s__law_near a__law_near d__law_near
  g__law_near : mg "_law_near" = some (.ref a__law_near)
  b__law_near : Binds K d__law_near ["dice", "most"] []
  a__law_gcd : Addr
  d__law_gcd : FuncData
  F__law_gcd : Fun K "_law_gcd" "_law_gcd" s__law_gcd a__law_gcd d__law_gcd
  g__law_gcd : mg "_law_gcd" = some (.ref a__law_gcd)
  b__law_gcd : Binds K d__law_gcd ["one", "other"] []
  a__law_fraction : Addr
  d__law_fraction : FuncData
  F__law_fraction : Fun K "_law_fraction" "_law_fraction" s__law_fraction a__law_fraction d__law_fraction
  g__law_fraction : mg "_law_fraction" = some (.ref a__law_fraction)
  b__law_fraction : Binds K d__law_fraction ["top", "bottom"] []
  a__law_fr_plus : Addr
  d__law_fr_plus : FuncData
  F__law_fr_plus : Fun K "_law_fr_plus" "_law_fr_plus" s__law_fr_plus a__law_fr_plus d__law_fr_plus
  g__law_fr_plus : mg "_law_fr_plus" = some (.ref a__law_fr_plus)
  b__law_fr_plus : Binds K d__law_fr_plus ["one", "other"] []
  a__law_fr_times : Addr
  d__law_fr_times : FuncData
  F__law_fr_times : Fun K "_law_fr_times" "_law_fr_times" s__law_fr_times a__law_fr_times d__law_fr_times
  g__law_fr_times : mg "_law_fr_times" = some (.ref a__law_fr_times)
  b__law_fr_times : Binds K d__law_fr_times ["one", "other"] []
  a__law_number_some : Addr
  d__law_number_some : FuncData
  F__law_number_some : Fun K "_law_number_some" "_law_number_some" s__law_number_some a__law_number_some d__law_number_some
  g__law_number_some : mg "_law_number_some" = some (.ref a__law_number_some)
  b__law_number_some : Binds K d__law_number_some ["dice"] []
  a__law_two_right : Addr
  d__law_two_right : FuncData
  F__law_two_right : Fun K "_law_two_right" "_law_two_right" s__law_two_right a__law_two_right d__law_two_right
  g__law_two_right : mg "_law_two_right" = some (.ref a__law_two_right)
  b__law_two_right : Binds K d__law_two_right ["one", "other"] []
  a__law_floor_right : Addr
  d__law_floor_right : FuncData
  F__law_floor_right : Fun K "_law_floor_right" "_law_floor_right" s__law_floor_right a__law_floor_right d__law_floor_right
  g__law_floor_right : mg "_law_floor_right" = some (.ref a__law_floor_right)
  b__law_floor_right : Binds K d__law_floor_right ["one"] []
  a__law_right : Addr
  d__law_right : FuncData
  F__law_right : Fun K "_law_right" "_law_right" s__law_right a__law_right d__law_right
  g__law_right : mg "_law_right" = some (.ref a__law_right)
  b__law_right : Binds K d__law_right ["dice"] []
  a_law : Addr
  d_law : FuncData
  F_law : Fun K "law" "law" s_law a_law d_law
  g_law : mg "law" = some (.ref a_law)
  b_law : Binds K d_law ["script"] []
  m_abs : mg "abs" = none
  m_bool : mg "bool" = none
  m_int : mg "int" = none
  m_isinstance : mg "isinstance" = none
  m_len : mg "len" = none
  m_max : mg "max" = none
  m_min : mg "min" = none
  m_range : mg "range" = none
  m_tuple : mg "tuple" = none
  t__TOO_LONG : Tok
  m__TOO_LONG : mg "_TOO_LONG" = some (.int (1000000000000000000000000000000000000000000000000000000000000) t__TOO_LONG)
  g_gcd : mg "gcd" = some (.builtin "math.gcd")
theorem Txt.k_is_whole {K : PySem.W.Frag} {mg : Str → Option Value} (T : Txt K mg) : PySem.W.keepIn K (.ref T.a_is_whole) = true := T.F_is_whole.kp
theorem Txt.k_ratio {K : PySem.W.Frag} {mg : Str → Option Value} (T : Txt K mg) : PySem.W.keepIn K (.ref T.a_ratio) = true := T.F_ratio.kp
theorem Txt.k_is_ratio {K : PySem.W.Frag} {mg : Str → Option Value} (T : Txt K mg) : PySem.W.keepIn K (.ref T.a_is_ratio) = true := T.F_is_ratio.kp
theorem Txt.k_pair_of {K : PySem.W.Frag} {mg : Str → Option Value} (T : Txt K mg) : PySem.W.keepIn K (.ref T.a_pair_of) = true := T.F_pair_of.kp
theorem Txt.k_ratio_sum {K : PySem.W.Frag} {mg : Str → Option Value} (T : Txt K mg) : PySem.W.keepIn K (.ref T.a_ratio_sum) = true := T.F_ratio_sum.kp
theorem Txt.k_ratio_difference {K : PySem.W.Frag} {mg : Str → Option Value} (T : Txt K mg) : PySem.W.keepIn K (.ref T.a_ratio_difference) = true := T.F_ratio_difference.kp
theorem Txt.k_ratio_product {K : PySem.W.Frag} {mg : Str → Option Value} (T : Txt K mg) : PySem.W.keepIn K (.ref T.a_ratio_product) = true := T.F_ratio_product.kp
theorem Txt.k_ratio_quotient {K : PySem.W.Frag} {mg : Str → Option Value} (T : Txt K mg) : PySem.W.keepIn K (.ref T.a_ratio_quotient) = true := T.F_ratio_quotient.kp
theorem Txt.k_is_integer {K : PySem.W.Frag} {mg : Str → Option Value} (T : Txt K mg) : PySem.W.keepIn K (.ref T.a_is_integer) = true := T.F_is_integer.kp
theorem Txt.k_is_fraction {K : PySem.W.Frag} {mg : Str → Option Value} (T : Txt K mg) : PySem.W.keepIn K (.ref T.a_is_fraction) = true := T.F_is_fraction.kp
theorem Txt.k_is_number {K : PySem.W.Frag} {mg : Str → Option Value} (T : Txt K mg) : PySem.W.keepIn K (.ref T.a_is_number) = true := T.F_is_number.kp
theorem Txt.k_lowest {K : PySem.W.Frag} {mg : Str → Option Value} (T : Txt K mg) : PySem.W.keepIn K (.ref T.a_lowest) = true := T.F_lowest.kp
theorem Txt.k_plus {K : PySem.W.Frag} {mg : Str → Option Value} (T : Txt K mg) : PySem.W.keepIn K (.ref T.a_plus) = true := T.F_plus.kp
theorem Txt.k_minus {K : PySem.W.Frag} {mg : Str → Option Value} (T : Txt K mg) : PySem.W.keepIn K (.ref T.a_minus) = true := T.F_minus.kp
theorem Txt.k_times {K : PySem.W.Frag} {mg : Str → Option Value} (T : Txt K mg) : PySem.W.keepIn K (.ref T.a_times) = true := T.F_times.kp
theorem Txt.k_over {K : PySem.W.Frag} {mg : Str → Option Value} (T : Txt K mg) : PySem.W.keepIn K (.ref T.a_over) = true := T.F_over.kp
theorem Txt.k_compare {K : PySem.W.Frag} {mg : Str → Option Value} (T : Txt K mg) : PySem.W.keepIn K (.ref T.a_compare) = true := T.F_compare.kp
theorem Txt.k_floor_of {K : PySem.W.Frag} {mg : Str → Option Value} (T : Txt K mg) : PySem.W.keepIn K (.ref T.a_floor_of) = true := T.F_floor_of.kp
theorem Txt.k_rest_of {K : PySem.W.Frag} {mg : Str → Option Value} (T : Txt K mg) : PySem.W.keepIn K (.ref T.a_rest_of) = true := T.F_rest_of.kp
theorem Txt.k__pair {K : PySem.W.Frag} {mg : Str → Option Value} (T : Txt K mg) : PySem.W.keepIn K (.ref T.a__pair) = true := T.F__pair.kp
theorem Txt.k__law_dice {K : PySem.W.Frag} {mg : Str → Option Value} (T : Txt K mg) : PySem.W.keepIn K (.ref T.a__law_dice) = true := T.F__law_dice.kp
theorem Txt.k__law_roll {K : PySem.W.Frag} {mg : Str → Option Value} (T : Txt K mg) : PySem.W.keepIn K (.ref T.a__law_roll) = true := T.F__law_roll.kp
theorem Txt.k__law_pick {K : PySem.W.Frag} {mg : Str → Option Value} (T : Txt K mg) : PySem.W.keepIn K (.ref T.a__law_pick) = true := T.F__law_pick.kp
theorem Txt.k__law_near {K : PySem.W.Frag} {mg : Str → Option Value} (T : Txt K mg) : PySem.W.keepIn K (.ref T.a__law_near) = true := T.F__law_near.kp
theorem Txt.k__law_gcd {K : PySem.W.Frag} {mg : Str → Option Value} (T : Txt K mg) : PySem.W.keepIn K (.ref T.a__law_gcd) = true := T.F__law_gcd.kp
theorem Txt.k__law_fraction {K : PySem.W.Frag} {mg : Str → Option Value} (T : Txt K mg) : PySem.W.keepIn K (.ref T.a__law_fraction) = true := T.F__law_fraction.kp
theorem Txt.k__law_fr_plus {K : PySem.W.Frag} {mg : Str → Option Value} (T : Txt K mg) : PySem.W.keepIn K (.ref T.a__law_fr_plus) = true := T.F__law_fr_plus.kp
theorem Txt.k__law_fr_times {K : PySem.W.Frag} {mg : Str → Option Value} (T : Txt K mg) : PySem.W.keepIn K (.ref T.a__law_fr_times) = true := T.F__law_fr_times.kp
theorem Txt.k__law_number_some {K : PySem.W.Frag} {mg : Str → Option Value} (T : Txt K mg) : PySem.W.keepIn K (.ref T.a__law_number_some) = true := T.F__law_number_some.kp
theorem Txt.k__law_two_right {K : PySem.W.Frag} {mg : Str → Option Value} (T : Txt K mg) : PySem.W.keepIn K (.ref T.a__law_two_right) = true := T.F__law_two_right.kp
theorem Txt.k__law_floor_right {K : PySem.W.Frag} {mg : Str → Option Value} (T : Txt K mg) : PySem.W.keepIn K (.ref T.a__law_floor_right) = true := T.F__law_floor_right.kp
theorem Txt.k__law_right {K : PySem.W.Frag} {mg : Str → Option Value} (T : Txt K mg) : PySem.W.keepIn K (.ref T.a__law_right) = true := T.F__law_right.kp
theorem Txt.k_law {K : PySem.W.Frag} {mg : Str → Option Value} (T : Txt K mg) : PySem.W.keepIn K (.ref T.a_law) = true := T.F_law.kp
end K00

set_option Elab.async false
set_option linter.all false
set_option maxRecDepth 100000
namespace K00
open PySem PySem.Spec PyProof.Rows L2 TT
local macro_rules | `(tactic| walk_at "ev") => `(tactic| simp only [L2.start, tRet, tRetN, tSeq, tNext, tNever, tDrop, tIfS, tAsg, tPar, gName, tVar, tC, tOp, tUn, tTest, tB, tAnd, tOr, tNot, tAndV, tOrV, tNotV, tIf, tChain, tCons, tNil, tTup, tLst, tCB, tCall, rI0, rI, rU, rEq, rNe, rGcd, scal, gNil, gCons, gSub, Int.zero_sub,
  List.length_cons, List.length_nil, List.map_cons, List.map_nil, List.replicate, List.cons_append, List.nil_append, List.append_nil, List.set_cons_zero, List.set_cons_succ, List.set_nil, List.getElem?_cons_zero, List.getElem?_cons_succ, List.getElem?_nil, List.drop_zero, List.drop_succ_cons, List.drop_nil, List.length_drop,
  Option.some.injEq, V.int.injEq, V.bl.injEq, V.ref.injEq, List.cons.injEq, and_true, true_and, and_assoc, exists_and_left, exists_and_right, exists_eq_left, exists_eq_left', exists_eq', exists_eq, if_true, if_false, Bool.false_eq_true, ite_true, ite_false, eq_self, reduceCtorEq, false_and, and_false, exists_false, exists_const, or_false, false_or, Bool.true_and, Bool.false_and, Bool.and_true, Bool.and_false, decide_eq_true_eq, Bool.not_true, Bool.not_false, Bool.not_not, Nat.reduceAdd, Int.reduceNeg, Int.reduceToNat, Int.reducePow, Int.cast_ofNat_Int, Int.reduceEq, Int.reduceLT, Int.reduceLE, Int.reduceAdd, Int.reduceMul, Int.reduceSub, decide_true, decide_false, Bool.not_eq_true', decide_eq_false_iff_not, not_false_eq_true, not_true_eq_false])
local macro_rules | `(tactic| walk_at "go") => `(tactic| repeat (first | walk_at "ev" | (refine isi_int (by assumption) ?_) | (refine isi_bool (by assumption) ?_) | (refine isi_tup (by assumption) ?_) | (refine use_J (by assumption) ?_) | (refine ixT_of (by assumption) rfl ?_) | (refine ixL_of (by assumption) rfl ?_) | (refine lenT_of (by assumption) ?_) | (refine lenL_of (by assumption) ?_) | (refine gtup_of (by assumption) rfl ?_) | (refine ⟨cmul (by assumption) (by assumption) (by decide), ?_⟩) | (refine ⟨Or.inl (by decide), ?_⟩) | (refine ⟨Or.inr (by decide), ?_⟩) | (refine ixL_of upd_same rfl ?_) | (refine setL_of (by assumption) (by rfl) ?_)))

section
variable {P : Program} {w : World} {K : PySem.W.Frag} {mg : Str → Option Value} {base : Heap}
theorem len_J {f : Da → Bool} : ∀ vs H Q E, spJ f vs H Q E → vs.length = 1 := fun vs H Q E h => by
  obtain ⟨x, d, rfl, _⟩ := h
  rfl
theorem ok_is_whole (T : Txt K mg) : FnOk P w K mg base CX0 1 T.a_is_whole T.d_is_whole ["value"] (spJ isWhole) := by
  refine T.F_is_whole.ok sc_is_whole len_J (fun cdv A outer s H vs Q E hr h => ⟨_, (pss_one (ps_ret (pe_and (pe_callB call_isi (by rfl) T.m_isinstance bt_isinstance (pa_cons (pv 0) (pa_cons (pe_bltn (v := V.ty "int") (by rfl) T.m_int bt_int rfl) pa_nil))) (pe_one (pe_not (pe_callB call_isi (by rfl) T.m_isinstance bt_isinstance (pa_cons (pv 0) (pa_cons (pe_bltn (v := V.ty "bool") (by rfl) T.m_bool bt_bool rfl) pa_nil)))))))), ?_⟩)
  obtain ⟨x, d, rfl, ty, q⟩ := h
  walk_at "go"
  cases d <;> simp only [Da.isInt] <;> walk_at "go" <;> exact q
def sp_ratio : Sp := fun vs H Q _ => ∃ t b, vs = [.int t, .int b] ∧ b ≠ 0 ∧ B 1000 b ∧ ∀ H' v, Same H H' → Fr H' v (Rat.divInt t b) → Q v H'
theorem ok_ratio (T : Txt K mg) : FnOk P w K mg base CX0 1 T.a_ratio T.d_ratio ["top", "bottom"] sp_ratio := by
  refine T.F_ratio.ok sc_ratio (fun vs H Q E h => ?_) (fun cdv A outer s H vs Q E hr h => ⟨_, (pss_cons (ps_set (i := 2) sc_ratio.nd rfl (Or.inl rfl) (pe_callBfun cr_gcd (by rfl) T.g_gcd (pa_cons (pv 0) (pa_cons (pv 1) pa_nil))))
      (pss_cons (ps_if (pt_cmpR op_lt (pv 1) pe_int (nomark _)) (pss_one (ps_set (i := 2) sc_ratio.nd rfl (Or.inl rfl) (pe_un un_neg (pv 2)))) pss_nil)
      (pss_one (ps_ret (pe_tup (pa_cons (pe_op op_fdivNW (pv 0) (pv 2)) (pa_cons (pe_op op_fdivNW (pv 1) (pv 2)) pa_nil))))))), ?_⟩)
  · obtain ⟨t, b, rfl, _⟩ := h
    rfl
  · obtain ⟨t, b, rfl, h0, hb, q⟩ := h
    walk_at "go"
    have e1 := fdiv_gcd_num t b h0
    have e2 := fdiv_gcd_den t b h0
    have hg : ((Nat.gcd t.natAbs b.natAbs : Nat) : Int) ≠ 0 := by
      intro h; have := Nat.gcd_eq_zero_iff.mp (Int.ofNat.inj h); omega
    have hB : B 1000 ((Nat.gcd t.natAbs b.natAbs : Nat) : Int) := by
      refine Nat.lt_of_le_of_lt ?_ hb
      exact Nat.le_of_dvd (by omega) (Nat.gcd_dvd_right _ _)
    by_cases h : b < 0
    · rw [if_pos h] at e1 e2 ⊢
      refine ⟨cdiv (by omega) hB.neg (by decide), cdiv (by omega) hB.neg (by decide), size2, fun p hp => q _ _ (same_upd hp) (Fr.upd e1 e2)⟩
    · rw [if_neg h] at e1 e2 ⊢
      refine ⟨cdiv (by omega) hB (by decide), cdiv (by omega) hB (by decide), size2, fun p hp => q _ _ (same_upd hp) (Fr.upd e1 e2)⟩
theorem isRatio_long {a b c : Da} {r : List Da} : isRatio (.tup (a :: b :: c :: r)) = false := by
  unfold isRatio; split
  · rename_i h; simp at h
  · rfl
theorem isWhole_int {d : Da} (h : isWhole d = true) : ∃ i, d = .int i := by
  cases d <;> simp [isWhole] at h ⊢
theorem ok_is_ratio (T : Txt K mg) : FnOk P w K mg base CX0 2 T.a_is_ratio T.d_is_ratio ["value"] (spJ isRatio) := by
  have G_is_whole := ok_is_whole (P := P) (w := w) (base := base) T
  refine T.F_is_ratio.ok sc_is_ratio len_J (fun cdv A outer s H vs Q E hr h => ⟨_, (pss_cons (ps_if (PW.pt (pw_or (pt_not (pt_val (pe_callB call_isi (by rfl) T.m_isinstance bt_isinstance (pa_cons (pv 0) (pa_cons (pe_bltn (v := V.ty "tuple") (by rfl) T.m_tuple bt_tuple rfl) pa_nil))))) (pw_or1 (pt_cmpR op_ne (pe_callB call_lenN (by rfl) T.m_len bt_len (pa_cons (pv 0) pa_nil)) pe_int (nomark _))))) (pss_one (ps_ret pe_bl)) pss_nil)
      (pss_cons (ps_if (PW.pt (pw_or (pt_not (pt_val (pe_call (G_is_whole.mono (by decide)) hr (by rfl) T.g_is_whole T.k_is_whole T.b_is_whole .nil pass0 (pa_cons (pe_ix ix_tup (pv 0) pe_int (fun _ _ => rfl)) pa_nil)))) (pw_or1 (pt_not (pt_val (pe_call (G_is_whole.mono (by decide)) hr (by rfl) T.g_is_whole T.k_is_whole T.b_is_whole .nil pass0 (pa_cons (pe_ix ix_tup (pv 0) pe_int (fun _ _ => rfl)) pa_nil))))))) (pss_one (ps_ret pe_bl)) pss_nil)
      (pss_one (ps_ret (pe_and (pe_cmpR op_gt (pe_ix ix_tup (pv 0) pe_int (fun _ _ => rfl)) pe_int (nomark _)) (pe_one (pe_cmpR op_eq (pe_callBfun cr_gcd (by rfl) T.g_gcd (pa_cons (pe_ix ix_tup (pv 0) pe_int (fun _ _ => rfl)) (pa_cons (pe_ix ix_tup (pv 0) pe_int (fun _ _ => rfl)) pa_nil))) pe_int (nomark _)))))))), ?_⟩)
  obtain ⟨x, d, rfl, ty, q⟩ := h
  walk_at "go"
  cases d with
  | tup ds =>
    simp only [Da.isTup]
    walk_at "go"
    simp only [Td] at ty
    obtain ⟨p, vs, rfl, hp, hv⟩ := ty
    match ds, hv with
    | [], hv =>
      simp only [TdL] at hv; subst hv
      walk_at "go"
      exact q
    | [a], hv =>
      simp only [TdL] at hv
      obtain ⟨va, _, rfl, ha, rfl⟩ := hv
      walk_at "go"
      have e : isRatio (.tup [a]) = false := by cases a <;> rfl
      rw [e] at q
      exact q
    | [a, b], hv =>
      simp only [TdL] at hv
      obtain ⟨va, _, rfl, ha, vb, _, rfl, hb, rfl⟩ := hv
      walk_at "go"
      cases hwa : isWhole a with
      | false =>
        walk_at "go"
        have e : isRatio (.tup [a, b]) = false := by cases a <;> first | rfl | (simp only [isWhole] at hwa; cases hwa)
        rw [e] at q; exact q
      | true => ?_
      walk_at "go"
      cases hwb : isWhole b with
      | false =>
        walk_at "go"
        have e : isRatio (.tup [a, b]) = false := by cases a <;> cases b <;> first | rfl | (simp only [isWhole] at hwb; cases hwb)
        rw [e] at q; exact q
      | true => ?_
      obtain ⟨a, rfl⟩ := isWhole_int hwa
      obtain ⟨b, rfl⟩ := isWhole_int hwb
      simp only [Td] at ha hb
      subst ha hb
      walk_at "go"
      simp only [isRatio] at q
      by_cases h : 0 < b
      · rw [if_pos h]; rw [decide_eq_true h] at q; walk_at "go"; exact q
      · rw [if_neg h]; rw [decide_eq_false h] at q; exact q
    | a :: b :: c :: r, hv =>
      simp only [TdL] at hv
      obtain ⟨va, _, rfl, ha, vb, _, rfl, hb, vc, vr, rfl, hc, hr'⟩ := hv
      walk_at "go"
      rw [if_pos (by omega)]
      rw [isRatio_long] at q
      exact q
  | _ =>
    simp only [Da.isTup]
    walk_at "go"
    exact q
def spNu : Sp := fun vs H Q _ => ∃ x q, vs = [x] ∧ Nu H x q ∧ B 60 q.num ∧ B 60 q.den ∧ ∀ H' v, Same H H' → Fr H' v q → Q v H'
theorem ok_pair_of (T : Txt K mg) : FnOk P w K mg base CX0 1 T.a_pair_of T.d_pair_of ["number"] spNu := by
  refine T.F_pair_of.ok sc_pair_of (fun vs H Q E h => ?_) (fun cdv A outer s H vs Q E hr h => ⟨_, (pss_cons (ps_if (pt_val (pe_callB call_isi (by rfl) T.m_isinstance bt_isinstance (pa_cons (pv 0) (pa_cons (pe_bltn (v := V.ty "tuple") (by rfl) T.m_tuple bt_tuple rfl) pa_nil)))) (pss_one (ps_ret (pv 0))) pss_nil)
      (pss_one (ps_ret (pe_tup (pa_cons (pv 0) (pa_cons pe_int pa_nil)))))), ?_⟩)
  · obtain ⟨x, q, rfl, _⟩ := h
    rfl
  · obtain ⟨x, q, rfl, hx, b1, b2, k⟩ := h
    obtain ⟨d, td, ⟨rfl, h1, rfl⟩ | ⟨rfl, hf⟩⟩ := hx.td
    · walk_at "go"
      simp only [Da.isTup]
      walk_at "go"
      exact ⟨size2, fun p hp => k _ _ (same_upd hp) (Fr.upd rfl (by rw [h1]; rfl))⟩
    · walk_at "go"
      simp only [Da.isTup]
      walk_at "go"
      exact k _ _ (Same.refl H) hf
/-- two fractions -/
def sp2 (C : Rat → Rat → Prop) (f : Rat → Rat → Rat) : Sp := fun vs H Q _ => ∃ x y p q, vs = [x, y] ∧ Fr H x p ∧ Fr H y q ∧ C p q ∧ B 100 p.num ∧ B 100 p.den ∧ B 100 q.num ∧ B 100 q.den ∧ ∀ H' v, Same H H' → Fr H' v (f p q) → Q v H'
theorem len_2 {C : Rat → Rat → Prop} {f : Rat → Rat → Rat} : ∀ vs H Q E, sp2 C f vs H Q E → vs.length = 2 := fun vs H Q E h => by
  obtain ⟨x, y, p, q, rfl, _⟩ := h
  rfl
theorem den_ne (q : Rat) : (q.den : Int) ≠ 0 := by have := q.den_nz; omega
theorem ok_ratio_sum (T : Txt K mg) : FnOk P w K mg base CX0 2 T.a_ratio_sum T.d_ratio_sum ["one", "other"] (sp2 (fun _ _ => True) fun p q => p + q) := by
  have G_ratio := ok_ratio (P := P) (w := w) (base := base) T
  refine T.F_ratio_sum.ok sc_ratio_sum len_2 (fun cdv A outer s H vs Q E hr h => ⟨_, (pss_one (ps_ret (pe_call (G_ratio.mono (by decide)) hr (by rfl) T.g_ratio T.k_ratio T.b_ratio .nil pass0 (pa_cons (pe_op op_add (pe_op op_mulW (pe_ix ix_tup (pv 0) pe_int (fun _ _ => rfl)) (pe_ix ix_tup (pv 1) pe_int (fun _ _ => rfl))) (pe_op op_mulW (pe_ix ix_tup (pv 1) pe_int (fun _ _ => rfl)) (pe_ix ix_tup (pv 0) pe_int (fun _ _ => rfl)))) (pa_cons (pe_op op_mulW (pe_ix ix_tup (pv 0) pe_int (fun _ _ => rfl)) (pe_ix ix_tup (pv 1) pe_int (fun _ _ => rfl))) pa_nil))))), ?_⟩)
  obtain ⟨x, y, p, q, rfl, ⟨a, rfl, ha⟩, ⟨b, rfl, hb⟩, _, b1, b2, b3, b4, k⟩ := h
  walk_at "go"
  refine ⟨_, _, rfl, Int.mul_ne_zero (den_ne p) (den_ne q), (b2.mul b4).mono (by decide), fun H' v s f => k H' v s ?_⟩
  have e : p + q = Rat.divInt (p.num * q.den + q.num * p.den) (p.den * q.den) := by
    have := Rat.divInt_add_divInt p.num q.num (den_ne p) (den_ne q)
    rw [Rat.num_divInt_den, Rat.num_divInt_den] at this
    exact this
  dsimp only; rw [e]; exact f
theorem ok_ratio_difference (T : Txt K mg) : FnOk P w K mg base CX0 2 T.a_ratio_difference T.d_ratio_difference ["one", "other"] (sp2 (fun _ _ => True) fun p q => p - q) := by
  have G_ratio := ok_ratio (P := P) (w := w) (base := base) T
  refine T.F_ratio_difference.ok sc_ratio_difference len_2 (fun cdv A outer s H vs Q E hr h => ⟨_, (pss_one (ps_ret (pe_call (G_ratio.mono (by decide)) hr (by rfl) T.g_ratio T.k_ratio T.b_ratio .nil pass0 (pa_cons (pe_op op_sub (pe_op op_mulW (pe_ix ix_tup (pv 0) pe_int (fun _ _ => rfl)) (pe_ix ix_tup (pv 1) pe_int (fun _ _ => rfl))) (pe_op op_mulW (pe_ix ix_tup (pv 1) pe_int (fun _ _ => rfl)) (pe_ix ix_tup (pv 0) pe_int (fun _ _ => rfl)))) (pa_cons (pe_op op_mulW (pe_ix ix_tup (pv 0) pe_int (fun _ _ => rfl)) (pe_ix ix_tup (pv 1) pe_int (fun _ _ => rfl))) pa_nil))))), ?_⟩)
  obtain ⟨x, y, p, q, rfl, ⟨a, rfl, ha⟩, ⟨b, rfl, hb⟩, _, b1, b2, b3, b4, k⟩ := h
  walk_at "go"
  refine ⟨_, _, rfl, Int.mul_ne_zero (den_ne p) (den_ne q), (b2.mul b4).mono (by decide), fun H' v s f => k H' v s ?_⟩
  have e : p - q = Rat.divInt (p.num * q.den - q.num * p.den) (p.den * q.den) := by
    have := Rat.divInt_sub_divInt p.num q.num (den_ne p) (den_ne q)
    rw [Rat.num_divInt_den, Rat.num_divInt_den] at this
    exact this
  dsimp only; rw [e]; exact f
theorem ok_ratio_product (T : Txt K mg) : FnOk P w K mg base CX0 2 T.a_ratio_product T.d_ratio_product ["one", "other"] (sp2 (fun _ _ => True) fun p q => p * q) := by
  have G_ratio := ok_ratio (P := P) (w := w) (base := base) T
  refine T.F_ratio_product.ok sc_ratio_product len_2 (fun cdv A outer s H vs Q E hr h => ⟨_, (pss_one (ps_ret (pe_call (G_ratio.mono (by decide)) hr (by rfl) T.g_ratio T.k_ratio T.b_ratio .nil pass0 (pa_cons (pe_op op_mulW (pe_ix ix_tup (pv 0) pe_int (fun _ _ => rfl)) (pe_ix ix_tup (pv 1) pe_int (fun _ _ => rfl))) (pa_cons (pe_op op_mulW (pe_ix ix_tup (pv 0) pe_int (fun _ _ => rfl)) (pe_ix ix_tup (pv 1) pe_int (fun _ _ => rfl))) pa_nil))))), ?_⟩)
  obtain ⟨x, y, p, q, rfl, ⟨a, rfl, ha⟩, ⟨b, rfl, hb⟩, _, b1, b2, b3, b4, k⟩ := h
  walk_at "go"
  refine ⟨_, _, rfl, Int.mul_ne_zero (den_ne p) (den_ne q), (b2.mul b4).mono (by decide), fun H' v s f => k H' v s ?_⟩
  have e : p * q = Rat.divInt (p.num * q.num) (p.den * q.den) := by
    have := Rat.divInt_mul_divInt p.num q.num (d₁ := p.den) (d₂ := q.den)
    rw [Rat.num_divInt_den, Rat.num_divInt_den] at this
    exact this
  dsimp only; rw [e]; exact f
theorem ok_ratio_quotient (T : Txt K mg) : FnOk P w K mg base CX0 2 T.a_ratio_quotient T.d_ratio_quotient ["one", "other"] (sp2 (fun _ q => q ≠ 0) fun p q => p / q) := by
  have G_ratio := ok_ratio (P := P) (w := w) (base := base) T
  refine T.F_ratio_quotient.ok sc_ratio_quotient len_2 (fun cdv A outer s H vs Q E hr h => ⟨_, (pss_one (ps_ret (pe_call (G_ratio.mono (by decide)) hr (by rfl) T.g_ratio T.k_ratio T.b_ratio .nil pass0 (pa_cons (pe_op op_mulW (pe_ix ix_tup (pv 0) pe_int (fun _ _ => rfl)) (pe_ix ix_tup (pv 1) pe_int (fun _ _ => rfl))) (pa_cons (pe_op op_mulW (pe_ix ix_tup (pv 0) pe_int (fun _ _ => rfl)) (pe_ix ix_tup (pv 1) pe_int (fun _ _ => rfl))) pa_nil))))), ?_⟩)
  obtain ⟨x, y, p, q, rfl, ⟨a, rfl, ha⟩, ⟨b, rfl, hb⟩, q0, b1, b2, b3, b4, k⟩ := h
  walk_at "go"
  have n0 : q.num ≠ 0 := fun h => q0 (Rat.num_eq_zero.mp h)
  refine ⟨_, _, rfl, Int.mul_ne_zero (den_ne p) n0, (b2.mul b3).mono (by decide), fun H' v s f => k H' v s ?_⟩
  have e : p / q = Rat.divInt (p.num * q.den) (p.den * q.num) := by
    have := Rat.divInt_mul_divInt p.num q.den (d₁ := p.den) (d₂ := q.num)
    rw [Rat.num_divInt_den] at this
    rw [Rat.div_def, Rat.inv_def]
    exact this
  dsimp only; rw [e]; exact f
theorem ok_is_integer (T : Txt K mg) : FnOk P w K mg base CX0 2 T.a_is_integer T.d_is_integer ["value"] (spJ isInteger) := by
  have G_is_whole := ok_is_whole (P := P) (w := w) (base := base) T
  refine T.F_is_integer.ok sc_is_integer len_J (fun cdv A outer s H vs Q E hr h => ⟨_, (pss_one (ps_ret (pe_and (pe_call (G_is_whole.mono (by decide)) hr (by rfl) T.g_is_whole T.k_is_whole T.b_is_whole .nil pass0 (pa_cons (pv 0) pa_nil)) (pe_one (pe_chain op_lt op_lt (pe_un un_neg (pe_glob (v := V.int (1000000000000000000000000000000000000000000000000000000000000)) rfl T.m__TOO_LONG ⟨_, rfl⟩)) (pv 0) (pe_glob (v := V.int (1000000000000000000000000000000000000000000000000000000000000)) rfl T.m__TOO_LONG ⟨_, rfl⟩)))))), ?_⟩)
  obtain ⟨x, d, rfl, ty, q⟩ := h
  walk_at "go"
  cases d <;> simp only [isWhole] <;> walk_at "go" <;> first | exact q | skip
  rename_i i
  simp only [Td] at ty
  subst ty
  walk_at "go"
  simp only [isInteger] at q
  split
  · rename_i h; rw [decide_eq_true h] at q; exact q
  · rename_i h; rw [decide_eq_false h] at q; exact q
theorem isFraction_no {d : Da} (h : isRatio d = false) : isFraction d = false := by
  unfold isFraction; split
  · rw [h]; rfl
  · rfl
theorem isRatio_yes {d : Da} (h : isRatio d = true) : ∃ a b, d = .tup [.int a, .int b] := by
  unfold isRatio at h; split at h
  · exact ⟨_, _, rfl⟩
  · cases h
theorem ok_is_fraction (T : Txt K mg) : FnOk P w K mg base CX0 3 T.a_is_fraction T.d_is_fraction ["value"] (spJ isFraction) := by
  have G_is_ratio := ok_is_ratio (P := P) (w := w) (base := base) T
  have G_is_integer := ok_is_integer (P := P) (w := w) (base := base) T
  refine T.F_is_fraction.ok sc_is_fraction len_J (fun cdv A outer s H vs Q E hr h => ⟨_, (pss_one (ps_ret (pe_and (pe_call (G_is_ratio.mono (by decide)) hr (by rfl) T.g_is_ratio T.k_is_ratio T.b_is_ratio .nil pass0 (pa_cons (pv 0) pa_nil)) (pe_and (pe_call (G_is_integer.mono (by decide)) hr (by rfl) T.g_is_integer T.k_is_integer T.b_is_integer .nil pass0 (pa_cons (pe_ix ix_tup (pv 0) pe_int (fun _ _ => rfl)) pa_nil)) (pe_one (pe_call (G_is_integer.mono (by decide)) hr (by rfl) T.g_is_integer T.k_is_integer T.b_is_integer .nil pass0 (pa_cons (pe_ix ix_tup (pv 0) pe_int (fun _ _ => rfl)) pa_nil))))))), ?_⟩)
  obtain ⟨x, d, rfl, ty, q⟩ := h
  walk_at "go"
  cases h : isRatio d with
  | false => walk_at "go"; rw [isFraction_no h] at q; exact q
  | true =>
    walk_at "go"
    obtain ⟨a, b, rfl⟩ := isRatio_yes h
    simp only [Td, TdL] at ty
    obtain ⟨p, _, rfl, hp, _, _, rfl, rfl, _, _, rfl, rfl, rfl⟩ := ty
    simp only [isFraction, h] at q
    have t1 := td_int (H := H) (i := a)
    have t2 := td_int (H := H) (i := b)
    walk_at "go"
    cases h1 : isInteger (.int a) <;> rw [h1] at q <;> walk_at "go" <;> exact q
theorem ok_is_number (T : Txt K mg) : FnOk P w K mg base CX0 4 T.a_is_number T.d_is_number ["value"] (spJ isNumber) := by
  have G_is_fraction := ok_is_fraction (P := P) (w := w) (base := base) T
  have G_is_integer := ok_is_integer (P := P) (w := w) (base := base) T
  refine T.F_is_number.ok sc_is_number len_J (fun cdv A outer s H vs Q E hr h => ⟨_, (pss_one (ps_ret (pe_or (pe_call (G_is_integer.mono (by decide)) hr (by rfl) T.g_is_integer T.k_is_integer T.b_is_integer .nil pass0 (pa_cons (pv 0) pa_nil)) (pe_one (pe_call (G_is_fraction.mono (by decide)) hr (by rfl) T.g_is_fraction T.k_is_fraction T.b_is_fraction .nil pass0 (pa_cons (pv 0) pa_nil)))))), ?_⟩)
  obtain ⟨x, d, rfl, ty, q⟩ := h
  walk_at "go"
  simp only [isNumber] at q
  cases h1 : isInteger d <;> rw [h1] at q <;> walk_at "go" <;> exact q
theorem B60 {x : Int} (h : B 60 x) : isInteger (.int x) = true := by
  unfold B at h
  simp only [isInteger, Bool.and_eq_true, decide_eq_true_eq]
  omega
theorem low_gcd (q : Rat) : isRatio (.tup [.int q.num, .int q.den]) = true := by
  simp only [isRatio, Bool.and_eq_true, decide_eq_true_eq]
  refine ⟨by have := q.den_nz; omega, ?_⟩
  have := q.reduced
  unfold Nat.Coprime at this
  rw [Int.natAbs_natCast, this]; rfl
theorem fr_number {q : Rat} (b1 : B 60 q.num) (b2 : B 60 q.den) : isFraction (.tup [.int q.num, .int q.den]) = true := by
  simp only [isFraction, low_gcd, B60 b1, B60 b2, Bool.and_self]
theorem nu_number {H : Hp} {x : V} {q : Rat} (h : Nu H x q) (b1 : B 60 q.num) (b2 : B 60 q.den) : ∃ d, Td H d x ∧ isNumber d = true := by
  obtain ⟨d, td, ⟨rfl, _, rfl⟩ | ⟨rfl, hf⟩⟩ := h.td
  · exact ⟨_, td, by simp only [isNumber, B60 b1, Bool.true_or]⟩
  · exact ⟨_, td, by simp only [isNumber, fr_number b1 b2, Bool.or_true]⟩
theorem len_Nu : ∀ vs H Q E, spNu vs H Q E → vs.length = 1 := fun vs H Q E h => by
  obtain ⟨x, q, rfl, _⟩ := h
  rfl
theorem ok__pair (T : Txt K mg) : FnOk P w K mg base CX0 5 T.a__pair T.d__pair ["value"] spNu := by
  have G_is_number := ok_is_number (P := P) (w := w) (base := base) T
  have G_pair_of := ok_pair_of (P := P) (w := w) (base := base) T
  refine T.F__pair.ok sc__pair len_Nu (fun cdv A outer s H vs Q E hr h => ⟨_, (pss_cons (ps_if (pt_not (pt_val (pe_call (G_is_number.mono (by decide)) hr (by rfl) T.g_is_number T.k_is_number T.b_is_number .nil pass0 (pa_cons (pv 0) pa_nil)))) (pss_one ps_never) pss_nil)
      (pss_one (ps_ret (pe_call (G_pair_of.mono (by decide)) hr (by rfl) T.g_pair_of T.k_pair_of T.b_pair_of .nil pass0 (pa_cons (pv 0) pa_nil))))), ?_⟩)
  obtain ⟨x, q, rfl, hx, b1, b2, k⟩ := h
  obtain ⟨d, td, hd⟩ := nu_number hx b1 b2
  walk_at "go"
  rw [hd]
  walk_at "go"
  exact ⟨x, q, rfl, hx, b1, b2, k⟩
def sp_low : Sp := fun vs H Q _ => ∃ t b, vs = [.int t, .int b] ∧ b ≠ 0 ∧ B 60 t ∧ B 60 b ∧ ∀ H' v, Same H H' → Fr H' v (Rat.divInt t b) → Q v H'
theorem ok_lowest (T : Txt K mg) : FnOk P w K mg base CX0 3 T.a_lowest T.d_lowest ["top", "bottom"] sp_low := by
  have G_is_integer := ok_is_integer (P := P) (w := w) (base := base) T
  have G_ratio := ok_ratio (P := P) (w := w) (base := base) T
  refine T.F_lowest.ok sc_lowest (fun vs H Q E h => ?_) (fun cdv A outer s H vs Q E hr h => ⟨_, (pss_cons (ps_if (pt_not (pt_val (pe_call (G_is_integer.mono (by decide)) hr (by rfl) T.g_is_integer T.k_is_integer T.b_is_integer .nil pass0 (pa_cons (pv 0) pa_nil)))) (pss_one ps_never) pss_nil)
      (pss_cons (ps_if (PW.pt (pw_or (pt_not (pt_val (pe_call (G_is_integer.mono (by decide)) hr (by rfl) T.g_is_integer T.k_is_integer T.b_is_integer .nil pass0 (pa_cons (pv 1) pa_nil)))) (pw_or1 (pt_cmpR op_eq (pv 1) pe_int (nomark _))))) (pss_one ps_never) pss_nil)
      (pss_one (ps_ret (pe_call (G_ratio.mono (by decide)) hr (by rfl) T.g_ratio T.k_ratio T.b_ratio .nil pass0 (pa_cons (pv 0) (pa_cons (pv 1) pa_nil))))))), ?_⟩)
  · obtain ⟨t, b, rfl, _⟩ := h
    rfl
  · obtain ⟨t, b, rfl, h0, b1, b2, k⟩ := h
    have t1 := td_int (H := H) (i := t)
    have t2 := td_int (H := H) (i := b)
    walk_at "go"
    rw [B60 b1]
    walk_at "go"
    rw [B60 b2]
    walk_at "go"
    rw [if_neg h0]
    exact ⟨_, _, rfl, h0, b2.mono (by decide), k⟩
/-- two numbers -/
def sp2N (C : Rat → Rat → Prop) (f : Rat → Rat → Rat) : Sp := fun vs H Q _ => ∃ x y p q, vs = [x, y] ∧ Nu H x p ∧ Nu H y q ∧ C p q ∧ B 60 p.num ∧ B 60 p.den ∧ B 60 q.num ∧ B 60 q.den ∧ ∀ H' v, Same H H' → Fr H' v (f p q) → Q v H'
theorem len_2N {C : Rat → Rat → Prop} {f : Rat → Rat → Rat} : ∀ vs H Q E, sp2N C f vs H Q E → vs.length = 2 := fun vs H Q E h => by
  obtain ⟨x, y, p, q, rfl, _⟩ := h
  rfl
theorem ok_plus (T : Txt K mg) : FnOk P w K mg base CX0 6 T.a_plus T.d_plus ["one", "other"] (sp2N (fun _ _ => True) fun p q => p + q) := by
  have G_ratio_sum := ok_ratio_sum (P := P) (w := w) (base := base) T
  have G__pair := ok__pair (P := P) (w := w) (base := base) T
  refine T.F_plus.ok sc_plus len_2N (fun cdv A outer s H vs Q E hr h => ⟨_, (pss_one (ps_ret (pe_call (G_ratio_sum.mono (by decide)) hr (by rfl) T.g_ratio_sum T.k_ratio_sum T.b_ratio_sum .nil pass0 (pa_cons (pe_call (G__pair.mono (by decide)) hr (by rfl) T.g__pair T.k__pair T.b__pair .nil pass0 (pa_cons (pv 0) pa_nil)) (pa_cons (pe_call (G__pair.mono (by decide)) hr (by rfl) T.g__pair T.k__pair T.b__pair .nil pass0 (pa_cons (pv 1) pa_nil)) pa_nil))))), ?_⟩)
  obtain ⟨x, y, p, q, rfl, hx, hy, _, b1, b2, b3, b4, k⟩ := h
  walk_at "go"
  refine ⟨_, _, rfl, hx, b1, b2, fun H1 u s1 f1 => ?_⟩
  refine ⟨_, _, rfl, hy.same s1, b3, b4, fun H2 v s2 f2 => ?_⟩
  exact ⟨_, _, _, _, rfl, f1.same s2, f2, trivial, b1.mono (by decide), b2.mono (by decide), b3.mono (by decide), b4.mono (by decide), fun H3 z s3 f3 => k H3 z (s1.trans (s2.trans s3)) f3⟩
theorem ok_minus (T : Txt K mg) : FnOk P w K mg base CX0 6 T.a_minus T.d_minus ["one", "other"] (sp2N (fun _ _ => True) fun p q => p - q) := by
  have G_ratio_difference := ok_ratio_difference (P := P) (w := w) (base := base) T
  have G__pair := ok__pair (P := P) (w := w) (base := base) T
  refine T.F_minus.ok sc_minus len_2N (fun cdv A outer s H vs Q E hr h => ⟨_, (pss_one (ps_ret (pe_call (G_ratio_difference.mono (by decide)) hr (by rfl) T.g_ratio_difference T.k_ratio_difference T.b_ratio_difference .nil pass0 (pa_cons (pe_call (G__pair.mono (by decide)) hr (by rfl) T.g__pair T.k__pair T.b__pair .nil pass0 (pa_cons (pv 0) pa_nil)) (pa_cons (pe_call (G__pair.mono (by decide)) hr (by rfl) T.g__pair T.k__pair T.b__pair .nil pass0 (pa_cons (pv 1) pa_nil)) pa_nil))))), ?_⟩)
  obtain ⟨x, y, p, q, rfl, hx, hy, _, b1, b2, b3, b4, k⟩ := h
  walk_at "go"
  refine ⟨_, _, rfl, hx, b1, b2, fun H1 u s1 f1 => ?_⟩
  refine ⟨_, _, rfl, hy.same s1, b3, b4, fun H2 v s2 f2 => ?_⟩
  exact ⟨_, _, _, _, rfl, f1.same s2, f2, trivial, b1.mono (by decide), b2.mono (by decide), b3.mono (by decide), b4.mono (by decide), fun H3 z s3 f3 => k H3 z (s1.trans (s2.trans s3)) f3⟩
theorem ok_times (T : Txt K mg) : FnOk P w K mg base CX0 6 T.a_times T.d_times ["one", "other"] (sp2N (fun _ _ => True) fun p q => p * q) := by
  have G_ratio_product := ok_ratio_product (P := P) (w := w) (base := base) T
  have G__pair := ok__pair (P := P) (w := w) (base := base) T
  refine T.F_times.ok sc_times len_2N (fun cdv A outer s H vs Q E hr h => ⟨_, (pss_one (ps_ret (pe_call (G_ratio_product.mono (by decide)) hr (by rfl) T.g_ratio_product T.k_ratio_product T.b_ratio_product .nil pass0 (pa_cons (pe_call (G__pair.mono (by decide)) hr (by rfl) T.g__pair T.k__pair T.b__pair .nil pass0 (pa_cons (pv 0) pa_nil)) (pa_cons (pe_call (G__pair.mono (by decide)) hr (by rfl) T.g__pair T.k__pair T.b__pair .nil pass0 (pa_cons (pv 1) pa_nil)) pa_nil))))), ?_⟩)
  obtain ⟨x, y, p, q, rfl, hx, hy, _, b1, b2, b3, b4, k⟩ := h
  walk_at "go"
  refine ⟨_, _, rfl, hx, b1, b2, fun H1 u s1 f1 => ?_⟩
  refine ⟨_, _, rfl, hy.same s1, b3, b4, fun H2 v s2 f2 => ?_⟩
  exact ⟨_, _, _, _, rfl, f1.same s2, f2, trivial, b1.mono (by decide), b2.mono (by decide), b3.mono (by decide), b4.mono (by decide), fun H3 z s3 f3 => k H3 z (s1.trans (s2.trans s3)) f3⟩
theorem ok_over (T : Txt K mg) : FnOk P w K mg base CX0 6 T.a_over T.d_over ["one", "other"] (sp2N (fun _ q => q ≠ 0) fun p q => p / q) := by
  have G_ratio_quotient := ok_ratio_quotient (P := P) (w := w) (base := base) T
  have G__pair := ok__pair (P := P) (w := w) (base := base) T
  refine T.F_over.ok sc_over len_2N (fun cdv A outer s H vs Q E hr h => ⟨_, (pss_cons (ps_par (i := 2) (j := 3) rfl sc_over.nd rfl rfl (by decide) rfl rfl (pa_cons (pe_call (G__pair.mono (by decide)) hr (by rfl) T.g__pair T.k__pair T.b__pair .nil pass0 (pa_cons (pv 0) pa_nil)) (pa_cons (pe_call (G__pair.mono (by decide)) hr (by rfl) T.g__pair T.k__pair T.b__pair .nil pass0 (pa_cons (pv 1) pa_nil)) pa_nil)) (by rfl))
      (pss_cons (ps_if (pt_cmpR op_eq (pe_ix ix_tup (pv 3) pe_int (fun _ _ => rfl)) pe_int (nomark _)) (pss_one ps_never) pss_nil)
      (pss_one (ps_ret (pe_call (G_ratio_quotient.mono (by decide)) hr (by rfl) T.g_ratio_quotient T.k_ratio_quotient T.b_ratio_quotient .nil pass0 (pa_cons (pv 2) (pa_cons (pv 3) pa_nil))))))), ?_⟩)
  obtain ⟨x, y, p, q, rfl, hx, hy, q0, b1, b2, b3, b4, k⟩ := h
  walk_at "go"
  refine ⟨_, _, rfl, hx, b1, b2, fun H1 u s1 f1 => ?_⟩
  refine ⟨_, _, rfl, hy.same s1, b3, b4, fun H2 v s2 f2 => ?_⟩
  obtain ⟨pv, rfl, hv⟩ := f2
  walk_at "go"
  rw [if_neg (fun h => q0 (Rat.num_eq_zero.mp h))]
  exact ⟨_, _, _, _, rfl, f1.same s2, ⟨pv, rfl, hv⟩, q0, b1.mono (by decide), b2.mono (by decide), b3.mono (by decide), b4.mono (by decide), fun H3 z s3 f3 => k H3 z (s1.trans (s2.trans s3)) f3⟩
def sp_cmp : Sp := fun vs H Q _ => ∃ x y p q, vs = [x, y] ∧ Nu H x p ∧ Nu H y q ∧ B 60 p.num ∧ B 60 p.den ∧ B 60 q.num ∧ B 60 q.den ∧ ∀ H', Same H H' → Q (.int (if (p - q).num = 0 then 0 else if 0 < (p - q).num then 1 else -1)) H'
theorem ok_compare (T : Txt K mg) : FnOk P w K mg base CX0 6 T.a_compare T.d_compare ["one", "other"] sp_cmp := by
  have G_ratio_difference := ok_ratio_difference (P := P) (w := w) (base := base) T
  have G__pair := ok__pair (P := P) (w := w) (base := base) T
  refine T.F_compare.ok sc_compare (fun vs H Q E h => ?_) (fun cdv A outer s H vs Q E hr h => ⟨_, (pss_cons (ps_asg (pe_call (G_ratio_difference.mono (by decide)) hr (by rfl) T.g_ratio_difference T.k_ratio_difference T.b_ratio_difference .nil pass0 (pa_cons (pe_call (G__pair.mono (by decide)) hr (by rfl) T.g__pair T.k__pair T.b__pair .nil pass0 (pa_cons (pv 0) pa_nil)) (pa_cons (pe_call (G__pair.mono (by decide)) hr (by rfl) T.g__pair T.k__pair T.b__pair .nil pass0 (pa_cons (pv 1) pa_nil)) pa_nil))) (pg_tup rfl (pgs_cons (pg_name (i := 2) sc_compare.nd rfl (Or.inl rfl)) (pgs_cons (pg_name (i := 3) sc_compare.nd rfl (Or.inl rfl)) pgs_nil))))
      (pss_cons (ps_if (pt_cmpR op_eq (pv 2) pe_int (nomark _)) (pss_one (ps_ret pe_int)) pss_nil)
      (pss_one (ps_ret (pe_ifExp (pt_cmpR op_gt (pv 2) pe_int (nomark _)) pe_int (pe_un un_neg pe_int)))))), ?_⟩)
  · obtain ⟨x, y, p, q, rfl, _⟩ := h
    rfl
  obtain ⟨x, y, p, q, rfl, hx, hy, b1, b2, b3, b4, k⟩ := h
  walk_at "go"
  refine ⟨_, _, rfl, hx, b1, b2, fun H1 u s1 f1 => ?_⟩
  refine ⟨_, _, rfl, hy.same s1, b3, b4, fun H2 v s2 f2 => ?_⟩
  refine ⟨_, _, _, _, rfl, f1.same s2, f2, trivial, b1.mono (by decide), b2.mono (by decide), b3.mono (by decide), b4.mono (by decide), fun H3 z s3 f3 => ?_⟩
  obtain ⟨pz, rfl, hz⟩ := f3
  have k' := k H3 (s1.trans (s2.trans s3))
  walk_at "go"
  split
  · rename_i h; rw [if_pos h] at k'; exact k'
  · rename_i h; rw [if_neg h] at k'
    split
    · rename_i h; rw [if_pos h] at k'; exact k'
    · rename_i h; rw [if_neg h] at k'; exact k'
def sp_floor : Sp := fun vs H Q _ => ∃ x q, vs = [x] ∧ Nu H x q ∧ B 60 q.num ∧ B 60 q.den ∧ ∀ H', Same H H' → Q (.int (q.num.fdiv q.den)) H'
theorem ok_floor_of (T : Txt K mg) : FnOk P w K mg base CX0 6 T.a_floor_of T.d_floor_of ["number"] sp_floor := by
  have G__pair := ok__pair (P := P) (w := w) (base := base) T
  refine T.F_floor_of.ok sc_floor_of (fun vs H Q E h => ?_) (fun cdv A outer s H vs Q E hr h => ⟨_, (pss_cons (ps_asg (pe_call (G__pair.mono (by decide)) hr (by rfl) T.g__pair T.k__pair T.b__pair .nil pass0 (pa_cons (pv 0) pa_nil)) (pg_tup rfl (pgs_cons (pg_name (i := 1) sc_floor_of.nd rfl (Or.inl rfl)) (pgs_cons (pg_name (i := 2) sc_floor_of.nd rfl (Or.inl rfl)) pgs_nil))))
      (pss_one (ps_ret (pe_op op_fdivNW (pv 1) (pv 2))))), ?_⟩)
  · obtain ⟨x, q, rfl, _⟩ := h
    rfl
  obtain ⟨x, q, rfl, hx, b1, b2, k⟩ := h
  walk_at "go"
  refine ⟨_, _, rfl, hx, b1, b2, fun H1 u s1 f1 => ?_⟩
  obtain ⟨pz, rfl, hz⟩ := f1
  walk_at "go"
  exact ⟨cdiv (den_ne q) b2 (by decide), k H1 s1⟩
def sp_rest : Sp := fun vs H Q _ => ∃ x q, vs = [x] ∧ Nu H x q ∧ B 60 q.num ∧ B 60 q.den ∧ ∀ H' v, Same H H' → Fr H' v (Rat.divInt (q.num % q.den) q.den) → Q v H'
theorem ok_rest_of (T : Txt K mg) : FnOk P w K mg base CX0 6 T.a_rest_of T.d_rest_of ["number"] sp_rest := by
  have G__pair := ok__pair (P := P) (w := w) (base := base) T
  have G_ratio := ok_ratio (P := P) (w := w) (base := base) T
  refine T.F_rest_of.ok sc_rest_of (fun vs H Q E h => ?_) (fun cdv A outer s H vs Q E hr h => ⟨_, (pss_cons (ps_asg (pe_call (G__pair.mono (by decide)) hr (by rfl) T.g__pair T.k__pair T.b__pair .nil pass0 (pa_cons (pv 0) pa_nil)) (pg_tup rfl (pgs_cons (pg_name (i := 1) sc_rest_of.nd rfl (Or.inl rfl)) (pgs_cons (pg_name (i := 2) sc_rest_of.nd rfl (Or.inl rfl)) pgs_nil))))
      (pss_one (ps_ret (pe_call (G_ratio.mono (by decide)) hr (by rfl) T.g_ratio T.k_ratio T.b_ratio .nil pass0 (pa_cons (pe_op op_mod (pv 1) (pv 2)) (pa_cons (pv 2) pa_nil)))))), ?_⟩)
  · obtain ⟨x, q, rfl, _⟩ := h
    rfl
  obtain ⟨x, q, rfl, hx, b1, b2, k⟩ := h
  walk_at "go"
  refine ⟨_, _, rfl, hx, b1, b2, fun H1 u s1 f1 => ?_⟩
  obtain ⟨pz, rfl, hz⟩ := f1
  walk_at "go"
  exact ⟨by have := q.den_nz; omega, _, _, rfl, den_ne q, b2.mono (by decide), fun H2 v s2 f2 => k H2 v (s1.trans s2) f2⟩
end
end K00

set_option Elab.async false
set_option linter.all false
set_option maxRecDepth 100000
set_option maxHeartbeats 4000000
namespace K00
open PySem PySem.Spec PyProof.Rows L2 TT
local macro_rules | `(tactic| walk_at "ev") => `(tactic| simp only [L2.start, tRet, tRetN, tSeq, tNext, tNever, tDrop, tIfS, tAsg, tPar, gName, tVar, tC, tOp, tUn, tTest, tB, tAnd, tOr, tNot, tAndV, tOrV, tNotV, tIf, tChain, tCons, tNil, tTup, tLst, tCB, tCall, rI0, rI, rU, rEq, rNe, rGcd, scal, gNil, gCons, gSub, Int.zero_sub,
  List.length_cons, List.length_nil, List.map_cons, List.map_nil, List.replicate, List.cons_append, List.nil_append, List.append_nil, List.set_cons_zero, List.set_cons_succ, List.set_nil, List.getElem?_cons_zero, List.getElem?_cons_succ, List.getElem?_nil, List.drop_zero, List.drop_succ_cons, List.drop_nil, List.length_drop,
  Option.some.injEq, V.int.injEq, V.bl.injEq, V.ref.injEq, List.cons.injEq, and_true, true_and, and_assoc, exists_and_left, exists_and_right, exists_eq_left, exists_eq_left', exists_eq', exists_eq, if_true, if_false, Bool.false_eq_true, ite_true, ite_false, eq_self, reduceCtorEq, false_and, and_false, exists_false, exists_const, or_false, false_or, Bool.true_and, Bool.false_and, Bool.and_true, Bool.and_false, decide_eq_true_eq, Bool.not_true, Bool.not_false, Bool.not_not, Nat.reduceAdd, Int.reduceNeg, Int.reduceToNat, Int.reducePow, Int.cast_ofNat_Int, Int.reduceEq, Int.reduceLT, Int.reduceLE, Int.reduceAdd, Int.reduceMul, Int.reduceSub, decide_true, decide_false, Bool.not_eq_true', decide_eq_false_iff_not, not_false_eq_true, not_true_eq_false])
local macro_rules | `(tactic| walk_at "go") => `(tactic| repeat (first | walk_at "ev" | (refine isi_int (by assumption) ?_) | (refine isi_bool (by assumption) ?_) | (refine isi_tup (by assumption) ?_) | (refine use_J (by assumption) ?_) | (refine ixT_of (by assumption) rfl ?_) | (refine ixL_of (by assumption) rfl ?_) | (refine lenT_of (by assumption) ?_) | (refine lenL_of (by assumption) ?_) | (refine gtup_of (by assumption) rfl ?_) | (refine ⟨cmul (by assumption) (by assumption) (by decide), ?_⟩) | (refine ⟨Or.inl (by decide), ?_⟩) | (refine ⟨Or.inr (by decide), ?_⟩) | (refine ixL_of upd_same rfl ?_) | (refine setL_of (by assumption) (by rfl) ?_) | (refine ⟨(show CPow _ _ from ⟨by decide, by decide, by decide⟩), ?_⟩) | (refine ⟨(show _ ≤ sizeLine by decide), ?_⟩)))

section
variable {P : Program} {w : World} {K : PySem.W.Frag} {mg : Str → Option Value} {base : Heap}
def sp_roll : Sp := fun vs H Q _ => ∃ p t, vs = [.ref p, .int t] ∧ Dice H p ∧ 0 < t ∧ B 2000 t ∧ ∀ H' r, 0 ≤ r → r < t → But p H H' → Dice H' p → Q (.int r) H'
theorem ok__law_roll (T : Txt K mg) : FnOk P w K mg base CX0 1 T.a__law_roll T.d__law_roll ["dice", "total"] sp_roll := by
  refine T.F__law_roll.ok sc__law_roll (fun vs H Q E h => ?_) (fun cdv A outer s H vs Q E hr h => ⟨_, (pss_cons (ps_if (pt_cmpR op_gt (pe_ix ix_list (pv 0) pe_int (fun _ _ => rfl)) pe_int (nomark _)) (pss_cons (ps_set (i := 2) sc__law_roll.nd rfl (Or.inl rfl) (pe_op op_mod (pe_callTy call_int1 (by rfl) T.m_int bt_int (pa_cons (pe_ix ix_list (pv 0) pe_int (fun _ _ => rfl)) pa_nil)) (pv 1)))
      (pss_cons (ps_asg (pe_op op_fdivNW (pe_ix ix_list (pv 0) pe_int (fun _ _ => rfl)) (pv 1)) (pg_sub (pv 0) pe_int set_list))
      (pss_one (ps_ret (pv 2))))) pss_nil)
      (pss_cons (ps_asg (pe_op op_add (pe_ix ix_list (pv 0) pe_int (fun _ _ => rfl)) pe_int) (pg_sub (pv 0) pe_int set_list))
      (pss_cons (ps_set (i := 3) sc__law_roll.nd rfl (Or.inl rfl) (pe_op op_mod (pe_callTy call_int1 (by rfl) T.m_int bt_int (pa_cons (pe_op op_add (pe_ix ix_list (pv 0) pe_int (fun _ _ => rfl)) (pe_op op_mul pe_int (pe_ix ix_list (pv 0) pe_int (fun _ _ => rfl)))) pa_nil)) pe_int))
      (pss_cons (ps_set (i := 4) sc__law_roll.nd rfl (Or.inl rfl) (pe_op op_add (pe_op op_mul (pe_op op_mod (pe_callTy call_int1 (by rfl) T.m_int bt_int (pa_cons (pe_op op_add (pe_op op_mulW (pv 3) (pv 3)) (pe_op op_mul pe_int (pe_ix ix_list (pv 0) pe_int (fun _ _ => rfl)))) pa_nil)) pe_int) pe_int) (pv 3)))
      (pss_one (ps_ret (pe_op op_mod (pe_callTy call_int1 (by rfl) T.m_int bt_int (pa_cons (pe_op op_fdivNW (pv 4) pe_int) pa_nil)) (pv 1)))))))), ?_⟩)
  · obtain ⟨p, t, rfl, _⟩ := h
    rfl
  obtain ⟨p, t, rfl, ⟨x, y, z, hp⟩, t0, t1, k⟩ := h
  walk_at "go"
  split
  · walk_at "go"
    refine ⟨t0, ?_⟩
    walk_at "go"
    refine ⟨cdiv (by omega) t1 (by decide), ?_⟩
    walk_at "go"
    refine k _ _ (Int.emod_nonneg _ (by omega)) (Int.emod_lt_of_pos _ t0) But.upd ⟨_, _, _, upd_same⟩
  · walk_at "go"
    have hone : B 19 ((y + 86028121 * (z + 1)) % 2305843009213693669) := by
      unfold B
      have := Int.emod_nonneg (y + 86028121 * (z + 1)) (show (2305843009213693669 : Int) ≠ 0 by decide)
      have := Int.emod_lt_of_pos (y + 86028121 * (z + 1)) (show (0 : Int) < 2305843009213693669 by decide)
      omega
    refine ⟨cmul hone hone (by decide), ?_⟩
    walk_at "go"
    refine ⟨cdiv (k := 5) (by decide) (by unfold B; decide) (by decide), t0, k _ _ (Int.emod_nonneg _ (by omega)) (Int.emod_lt_of_pos _ t0) But.upd ⟨_, _, _, upd_same⟩⟩
def sp_pick : Sp := fun vs H Q _ => ∃ p l xs, vs = [.ref p, .ref l] ∧ Dice H p ∧ H l = some (.lst xs) ∧ xs ≠ [] ∧ xs.length < 1000 ∧ l ≠ p ∧ ∀ H' x, x ∈ xs → But p H H' → Dice H' p → Q x H'
theorem ok__law_pick (T : Txt K mg) : FnOk P w K mg base CX0 2 T.a__law_pick T.d__law_pick ["dice", "items"] sp_pick := by
  have G__law_roll := ok__law_roll (P := P) (w := w) (base := base) T
  refine T.F__law_pick.ok sc__law_pick (fun vs H Q E h => ?_) (fun cdv A outer s H vs Q E hr h => ⟨_, (pss_one (ps_ret (pe_ix ix_list (pv 1) (pe_call (G__law_roll.mono (by decide)) hr (by rfl) T.g__law_roll T.k__law_roll T.b__law_roll .nil pass0 (pa_cons (pv 0) (pa_cons (pe_callB call_lenN (by rfl) T.m_len bt_len (pa_cons (pv 1) pa_nil)) pa_nil))) (fun _ _ => rfl)))), ?_⟩)
  · obtain ⟨p, l, xs, rfl, _⟩ := h
    rfl
  obtain ⟨p, l, xs, rfl, hp, hl, h0, h1, ne, k⟩ := h
  walk_at "go"
  have hlen : 0 < xs.length := List.length_pos_iff.mpr h0
  refine ⟨p, _, rfl, hp, by omega, ?_, fun H' r r0 r1 b d => ?_⟩
  · show (xs.length : Int).natAbs < 10 ^ 2000
    exact Nat.lt_of_lt_of_le (by omega : _ < 10 ^ 3) (Nat.pow_le_pow_right (by decide) (by decide))
  obtain ⟨v, e, m⟩ := atI_some (vs := xs) r0 r1
  exact ixL_of (b _ _ ne hl) e (k H' v m b d)
def sp_near : Sp := fun vs H Q _ => ∃ p m, vs = [.ref p, .int m] ∧ Dice H p ∧ 0 ≤ m ∧ B 1000 m ∧ ∀ H' r, -m ≤ r → r ≤ m → But p H H' → Dice H' p → Q (.int r) H'
theorem ok__law_near (T : Txt K mg) : FnOk P w K mg base CX0 2 T.a__law_near T.d__law_near ["dice", "most"] sp_near := by
  have G__law_roll := ok__law_roll (P := P) (w := w) (base := base) T
  refine T.F__law_near.ok sc__law_near (fun vs H Q E h => ?_) (fun cdv A outer s H vs Q E hr h => ⟨_, (pss_one (ps_ret (pe_op op_sub (pe_call (G__law_roll.mono (by decide)) hr (by rfl) T.g__law_roll T.k__law_roll T.b__law_roll .nil pass0 (pa_cons (pv 0) (pa_cons (pe_op op_add (pe_op op_mul pe_int (pv 1)) pe_int) pa_nil))) (pv 1)))), ?_⟩)
  · obtain ⟨p, m, rfl, _⟩ := h
    rfl
  obtain ⟨p, m, rfl, hp, m0, m1, k⟩ := h
  walk_at "go"
  refine ⟨p, _, rfl, hp, by omega, ?_, fun H' r r0 r1 b d => ?_⟩
  · have two : B 1 2 := by unfold B; decide
    have one : B 1001 1 := by unfold B; exact Nat.lt_of_lt_of_le (by decide : _ < 10 ^ 1) (Nat.pow_le_pow_right (by decide) (by decide))
    have e : B 1001 (2 * m) := by have := two.mul m1; exact this
    exact (e.add one).mono (by decide)
  walk_at "go"
  exact k H' _ (by omega) (by omega) b d
theorem ok__law_gcd (T : Txt K mg) : FnOk P w K mg base CX0 1 T.a__law_gcd T.d__law_gcd ["one", "other"] (fun vs H Q _ => ∃ a b, vs = [.int a, .int b] ∧ Q (.int ((Nat.gcd a.natAbs b.natAbs : Nat) : Int)) H) := by
  refine T.F__law_gcd.ok sc__law_gcd (fun vs H Q E h => ?_) (fun cdv A outer s H vs Q E hr h => ⟨_, (pss_cons (ps_par (i := 0) (j := 1) rfl sc__law_gcd.nd rfl rfl (by decide) rfl rfl (pa_cons (pe_callB call_abs (by rfl) T.m_abs bt_abs (pa_cons (pv 0) pa_nil)) (pa_cons (pe_callB call_abs (by rfl) T.m_abs bt_abs (pa_cons (pv 1) pa_nil)) pa_nil)) (by rfl))
      (pss_cons (ps_while PassesOwn.never (pt_cmpR op_gt (pv 1) pe_int (nomark _)) (pss_one (ps_par (i := 0) (j := 1) rfl sc__law_gcd.nd rfl rfl (by decide) rfl rfl (pa_cons (pv 1) (pa_cons (pe_op op_mod (pe_callTy call_int1 (by rfl) T.m_int bt_int (pa_cons (pv 0) pa_nil)) (pv 1)) pa_nil)) (by rfl))))
      (pss_one (ps_ret (pv 0))))), ?_⟩)
  · obtain ⟨a, b, rfl, _⟩ := h
    rfl
  obtain ⟨a, b, rfl, k⟩ := h
  walk_at "go"
  refine while_by (fun σ H' => H' = H ∧ ∃ x y : Int, σ = [some (.int x), some (.int y)] ∧ 0 ≤ x ∧ 0 ≤ y ∧ Nat.gcd x.natAbs y.natAbs = Nat.gcd a.natAbs b.natAbs) (fun σ _ => match σ with | [_, some (.int y)] => y.natAbs | _ => 0) ?_ ?_ ?_
  · refine ⟨rfl, _, _, rfl, ?_, ?_, ?_⟩
    · split <;> omega
    · split <;> omega
    · congr 1 <;> split <;> omega
  · rintro σ H' ⟨rfl, x, y, rfl, x0, y0, e⟩
    walk_at "go"
    split
    · rename_i h
      rw [Int.natAbs_emod_of_nonneg x0]
      refine ⟨h, y0, Int.emod_nonneg _ (by omega), ?_, Nat.mod_lt _ (by omega)⟩
      rw [← e, Nat.gcd_comm y.natAbs, ← Nat.gcd_rec, Nat.gcd_comm]
    · have : y = 0 := by omega
      subst this
      rw [Int.natAbs_zero, Nat.gcd_zero_right] at e
      rw [show x = ((x.natAbs : Nat) : Int) by omega, e]; exact k
  · intro σ H' Q Q' h
    walk_at "ev"
    rintro ⟨v, e1, i, e2, q⟩
    exact ⟨v, e1, i, e2, h _ _ q⟩
def sp_frac : Sp := fun vs H Q _ => ∃ t b, vs = [.int t, .int b] ∧ b ≠ 0 ∧ B 1000 b ∧ ∀ H' v, Same H H' → Fr H' v (Rat.divInt t b) → Q v H'
theorem ok__law_fraction (T : Txt K mg) : FnOk P w K mg base CX0 2 T.a__law_fraction T.d__law_fraction ["top", "bottom"] sp_ratio := by
  have G__law_gcd := ok__law_gcd (P := P) (w := w) (base := base) T
  refine T.F__law_fraction.ok sc__law_fraction (fun vs H Q E h => ?_) (fun cdv A outer s H vs Q E hr h => ⟨_, (pss_cons (ps_set (i := 2) sc__law_fraction.nd rfl (Or.inl rfl) (pe_call (G__law_gcd.mono (by decide)) hr (by rfl) T.g__law_gcd T.k__law_gcd T.b__law_gcd .nil pass0 (pa_cons (pv 0) (pa_cons (pv 1) pa_nil))))
      (pss_cons (ps_if (pt_cmpR op_lt (pv 1) pe_int (nomark _)) (pss_one (ps_set (i := 2) sc__law_fraction.nd rfl (Or.inl rfl) (pe_op op_sub pe_int (pv 2)))) pss_nil)
      (pss_one (ps_ret (pe_tup (pa_cons (pe_op op_fdivNW (pv 0) (pv 2)) (pa_cons (pe_op op_fdivNW (pv 1) (pv 2)) pa_nil))))))), ?_⟩)
  · obtain ⟨t, b, rfl, _⟩ := h
    rfl
  obtain ⟨t, b, rfl, h0, hb, q⟩ := h
  walk_at "go"
  have e1 := fdiv_gcd_num t b h0
  have e2 := fdiv_gcd_den t b h0
  have hg : ((Nat.gcd t.natAbs b.natAbs : Nat) : Int) ≠ 0 := by
    intro h; have := Nat.gcd_eq_zero_iff.mp (Int.ofNat.inj h); omega
  have hB : B 1000 ((Nat.gcd t.natAbs b.natAbs : Nat) : Int) := by
    refine Nat.lt_of_le_of_lt ?_ hb
    exact Nat.le_of_dvd (by omega) (Nat.gcd_dvd_right _ _)
  by_cases h : b < 0
  · rw [if_pos h] at e1 e2 ⊢
    refine ⟨cdiv (by omega) hB.neg (by decide), cdiv (by omega) hB.neg (by decide), size2, fun p hp => q _ _ (same_upd hp) (Fr.upd e1 e2)⟩
  · rw [if_neg h] at e1 e2 ⊢
    refine ⟨cdiv (by omega) hB (by decide), cdiv (by omega) hB (by decide), size2, fun p hp => q _ _ (same_upd hp) (Fr.upd e1 e2)⟩
theorem ok__law_fr_plus (T : Txt K mg) : FnOk P w K mg base CX0 3 T.a__law_fr_plus T.d__law_fr_plus ["one", "other"] (sp2 (fun _ _ => True) fun p q => p + q) := by
  have G__law_fraction := ok__law_fraction (P := P) (w := w) (base := base) T
  refine T.F__law_fr_plus.ok sc__law_fr_plus len_2 (fun cdv A outer s H vs Q E hr h => ⟨_, (pss_one (ps_ret (pe_call (G__law_fraction.mono (by decide)) hr (by rfl) T.g__law_fraction T.k__law_fraction T.b__law_fraction .nil pass0 (pa_cons (pe_op op_add (pe_op op_mulW (pe_ix ix_tup (pv 0) pe_int (fun _ _ => rfl)) (pe_ix ix_tup (pv 1) pe_int (fun _ _ => rfl))) (pe_op op_mulW (pe_ix ix_tup (pv 1) pe_int (fun _ _ => rfl)) (pe_ix ix_tup (pv 0) pe_int (fun _ _ => rfl)))) (pa_cons (pe_op op_mulW (pe_ix ix_tup (pv 0) pe_int (fun _ _ => rfl)) (pe_ix ix_tup (pv 1) pe_int (fun _ _ => rfl))) pa_nil))))), ?_⟩)
  obtain ⟨x, y, p, q, rfl, ⟨a, rfl, ha⟩, ⟨b, rfl, hb⟩, _, b1, b2, b3, b4, k⟩ := h
  walk_at "go"
  refine ⟨_, _, rfl, Int.mul_ne_zero (den_ne p) (den_ne q), (b2.mul b4).mono (by decide), fun H' v s f => k H' v s ?_⟩
  have e : p + q = Rat.divInt (p.num * q.den + q.num * p.den) (p.den * q.den) := by
    have := Rat.divInt_add_divInt p.num q.num (den_ne p) (den_ne q)
    rw [Rat.num_divInt_den, Rat.num_divInt_den] at this
    exact this
  dsimp only; rw [e]; exact f
theorem ok__law_fr_times (T : Txt K mg) : FnOk P w K mg base CX0 3 T.a__law_fr_times T.d__law_fr_times ["one", "other"] (sp2 (fun _ _ => True) fun p q => p * q) := by
  have G__law_fraction := ok__law_fraction (P := P) (w := w) (base := base) T
  refine T.F__law_fr_times.ok sc__law_fr_times len_2 (fun cdv A outer s H vs Q E hr h => ⟨_, (pss_one (ps_ret (pe_call (G__law_fraction.mono (by decide)) hr (by rfl) T.g__law_fraction T.k__law_fraction T.b__law_fraction .nil pass0 (pa_cons (pe_op op_mulW (pe_ix ix_tup (pv 0) pe_int (fun _ _ => rfl)) (pe_ix ix_tup (pv 1) pe_int (fun _ _ => rfl))) (pa_cons (pe_op op_mulW (pe_ix ix_tup (pv 0) pe_int (fun _ _ => rfl)) (pe_ix ix_tup (pv 1) pe_int (fun _ _ => rfl))) pa_nil))))), ?_⟩)
  obtain ⟨x, y, p, q, rfl, ⟨a, rfl, ha⟩, ⟨b, rfl, hb⟩, _, b1, b2, b3, b4, k⟩ := h
  walk_at "go"
  refine ⟨_, _, rfl, Int.mul_ne_zero (den_ne p) (den_ne q), (b2.mul b4).mono (by decide), fun H' v s f => k H' v s ?_⟩
  have e : p * q = Rat.divInt (p.num * q.num) (p.den * q.den) := by
    have := Rat.divInt_mul_divInt p.num q.num (d₁ := p.den) (d₂ := q.den)
    rw [Rat.num_divInt_den, Rat.num_divInt_den] at this
    exact this
  dsimp only; rw [e]; exact f
/-- a drawn number: as it is passed, and as a fraction -/
def NP (H : Hp) (v : V) (q : Rat) : Prop := ∃ t x y, v = .ref t ∧ H t = some (.tup [x, y]) ∧ Nu H x q ∧ Fr H y q
theorem NP.same {H H' : Hp} {v : V} {q : Rat} (s : Same H H') : NP H v q → NP H' v q := fun ⟨t, x, y, e, h, a, b⟩ => ⟨t, x, y, e, s _ _ h, a.same s, b.same s⟩
theorem NP.but {p : Addr} {H H' : Hp} {v : V} {q : Rat} (hp : Dice H p) (s : But p H H') : NP H v q → NP H' v q := fun ⟨t, x, y, e, h, a, b⟩ => by
  obtain ⟨i, j, k, hp⟩ := hp
  exact ⟨t, x, y, e, s _ _ (fun z => by subst z; rw [hp] at h; cases h) h, a.but hp s, b.but hp s⟩
def sp_some : Sp := fun vs H Q _ => ∃ p, vs = [.ref p] ∧ Dice H p ∧ ∀ H' v q, B 21 q.num → B 10 q.den → NP H' v q → But p H H' → Dice H' p → Q v H'
theorem ok__law_number_some (T : Txt K mg) : FnOk P w K mg base CX0 3 T.a__law_number_some T.d__law_number_some ["dice"] sp_some := by
  have G__law_roll := ok__law_roll (P := P) (w := w) (base := base) T
  have G__law_pick := ok__law_pick (P := P) (w := w) (base := base) T
  have G__law_near := ok__law_near (P := P) (w := w) (base := base) T
  have G__law_fraction := ok__law_fraction (P := P) (w := w) (base := base) T
  refine T.F__law_number_some.ok sc__law_number_some (fun vs H Q E h => ?_) (fun cdv A outer s H vs Q E hr h => ⟨_, (pss_cons (ps_set (i := 1) sc__law_number_some.nd rfl (Or.inl rfl) (pe_call (G__law_pick.mono (by decide)) hr (by rfl) T.g__law_pick T.k__law_pick T.b__law_pick .nil pass0 (pa_cons (pv 0) (pa_cons (pe_lst (pa_cons pe_int (pa_cons pe_int (pa_cons pe_int (pa_cons (pe_op op_pow pe_int pe_int) pa_nil))))) pa_nil))))
      (pss_cons (ps_set (i := 2) sc__law_number_some.nd rfl (Or.inl rfl) (pe_call (G__law_fraction.mono (by decide)) hr (by rfl) T.g__law_fraction T.k__law_fraction T.b__law_fraction .nil pass0 (pa_cons (pe_call (G__law_near.mono (by decide)) hr (by rfl) T.g__law_near T.k__law_near T.b__law_near .nil pass0 (pa_cons (pv 0) (pa_cons (pv 1) pa_nil))) (pa_cons (pe_op op_add pe_int (pe_call (G__law_roll.mono (by decide)) hr (by rfl) T.g__law_roll T.k__law_roll T.b__law_roll .nil pass0 (pa_cons (pv 0) (pa_cons (pe_call (G__law_pick.mono (by decide)) hr (by rfl) T.g__law_pick T.k__law_pick T.b__law_pick .nil pass0 (pa_cons (pv 0) (pa_cons (pe_lst (pa_cons pe_int (pa_cons pe_int (pa_cons pe_int (pa_cons (pe_op op_pow pe_int pe_int) pa_nil))))) pa_nil))) pa_nil)))) pa_nil))))
      (pss_one (ps_ret (pe_tup (pa_cons (pe_ifExp (PW.pt (pw_and (pt_cmpR op_eq (pe_ix ix_tup (pv 2) pe_int (fun _ _ => rfl)) pe_int (nomark _)) (pw_and1 (pt_cmpR op_eq (pe_call (G__law_roll.mono (by decide)) hr (by rfl) T.g__law_roll T.k__law_roll T.b__law_roll .nil pass0 (pa_cons (pv 0) (pa_cons pe_int pa_nil))) pe_int (nomark _))))) (pe_ix ix_tup (pv 2) pe_int (fun _ _ => rfl)) (pv 2)) (pa_cons (pv 2) pa_nil))))))), ?_⟩)
  · obtain ⟨p, rfl, _⟩ := h
    rfl
  obtain ⟨p, rfl, hp, k⟩ := h
  walk_at "go"
  intro l hl
  have nl : l ≠ p := fun z => by subst z; obtain ⟨_, _, _, hp⟩ := hp; rw [hp] at hl; cases hl
  have hp1 : Dice (upd H l (.lst [.int 2, .int 9, .int 40, .int 100000000000000000000])) p := hp.same (same_upd hl)
  refine ⟨p, l, _, rfl, hp1, upd_same, by simp, by simp, nl, fun H2 x hx b2 d2 => ?_⟩
  have hm : ∃ m : Int, x = .int m ∧ 0 ≤ m ∧ m ≤ 100000000000000000000 := by
    simp only [List.mem_cons, List.not_mem_nil, or_false] at hx
    rcases hx with rfl | rfl | rfl | rfl <;> exact ⟨_, rfl, by decide, by decide⟩
  obtain ⟨m, rfl, m0, m1⟩ := hm
  refine ⟨p, m, rfl, d2, m0, ?_, fun H3 n n0 n1 b3 d3 => ?_⟩
  · exact B.mono (j := 21) (by unfold B; omega) (by decide)
  walk_at "go"
  intro l' hl'
  have nl' : l' ≠ p := fun z => by subst z; obtain ⟨_, _, _, hp⟩ := d3; rw [hp] at hl'; cases hl'
  refine ⟨p, l', _, rfl, d3.same (same_upd hl'), upd_same, by simp, by simp, nl', fun H4 x hx b4 d4 => ?_⟩
  have hm : ∃ m : Int, x = .int m ∧ 0 < m ∧ m ≤ 1000000000 := by
    simp only [List.mem_cons, List.not_mem_nil, or_false] at hx
    rcases hx with rfl | rfl | rfl | rfl <;> exact ⟨_, rfl, by decide, by decide⟩
  obtain ⟨c, rfl, c0, c1⟩ := hm
  refine ⟨p, c, rfl, d4, c0, B.mono (j := 10) (by unfold B; omega) (by decide), fun H5 r r0 r1 b5 d5 => ?_⟩
  walk_at "go"
  refine ⟨_, _, rfl, by omega, B.mono (j := 10) (by unfold B; omega) (by decide), fun H6 v s6 f6 => ?_⟩
  have bn : B 21 (Rat.divInt n (1 + r)).num := Nat.lt_of_le_of_lt (divInt_num_le _ _) (by unfold B at *; omega)
  have bd : B 10 (Rat.divInt n (1 + r)).den := Nat.lt_of_le_of_lt (by rw [Int.natAbs_natCast]; exact divInt_den_le _ _ (by omega)) (by unfold B at *; omega)
  generalize Rat.divInt n (1 + r) = q at *
  have d6 : Dice H6 p := d5.same s6
  have bb : But p H H6 := (But.of (same_upd hl)).trans (b2.trans (b3.trans ((But.of (same_upd hl')).trans (b4.trans (b5.trans (But.of s6))))))
  obtain ⟨a, rfl, ha⟩ := f6
  walk_at "go"
  have fin : ∀ H7, But p H6 H7 → Dice H7 p → ∀ t : Addr, H7 t = none → ∀ x, Nu H7 x q → Q (.ref t) (upd H7 t (.tup [x, .ref a])) := by
    intro H7 b7 d7 t ht x hx
    obtain ⟨i, j, l0, hd⟩ := d6
    have ha7 : H7 a = some (.tup [.int q.num, .int q.den]) := b7 _ _ (fun z => by subst z; rw [hd] at ha; cases ha) ha
    refine k _ _ q bn bd ⟨t, x, .ref a, rfl, upd_same, hx.same (same_upd ht), ⟨a, rfl, same_upd ht _ _ ha7⟩⟩ (bb.trans (b7.trans (But.of (same_upd ht)))) (d7.same (same_upd ht))
  have fr6 : Fr H6 (.ref a) q := ⟨a, rfl, ha⟩
  split
  · rename_i hd1
    have hd1' : q.den = 1 := Int.ofNat.inj hd1
    refine ⟨p, 2, rfl, d6, by decide, B.mono (j := 1) (by unfold B; decide) (by decide), fun H7 r r0 r1 b7 d7 => ?_⟩
    have ha7 : H7 a = some (.tup [.int q.num, .int q.den]) := by
      obtain ⟨i, j, l0, hd⟩ := d6
      exact b7 _ _ (fun z => by subst z; rw [hd] at ha; cases ha) ha
    walk_at "go"
    split
    · walk_at "go"
      exact (fun t ht => fin H7 b7 d7 t ht _ (.inl ⟨hd1', rfl⟩))
    · exact ⟨size2, fun t ht => fin H7 b7 d7 t ht _ (.inr ⟨a, rfl, ha7⟩)⟩
  · exact ⟨size2, fun t ht => fin H6 But.refl d6 t ht _ (.inr fr6)⟩
theorem sub_sign (p q : Rat) : ∃ g : Int, 0 < g ∧ p.num * q.den - q.num * p.den = g * (p - q).num := by
  have e : p - q = Rat.divInt (p.num * q.den - q.num * p.den) (p.den * q.den) := by
    have := Rat.divInt_sub_divInt p.num q.num (den_ne p) (den_ne q)
    rw [Rat.num_divInt_den, Rat.num_divInt_den] at this
    exact this
  have hD : (0 : Int) < p.den * q.den := Int.mul_pos (by have := p.den_nz; omega) (by have := q.den_nz; omega)
  rw [e, Rat.num_divInt]
  generalize p.num * q.den - q.num * p.den = N at *
  generalize (p.den * q.den : Int) = D at *
  refine ⟨Int.gcd D N, ?_, ?_⟩
  · have : Int.gcd D N ≠ 0 := fun h => by have := (Int.gcd_eq_zero_iff.mp h).1; omega
    omega
  · rw [Int.sign_eq_one_of_pos hD, Int.one_mul]
    exact (Int.mul_ediv_cancel' (Int.gcd_dvd_right ..)).symm
theorem cmp_law (p q : Rat) : (if (p - q).num = 0 then (0 : Int) else if 0 < (p - q).num then 1 else -1) = (if q.num * p.den < p.num * q.den then 1 else 0) - (if p.num * q.den < q.num * p.den then 1 else 0) := by
  obtain ⟨g, g0, e⟩ := sub_sign p q
  rcases Int.lt_trichotomy (p - q).num 0 with h | h | h
  · have : g * (p - q).num < 0 := Int.mul_neg_of_pos_of_neg g0 h
    rw [if_neg (by omega), if_neg (by omega), if_neg (by omega), if_pos (by omega)]; rfl
  · rw [h, Int.mul_zero] at e
    rw [if_pos h, if_neg (by omega), if_neg (by omega)]; rfl
  · have : 0 < g * (p - q).num := Int.mul_pos g0 h
    rw [if_neg (by omega), if_pos h, if_pos (by omega), if_neg (by omega)]; rfl
theorem sum_B {p q : Rat} (b1 : B 21 p.num) (b2 : B 10 p.den) (b3 : B 21 q.num) (b4 : B 10 q.den) : B 60 (p + q).num ∧ B 60 (p + q).den := by
  have e : p + q = Rat.divInt (p.num * q.den + q.num * p.den) (p.den * q.den) := by
    have := Rat.divInt_add_divInt p.num q.num (den_ne p) (den_ne q)
    rw [Rat.num_divInt_den, Rat.num_divInt_den] at this
    exact this
  rw [e]
  constructor
  · exact Nat.lt_of_le_of_lt (divInt_num_le _ _) (((b1.mul b4).add (b3.mul b2)).mono (by decide))
  · refine Nat.lt_of_le_of_lt ?_ ((b2.mul b4).mono (by decide))
    rw [Int.natAbs_natCast]; exact divInt_den_le _ _ (Int.mul_ne_zero (den_ne p) (den_ne q))
theorem mul_B {p q : Rat} (b1 : B 21 p.num) (b2 : B 10 p.den) (b3 : B 21 q.num) (b4 : B 10 q.den) : B 60 (p * q).num ∧ B 60 (p * q).den := by
  have e : p * q = Rat.divInt (p.num * q.num) (p.den * q.den) := by
    have := Rat.divInt_mul_divInt p.num q.num (d₁ := p.den) (d₂ := q.den)
    rw [Rat.num_divInt_den, Rat.num_divInt_den] at this
    exact this
  rw [e]
  constructor
  · exact Nat.lt_of_le_of_lt (divInt_num_le _ _) ((b1.mul b3).mono (by decide))
  · refine Nat.lt_of_le_of_lt ?_ ((b2.mul b4).mono (by decide))
    rw [Int.natAbs_natCast]; exact divInt_den_le _ _ (Int.mul_ne_zero (den_ne p) (den_ne q))
def sp_two : Sp := fun vs H Q _ => ∃ x y p q, vs = [x, y] ∧ NP H x p ∧ NP H y q ∧ B 21 p.num ∧ B 10 p.den ∧ B 21 q.num ∧ B 10 q.den ∧ ∀ H', Same H H' → Q (.bl true) H'
theorem ok__law_two_right (T : Txt K mg) : FnOk P w K mg base CX0 7 T.a__law_two_right T.d__law_two_right ["one", "other"] sp_two := by
  have G__law_fr_plus := ok__law_fr_plus (P := P) (w := w) (base := base) T
  have G__law_fr_times := ok__law_fr_times (P := P) (w := w) (base := base) T
  have G__law_fraction := ok__law_fraction (P := P) (w := w) (base := base) T
  have G_plus := ok_plus (P := P) (w := w) (base := base) T
  have G_minus := ok_minus (P := P) (w := w) (base := base) T
  have G_times := ok_times (P := P) (w := w) (base := base) T
  have G_over := ok_over (P := P) (w := w) (base := base) T
  have G_compare := ok_compare (P := P) (w := w) (base := base) T
  refine T.F__law_two_right.ok sc__law_two_right (fun vs H Q E h => ?_) (fun cdv A outer s H vs Q E hr h => ⟨_, (pss_cons (ps_par (i := 2) (j := 3) rfl sc__law_two_right.nd rfl rfl (by decide) rfl rfl (pa_cons (pe_call (G__law_fr_plus.mono (by decide)) hr (by rfl) T.g__law_fr_plus T.k__law_fr_plus T.b__law_fr_plus .nil pass0 (pa_cons (pe_ix ix_tup (pv 0) pe_int (fun _ _ => rfl)) (pa_cons (pe_ix ix_tup (pv 1) pe_int (fun _ _ => rfl)) pa_nil))) (pa_cons (pe_call (G__law_fr_times.mono (by decide)) hr (by rfl) T.g__law_fr_times T.k__law_fr_times T.b__law_fr_times .nil pass0 (pa_cons (pe_ix ix_tup (pv 0) pe_int (fun _ _ => rfl)) (pa_cons (pe_ix ix_tup (pv 1) pe_int (fun _ _ => rfl)) pa_nil))) pa_nil)) (by rfl))
      (pss_cons (ps_if (PW.pt (pw_or (pt_cmpR (op_neD (hu64 hr)) (pe_call (G_plus.mono (by decide)) hr (by rfl) T.g_plus T.k_plus T.b_plus .nil pass0 (pa_cons (pe_ix ix_tup (pv 0) pe_int (fun _ _ => rfl)) (pa_cons (pe_ix ix_tup (pv 1) pe_int (fun _ _ => rfl)) pa_nil))) (pv 2) (nomark _)) (pw_or (pt_cmpR (op_neD (hu64 hr)) (pe_call (G_minus.mono (by decide)) hr (by rfl) T.g_minus T.k_minus T.b_minus .nil pass0 (pa_cons (pv 2) (pa_cons (pe_ix ix_tup (pv 1) pe_int (fun _ _ => rfl)) pa_nil))) (pe_ix ix_tup (pv 0) pe_int (fun _ _ => rfl)) (nomark _)) (pw_or1 (pt_cmpR (op_neD (hu64 hr)) (pe_call (G_times.mono (by decide)) hr (by rfl) T.g_times T.k_times T.b_times .nil pass0 (pa_cons (pe_ix ix_tup (pv 0) pe_int (fun _ _ => rfl)) (pa_cons (pe_ix ix_tup (pv 1) pe_int (fun _ _ => rfl)) pa_nil))) (pv 3) (nomark _)))))) (pss_one (ps_ret pe_bl)) pss_nil)
      (pss_cons (ps_if (pt_cmpR op_ne (pe_ix ix_tup (pe_ix ix_tup (pv 1) pe_int (fun _ _ => rfl)) pe_int (fun _ _ => rfl)) pe_int (nomark _)) (pss_cons (ps_set (i := 4) sc__law_two_right.nd rfl (Or.inl rfl) (pe_call (G__law_fraction.mono (by decide)) hr (by rfl) T.g__law_fraction T.k__law_fraction T.b__law_fraction .nil pass0 (pa_cons (pe_op op_mulW (pe_ix ix_tup (pe_ix ix_tup (pv 0) pe_int (fun _ _ => rfl)) pe_int (fun _ _ => rfl)) (pe_ix ix_tup (pe_ix ix_tup (pv 1) pe_int (fun _ _ => rfl)) pe_int (fun _ _ => rfl))) (pa_cons (pe_op op_mulW (pe_ix ix_tup (pe_ix ix_tup (pv 0) pe_int (fun _ _ => rfl)) pe_int (fun _ _ => rfl)) (pe_ix ix_tup (pe_ix ix_tup (pv 1) pe_int (fun _ _ => rfl)) pe_int (fun _ _ => rfl))) pa_nil))))
      (pss_one (ps_if (PW.pt (pw_or (pt_cmpR (op_neD (hu64 hr)) (pe_call (G_over.mono (by decide)) hr (by rfl) T.g_over T.k_over T.b_over .nil pass0 (pa_cons (pv 3) (pa_cons (pe_ix ix_tup (pv 1) pe_int (fun _ _ => rfl)) pa_nil))) (pe_ix ix_tup (pv 0) pe_int (fun _ _ => rfl)) (nomark _)) (pw_or1 (pt_cmpR (op_neD (hu64 hr)) (pe_call (G_over.mono (by decide)) hr (by rfl) T.g_over T.k_over T.b_over .nil pass0 (pa_cons (pe_ix ix_tup (pv 0) pe_int (fun _ _ => rfl)) (pa_cons (pe_ix ix_tup (pv 1) pe_int (fun _ _ => rfl)) pa_nil))) (pv 4) (nomark _))))) (pss_one (ps_ret pe_bl)) pss_nil))) pss_nil)
      (pss_cons (ps_par (i := 5) (j := 6) rfl sc__law_two_right.nd rfl rfl (by decide) rfl rfl (pa_cons (pe_op op_mulW (pe_ix ix_tup (pe_ix ix_tup (pv 0) pe_int (fun _ _ => rfl)) pe_int (fun _ _ => rfl)) (pe_ix ix_tup (pe_ix ix_tup (pv 1) pe_int (fun _ _ => rfl)) pe_int (fun _ _ => rfl))) (pa_cons (pe_op op_mulW (pe_ix ix_tup (pe_ix ix_tup (pv 1) pe_int (fun _ _ => rfl)) pe_int (fun _ _ => rfl)) (pe_ix ix_tup (pe_ix ix_tup (pv 0) pe_int (fun _ _ => rfl)) pe_int (fun _ _ => rfl))) pa_nil)) (by rfl))
      (pss_one (ps_ret (pe_cmpR op_eq (pe_call (G_compare.mono (by decide)) hr (by rfl) T.g_compare T.k_compare T.b_compare .nil pass0 (pa_cons (pe_ix ix_tup (pv 0) pe_int (fun _ _ => rfl)) (pa_cons (pe_ix ix_tup (pv 1) pe_int (fun _ _ => rfl)) pa_nil))) (pe_op op_sub (pe_callTy call_int1 (by rfl) T.m_int bt_int (pa_cons (pe_cmpR op_gt (pv 5) (pv 6) (nomark _)) pa_nil)) (pe_callTy call_int1 (by rfl) T.m_int bt_int (pa_cons (pe_cmpR op_lt (pv 5) (pv 6) (nomark _)) pa_nil))) (nomark _)))))))), ?_⟩)
  · obtain ⟨x, y, p, q, rfl, _⟩ := h
    rfl
  obtain ⟨_, _, p, q, rfl, ⟨t1, x1, y1, rfl, h1, n1, f1⟩, ⟨t2, x2, y2, rfl, h2, n2, f2⟩, b1, b2, b3, b4, k⟩ := h
  obtain ⟨sb1, sb2⟩ := sum_B b1 b2 b3 b4
  obtain ⟨mb1, mb2⟩ := mul_B b1 b2 b3 b4
  have c1 := b1.mono (k := 60) (by decide)
  have c2 := b2.mono (k := 60) (by decide)
  have c3 := b3.mono (k := 60) (by decide)
  have c4 := b4.mono (k := 60) (by decide)
  walk_at "go"
  refine ⟨_, _, p, q, rfl, f1, f2, trivial, b1.mono (by decide), b2.mono (by decide), b3.mono (by decide), b4.mono (by decide), fun H1 vt s1 ft => ?_⟩
  have h1 := s1 _ _ h1
  have h2 := s1 _ _ h2
  walk_at "go"
  refine ⟨_, _, p, q, rfl, f1.same s1, f2.same s1, trivial, b1.mono (by decide), b2.mono (by decide), b3.mono (by decide), b4.mono (by decide), fun H2 vp s2 fp => ?_⟩
  have h1 := s2 _ _ h1
  have h2 := s2 _ _ h2
  have ft := ft.same s2
  have f1 := f1.same (s1.trans s2)
  have f2 := f2.same (s1.trans s2)
  have n1 := n1.same (s1.trans s2)
  have n2 := n2.same (s1.trans s2)
  walk_at "go"
  refine ⟨_, _, p, q, rfl, n1, n2, trivial, c1, c2, c3, c4, fun H3 v3 s3 f3 => ?_⟩
  refine neFr f3 (ft.same s3) ?_
  rw [decide_eq_true rfl]
  have h1 := s3 _ _ h1
  have h2 := s3 _ _ h2
  walk_at "go"
  refine ⟨_, _, p + q, q, rfl, .inr (ft.same s3), n2.same s3, trivial, sb1, sb2, c3, c4, fun H4 v4 s4 f4 => ?_⟩
  have h1 := s4 _ _ h1
  have h2 := s4 _ _ h2
  walk_at "go"
  refine neFr f4 (f1.same (s3.trans s4)) ?_
  have e4 : p + q - q = p := by grind
  rw [decide_eq_true e4]
  walk_at "go"
  refine ⟨_, _, p, q, rfl, n1.same (s3.trans s4), n2.same (s3.trans s4), trivial, c1, c2, c3, c4, fun H5 v5 s5 f5 => ?_⟩
  have h1 := s5 _ _ h1
  have h2 := s5 _ _ h2
  have S := s3.trans (s4.trans s5)
  have fp := fp.same S
  refine neFr f5 fp ?_
  rw [decide_eq_true rfl]
  have f1 := f1.same S
  have f2 := f2.same S
  have n1 := n1.same S
  have n2 := n2.same S
  have K0 : ∀ H', Same H5 H' → Q (.bl true) H' := fun H' s' => k H' (s1.trans (s2.trans (S.trans s')))
  obtain ⟨a1, rfl, g1⟩ := f1
  obtain ⟨a2, rfl, g2⟩ := f2
  walk_at "go"
  split
  · rename_i q0
    have q0' : q ≠ 0 := fun h => q0 (Rat.num_eq_zero.mpr h)
    walk_at "go"
    refine ⟨_, _, rfl, Int.mul_ne_zero (den_ne p) q0, (b2.mul b3).mono (by decide), fun H6 v6 s6 f6 => ?_⟩
    have ed : Rat.divInt (p.num * q.den) (p.den * q.num) = p / q := by
      have := Rat.divInt_mul_divInt p.num q.den (d₁ := p.den) (d₂ := q.num)
      rw [Rat.num_divInt_den] at this
      rw [Rat.div_def, Rat.inv_def]
      exact this.symm
    rw [ed] at f6
    have h1 := s6 _ _ h1
    have h2 := s6 _ _ h2
    have g1 := s6 _ _ g1
    have g2 := s6 _ _ g2
    walk_at "go"
    refine ⟨_, _, p * q, q, rfl, .inr (fp.same s6), n2.same s6, q0', mb1, mb2, c3, c4, fun H7 v7 s7 f7 => ?_⟩
    have h1 := s7 _ _ h1
    have h2 := s7 _ _ h2
    have g1 := s7 _ _ g1
    have g2 := s7 _ _ g2
    walk_at "go"
    refine neFr f7 ⟨a1, rfl, g1⟩ ?_
    have e7 : p * q / q = p := by grind
    rw [decide_eq_true e7]
    walk_at "go"
    refine ⟨_, _, p, q, rfl, n1.same (s6.trans s7), n2.same (s6.trans s7), q0', c1, c2, c3, c4, fun H8 v8 s8 f8 => ?_⟩
    have h1 := s8 _ _ h1
    have h2 := s8 _ _ h2
    have g1 := s8 _ _ g1
    have g2 := s8 _ _ g2
    refine neFr f8 (f6.same (s7.trans s8)) ?_
    rw [decide_eq_true rfl]
    have S8 := s6.trans (s7.trans s8)
    walk_at "go"
    refine ⟨_, _, p, q, rfl, n1.same S8, n2.same S8, c1, c2, c3, c4, fun H9 s9 => ?_⟩
    have k9 := K0 H9 (S8.trans s9)
    walk_at "go"
    rw [cmp_law, decide_eq_true rfl]
    exact k9
  · walk_at "go"
    refine ⟨_, _, p, q, rfl, n1, n2, c1, c2, c3, c4, fun H9 s9 => ?_⟩
    have k9 := K0 H9 s9
    walk_at "go"
    rw [cmp_law, decide_eq_true rfl]
    exact k9
end
end K00

set_option Elab.async false
set_option linter.all false
set_option maxRecDepth 100000
set_option maxHeartbeats 4000000
namespace K00
open PySem PySem.Spec PyProof.Rows L2 TT
local macro_rules | `(tactic| walk_at "ev") => `(tactic| simp only [L2.start, tRet, tRetN, tSeq, tNext, tNever, tDrop, tIfS, tAsg, tPar, gName, tVar, tC, tOp, tUn, tTest, tB, tAnd, tOr, tNot, tAndV, tOrV, tNotV, tIf, tChain, tCons, tNil, tTup, tLst, tCB, tCall, rI0, rI, rU, rEq, rNe, rGcd, scal, gNil, gCons, gSub, Int.zero_sub,
  List.length_cons, List.length_nil, List.map_cons, List.map_nil, List.replicate, List.cons_append, List.nil_append, List.append_nil, List.set_cons_zero, List.set_cons_succ, List.set_nil, List.getElem?_cons_zero, List.getElem?_cons_succ, List.getElem?_nil, List.drop_zero, List.drop_succ_cons, List.drop_nil, List.length_drop,
  Option.some.injEq, V.int.injEq, V.bl.injEq, V.ref.injEq, List.cons.injEq, and_true, true_and, and_assoc, exists_and_left, exists_and_right, exists_eq_left, exists_eq_left', exists_eq', exists_eq, if_true, if_false, Bool.false_eq_true, ite_true, ite_false, eq_self, reduceCtorEq, szle0, szle1, szle2, szle3, szle4, szle5, szle6, szle8, szle13, false_and, and_false, exists_false, exists_const, or_false, false_or, Bool.true_and, Bool.false_and, Bool.and_true, Bool.and_false, decide_eq_true_eq, Bool.not_true, Bool.not_false, Bool.not_not, Nat.reduceAdd, Int.reduceNeg, Int.reduceToNat, Int.reducePow, Int.cast_ofNat_Int, Int.reduceEq, Int.reduceLT, Int.reduceLE, Int.reduceAdd, Int.reduceMul, Int.reduceSub, decide_true, decide_false, Bool.not_eq_true', decide_eq_false_iff_not, not_false_eq_true, not_true_eq_false])
local macro_rules | `(tactic| walk_at "go") => `(tactic| repeat (first | walk_at "ev" | (refine isi_int (by assumption) ?_) | (refine isi_bool (by assumption) ?_) | (refine isi_tup (by assumption) ?_) | (refine use_J (by assumption) ?_) | (refine use_J td_int ?_) | (refine tFor_rng ?_) | (refine tFor_list ?_) | (refine tFor_tup ?_) | (refine tLc_rng ?_) | (refine tLc_list ?_) | (refine tLc_tup ?_) | (refine ixT_of (by assumption) rfl ?_) | (refine ixL_of (by assumption) rfl ?_) | (refine lenT_of (by assumption) ?_) | (refine lenL_of (by assumption) ?_) | (refine gtup_of (by assumption) rfl ?_) | (refine ⟨cmul (by assumption) (by assumption) (by decide), ?_⟩) | (refine ⟨Or.inl (by decide), ?_⟩) | (refine ⟨Or.inr (by decide), ?_⟩) | (refine ixL_of upd_same rfl ?_) | (refine setL_of (by assumption) (by rfl) ?_) | (refine ⟨(show CPow _ _ from ⟨by decide, by decide, by decide⟩), ?_⟩) | (refine ⟨(show _ ≤ sizeLine by decide), ?_⟩)))

section
variable {P : Program} {w : World} {K : PySem.W.Frag} {mg : Str → Option Value} {base : Heap}
theorem rest_eq (q : Rat) : (((q.num.fdiv q.den : Int) : Rat) + Rat.divInt (q.num % q.den) q.den = q) ∧ (Rat.divInt (q.num % q.den) q.den - 1).num < 0 ∧ q.num - q.num.fdiv q.den * q.den = q.num % q.den := by
  have dp : (0 : Int) < q.den := by have := q.den_nz; omega
  have e0 : q.num.fdiv q.den = q.num / q.den := Int.fdiv_eq_ediv_of_nonneg _ (by omega)
  have e1 : q.num - q.num.fdiv q.den * q.den = q.num % q.den := by
    rw [e0]; have := Int.emod_add_mul_ediv q.num q.den; rw [Int.mul_comm]; omega
  refine ⟨?_, ?_, e1⟩
  · have h := Rat.divInt_add_divInt (q.num.fdiv q.den) (q.num % q.den) (d₁ := 1) (d₂ := q.den) (by decide) (by omega)
    have h2 : (((q.num.fdiv q.den : Int) : Rat)) = Rat.divInt (q.num.fdiv q.den) 1 := by rw [Rat.divInt_eq_div]; grind
    rw [h2, h]
    have : q.num.fdiv ↑q.den * ↑q.den + q.num % ↑q.den * 1 = q.num := by omega
    rw [this, Int.one_mul]
    exact Rat.num_divInt_den q
  · have h := Rat.divInt_sub_divInt (q.num % q.den) 1 (d₁ := q.den) (d₂ := 1) (by omega) (by decide)
    have h2 : (1 : Rat) = Rat.divInt 1 1 := by rw [Rat.divInt_eq_div]; grind
    rw [h2, h, Rat.num_divInt]
    have l := Int.emod_lt_of_pos q.num dp
    rw [Int.mul_one, Int.mul_one, Int.one_mul, Int.sign_eq_one_of_pos (by omega), Int.one_mul]
    generalize hN : q.num % ↑q.den - ↑q.den = N
    have hN0 : N < 0 := by omega
    exact Int.ediv_neg_of_neg_of_pos hN0 (by have : Int.gcd (↑q.den) N ≠ 0 := fun h => by have := (Int.gcd_eq_zero_iff.mp h).1; omega
                                             omega)
def sp_flr : Sp := fun vs H Q _ => ∃ x p, vs = [x] ∧ NP H x p ∧ B 21 p.num ∧ B 10 p.den ∧ ∀ H', Same H H' → Q (.bl true) H'
theorem ok__law_floor_right (T : Txt K mg) : FnOk P w K mg base CX0 7 T.a__law_floor_right T.d__law_floor_right ["one"] sp_flr := by
  have G__law_fraction := ok__law_fraction (P := P) (w := w) (base := base) T
  have G_plus := ok_plus (P := P) (w := w) (base := base) T
  have G_compare := ok_compare (P := P) (w := w) (base := base) T
  have G_floor_of := ok_floor_of (P := P) (w := w) (base := base) T
  have G_rest_of := ok_rest_of (P := P) (w := w) (base := base) T
  refine T.F__law_floor_right.ok sc__law_floor_right (fun vs H Q E h => ?_) (fun cdv A outer s H vs Q E hr h => ⟨_, (pss_cons (ps_set (i := 1) sc__law_floor_right.nd rfl (Or.inl rfl) (pe_op op_fdivNW (pe_ix ix_tup (pe_ix ix_tup (pv 0) pe_int (fun _ _ => rfl)) pe_int (fun _ _ => rfl)) (pe_ix ix_tup (pe_ix ix_tup (pv 0) pe_int (fun _ _ => rfl)) pe_int (fun _ _ => rfl))))
      (pss_cons (ps_if (PW.pt (pw_or (pt_cmpR (op_neD (hu64 hr)) (pe_call (G_floor_of.mono (by decide)) hr (by rfl) T.g_floor_of T.k_floor_of T.b_floor_of .nil pass0 (pa_cons (pe_ix ix_tup (pv 0) pe_int (fun _ _ => rfl)) pa_nil)) (pv 1) (nomark _)) (pw_or1 (pt_cmpR (op_neD (hu64 hr)) (pe_call (G_rest_of.mono (by decide)) hr (by rfl) T.g_rest_of T.k_rest_of T.b_rest_of .nil pass0 (pa_cons (pe_ix ix_tup (pv 0) pe_int (fun _ _ => rfl)) pa_nil)) (pe_call (G__law_fraction.mono (by decide)) hr (by rfl) T.g__law_fraction T.k__law_fraction T.b__law_fraction .nil pass0 (pa_cons (pe_op op_sub (pe_ix ix_tup (pe_ix ix_tup (pv 0) pe_int (fun _ _ => rfl)) pe_int (fun _ _ => rfl)) (pe_op op_mulW (pv 1) (pe_ix ix_tup (pe_ix ix_tup (pv 0) pe_int (fun _ _ => rfl)) pe_int (fun _ _ => rfl)))) (pa_cons (pe_ix ix_tup (pe_ix ix_tup (pv 0) pe_int (fun _ _ => rfl)) pe_int (fun _ _ => rfl)) pa_nil))) (nomark _))))) (pss_one (ps_ret pe_bl)) pss_nil)
      (pss_one (ps_ret (pe_and (pe_cmpR (op_eqD (hu64 hr)) (pe_call (G_plus.mono (by decide)) hr (by rfl) T.g_plus T.k_plus T.b_plus .nil pass0 (pa_cons (pe_call (G_floor_of.mono (by decide)) hr (by rfl) T.g_floor_of T.k_floor_of T.b_floor_of .nil pass0 (pa_cons (pe_ix ix_tup (pv 0) pe_int (fun _ _ => rfl)) pa_nil)) (pa_cons (pe_call (G_rest_of.mono (by decide)) hr (by rfl) T.g_rest_of T.k_rest_of T.b_rest_of .nil pass0 (pa_cons (pe_ix ix_tup (pv 0) pe_int (fun _ _ => rfl)) pa_nil)) pa_nil))) (pe_ix ix_tup (pv 0) pe_int (fun _ _ => rfl)) (nomark _)) (pe_one (pe_cmpR op_eq (pe_call (G_compare.mono (by decide)) hr (by rfl) T.g_compare T.k_compare T.b_compare .nil pass0 (pa_cons (pe_call (G_rest_of.mono (by decide)) hr (by rfl) T.g_rest_of T.k_rest_of T.b_rest_of .nil pass0 (pa_cons (pe_ix ix_tup (pv 0) pe_int (fun _ _ => rfl)) pa_nil)) (pa_cons pe_int pa_nil))) (pe_un un_neg pe_int) (nomark _)))))))), ?_⟩)
  · obtain ⟨x, q, rfl, _⟩ := h
    rfl
  obtain ⟨_, q, rfl, ⟨t1, x1, y1, rfl, h1, n1, f1⟩, b1, b2, k⟩ := h
  obtain ⟨R1, R2, R3⟩ := rest_eq q
  have dp : (0 : Int) < q.den := by have := q.den_nz; omega
  have c1 := b1.mono (k := 60) (by decide)
  have c2 := b2.mono (k := 60) (by decide)
  have bf : B 21 (q.num.fdiv q.den) := by
    rw [Int.fdiv_eq_ediv_of_nonneg _ (by omega)]
    exact Nat.lt_of_le_of_lt (Int.natAbs_ediv_le_natAbs _ _) b1
  obtain ⟨a1, rfl, g1⟩ := f1
  walk_at "go"
  refine ⟨cdiv (den_ne q) b2 (by decide), ?_⟩
  walk_at "go"
  refine ⟨_, q, rfl, n1, c1, c2, fun H1 s1 => ?_⟩
  refine neD_of td_int td_int rfl rfl (by rfl) (by rfl) ?_
  have h1 := s1 _ _ h1
  have g1 := s1 _ _ g1
  simp only [Da.py, PyData.eqv, BEq.rfl]
  walk_at "go"
  refine ⟨_, q, rfl, n1.same s1, c1, c2, fun H2 v2 s2 f2 => ?_⟩
  have h1 := s2 _ _ h1
  have g1 := s2 _ _ g1
  walk_at "go"
  refine ⟨_, _, rfl, den_ne q, b2.mono (by decide), fun H3 v3 s3 f3 => ?_⟩
  rw [R3] at f3
  refine neFr (f2.same s3) f3 ?_
  rw [decide_eq_true rfl]
  have h1 := s3 _ _ h1
  have g1 := s3 _ _ g1
  have S3 := s1.trans (s2.trans s3)
  walk_at "go"
  refine ⟨_, q, rfl, n1.same S3, c1, c2, fun H4 s4 => ?_⟩
  have h1 := s4 _ _ h1
  have g1 := s4 _ _ g1
  walk_at "go"
  refine ⟨_, q, rfl, n1.same (S3.trans s4), c1, c2, fun H5 v5 s5 f5 => ?_⟩
  have h1 := s5 _ _ h1
  have g1 := s5 _ _ g1
  have rb1 : B 60 (Rat.divInt (q.num % q.den) q.den).num := by
    refine Nat.lt_of_le_of_lt (divInt_num_le _ _) ?_
    have := Int.emod_lt_of_pos q.num dp
    have := Int.emod_nonneg q.num (den_ne q)
    exact Nat.lt_of_le_of_lt (by omega) c2
  have rb2 : B 60 (Rat.divInt (q.num % q.den) q.den).den := by
    refine Nat.lt_of_le_of_lt ?_ c2
    rw [Int.natAbs_natCast]; exact divInt_den_le _ _ (den_ne q)
  refine ⟨_, _, ((q.num.fdiv q.den : Int) : Rat), _, rfl, .inl ⟨rfl, rfl⟩, .inr f5, trivial, bf.mono (by decide), by show (1 : Int).natAbs < _; decide, rb1, rb2, fun H6 v6 s6 f6 => ?_⟩
  have h1 := s6 _ _ h1
  have g1 := s6 _ _ g1
  walk_at "go"
  refine eqFr f6 ⟨a1, rfl, g1⟩ ?_
  rw [decide_eq_true R1]
  walk_at "go"
  refine ⟨_, q, rfl, n1.same (S3.trans (s4.trans (s5.trans s6))), c1, c2, fun H7 v7 s7 f7 => ?_⟩
  walk_at "go"
  refine ⟨_, _, _, (1 : Rat), rfl, .inr f7, .inl ⟨rfl, rfl⟩, rb1, rb2, by unfold B; decide, by unfold B; decide, fun H8 s8 => ?_⟩
  walk_at "go"
  rw [if_neg (by omega), if_neg (by omega), decide_eq_true rfl]
  exact k H8 (S3.trans (s4.trans (s5.trans (s6.trans (s7.trans s8)))))
def sp_right : Sp := fun vs H Q _ => ∃ p, vs = [.ref p] ∧ Dice H p ∧ ∀ H', But p H H' → Q (.bl true) H'
theorem ok__law_right (T : Txt K mg) : FnOk P w K mg base CX0 8 T.a__law_right T.d__law_right ["dice"] sp_right := by
  have G__law_number_some := ok__law_number_some (P := P) (w := w) (base := base) T
  have G__law_near := ok__law_near (P := P) (w := w) (base := base) T
  have G__law_roll := ok__law_roll (P := P) (w := w) (base := base) T
  have G__law_fraction := ok__law_fraction (P := P) (w := w) (base := base) T
  have G_lowest := ok_lowest (P := P) (w := w) (base := base) T
  have G_is_number := ok_is_number (P := P) (w := w) (base := base) T
  have G_is_fraction := ok_is_fraction (P := P) (w := w) (base := base) T
  have G_is_integer := ok_is_integer (P := P) (w := w) (base := base) T
  have G__law_two_right := ok__law_two_right (P := P) (w := w) (base := base) T
  have G__law_floor_right := ok__law_floor_right (P := P) (w := w) (base := base) T
  refine T.F__law_right.ok sc__law_right (fun vs H Q E h => ?_) (fun cdv A outer s H vs Q E hr h => ⟨_, (pss_cons (ps_par (i := 1) (j := 2) rfl sc__law_right.nd rfl rfl (by decide) rfl rfl (pa_cons (pe_call (G__law_number_some.mono (by decide)) hr (by rfl) T.g__law_number_some T.k__law_number_some T.b__law_number_some .nil pass0 (pa_cons (pv 0) pa_nil)) (pa_cons (pe_call (G__law_number_some.mono (by decide)) hr (by rfl) T.g__law_number_some T.k__law_number_some T.b__law_number_some .nil pass0 (pa_cons (pv 0) pa_nil)) pa_nil)) (by rfl))
      (pss_cons (ps_par (i := 3) (j := 4) rfl sc__law_right.nd rfl rfl (by decide) rfl rfl (pa_cons (pe_call (G__law_near.mono (by decide)) hr (by rfl) T.g__law_near T.k__law_near T.b__law_near .nil pass0 (pa_cons (pv 0) (pa_cons (pe_op op_pow pe_int pe_int) pa_nil))) (pa_cons (pe_op op_add pe_int (pe_call (G__law_roll.mono (by decide)) hr (by rfl) T.g__law_roll T.k__law_roll T.b__law_roll .nil pass0 (pa_cons (pv 0) (pa_cons (pe_op op_pow pe_int pe_int) pa_nil)))) pa_nil)) (by rfl))
      (pss_cons (ps_if (PW.pt (pw_or (pt_cmpR (op_neD (hu64 hr)) (pe_call (G_lowest.mono (by decide)) hr (by rfl) T.g_lowest T.k_lowest T.b_lowest .nil pass0 (pa_cons (pe_op op_mulW (pv 3) (pv 4)) (pa_cons (pe_op op_sub pe_int (pv 4)) pa_nil))) (pe_tup (pa_cons (pe_op op_sub pe_int (pv 3)) (pa_cons pe_int pa_nil))) (nomark _)) (pw_or1 (pt_cmpR (op_neD (hu64 hr)) (pe_call (G_lowest.mono (by decide)) hr (by rfl) T.g_lowest T.k_lowest T.b_lowest .nil pass0 (pa_cons (pv 3) (pa_cons (pv 4) pa_nil))) (pe_call (G__law_fraction.mono (by decide)) hr (by rfl) T.g__law_fraction T.k__law_fraction T.b__law_fraction .nil pass0 (pa_cons (pv 3) (pa_cons (pv 4) pa_nil))) (nomark _))))) (pss_one (ps_ret pe_bl)) pss_nil)
      (pss_cons (ps_if (PW.pt (pw_or (pt_not (pt_val (pe_call (G_is_number.mono (by decide)) hr (by rfl) T.g_is_number T.k_is_number T.b_is_number .nil pass0 (pa_cons (pe_ix ix_tup (pv 1) pe_int (fun _ _ => rfl)) pa_nil)))) (pw_or (pt_not (pt_val (pe_call (G_is_fraction.mono (by decide)) hr (by rfl) T.g_is_fraction T.k_is_fraction T.b_is_fraction .nil pass0 (pa_cons (pe_ix ix_tup (pv 1) pe_int (fun _ _ => rfl)) pa_nil)))) (pw_or1 (pt_cmpR (op_neD (hu64 hr)) (pe_call (G_is_integer.mono (by decide)) hr (by rfl) T.g_is_integer T.k_is_integer T.b_is_integer .nil pass0 (pa_cons (pe_ix ix_tup (pv 1) pe_int (fun _ _ => rfl)) pa_nil)) (pe_callB call_isi (by rfl) T.m_isinstance bt_isinstance (pa_cons (pe_ix ix_tup (pv 1) pe_int (fun _ _ => rfl)) (pa_cons (pe_bltn (v := V.ty "int") (by rfl) T.m_int bt_int rfl) pa_nil))) (nomark _)))))) (pss_one (ps_ret pe_bl)) pss_nil)
      (pss_one (ps_ret (pe_and (pe_call (G__law_two_right.mono (by decide)) hr (by rfl) T.g__law_two_right T.k__law_two_right T.b__law_two_right .nil pass0 (pa_cons (pv 1) (pa_cons (pv 2) pa_nil))) (pe_and (pe_call (G__law_two_right.mono (by decide)) hr (by rfl) T.g__law_two_right T.k__law_two_right T.b__law_two_right .nil pass0 (pa_cons (pv 2) (pa_cons (pv 1) pa_nil))) (pe_and (pe_call (G__law_floor_right.mono (by decide)) hr (by rfl) T.g__law_floor_right T.k__law_floor_right T.b__law_floor_right .nil pass0 (pa_cons (pv 1) pa_nil)) (pe_one (pe_call (G__law_floor_right.mono (by decide)) hr (by rfl) T.g__law_floor_right T.k__law_floor_right T.b__law_floor_right .nil pass0 (pa_cons (pv 2) pa_nil)))))))))))), ?_⟩)
  · obtain ⟨x, rfl, _⟩ := h
    rfl
  obtain ⟨p, rfl, hp, k⟩ := h
  walk_at "go"
  refine ⟨p, rfl, hp, fun H1 v1 q1 m1 m2 n1 b1 d1 => ?_⟩
  refine ⟨p, rfl, d1, fun H2 v2 q2 m3 m4 n2 b2 d2 => ?_⟩
  have n1 := n1.but d1 b2
  walk_at "go"
  refine ⟨p, _, rfl, d2, by decide, B.mono (j := 15) (by unfold B; decide) (by decide), fun H3 t t0 t1 b3 d3 => ?_⟩
  walk_at "go"
  refine ⟨p, _, rfl, d3, by decide, B.mono (j := 10) (by unfold B; decide) (by decide), fun H4 b b0 b1' b4 d4 => ?_⟩
  have n1 := n1.but d2 (b3.trans b4)
  have n2 := n2.but d2 (b3.trans b4)
  have B4 := b1.trans (b2.trans (b3.trans b4))
  have tb : B 15 t := by unfold B; omega
  have bb : B 10 (1 + b) := by unfold B; omega
  walk_at "go"
  have b1n : (1 + b) ≠ 0 := by omega
  refine ⟨_, _, rfl, by omega, (tb.mul bb).mono (by decide), bb.neg.mono (by decide), fun H5 v5 s5 f5 => ?_⟩
  walk_at "go"
  intro l hl
  have e5 : Rat.divInt (t * (1 + b)) (-(1 + b)) = ((-t : Int) : Rat) := by
    have h := Rat.divInt_mul_right (n := -t) (d := 1) (a := -(1 + b)) (by omega)
    rw [Int.neg_mul_neg, Int.one_mul] at h
    rw [h, Rat.divInt_eq_div]; grind
  rw [e5] at f5
  refine neFr (f5.same (same_upd hl)) (q := ((-t : Int) : Rat)) (Fr.upd rfl rfl) ?_
  rw [decide_eq_true rfl]
  have S5 := s5.trans (same_upd (o := .tup [.int (-t), .int 1]) hl)
  have n1 := n1.same S5
  have n2 := n2.same S5
  have d5 := d4.same S5
  generalize upd H5 l _ = H5' at *
  walk_at "go"
  refine ⟨_, _, rfl, b1n, tb.mono (by decide), bb.mono (by decide), fun H6 v6 s6 f6 => ?_⟩
  refine ⟨_, _, rfl, b1n, bb.mono (by decide), fun H7 v7 s7 f7 => ?_⟩
  refine neFr (f6.same s7) f7 ?_
  rw [decide_eq_true rfl]
  have S7 := s6.trans s7
  have n1 := n1.same S7
  have n2 := n2.same S7
  have B7 := B4.trans (But.of (S5.trans S7))
  obtain ⟨t1, x1, y1, rfl, h1, u1, f1⟩ := n1
  have N1 : NP H7 (.ref t1) q1 := ⟨t1, x1, y1, rfl, h1, u1, f1⟩
  have c1 := m1.mono (k := 60) (by decide)
  have c2 := m2.mono (k := 60) (by decide)
  obtain ⟨d, td, hd⟩ := nu_number u1 c1 c2
  walk_at "go"
  rw [hd]
  have tf := f1.td
  walk_at "go"
  rw [fr_number c1 c2]
  walk_at "go"
  have eq1 : isInteger d = d.isInt := by
    cases hn : d.isInt with
    | true =>
      cases d <;> simp only [Da.isInt] at hn <;> first | cases hn | skip
      · simp [isNumber, isInteger, isFraction] at hd
      · simp only [isNumber, isFraction, Bool.or_false] at hd; exact hd
    | false =>
      cases d <;> simp only [Da.isInt] at hn <;> first | rfl | cases hn
  rw [eq1]
  refine neD_of td_bl td_bl rfl rfl (by rfl) (by rfl) ?_
  simp only [Da.py, PyData.eqv, BEq.rfl]
  walk_at "go"
  refine ⟨_, _, q1, q2, rfl, N1, n2, m1, m2, m3, m4, fun H8 s8 => ?_⟩
  walk_at "go"
  refine ⟨_, _, q2, q1, rfl, n2.same s8, N1.same s8, m3, m4, m1, m2, fun H9 s9 => ?_⟩
  walk_at "go"
  refine ⟨_, q1, rfl, N1.same (s8.trans s9), m1, m2, fun H10 s10 => ?_⟩
  walk_at "go"
  refine ⟨_, q2, rfl, n2.same (s8.trans (s9.trans s10)), m3, m4, fun H11 s11 => ?_⟩
  exact k H11 (B7.trans (But.of (s8.trans (s9.trans (s10.trans s11)))))
def sp_dice (K : PySem.W.Frag) : Sp := fun vs H Q _ => ∃ a, ∃ ns : List Int, ∃ i, vs = [.ref a, .int i] ∧ SqL K H a (ns.map V.int) ∧ 0 ≤ i ∧ ∀ p H', H p = none → Same H H' → Dice H' p → Q (.ref p) H'
theorem ok__law_dice (T : Txt K mg) : FnOk P w K mg base CX0 1 T.a__law_dice T.d__law_dice ["script", "spot"] (sp_dice K) := by
  refine T.F__law_dice.ok sc__law_dice (fun vs H Q E h => ?_) (fun cdv A outer s H vs Q E hr h => ⟨_, (pss_cons (ps_set (i := 2) sc__law_dice.nd rfl (Or.inl rfl) (pe_ifExp (pt_cmpR op_lt (pv 1) (pe_callB call_lenN (by rfl) T.m_len bt_len (pa_cons (pv 0) pa_nil)) (nomark _)) (pe_callTy call_int1 (by rfl) T.m_int bt_int (pa_cons (pe_ix ix_list (pv 0) (pv 1) (fun _ _ => rfl)) pa_nil)) (pe_op op_add (pe_op op_mul pe_int (pv 1)) pe_int)))
      (pss_cons (ps_set (i := 3) sc__law_dice.nd rfl (Or.inl rfl) (pe_op op_mod (pe_callB (call_max2 rfl) (by rfl) T.m_max bt_max (pa_cons pe_int (pa_cons (pe_op op_sub (pe_callB call_abs (by rfl) T.m_abs bt_abs (pa_cons (pv 2) pa_nil)) (pe_op op_pow pe_int pe_int)) pa_nil))) (pe_op op_mulW (pe_op op_pow pe_int pe_int) (pe_op op_pow pe_int pe_int))))
      (pss_one (ps_ret (pe_lst (pa_cons (pv 3) (pa_cons (pe_op op_add (pe_op op_add (pe_op op_add (pe_op op_mul (pe_op op_mod (pe_callB call_abs (by rfl) T.m_abs bt_abs (pa_cons (pv 2) pa_nil)) pe_int) pe_int) (pe_op op_mul pe_int (pv 1))) (pe_op op_mul pe_int (pe_callTy call_int1 (by rfl) T.m_int bt_int (pa_cons (pe_cmpR op_lt (pv 2) pe_int (nomark _)) pa_nil)))) pe_int) (pa_cons pe_int pa_nil)))))))), ?_⟩)
  · obtain ⟨a, ns, i, rfl, _⟩ := h
    rfl
  obtain ⟨a, ns, i, rfl, hS, h0, k⟩ := h
  walk_at "go"
  refine lenS_of hS ?_
  walk_at "go"
  have done : ∀ x y : Int, ∀ p, H p = none → Q (.ref p) (upd H p (.lst [.int x, .int y, .int 0])) := fun x y p hp => k p _ hp (same_upd hp) ⟨_, _, _, upd_same⟩
  have c2 : CMulW 1000000000000000000000000000000000000000000000000000000000 1000000000000000000000000000000000000000000000000000000000000 := cmul (j := 58) (k := 61) (by unfold B; decide) (by unfold B; decide) (by decide)
  split
  · rename_i hi
    have hj : i.toNat < ns.length := by rw [List.length_map] at hi; omega
    refine ⟨a, _, i, .int ns[i.toNat], rfl, rfl, hS, ?_, ?_⟩
    · unfold atI ixN
      rw [if_pos h0, if_pos hi]
      show (ns.map V.int)[i.toNat]? = _
      rw [List.getElem?_map, List.getElem?_eq_getElem hj]; rfl
    walk_at "go"
    refine ⟨c2, ?_⟩
    walk_at "go"
    exact done _ _
  · walk_at "go"
    refine ⟨c2, ?_⟩
    walk_at "go"
    exact done _ _
def sp_law (K : PySem.W.Frag) : Sp := fun vs H Q _ => ∃ a, ∃ ns : List Int, vs = [.ref a] ∧ SqL K H a (ns.map V.int) ∧ ns.length ≤ 63 ∧ ∀ H', Q (.bl true) H'
theorem ok_law (T : Txt K mg) : FnOk P w K mg base CX0 9 T.a_law T.d_law ["script"] (sp_law K) := by
  have G__law_right := ok__law_right (P := P) (w := w) (base := base) T
  have G__law_dice := ok__law_dice (P := P) (w := w) (base := base) T
  have G_lowest := ok_lowest (P := P) (w := w) (base := base) T
  have G_is_number := ok_is_number (P := P) (w := w) (base := base) T
  have G_is_fraction := ok_is_fraction (P := P) (w := w) (base := base) T
  have G_is_integer := ok_is_integer (P := P) (w := w) (base := base) T
  have G_floor_of := ok_floor_of (P := P) (w := w) (base := base) T
  have G_rest_of := ok_rest_of (P := P) (w := w) (base := base) T
  have G_compare := ok_compare (P := P) (w := w) (base := base) T
  refine T.F_law.ok sc_law (fun vs H Q E h => ?_) (fun cdv A outer s H vs Q E hr h => ⟨_, (pss_cons (ps_for PassesOwn.never rfl (pi_range1 rfl T.m_range (pa_cons (pe_callB (call_max2 rfl) (by rfl) T.m_max bt_max (pa_cons pe_int (pa_cons (pe_callB (call_min2 rfl) (by rfl) T.m_min bt_min (pa_cons pe_int (pa_cons (pe_callB call_lenN (by rfl) T.m_len bt_len (pa_cons (pv 0) pa_nil)) pa_nil))) pa_nil))) pa_nil)) (pg_name (i := 1) sc_law.nd rfl (Or.inl rfl)) (pss_one (ps_if (pt_not (pt_val (pe_call (G__law_right.mono (by decide)) hr (by rfl) T.g__law_right T.k__law_right T.b__law_right .nil pass0 (pa_cons (pe_call (G__law_dice.mono (by decide)) hr (by rfl) T.g__law_dice T.k__law_dice T.b__law_dice .nil pass0 (pa_cons (pv 0) (pa_cons (pv 1) pa_nil))) pa_nil)))) (pss_one (ps_ret pe_bl)) pss_nil)))
      (pss_cons (ps_set (i := 2) sc_law.nd rfl (Or.inl rfl) (pe_lst (pa_cons (pe_tup (pa_cons pe_int (pa_cons pe_int pa_nil))) (pa_cons (pe_tup (pa_cons pe_int (pa_cons pe_int pa_nil))) (pa_cons (pe_tup (pa_cons pe_int (pa_cons (pe_un un_neg pe_int) pa_nil))) (pa_cons (pe_tup (pa_cons pe_int (pa_cons pe_int pa_nil))) (pa_cons (pe_tup (pa_cons pe_int (pa_cons pe_int (pa_cons pe_int pa_nil)))) (pa_cons (pe_lst (pa_cons pe_int (pa_cons pe_int pa_nil))) (pa_cons (pe_tup (pa_cons pe_int pa_nil)) (pa_cons pe_str (pa_cons pe_non (pa_cons (pe_tup (pa_cons pe_bl (pa_cons pe_int pa_nil))) (pa_cons (pe_tup (pa_cons pe_int (pa_cons pe_bl pa_nil))) (pa_cons (pe_tup (pa_cons (pe_op op_pow pe_int pe_int) (pa_cons pe_int pa_nil))) (pa_cons pe_bl pa_nil)))))))))))))))
      (pss_cons (ps_if (pt_cmpR (op_neD (hu64 hr)) (pe_lc (own := [("value", 4)]) (g := gName 4) rfl sc_law.nd (pi_list (pv 2)) (blkOk_by (N := ["script", "spot", "odd", "told", "value"]) (sc := defScope s_law) (by decide +kernel)) (fun _ _ _ _ _ => (pg_name (i := 4) sc_law.nd rfl (Or.inl rfl))) (fun _ _ _ _ _ => (pts_one (PW.pt (pw_or (pt_val (pe_call (G_is_fraction.mono (by decide)) hr (by rfl) T.g_is_fraction T.k_is_fraction T.b_is_fraction .nil pass0 (pa_cons (pv 4) pa_nil))) (pw_or1 (pt_val (pe_call (G_is_number.mono (by decide)) hr (by rfl) T.g_is_number T.k_is_number T.b_is_number .nil pass0 (pa_cons (pv 4) pa_nil)))))))) (fun _ _ _ _ _ => (pv 4))) (pe_lst pa_nil) (nomark _)) (pss_one (ps_ret pe_bl)) pss_nil)
      (pss_cons (ps_setLc (i := 3) (own := [("value", 4)]) (g := gName 4) (tt := tYes) rfl sc_law.nd rfl rfl (sw_true rfl rfl rfl (by decide +kernel)) (pi_tup (pe_tup (pa_cons pe_int (pa_cons (pe_op op_sub pe_int (pe_op op_pow pe_int pe_int)) (pa_cons (pe_op op_pow pe_int pe_int) (pa_cons pe_bl (pa_cons pe_non (pa_cons pe_str (pa_cons (pe_tup (pa_cons pe_int pa_nil)) (pa_cons (pe_tup (pa_cons pe_int (pa_cons pe_int pa_nil))) pa_nil)))))))))) (blkOk_by (N := ["script", "spot", "odd", "told", "value"]) (sc := defScope s_law) (by decide +kernel)) (fun _ _ _ _ _ => (pg_name (i := 4) sc_law.nd rfl (Or.inl rfl))) (fun _ _ _ _ _ => pts_nil) (fun _ _ _ _ _ => (pe_call (G_is_integer.mono (by decide)) hr (by rfl) T.g_is_integer T.k_is_integer T.b_is_integer .nil pass0 (pa_cons (pv 4) pa_nil))))
      (pss_cons (ps_if (PW.pt (pw_or (pt_cmpR (op_neD (hu64 hr)) (pv 3) (pe_op op_cat (pe_lst (pa_cons pe_bl (pa_cons pe_bl pa_nil))) (pe_op op_rep (pe_lst (pa_cons pe_bl pa_nil)) pe_int)) (nomark _)) (pw_or (pt_val (pe_call (G_is_fraction.mono (by decide)) hr (by rfl) T.g_is_fraction T.k_is_fraction T.b_is_fraction .nil pass0 (pa_cons pe_int pa_nil))) (pw_or (pt_not (pt_val (pe_call (G_is_number.mono (by decide)) hr (by rfl) T.g_is_number T.k_is_number T.b_is_number .nil pass0 (pa_cons pe_int pa_nil)))) (pw_or1 (pt_not (pt_val (pe_call (G_is_number.mono (by decide)) hr (by rfl) T.g_is_number T.k_is_number T.b_is_number .nil pass0 (pa_cons (pe_tup (pa_cons pe_int (pa_cons pe_int pa_nil))) pa_nil))))))))) (pss_one (ps_ret pe_bl)) pss_nil)
      (pss_one (ps_ret (pe_cmpR (op_eqD (hu64 hr)) (pe_lst (pa_cons (pe_call (G_lowest.mono (by decide)) hr (by rfl) T.g_lowest T.k_lowest T.b_lowest .nil pass0 (pa_cons pe_int (pa_cons (pe_un un_neg pe_int) pa_nil))) (pa_cons (pe_call (G_floor_of.mono (by decide)) hr (by rfl) T.g_floor_of T.k_floor_of T.b_floor_of .nil pass0 (pa_cons (pe_tup (pa_cons (pe_un un_neg pe_int) (pa_cons pe_int pa_nil))) pa_nil)) (pa_cons (pe_call (G_rest_of.mono (by decide)) hr (by rfl) T.g_rest_of T.k_rest_of T.b_rest_of .nil pass0 (pa_cons (pe_tup (pa_cons (pe_un un_neg pe_int) (pa_cons pe_int pa_nil))) pa_nil)) (pa_cons (pe_call (G_rest_of.mono (by decide)) hr (by rfl) T.g_rest_of T.k_rest_of T.b_rest_of .nil pass0 (pa_cons pe_int pa_nil)) (pa_cons (pe_call (G_compare.mono (by decide)) hr (by rfl) T.g_compare T.k_compare T.b_compare .nil pass0 (pa_cons pe_int (pa_cons (pe_tup (pa_cons pe_int (pa_cons pe_int pa_nil))) pa_nil))) pa_nil)))))) (pe_lst (pa_cons (pe_tup (pa_cons (pe_un un_neg pe_int) (pa_cons pe_int pa_nil))) (pa_cons (pe_un un_neg pe_int) (pa_cons (pe_tup (pa_cons pe_int (pa_cons pe_int pa_nil))) (pa_cons (pe_tup (pa_cons pe_int (pa_cons pe_int pa_nil))) (pa_cons pe_int pa_nil)))))) (nomark _))))))))), ?_⟩)
  · obtain ⟨a, ns, rfl, _⟩ := h
    rfl
  obtain ⟨a, ns, rfl, hS, hlen, k⟩ := h
  walk_at "go"
  refine lenS_of hS ?_
  walk_at "go"
  rw [List.length_map]
  refine ⟨by repeat (first | omega | split), by repeat (first | omega | split), ?_⟩
  refine for_range (fun _ σ H' => (∃ y, σ = [some (.ref a), y, none, none, none]) ∧ SqL K H' a (ns.map V.int)) ⟨⟨_, rfl⟩, hS⟩ ?_ ?_
  · rintro i σ H' _ ⟨⟨y, rfl⟩, hS'⟩
    walk_at "go"
    refine ⟨a, ns, _, rfl, hS', by omega, fun p H1 np s1 d1 => ?_⟩
    refine ⟨p, rfl, d1, fun H2 b2 => ?_⟩
    walk_at "go"
    exact (Same.but np s1 b2).seq hS'
  · rintro σ H' ⟨⟨y, rfl⟩, _⟩
    clear hS
    walk_at "go"
    intro p1 h1; generalize e1 : upd H' p1 _ = H1 at *; have s1 : Same H' H1 := (by rw [← e1]; exact same_upd h1); have t1 := congrFun e1 p1; rw [upd_same] at t1; clear e1 h1
    intro p2 h2; generalize e2 : upd H1 p2 _ = H2 at *; have s2 : Same H1 H2 := (by rw [← e2]; exact same_upd h2); have t2 := congrFun e2 p2; rw [upd_same] at t2; clear e2 h2
    intro p3 h3; generalize e3 : upd H2 p3 _ = H3 at *; have s3 : Same H2 H3 := (by rw [← e3]; exact same_upd h3); have t3 := congrFun e3 p3; rw [upd_same] at t3; clear e3 h3
    intro p4 h4; generalize e4 : upd H3 p4 _ = H4 at *; have s4 : Same H3 H4 := (by rw [← e4]; exact same_upd h4); have t4 := congrFun e4 p4; rw [upd_same] at t4; clear e4 h4
    intro p5 h5; generalize e5 : upd H4 p5 _ = H5 at *; have s5 : Same H4 H5 := (by rw [← e5]; exact same_upd h5); have t5 := congrFun e5 p5; rw [upd_same] at t5; clear e5 h5
    intro p6 h6; generalize e6 : upd H5 p6 _ = H6 at *; have s6 : Same H5 H6 := (by rw [← e6]; exact same_upd h6); have t6 := congrFun e6 p6; rw [upd_same] at t6; clear e6 h6
    intro p7 h7; generalize e7 : upd H6 p7 _ = H7 at *; have s7 : Same H6 H7 := (by rw [← e7]; exact same_upd h7); have t7 := congrFun e7 p7; rw [upd_same] at t7; clear e7 h7
    intro p8 h8; generalize e8 : upd H7 p8 _ = H8 at *; have s8 : Same H7 H8 := (by rw [← e8]; exact same_upd h8); have t8 := congrFun e8 p8; rw [upd_same] at t8; clear e8 h8
    intro p9 h9; generalize e9 : upd H8 p9 _ = H9 at *; have s9 : Same H8 H9 := (by rw [← e9]; exact same_upd h9); have t9 := congrFun e9 p9; rw [upd_same] at t9; clear e9 h9
    walk_at "go"
    intro p10 h10; generalize e10 : upd H9 p10 _ = H10 at *; have s10 : Same H9 H10 := (by rw [← e10]; exact same_upd h10); have t10 := congrFun e10 p10; rw [upd_same] at t10; clear e10 h10
    intro p11 h11; generalize e11 : upd H10 p11 _ = H11 at *; have s11 : Same H10 H11 := (by rw [← e11]; exact same_upd h11); have t11 := congrFun e11 p11; rw [upd_same] at t11; clear e11 h11
    walk_at "go"
    have LL : TdL H11 [.tup [.int 2, .int 4], .tup [.int 1, .int 0], .tup [.int 1, .int (-2)], .tup [.int 0, .int 2], .tup [.int 1, .int 2, .int 3], .lst [.int 1, .int 2], .tup [.int 1], .str (Str.ofString "1/2"), .non, .tup [.bl true, .int 1], .tup [.int 1, .bl true], .tup [.int 1000000000000000000000000000000000000000000000000000000000000, .int 1], .bl true] _ := (tdl_cons (td_tup ((s2.trans (s3.trans (s4.trans (s5.trans (s6.trans (s7.trans (s8.trans (s9.trans (s10.trans s11))))))))) _ _ t1.symm) (tdl_cons td_int (tdl_cons td_int tdl_nil))) (tdl_cons (td_tup ((s3.trans (s4.trans (s5.trans (s6.trans (s7.trans (s8.trans (s9.trans (s10.trans s11)))))))) _ _ t2.symm) (tdl_cons td_int (tdl_cons td_int tdl_nil))) (tdl_cons (td_tup ((s4.trans (s5.trans (s6.trans (s7.trans (s8.trans (s9.trans (s10.trans s11))))))) _ _ t3.symm) (tdl_cons td_int (tdl_cons td_int tdl_nil))) (tdl_cons (td_tup ((s5.trans (s6.trans (s7.trans (s8.trans (s9.trans (s10.trans s11)))))) _ _ t4.symm) (tdl_cons td_int (tdl_cons td_int tdl_nil))) (tdl_cons (td_tup ((s6.trans (s7.trans (s8.trans (s9.trans (s10.trans s11))))) _ _ t5.symm) (tdl_cons td_int (tdl_cons td_int (tdl_cons td_int tdl_nil)))) (tdl_cons (td_lst ((s7.trans (s8.trans (s9.trans (s10.trans s11)))) _ _ t6.symm) (tdl_cons td_int (tdl_cons td_int tdl_nil))) (tdl_cons (td_tup ((s8.trans (s9.trans (s10.trans s11))) _ _ t7.symm) (tdl_cons td_int tdl_nil)) (tdl_cons td_str (tdl_cons td_non (tdl_cons (td_tup ((s9.trans (s10.trans s11)) _ _ t8.symm) (tdl_cons td_bl (tdl_cons td_int tdl_nil))) (tdl_cons (td_tup ((s10.trans s11) _ _ t9.symm) (tdl_cons td_int (tdl_cons td_bl tdl_nil))) (tdl_cons (td_tup (s11 _ _ t10.symm) (tdl_cons td_int (tdl_cons td_int tdl_nil))) (tdl_cons td_bl tdl_nil)))))))))))))
    refine ⟨⟨_, .inl (.inl t11.symm)⟩, fun D hD => ?_⟩
    have nDp : p11 ≠ D := fun z => by subst z; rw [← t11] at hD; cases hD
    refine lc_list (fun _ H' => Same H11 H' ∧ H' D = some (.lst [])) ⟨same_upd hD, upd_same⟩ (fun i H' _ h => .inl (.inl (h.1 _ _ t11.symm))) ?_ ?_
    · rintro i x H' hx ⟨S, hDD⟩
      obtain ⟨d, md, td⟩ := LL.mem (List.mem_of_getElem? hx)
      have td := Td.same S _ _ td
      have hf : isFraction d = false ∧ isNumber d = false := by
        have : ∀ e ∈ ([.tup [.int 2, .int 4], .tup [.int 1, .int 0], .tup [.int 1, .int (-2)], .tup [.int 0, .int 2], .tup [.int 1, .int 2, .int 3], .lst [.int 1, .int 2], .tup [.int 1], .str (Str.ofString "1/2"), .non, .tup [.bl true, .int 1], .tup [.int 1, .bl true], .tup [.int 1000000000000000000000000000000000000000000000000000000000000, .int 1], .bl true] : List Da), isFraction e = false ∧ isNumber e = false := by decide +kernel
        exact this d md
      simp only [wipe]
      walk_at "go"
      rw [hf.1]
      walk_at "go"
      rw [hf.2]
      walk_at "go"
      exact ⟨S, hDD⟩
    · rintro H12 ⟨S, hDD⟩
      intro l hl
      refine neD_of (td_lst (same_upd hl _ _ hDD) tdl_nil) (td_lst upd_same tdl_nil) rfl rfl (by rfl) (by rfl) ?_
      simp only [Da.py, Da.pys, PyData.eqv, PyData.eqvAll]
      generalize upd H12 l _ = H13
      clear hDD S LL
      walk_at "go"
      intro p h; generalize e : upd H13 p _ = H14 at *; have s14 : Same H13 H14 := (by rw [← e]; exact same_upd h); have t14 := congrFun e p; rw [upd_same] at t14; clear e h
      intro p' h; generalize e : upd H14 p' _ = H15 at *; have s15 : Same H14 H15 := (by rw [← e]; exact same_upd h); have t15 := congrFun e p'; rw [upd_same] at t15; clear e h
      intro p'' h; generalize e : upd H15 p'' _ = H16 at *; have s16 : Same H15 H16 := (by rw [← e]; exact same_upd h); have t16 := congrFun e p''; rw [upd_same] at t16; clear e h
      refine ⟨⟨_, .inl (.inl t16.symm)⟩, ?_⟩
      refine lc_judge (ds := [.int 0, .int (-999999999999999999999999999999999999999999999999999999999999), .int 1000000000000000000000000000000000000000000000000000000000000, .bl true, .non, .str (Str.ofString "1"), .tup [.int 1], .tup [.int 1, .int 1]]) t16.symm (tdl_cons td_int (tdl_cons td_int (tdl_cons td_int (tdl_cons td_bl (tdl_cons td_non (tdl_cons td_str (tdl_cons (td_tup ((s15.trans s16) _ _ t14.symm) (tdl_cons td_int tdl_nil)) (tdl_cons (td_tup (s16 _ _ t15.symm) (tdl_cons td_int (tdl_cons td_int tdl_nil))) tdl_nil)))))))) (by simp) (by simp) fun H17 l' s17 hl' => ?_
      rw [show (List.map (fun d => V.bl (isInteger d)) ([.int 0, .int (-999999999999999999999999999999999999999999999999999999999999), .int 1000000000000000000000000000000000000000000000000000000000000, .bl true, .non, .str (Str.ofString "1"), .tup [.int 1], .tup [.int 1, .int 1]] : List Da)) = [.bl true, .bl true, .bl false, .bl false, .bl false, .bl false, .bl false, .bl false] by simp only [List.map_cons, List.map_nil, isInteger]; rfl] at hl'
      have tl := td_lst hl' (ds := [.bl true, .bl true, .bl false, .bl false, .bl false, .bl false, .bl false, .bl false]) (tdl_cons td_bl (tdl_cons td_bl (tdl_cons td_bl (tdl_cons td_bl (tdl_cons td_bl (tdl_cons td_bl (tdl_cons td_bl (tdl_cons td_bl tdl_nil))))))))
      intro q1 h; generalize e : upd H17 q1 _ = H18 at *; have s18 : Same H17 H18 := (by rw [← e]; exact same_upd h); have t18 := congrFun e q1; rw [upd_same] at t18; clear e h
      intro q2 h; generalize e : upd H18 q2 _ = H19 at *; have s19 : Same H18 H19 := (by rw [← e]; exact same_upd h); have t19 := congrFun e q2; rw [upd_same] at t19; clear e h
      refine rep_of t19.symm (by decide) (by decide) (by decide) fun q3 h => ?_
      generalize e : upd H19 q3 _ = H20 at *; have s20 : Same H19 H20 := (by rw [← e]; exact same_upd h); have t20 := congrFun e q3; rw [upd_same] at t20; clear e h
      refine cat_of ((s19.trans s20) _ _ t18.symm) t20.symm (by decide) fun q4 h => ?_
      generalize e : upd H20 q4 _ = H21 at *; have s21 : Same H20 H21 := (by rw [← e]; exact same_upd h); have t21 := congrFun e q4; rw [upd_same] at t21; clear e h
      refine neD_of (Td.same (s18.trans (s19.trans (s20.trans s21))) _ _ tl) (td_lst t21.symm (ds := [.bl true, .bl true, .bl false, .bl false, .bl false, .bl false, .bl false, .bl false]) (tdl_cons td_bl (tdl_cons td_bl (tdl_cons td_bl (tdl_cons td_bl (tdl_cons td_bl (tdl_cons td_bl (tdl_cons td_bl (tdl_cons td_bl tdl_nil))))))))) rfl rfl (by rfl) (by rfl) ?_
      clear tl hl'
      simp only [Da.py, Da.pys, PyData.eqv, PyData.eqvAll, BEq.rfl, Bool.and_self]
      walk_at "go"
      rw [show isFraction (.int 1) = false from rfl]
      walk_at "go"
      rw [show isNumber (.int 1) = true by decide +kernel]
      walk_at "go"
      intro p h; generalize e : upd H21 p _ = H22 at *; have s22 : Same H21 H22 := (by rw [← e]; exact same_upd h); have t22 := congrFun e p; rw [upd_same] at t22; clear e h
      refine use_J (td_tup t22.symm (tdl_cons td_int (tdl_cons td_int tdl_nil))) ?_
      rw [show isNumber (.tup [.int 1, .int 1]) = true by decide +kernel]
      walk_at "go"
      refine ⟨6, -4, rfl, by decide, by unfold B; decide, by unfold B; decide, fun H23 x0 s23 f0 => ?_⟩
      have e0 : (Rat.divInt 6 (-4)).num = -3 ∧ (Rat.divInt 6 (-4)).den = 2 := by decide +kernel
      have em : (Rat.divInt (-3) 2).num = -3 ∧ (Rat.divInt (-3) 2).den = 2 := by decide +kernel
      have eh : (Rat.divInt 1 2).num = 1 ∧ (Rat.divInt 1 2).den = 2 := by decide +kernel
      have ez : (Rat.divInt 0 1).num = 0 ∧ (Rat.divInt 0 1).den = 1 := by decide +kernel
      have f0 := f0.td
      rw [e0.1, e0.2] at f0
      intro p h; generalize e : upd H23 p _ = H24 at *; have s24 : Same H23 H24 := (by rw [← e]; exact same_upd h); have t24 := congrFun e p; rw [upd_same] at t24; clear e h
      have fm : Fr H24 (.ref p) (Rat.divInt (-3) 2) := ⟨p, rfl, by rw [em.1, em.2]; exact t24.symm⟩
      refine ⟨_, _, rfl, .inr fm, by rw [em.1]; unfold B; decide, by rw [em.2]; unfold B; decide, fun H25 s25 => ?_⟩
      rw [em.1, em.2]
      walk_at "go"
      intro p h; generalize e : upd H25 p _ = H26 at *; have s26 : Same H25 H26 := (by rw [← e]; exact same_upd h); have t26 := congrFun e p; rw [upd_same] at t26; clear e h
      have fm : Fr H26 (.ref p) (Rat.divInt (-3) 2) := ⟨p, rfl, by rw [em.1, em.2]; exact t26.symm⟩
      refine ⟨_, _, rfl, .inr fm, by rw [em.1]; unfold B; decide, by rw [em.2]; unfold B; decide, fun H27 x2 s27 f2 => ?_⟩
      rw [em.1, em.2] at f2
      have f2 := (show Fr H27 x2 (Rat.divInt 1 2) from f2).td
      rw [eh.1, eh.2] at f2
      walk_at "go"
      refine ⟨_, (4 : Rat), rfl, .inl ⟨rfl, rfl⟩, by unfold B; decide, by unfold B; decide, fun H28 x3 s28 f3 => ?_⟩
      have f3 := (show Fr H28 x3 (Rat.divInt 0 1) from f3).td
      rw [ez.1, ez.2] at f3
      walk_at "go"
      intro p h; generalize e : upd H28 p _ = H29 at *; have s29 : Same H28 H29 := (by rw [← e]; exact same_upd h); have t29 := congrFun e p; rw [upd_same] at t29; clear e h
      refine ⟨_, _, (2 : Rat), (2 : Rat), rfl, .inl ⟨rfl, rfl⟩, .inr ⟨p, rfl, t29.symm⟩, by unfold B; decide, by unfold B; decide, by unfold B; decide, by unfold B; decide, fun H30 s30 => ?_⟩
      have e4 : ((2 : Rat) - 2).num = 0 := by decide +kernel
      rw [if_pos e4]
      walk_at "go"
      intro l1 h; generalize e : upd H30 l1 _ = H31 at *; have s31 : Same H30 H31 := (by rw [← e]; exact same_upd h); have t31 := congrFun e l1; rw [upd_same] at t31; clear e h
      intro q1 h; generalize e : upd H31 q1 _ = H32 at *; have s32 : Same H31 H32 := (by rw [← e]; exact same_upd h); have t32 := congrFun e q1; rw [upd_same] at t32; clear e h
      intro q2 h; generalize e : upd H32 q2 _ = H33 at *; have s33 : Same H32 H33 := (by rw [← e]; exact same_upd h); have t33 := congrFun e q2; rw [upd_same] at t33; clear e h
      intro q3 h; generalize e : upd H33 q3 _ = H34 at *; have s34 : Same H33 H34 := (by rw [← e]; exact same_upd h); have t34 := congrFun e q3; rw [upd_same] at t34; clear e h
      intro l2 h; generalize e : upd H34 l2 _ = H35 at *; have s35 : Same H34 H35 := (by rw [← e]; exact same_upd h); have t35 := congrFun e l2; rw [upd_same] at t35; clear e h
      have L1 : Td H31 (.lst [.tup [.int (-3), .int 2], .int (-2), .tup [.int 1, .int 2], .tup [.int 0, .int 1], .int 0]) (.ref l1) :=
        td_lst t31.symm (tdl_cons (Td.same (s24.trans (s25.trans (s26.trans (s27.trans (s28.trans (s29.trans (s30.trans s31))))))) _ _ f0) (tdl_cons td_int (tdl_cons (Td.same (s28.trans (s29.trans (s30.trans s31))) _ _ f2) (tdl_cons (Td.same (s29.trans (s30.trans s31)) _ _ f3) (tdl_cons td_int tdl_nil)))))
      have L2 : Td H35 (.lst [.tup [.int (-3), .int 2], .int (-2), .tup [.int 1, .int 2], .tup [.int 0, .int 1], .int 0]) (.ref l2) :=
        td_lst t35.symm (tdl_cons (td_tup ((s33.trans (s34.trans s35)) _ _ t32.symm) (tdl_cons td_int (tdl_cons td_int tdl_nil))) (tdl_cons td_int (tdl_cons (td_tup ((s34.trans s35) _ _ t33.symm) (tdl_cons td_int (tdl_cons td_int tdl_nil))) (tdl_cons (td_tup (s35 _ _ t34.symm) (tdl_cons td_int (tdl_cons td_int tdl_nil))) (tdl_cons td_int tdl_nil)))))
      refine eqD_of (Td.same (s32.trans (s33.trans (s34.trans s35))) _ _ L1) L2 rfl rfl (by rfl) (by rfl) ?_
      simp only [Da.py, Da.pys, PyData.eqv, PyData.eqvAll, BEq.rfl, Bool.and_self]
      exact k _
end
end K00

set_option Elab.async false
set_option linter.all false
set_option maxRecDepth 100000
namespace K00
open PySem PySem.Spec PyProof.Rows L2 TT
theorem all_mk {l : PySem.W.OpenLaw} {w : World} {K : PySem.W.Frag} {h : Heap} {mg : Str → Option Value} {fa : Addr} (X : K.In h) (G : h.Ns mainGlobals mg) (hfa : mg "law" = some (.ref fa))
    {f0 : Addr} {od0 an0 : Option Addr} {sl0 : Array (Option Value)} {oc0 kV0 dc0 pm0 cd0 ct0 : Value}
    (a0 : PySem.W.nsIn K mainGlobals "is_whole" = some (some (.ref f0))) (l0 : K.lookup f0 = some ⟨oc0, od0, .func (PySem.W.fnOf "is_whole" "is_whole" (defArgs s_is_whole) (defBody s_is_whole) (defScope s_is_whole) .none kV0 dc0 pm0 an0 cd0 ct0), sl0⟩) (c0 : PySem.W.codeIn K cd0 "is_whole" = true) (k0 : PySem.W.keepIn K (.ref f0) = true)
    {f1 : Addr} {od1 an1 : Option Addr} {sl1 : Array (Option Value)} {oc1 kV1 dc1 pm1 cd1 ct1 : Value}
    (a1 : PySem.W.nsIn K mainGlobals "ratio" = some (some (.ref f1))) (l1 : K.lookup f1 = some ⟨oc1, od1, .func (PySem.W.fnOf "ratio" "ratio" (defArgs s_ratio) (defBody s_ratio) (defScope s_ratio) .none kV1 dc1 pm1 an1 cd1 ct1), sl1⟩) (c1 : PySem.W.codeIn K cd1 "ratio" = true) (k1 : PySem.W.keepIn K (.ref f1) = true)
    {f2 : Addr} {od2 an2 : Option Addr} {sl2 : Array (Option Value)} {oc2 kV2 dc2 pm2 cd2 ct2 : Value}
    (a2 : PySem.W.nsIn K mainGlobals "is_ratio" = some (some (.ref f2))) (l2 : K.lookup f2 = some ⟨oc2, od2, .func (PySem.W.fnOf "is_ratio" "is_ratio" (defArgs s_is_ratio) (defBody s_is_ratio) (defScope s_is_ratio) .none kV2 dc2 pm2 an2 cd2 ct2), sl2⟩) (c2 : PySem.W.codeIn K cd2 "is_ratio" = true) (k2 : PySem.W.keepIn K (.ref f2) = true)
    {f3 : Addr} {od3 an3 : Option Addr} {sl3 : Array (Option Value)} {oc3 kV3 dc3 pm3 cd3 ct3 : Value}
    (a3 : PySem.W.nsIn K mainGlobals "pair_of" = some (some (.ref f3))) (l3 : K.lookup f3 = some ⟨oc3, od3, .func (PySem.W.fnOf "pair_of" "pair_of" (defArgs s_pair_of) (defBody s_pair_of) (defScope s_pair_of) .none kV3 dc3 pm3 an3 cd3 ct3), sl3⟩) (c3 : PySem.W.codeIn K cd3 "pair_of" = true) (k3 : PySem.W.keepIn K (.ref f3) = true)
    {f4 : Addr} {od4 an4 : Option Addr} {sl4 : Array (Option Value)} {oc4 kV4 dc4 pm4 cd4 ct4 : Value}
    (a4 : PySem.W.nsIn K mainGlobals "ratio_sum" = some (some (.ref f4))) (l4 : K.lookup f4 = some ⟨oc4, od4, .func (PySem.W.fnOf "ratio_sum" "ratio_sum" (defArgs s_ratio_sum) (defBody s_ratio_sum) (defScope s_ratio_sum) .none kV4 dc4 pm4 an4 cd4 ct4), sl4⟩) (c4 : PySem.W.codeIn K cd4 "ratio_sum" = true) (k4 : PySem.W.keepIn K (.ref f4) = true)
    {f5 : Addr} {od5 an5 : Option Addr} {sl5 : Array (Option Value)} {oc5 kV5 dc5 pm5 cd5 ct5 : Value}
    (a5 : PySem.W.nsIn K mainGlobals "ratio_difference" = some (some (.ref f5))) (l5 : K.lookup f5 = some ⟨oc5, od5, .func (PySem.W.fnOf "ratio_difference" "ratio_difference" (defArgs s_ratio_difference) (defBody s_ratio_difference) (defScope s_ratio_difference) .none kV5 dc5 pm5 an5 cd5 ct5), sl5⟩) (c5 : PySem.W.codeIn K cd5 "ratio_difference" = true) (k5 : PySem.W.keepIn K (.ref f5) = true)
    {f6 : Addr} {od6 an6 : Option Addr} {sl6 : Array (Option Value)} {oc6 kV6 dc6 pm6 cd6 ct6 : Value}
    (a6 : PySem.W.nsIn K mainGlobals "ratio_product" = some (some (.ref f6))) (l6 : K.lookup f6 = some ⟨oc6, od6, .func (PySem.W.fnOf "ratio_product" "ratio_product" (defArgs s_ratio_product) (defBody s_ratio_product) (defScope s_ratio_product) .none kV6 dc6 pm6 an6 cd6 ct6), sl6⟩) (c6 : PySem.W.codeIn K cd6 "ratio_product" = true) (k6 : PySem.W.keepIn K (.ref f6) = true)
    {f7 : Addr} {od7 an7 : Option Addr} {sl7 : Array (Option Value)} {oc7 kV7 dc7 pm7 cd7 ct7 : Value}
    (a7 : PySem.W.nsIn K mainGlobals "ratio_quotient" = some (some (.ref f7))) (l7 : K.lookup f7 = some ⟨oc7, od7, .func (PySem.W.fnOf "ratio_quotient" "ratio_quotient" (defArgs s_ratio_quotient) (defBody s_ratio_quotient) (defScope s_ratio_quotient) .none kV7 dc7 pm7 an7 cd7 ct7), sl7⟩) (c7 : PySem.W.codeIn K cd7 "ratio_quotient" = true) (k7 : PySem.W.keepIn K (.ref f7) = true)
    {f8 : Addr} {od8 an8 : Option Addr} {sl8 : Array (Option Value)} {oc8 kV8 dc8 pm8 cd8 ct8 : Value}
    (a8 : PySem.W.nsIn K mainGlobals "is_integer" = some (some (.ref f8))) (l8 : K.lookup f8 = some ⟨oc8, od8, .func (PySem.W.fnOf "is_integer" "is_integer" (defArgs s_is_integer) (defBody s_is_integer) (defScope s_is_integer) .none kV8 dc8 pm8 an8 cd8 ct8), sl8⟩) (c8 : PySem.W.codeIn K cd8 "is_integer" = true) (k8 : PySem.W.keepIn K (.ref f8) = true)
    {f9 : Addr} {od9 an9 : Option Addr} {sl9 : Array (Option Value)} {oc9 kV9 dc9 pm9 cd9 ct9 : Value}
    (a9 : PySem.W.nsIn K mainGlobals "is_fraction" = some (some (.ref f9))) (l9 : K.lookup f9 = some ⟨oc9, od9, .func (PySem.W.fnOf "is_fraction" "is_fraction" (defArgs s_is_fraction) (defBody s_is_fraction) (defScope s_is_fraction) .none kV9 dc9 pm9 an9 cd9 ct9), sl9⟩) (c9 : PySem.W.codeIn K cd9 "is_fraction" = true) (k9 : PySem.W.keepIn K (.ref f9) = true)
    {f10 : Addr} {od10 an10 : Option Addr} {sl10 : Array (Option Value)} {oc10 kV10 dc10 pm10 cd10 ct10 : Value}
    (a10 : PySem.W.nsIn K mainGlobals "is_number" = some (some (.ref f10))) (l10 : K.lookup f10 = some ⟨oc10, od10, .func (PySem.W.fnOf "is_number" "is_number" (defArgs s_is_number) (defBody s_is_number) (defScope s_is_number) .none kV10 dc10 pm10 an10 cd10 ct10), sl10⟩) (c10 : PySem.W.codeIn K cd10 "is_number" = true) (k10 : PySem.W.keepIn K (.ref f10) = true)
    {f11 : Addr} {od11 an11 : Option Addr} {sl11 : Array (Option Value)} {oc11 kV11 dc11 pm11 cd11 ct11 : Value}
    (a11 : PySem.W.nsIn K mainGlobals "lowest" = some (some (.ref f11))) (l11 : K.lookup f11 = some ⟨oc11, od11, .func (PySem.W.fnOf "lowest" "lowest" (defArgs s_lowest) (defBody s_lowest) (defScope s_lowest) .none kV11 dc11 pm11 an11 cd11 ct11), sl11⟩) (c11 : PySem.W.codeIn K cd11 "lowest" = true) (k11 : PySem.W.keepIn K (.ref f11) = true)
    {f12 : Addr} {od12 an12 : Option Addr} {sl12 : Array (Option Value)} {oc12 kV12 dc12 pm12 cd12 ct12 : Value}
    (a12 : PySem.W.nsIn K mainGlobals "plus" = some (some (.ref f12))) (l12 : K.lookup f12 = some ⟨oc12, od12, .func (PySem.W.fnOf "plus" "plus" (defArgs s_plus) (defBody s_plus) (defScope s_plus) .none kV12 dc12 pm12 an12 cd12 ct12), sl12⟩) (c12 : PySem.W.codeIn K cd12 "plus" = true) (k12 : PySem.W.keepIn K (.ref f12) = true)
    {f13 : Addr} {od13 an13 : Option Addr} {sl13 : Array (Option Value)} {oc13 kV13 dc13 pm13 cd13 ct13 : Value}
    (a13 : PySem.W.nsIn K mainGlobals "minus" = some (some (.ref f13))) (l13 : K.lookup f13 = some ⟨oc13, od13, .func (PySem.W.fnOf "minus" "minus" (defArgs s_minus) (defBody s_minus) (defScope s_minus) .none kV13 dc13 pm13 an13 cd13 ct13), sl13⟩) (c13 : PySem.W.codeIn K cd13 "minus" = true) (k13 : PySem.W.keepIn K (.ref f13) = true)
    {f14 : Addr} {od14 an14 : Option Addr} {sl14 : Array (Option Value)} {oc14 kV14 dc14 pm14 cd14 ct14 : Value}
    (a14 : PySem.W.nsIn K mainGlobals "times" = some (some (.ref f14))) (l14 : K.lookup f14 = some ⟨oc14, od14, .func (PySem.W.fnOf "times" "times" (defArgs s_times) (defBody s_times) (defScope s_times) .none kV14 dc14 pm14 an14 cd14 ct14), sl14⟩) (c14 : PySem.W.codeIn K cd14 "times" = true) (k14 : PySem.W.keepIn K (.ref f14) = true)
    {f15 : Addr} {od15 an15 : Option Addr} {sl15 : Array (Option Value)} {oc15 kV15 dc15 pm15 cd15 ct15 : Value}
    (a15 : PySem.W.nsIn K mainGlobals "over" = some (some (.ref f15))) (l15 : K.lookup f15 = some ⟨oc15, od15, .func (PySem.W.fnOf "over" "over" (defArgs s_over) (defBody s_over) (defScope s_over) .none kV15 dc15 pm15 an15 cd15 ct15), sl15⟩) (c15 : PySem.W.codeIn K cd15 "over" = true) (k15 : PySem.W.keepIn K (.ref f15) = true)
    {f16 : Addr} {od16 an16 : Option Addr} {sl16 : Array (Option Value)} {oc16 kV16 dc16 pm16 cd16 ct16 : Value}
    (a16 : PySem.W.nsIn K mainGlobals "compare" = some (some (.ref f16))) (l16 : K.lookup f16 = some ⟨oc16, od16, .func (PySem.W.fnOf "compare" "compare" (defArgs s_compare) (defBody s_compare) (defScope s_compare) .none kV16 dc16 pm16 an16 cd16 ct16), sl16⟩) (c16 : PySem.W.codeIn K cd16 "compare" = true) (k16 : PySem.W.keepIn K (.ref f16) = true)
    {f17 : Addr} {od17 an17 : Option Addr} {sl17 : Array (Option Value)} {oc17 kV17 dc17 pm17 cd17 ct17 : Value}
    (a17 : PySem.W.nsIn K mainGlobals "floor_of" = some (some (.ref f17))) (l17 : K.lookup f17 = some ⟨oc17, od17, .func (PySem.W.fnOf "floor_of" "floor_of" (defArgs s_floor_of) (defBody s_floor_of) (defScope s_floor_of) .none kV17 dc17 pm17 an17 cd17 ct17), sl17⟩) (c17 : PySem.W.codeIn K cd17 "floor_of" = true) (k17 : PySem.W.keepIn K (.ref f17) = true)
    {f18 : Addr} {od18 an18 : Option Addr} {sl18 : Array (Option Value)} {oc18 kV18 dc18 pm18 cd18 ct18 : Value}
    (a18 : PySem.W.nsIn K mainGlobals "rest_of" = some (some (.ref f18))) (l18 : K.lookup f18 = some ⟨oc18, od18, .func (PySem.W.fnOf "rest_of" "rest_of" (defArgs s_rest_of) (defBody s_rest_of) (defScope s_rest_of) .none kV18 dc18 pm18 an18 cd18 ct18), sl18⟩) (c18 : PySem.W.codeIn K cd18 "rest_of" = true) (k18 : PySem.W.keepIn K (.ref f18) = true)
    {f19 : Addr} {od19 an19 : Option Addr} {sl19 : Array (Option Value)} {oc19 kV19 dc19 pm19 cd19 ct19 : Value}
    (a19 : PySem.W.nsIn K mainGlobals "_pair" = some (some (.ref f19))) (l19 : K.lookup f19 = some ⟨oc19, od19, .func (PySem.W.fnOf "_pair" "_pair" (defArgs s__pair) (defBody s__pair) (defScope s__pair) .none kV19 dc19 pm19 an19 cd19 ct19), sl19⟩) (c19 : PySem.W.codeIn K cd19 "_pair" = true) (k19 : PySem.W.keepIn K (.ref f19) = true)
    {f20 : Addr} {od20 an20 : Option Addr} {sl20 : Array (Option Value)} {oc20 kV20 dc20 pm20 cd20 ct20 : Value}
    (a20 : PySem.W.nsIn K mainGlobals "_law_dice" = some (some (.ref f20))) (l20 : K.lookup f20 = some ⟨oc20, od20, .func (PySem.W.fnOf "_law_dice" "_law_dice" (defArgs s__law_dice) (defBody s__law_dice) (defScope s__law_dice) .none kV20 dc20 pm20 an20 cd20 ct20), sl20⟩) (c20 : PySem.W.codeIn K cd20 "_law_dice" = true) (k20 : PySem.W.keepIn K (.ref f20) = true)
    {f21 : Addr} {od21 an21 : Option Addr} {sl21 : Array (Option Value)} {oc21 kV21 dc21 pm21 cd21 ct21 : Value}
    (a21 : PySem.W.nsIn K mainGlobals "_law_roll" = some (some (.ref f21))) (l21 : K.lookup f21 = some ⟨oc21, od21, .func (PySem.W.fnOf "_law_roll" "_law_roll" (defArgs s__law_roll) (defBody s__law_roll) (defScope s__law_roll) .none kV21 dc21 pm21 an21 cd21 ct21), sl21⟩) (c21 : PySem.W.codeIn K cd21 "_law_roll" = true) (k21 : PySem.W.keepIn K (.ref f21) = true)
    {f22 : Addr} {od22 an22 : Option Addr} {sl22 : Array (Option Value)} {oc22 kV22 dc22 pm22 cd22 ct22 : Value}
    (a22 : PySem.W.nsIn K mainGlobals "_law_pick" = some (some (.ref f22))) (l22 : K.lookup f22 = some ⟨oc22, od22, .func (PySem.W.fnOf "_law_pick" "_law_pick" (defArgs s__law_pick) (defBody s__law_pick) (defScope s__law_pick) .none kV22 dc22 pm22 an22 cd22 ct22), sl22⟩) (c22 : PySem.W.codeIn K cd22 "_law_pick" = true) (k22 : PySem.W.keepIn K (.ref f22) = true)
    {f23 : Addr} {od23 an23 : Option Addr} {sl23 : Array (Option Value)} {oc23 kV23 dc23 pm23 cd23 ct23 : Value}
    (a23 : PySem.W.nsIn K mainGlobals "_law_near" = some (some (.ref f23))) (l23 : K.lookup f23 = some ⟨oc23, od23, .func (PySem.W.fnOf "_law_near" "_law_near" (defArgs s__law_near) (defBody s__law_near) (defScope s__law_near) .none kV23 dc23 pm23 an23 cd23 ct23), sl23⟩) (c23 : PySem.W.codeIn K cd23 "_law_near" = true) (k23 : PySem.W.keepIn K (.ref f23) = true)
    {f24 : Addr} {od24 an24 : Option Addr} {sl24 : Array (Option Value)} {oc24 kV24 dc24 pm24 cd24 ct24 : Value}
    (a24 : PySem.W.nsIn K mainGlobals "_law_gcd" = some (some (.ref f24))) (l24 : K.lookup f24 = some ⟨oc24, od24, .func (PySem.W.fnOf "_law_gcd" "_law_gcd" (defArgs s__law_gcd) (defBody s__law_gcd) (defScope s__law_gcd) .none kV24 dc24 pm24 an24 cd24 ct24), sl24⟩) (c24 : PySem.W.codeIn K cd24 "_law_gcd" = true) (k24 : PySem.W.keepIn K (.ref f24) = true)
    {f25 : Addr} {od25 an25 : Option Addr} {sl25 : Array (Option Value)} {oc25 kV25 dc25 pm25 cd25 ct25 : Value}
    (a25 : PySem.W.nsIn K mainGlobals "_law_fraction" = some (some (.ref f25))) (l25 : K.lookup f25 = some ⟨oc25, od25, .func (PySem.W.fnOf "_law_fraction" "_law_fraction" (defArgs s__law_fraction) (defBody s__law_fraction) (defScope s__law_fraction) .none kV25 dc25 pm25 an25 cd25 ct25), sl25⟩) (c25 : PySem.W.codeIn K cd25 "_law_fraction" = true) (k25 : PySem.W.keepIn K (.ref f25) = true)
    {f26 : Addr} {od26 an26 : Option Addr} {sl26 : Array (Option Value)} {oc26 kV26 dc26 pm26 cd26 ct26 : Value}
    (a26 : PySem.W.nsIn K mainGlobals "_law_fr_plus" = some (some (.ref f26))) (l26 : K.lookup f26 = some ⟨oc26, od26, .func (PySem.W.fnOf "_law_fr_plus" "_law_fr_plus" (defArgs s__law_fr_plus) (defBody s__law_fr_plus) (defScope s__law_fr_plus) .none kV26 dc26 pm26 an26 cd26 ct26), sl26⟩) (c26 : PySem.W.codeIn K cd26 "_law_fr_plus" = true) (k26 : PySem.W.keepIn K (.ref f26) = true)
    {f27 : Addr} {od27 an27 : Option Addr} {sl27 : Array (Option Value)} {oc27 kV27 dc27 pm27 cd27 ct27 : Value}
    (a27 : PySem.W.nsIn K mainGlobals "_law_fr_times" = some (some (.ref f27))) (l27 : K.lookup f27 = some ⟨oc27, od27, .func (PySem.W.fnOf "_law_fr_times" "_law_fr_times" (defArgs s__law_fr_times) (defBody s__law_fr_times) (defScope s__law_fr_times) .none kV27 dc27 pm27 an27 cd27 ct27), sl27⟩) (c27 : PySem.W.codeIn K cd27 "_law_fr_times" = true) (k27 : PySem.W.keepIn K (.ref f27) = true)
    {f28 : Addr} {od28 an28 : Option Addr} {sl28 : Array (Option Value)} {oc28 kV28 dc28 pm28 cd28 ct28 : Value}
    (a28 : PySem.W.nsIn K mainGlobals "_law_number_some" = some (some (.ref f28))) (l28 : K.lookup f28 = some ⟨oc28, od28, .func (PySem.W.fnOf "_law_number_some" "_law_number_some" (defArgs s__law_number_some) (defBody s__law_number_some) (defScope s__law_number_some) .none kV28 dc28 pm28 an28 cd28 ct28), sl28⟩) (c28 : PySem.W.codeIn K cd28 "_law_number_some" = true) (k28 : PySem.W.keepIn K (.ref f28) = true)
    {f29 : Addr} {od29 an29 : Option Addr} {sl29 : Array (Option Value)} {oc29 kV29 dc29 pm29 cd29 ct29 : Value}
    (a29 : PySem.W.nsIn K mainGlobals "_law_two_right" = some (some (.ref f29))) (l29 : K.lookup f29 = some ⟨oc29, od29, .func (PySem.W.fnOf "_law_two_right" "_law_two_right" (defArgs s__law_two_right) (defBody s__law_two_right) (defScope s__law_two_right) .none kV29 dc29 pm29 an29 cd29 ct29), sl29⟩) (c29 : PySem.W.codeIn K cd29 "_law_two_right" = true) (k29 : PySem.W.keepIn K (.ref f29) = true)
    {f30 : Addr} {od30 an30 : Option Addr} {sl30 : Array (Option Value)} {oc30 kV30 dc30 pm30 cd30 ct30 : Value}
    (a30 : PySem.W.nsIn K mainGlobals "_law_floor_right" = some (some (.ref f30))) (l30 : K.lookup f30 = some ⟨oc30, od30, .func (PySem.W.fnOf "_law_floor_right" "_law_floor_right" (defArgs s__law_floor_right) (defBody s__law_floor_right) (defScope s__law_floor_right) .none kV30 dc30 pm30 an30 cd30 ct30), sl30⟩) (c30 : PySem.W.codeIn K cd30 "_law_floor_right" = true) (k30 : PySem.W.keepIn K (.ref f30) = true)
    {f31 : Addr} {od31 an31 : Option Addr} {sl31 : Array (Option Value)} {oc31 kV31 dc31 pm31 cd31 ct31 : Value}
    (a31 : PySem.W.nsIn K mainGlobals "_law_right" = some (some (.ref f31))) (l31 : K.lookup f31 = some ⟨oc31, od31, .func (PySem.W.fnOf "_law_right" "_law_right" (defArgs s__law_right) (defBody s__law_right) (defScope s__law_right) .none kV31 dc31 pm31 an31 cd31 ct31), sl31⟩) (c31 : PySem.W.codeIn K cd31 "_law_right" = true) (k31 : PySem.W.keepIn K (.ref f31) = true)
    {f32 : Addr} {od32 an32 : Option Addr} {sl32 : Array (Option Value)} {oc32 kV32 dc32 pm32 cd32 ct32 : Value}
    (a32 : PySem.W.nsIn K mainGlobals "law" = some (some (.ref f32))) (l32 : K.lookup f32 = some ⟨oc32, od32, .func (PySem.W.fnOf "law" "law" (defArgs s_law) (defBody s_law) (defScope s_law) .none kV32 dc32 pm32 an32 cd32 ct32), sl32⟩) (c32 : PySem.W.codeIn K cd32 "law" = true) (k32 : PySem.W.keepIn K (.ref f32) = true)
    (z_abs : PySem.W.nsIn K mainGlobals "abs" = some none)
    (z_bool : PySem.W.nsIn K mainGlobals "bool" = some none)
    (z_int : PySem.W.nsIn K mainGlobals "int" = some none)
    (z_isinstance : PySem.W.nsIn K mainGlobals "isinstance" = some none)
    (z_len : PySem.W.nsIn K mainGlobals "len" = some none)
    (z_max : PySem.W.nsIn K mainGlobals "max" = some none)
    (z_min : PySem.W.nsIn K mainGlobals "min" = some none)
    (z_range : PySem.W.nsIn K mainGlobals "range" = some none)
    (z_tuple : PySem.W.nsIn K mainGlobals "tuple" = some none)
    {t__TOO_LONG : Tok} (z__TOO_LONG : PySem.W.nsIn K mainGlobals "_TOO_LONG" = some (some (.int (1000000000000000000000000000000000000000000000000000000000000) t__TOO_LONG)))
    (z_gcd : PySem.W.nsIn K mainGlobals "gcd" = some (some (.builtin "math.gcd")))
    : ∃ fd : FuncData, (∀ (s : Shared) (v : Value), BindsTo s fd ⟨[v], []⟩ [("script", v)]) ∧ ∀ base : Heap, K.In base → base.Ns mainGlobals mg → FnOk l.prog w K mg base CX0 9 fa fd ["script"] (sp_law K) := by
  have e := hfa.symm.trans (PySem.W.mg_of X G a32)
  cases e
  have F0 := fun_mk (st := s_is_whole) l0 c0 k0
  have F1 := fun_mk (st := s_ratio) l1 c1 k1
  have F2 := fun_mk (st := s_is_ratio) l2 c2 k2
  have F3 := fun_mk (st := s_pair_of) l3 c3 k3
  have F4 := fun_mk (st := s_ratio_sum) l4 c4 k4
  have F5 := fun_mk (st := s_ratio_difference) l5 c5 k5
  have F6 := fun_mk (st := s_ratio_product) l6 c6 k6
  have F7 := fun_mk (st := s_ratio_quotient) l7 c7 k7
  have F8 := fun_mk (st := s_is_integer) l8 c8 k8
  have F9 := fun_mk (st := s_is_fraction) l9 c9 k9
  have F10 := fun_mk (st := s_is_number) l10 c10 k10
  have F11 := fun_mk (st := s_lowest) l11 c11 k11
  have F12 := fun_mk (st := s_plus) l12 c12 k12
  have F13 := fun_mk (st := s_minus) l13 c13 k13
  have F14 := fun_mk (st := s_times) l14 c14 k14
  have F15 := fun_mk (st := s_over) l15 c15 k15
  have F16 := fun_mk (st := s_compare) l16 c16 k16
  have F17 := fun_mk (st := s_floor_of) l17 c17 k17
  have F18 := fun_mk (st := s_rest_of) l18 c18 k18
  have F19 := fun_mk (st := s__pair) l19 c19 k19
  have F20 := fun_mk (st := s__law_dice) l20 c20 k20
  have F21 := fun_mk (st := s__law_roll) l21 c21 k21
  have F22 := fun_mk (st := s__law_pick) l22 c22 k22
  have F23 := fun_mk (st := s__law_near) l23 c23 k23
  have F24 := fun_mk (st := s__law_gcd) l24 c24 k24
  have F25 := fun_mk (st := s__law_fraction) l25 c25 k25
  have F26 := fun_mk (st := s__law_fr_plus) l26 c26 k26
  have F27 := fun_mk (st := s__law_fr_times) l27 c27 k27
  have F28 := fun_mk (st := s__law_number_some) l28 c28 k28
  have F29 := fun_mk (st := s__law_two_right) l29 c29 k29
  have F30 := fun_mk (st := s__law_floor_right) l30 c30 k30
  have F31 := fun_mk (st := s__law_right) l31 c31 k31
  have F32 := fun_mk (st := s_law) l32 c32 k32
  let T : Txt K mg := {
    a_is_whole := _, d_is_whole := _, F_is_whole := F0, g_is_whole := PySem.W.mg_of X G a0, b_is_whole := F0.binds (ps := ["value"]) fun _ _ _ _ _ _ us hl => match us, hl with | [_], _ => rfl,
    a_ratio := _, d_ratio := _, F_ratio := F1, g_ratio := PySem.W.mg_of X G a1, b_ratio := F1.binds (ps := ["top", "bottom"]) fun _ _ _ _ _ _ us hl => match us, hl with | [_, _], _ => rfl,
    a_is_ratio := _, d_is_ratio := _, F_is_ratio := F2, g_is_ratio := PySem.W.mg_of X G a2, b_is_ratio := F2.binds (ps := ["value"]) fun _ _ _ _ _ _ us hl => match us, hl with | [_], _ => rfl,
    a_pair_of := _, d_pair_of := _, F_pair_of := F3, g_pair_of := PySem.W.mg_of X G a3, b_pair_of := F3.binds (ps := ["number"]) fun _ _ _ _ _ _ us hl => match us, hl with | [_], _ => rfl,
    a_ratio_sum := _, d_ratio_sum := _, F_ratio_sum := F4, g_ratio_sum := PySem.W.mg_of X G a4, b_ratio_sum := F4.binds (ps := ["one", "other"]) fun _ _ _ _ _ _ us hl => match us, hl with | [_, _], _ => rfl,
    a_ratio_difference := _, d_ratio_difference := _, F_ratio_difference := F5, g_ratio_difference := PySem.W.mg_of X G a5, b_ratio_difference := F5.binds (ps := ["one", "other"]) fun _ _ _ _ _ _ us hl => match us, hl with | [_, _], _ => rfl,
    a_ratio_product := _, d_ratio_product := _, F_ratio_product := F6, g_ratio_product := PySem.W.mg_of X G a6, b_ratio_product := F6.binds (ps := ["one", "other"]) fun _ _ _ _ _ _ us hl => match us, hl with | [_, _], _ => rfl,
    a_ratio_quotient := _, d_ratio_quotient := _, F_ratio_quotient := F7, g_ratio_quotient := PySem.W.mg_of X G a7, b_ratio_quotient := F7.binds (ps := ["one", "other"]) fun _ _ _ _ _ _ us hl => match us, hl with | [_, _], _ => rfl,
    a_is_integer := _, d_is_integer := _, F_is_integer := F8, g_is_integer := PySem.W.mg_of X G a8, b_is_integer := F8.binds (ps := ["value"]) fun _ _ _ _ _ _ us hl => match us, hl with | [_], _ => rfl,
    a_is_fraction := _, d_is_fraction := _, F_is_fraction := F9, g_is_fraction := PySem.W.mg_of X G a9, b_is_fraction := F9.binds (ps := ["value"]) fun _ _ _ _ _ _ us hl => match us, hl with | [_], _ => rfl,
    a_is_number := _, d_is_number := _, F_is_number := F10, g_is_number := PySem.W.mg_of X G a10, b_is_number := F10.binds (ps := ["value"]) fun _ _ _ _ _ _ us hl => match us, hl with | [_], _ => rfl,
    a_lowest := _, d_lowest := _, F_lowest := F11, g_lowest := PySem.W.mg_of X G a11, b_lowest := F11.binds (ps := ["top", "bottom"]) fun _ _ _ _ _ _ us hl => match us, hl with | [_, _], _ => rfl,
    a_plus := _, d_plus := _, F_plus := F12, g_plus := PySem.W.mg_of X G a12, b_plus := F12.binds (ps := ["one", "other"]) fun _ _ _ _ _ _ us hl => match us, hl with | [_, _], _ => rfl,
    a_minus := _, d_minus := _, F_minus := F13, g_minus := PySem.W.mg_of X G a13, b_minus := F13.binds (ps := ["one", "other"]) fun _ _ _ _ _ _ us hl => match us, hl with | [_, _], _ => rfl,
    a_times := _, d_times := _, F_times := F14, g_times := PySem.W.mg_of X G a14, b_times := F14.binds (ps := ["one", "other"]) fun _ _ _ _ _ _ us hl => match us, hl with | [_, _], _ => rfl,
    a_over := _, d_over := _, F_over := F15, g_over := PySem.W.mg_of X G a15, b_over := F15.binds (ps := ["one", "other"]) fun _ _ _ _ _ _ us hl => match us, hl with | [_, _], _ => rfl,
    a_compare := _, d_compare := _, F_compare := F16, g_compare := PySem.W.mg_of X G a16, b_compare := F16.binds (ps := ["one", "other"]) fun _ _ _ _ _ _ us hl => match us, hl with | [_, _], _ => rfl,
    a_floor_of := _, d_floor_of := _, F_floor_of := F17, g_floor_of := PySem.W.mg_of X G a17, b_floor_of := F17.binds (ps := ["number"]) fun _ _ _ _ _ _ us hl => match us, hl with | [_], _ => rfl,
    a_rest_of := _, d_rest_of := _, F_rest_of := F18, g_rest_of := PySem.W.mg_of X G a18, b_rest_of := F18.binds (ps := ["number"]) fun _ _ _ _ _ _ us hl => match us, hl with | [_], _ => rfl,
    a__pair := _, d__pair := _, F__pair := F19, g__pair := PySem.W.mg_of X G a19, b__pair := F19.binds (ps := ["value"]) fun _ _ _ _ _ _ us hl => match us, hl with | [_], _ => rfl,
    a__law_dice := _, d__law_dice := _, F__law_dice := F20, g__law_dice := PySem.W.mg_of X G a20, b__law_dice := F20.binds (ps := ["script", "spot"]) fun _ _ _ _ _ _ us hl => match us, hl with | [_, _], _ => rfl,
    a__law_roll := _, d__law_roll := _, F__law_roll := F21, g__law_roll := PySem.W.mg_of X G a21, b__law_roll := F21.binds (ps := ["dice", "total"]) fun _ _ _ _ _ _ us hl => match us, hl with | [_, _], _ => rfl,
    a__law_pick := _, d__law_pick := _, F__law_pick := F22, g__law_pick := PySem.W.mg_of X G a22, b__law_pick := F22.binds (ps := ["dice", "items"]) fun _ _ _ _ _ _ us hl => match us, hl with | [_, _], _ => rfl,
    a__law_near := _, d__law_near := _, F__law_near := F23, g__law_near := PySem.W.mg_of X G a23, b__law_near := F23.binds (ps := ["dice", "most"]) fun _ _ _ _ _ _ us hl => match us, hl with | [_, _], _ => rfl,
    a__law_gcd := _, d__law_gcd := _, F__law_gcd := F24, g__law_gcd := PySem.W.mg_of X G a24, b__law_gcd := F24.binds (ps := ["one", "other"]) fun _ _ _ _ _ _ us hl => match us, hl with | [_, _], _ => rfl,
    a__law_fraction := _, d__law_fraction := _, F__law_fraction := F25, g__law_fraction := PySem.W.mg_of X G a25, b__law_fraction := F25.binds (ps := ["top", "bottom"]) fun _ _ _ _ _ _ us hl => match us, hl with | [_, _], _ => rfl,
    a__law_fr_plus := _, d__law_fr_plus := _, F__law_fr_plus := F26, g__law_fr_plus := PySem.W.mg_of X G a26, b__law_fr_plus := F26.binds (ps := ["one", "other"]) fun _ _ _ _ _ _ us hl => match us, hl with | [_, _], _ => rfl,
    a__law_fr_times := _, d__law_fr_times := _, F__law_fr_times := F27, g__law_fr_times := PySem.W.mg_of X G a27, b__law_fr_times := F27.binds (ps := ["one", "other"]) fun _ _ _ _ _ _ us hl => match us, hl with | [_, _], _ => rfl,
    a__law_number_some := _, d__law_number_some := _, F__law_number_some := F28, g__law_number_some := PySem.W.mg_of X G a28, b__law_number_some := F28.binds (ps := ["dice"]) fun _ _ _ _ _ _ us hl => match us, hl with | [_], _ => rfl,
    a__law_two_right := _, d__law_two_right := _, F__law_two_right := F29, g__law_two_right := PySem.W.mg_of X G a29, b__law_two_right := F29.binds (ps := ["one", "other"]) fun _ _ _ _ _ _ us hl => match us, hl with | [_, _], _ => rfl,
    a__law_floor_right := _, d__law_floor_right := _, F__law_floor_right := F30, g__law_floor_right := PySem.W.mg_of X G a30, b__law_floor_right := F30.binds (ps := ["one"]) fun _ _ _ _ _ _ us hl => match us, hl with | [_], _ => rfl,
    a__law_right := _, d__law_right := _, F__law_right := F31, g__law_right := PySem.W.mg_of X G a31, b__law_right := F31.binds (ps := ["dice"]) fun _ _ _ _ _ _ us hl => match us, hl with | [_], _ => rfl,
    a_law := _, d_law := _, F_law := F32, g_law := PySem.W.mg_of X G a32, b_law := F32.binds (ps := ["script"]) fun _ _ _ _ _ _ us hl => match us, hl with | [_], _ => rfl,
    m_abs := PySem.W.mg_none_of X G z_abs,
    m_bool := PySem.W.mg_none_of X G z_bool,
    m_int := PySem.W.mg_none_of X G z_int,
    m_isinstance := PySem.W.mg_none_of X G z_isinstance,
    m_len := PySem.W.mg_none_of X G z_len,
    m_max := PySem.W.mg_none_of X G z_max,
    m_min := PySem.W.mg_none_of X G z_min,
    m_range := PySem.W.mg_none_of X G z_range,
    m_tuple := PySem.W.mg_none_of X G z_tuple,
    t__TOO_LONG := t__TOO_LONG, m__TOO_LONG := PySem.W.mg_of X G z__TOO_LONG,
    g_gcd := PySem.W.mg_of X G z_gcd }
  exact ⟨_, fun s v => .of_eq rfl, fun base _ _ => ok_law T⟩
end K00
open PySem PySem.W PyProof.Rows
set_option maxRecDepth 100000 in
set_option maxHeartbeats 0 in
theorem PySem.Challenge.cw_tametrees_k00_whole_fractions_holds : PySem.Challenge.rw_tametrees_k00_whole_fractions.Holds := by
  w_on; o_law; k_head; (case hw => w_witness2)
  k_fill
  refine L2.walk_of (l := PySem.Challenge.rw_tametrees_k00_whole_fractions) (n := 63) (k := 9) (x := "script") (CX := fun _ => L2.CX0) (sp := fun w => K00.sp_law _) rfl (by decide) rfl ⟨rfl, by decide, by decide⟩ (fun w h Y => PySem.W.kIn_of Y) ?F (fun _ _ a ns hl _ hS => ⟨a, ns, rfl, hS, hl, fun _ => rfl⟩) (fun _ _ _ _ _ h => h)
  case F =>
    intro w mg fa h KX G hmg
    refine' K00.all_mk KX G hmg ?a0 ?l0 ?c0 ?k0 ?a1 ?l1 ?c1 ?k1 ?a2 ?l2 ?c2 ?k2 ?a3 ?l3 ?c3 ?k3 ?a4 ?l4 ?c4 ?k4 ?a5 ?l5 ?c5 ?k5 ?a6 ?l6 ?c6 ?k6 ?a7 ?l7 ?c7 ?k7 ?a8 ?l8 ?c8 ?k8 ?a9 ?l9 ?c9 ?k9 ?a10 ?l10 ?c10 ?k10 ?a11 ?l11 ?c11 ?k11 ?a12 ?l12 ?c12 ?k12 ?a13 ?l13 ?c13 ?k13 ?a14 ?l14 ?c14 ?k14 ?a15 ?l15 ?c15 ?k15 ?a16 ?l16 ?c16 ?k16 ?a17 ?l17 ?c17 ?k17 ?a18 ?l18 ?c18 ?k18 ?a19 ?l19 ?c19 ?k19 ?a20 ?l20 ?c20 ?k20 ?a21 ?l21 ?c21 ?k21 ?a22 ?l22 ?c22 ?k22 ?a23 ?l23 ?c23 ?k23 ?a24 ?l24 ?c24 ?k24 ?a25 ?l25 ?c25 ?k25 ?a26 ?l26 ?c26 ?k26 ?a27 ?l27 ?c27 ?k27 ?a28 ?l28 ?c28 ?k28 ?a29 ?l29 ?c29 ?k29 ?a30 ?l30 ?c30 ?k30 ?a31 ?l31 ?c31 ?k31 ?a32 ?l32 ?c32 ?k32 ?z_abs ?z_bool ?z_int ?z_isinstance ?z_len ?z_max ?z_min ?z_range ?z_tuple ?z__TOO_LONG ?z_gcd
    (case a0 => k_is)
    (case l0 => k_is)
    (case c0 => k_is)
    (case k0 => k_is)
    (case a1 => k_is)
    (case l1 => k_is)
    (case c1 => k_is)
    (case k1 => k_is)
    (case a2 => k_is)
    (case l2 => k_is)
    (case c2 => k_is)
    (case k2 => k_is)
    (case a3 => k_is)
    (case l3 => k_is)
    (case c3 => k_is)
    (case k3 => k_is)
    (case a4 => k_is)
    (case l4 => k_is)
    (case c4 => k_is)
    (case k4 => k_is)
    (case a5 => k_is)
    (case l5 => k_is)
    (case c5 => k_is)
    (case k5 => k_is)
    (case a6 => k_is)
    (case l6 => k_is)
    (case c6 => k_is)
    (case k6 => k_is)
    (case a7 => k_is)
    (case l7 => k_is)
    (case c7 => k_is)
    (case k7 => k_is)
    (case a8 => k_is)
    (case l8 => k_is)
    (case c8 => k_is)
    (case k8 => k_is)
    (case a9 => k_is)
    (case l9 => k_is)
    (case c9 => k_is)
    (case k9 => k_is)
    (case a10 => k_is)
    (case l10 => k_is)
    (case c10 => k_is)
    (case k10 => k_is)
    (case a11 => k_is)
    (case l11 => k_is)
    (case c11 => k_is)
    (case k11 => k_is)
    (case a12 => k_is)
    (case l12 => k_is)
    (case c12 => k_is)
    (case k12 => k_is)
    (case a13 => k_is)
    (case l13 => k_is)
    (case c13 => k_is)
    (case k13 => k_is)
    (case a14 => k_is)
    (case l14 => k_is)
    (case c14 => k_is)
    (case k14 => k_is)
    (case a15 => k_is)
    (case l15 => k_is)
    (case c15 => k_is)
    (case k15 => k_is)
    (case a16 => k_is)
    (case l16 => k_is)
    (case c16 => k_is)
    (case k16 => k_is)
    (case a17 => k_is)
    (case l17 => k_is)
    (case c17 => k_is)
    (case k17 => k_is)
    (case a18 => k_is)
    (case l18 => k_is)
    (case c18 => k_is)
    (case k18 => k_is)
    (case a19 => k_is)
    (case l19 => k_is)
    (case c19 => k_is)
    (case k19 => k_is)
    (case a20 => k_is)
    (case l20 => k_is)
    (case c20 => k_is)
    (case k20 => k_is)
    (case a21 => k_is)
    (case l21 => k_is)
    (case c21 => k_is)
    (case k21 => k_is)
    (case a22 => k_is)
    (case l22 => k_is)
    (case c22 => k_is)
    (case k22 => k_is)
    (case a23 => k_is)
    (case l23 => k_is)
    (case c23 => k_is)
    (case k23 => k_is)
    (case a24 => k_is)
    (case l24 => k_is)
    (case c24 => k_is)
    (case k24 => k_is)
    (case a25 => k_is)
    (case l25 => k_is)
    (case c25 => k_is)
    (case k25 => k_is)
    (case a26 => k_is)
    (case l26 => k_is)
    (case c26 => k_is)
    (case k26 => k_is)
    (case a27 => k_is)
    (case l27 => k_is)
    (case c27 => k_is)
    (case k27 => k_is)
    (case a28 => k_is)
    (case l28 => k_is)
    (case c28 => k_is)
    (case k28 => k_is)
    (case a29 => k_is)
    (case l29 => k_is)
    (case c29 => k_is)
    (case k29 => k_is)
    (case a30 => k_is)
    (case l30 => k_is)
    (case c30 => k_is)
    (case k30 => k_is)
    (case a31 => k_is)
    (case l31 => k_is)
    (case c31 => k_is)
    (case k31 => k_is)
    (case a32 => k_is)
    (case l32 => k_is)
    (case c32 => k_is)
    (case k32 => k_is)
    (case z_abs => k_is)
    (case z_bool => k_is)
    (case z_int => k_is)
    (case z_isinstance => k_is)
    (case z_len => k_is)
    (case z_max => k_is)
    (case z_min => k_is)
    (case z_range => k_is)
    (case z_tuple => k_is)
    (case z__TOO_LONG => k_is)
    (case z_gcd => k_is)
