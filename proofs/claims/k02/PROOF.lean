import PyProof.Rows.All
import Wide.All
import OpenK.AllK
import Wide.FinOn
import HandS.ForMost
import HandS.ForExc
import HandS.IsInst
import HandS.Gcd
import HandS.Wide
import HandS.TupMul
import HandS.TupAny
import HandS.Property
import HandS.ClsMeth
import HandS.CallLocal
import HandS.Lambda
import HandS.TryMany
import HandS.ExcField
import HandS.EndTab
import HandS.WordsExc
import KE.KExcInit
import HandS.Zip
import PyProof.Draws
import KE.KStateDown
import KE.KNestM
import HandS.Defaults
import HandS.Head0
import HandS.Head1
import HandS.Head2
import HandS.Head3
import HandS.HeadEnd
import HandS.HeadHook1
import HandS.HeadHook2
import HandS.HeadHook3
import HandS.HeadHook4
import HandS.HeadWalk
import PySem.Challenge.RW_tametrees_k02_errors_of_fractions_and_ta
set_option Elab.async false
set_option linter.all false
set_option maxRecDepth 100000
namespace TT
open PySem PySem.Spec PyProof.Rows L2

/-! ### more rules -/
def CDivNW (_ j : Int) : Prop := j ≠ 0 ∧ j.natAbs.log2 < 9000
section
variable {X : Cx}
theorem op_fdivNW : OpR X (binaryOp .FloorDiv) (rI CDivNW fun i j => .int (i.fdiv j)) := opI fun i j _ _ _ _ _ hc q =>
  floordiv_int hc.1 q (.inl (PyProof.noPylong_of_log2 hc.2))
theorem hu64 {k : Nat} (hr : Room k X.A) : X.A.units + 64 < cLine := by have := hr.un; omega
end

/-! ### built-in names -/
theorem bt_isinstance : bootBuiltins "isinstance" = some (.builtin "isinstance") := by decide +kernel
theorem bt_len : bootBuiltins "len" = some (.builtin "len") := by decide +kernel
theorem bt_abs : bootBuiltins "abs" = some (.builtin "abs") := by decide +kernel
theorem bt_max : bootBuiltins "max" = some (.builtin "max") := by decide +kernel
theorem bt_min : bootBuiltins "min" = some (.builtin "min") := by decide +kernel
theorem bt_sorted : bootBuiltins "sorted" = some (.builtin "sorted") := by decide +kernel
theorem bt_sum : bootBuiltins "sum" = some (.builtin "sum") := by decide +kernel
theorem bt_any : bootBuiltins "any" = some (.builtin "any") := by decide +kernel
theorem bt_all : bootBuiltins "all" = some (.builtin "all") := by decide +kernel
theorem bt_repr : bootBuiltins "repr" = some (.builtin "repr") := by decide +kernel
theorem bt_iter : bootBuiltins "iter" = some (.builtin "iter") := by decide +kernel
theorem bt_next : bootBuiltins "next" = some (.builtin "next") := by decide +kernel
theorem bt_divmod : bootBuiltins "divmod" = some (.builtin "divmod") := by decide +kernel
theorem bt_int : bootBuiltins "int" = some (.type "int") := by decide +kernel
theorem bt_bool : bootBuiltins "bool" = some (.type "bool") := by decide +kernel
theorem bt_str : bootBuiltins "str" = some (.type "str") := by decide +kernel
theorem bt_tuple : bootBuiltins "tuple" = some (.type "tuple") := by decide +kernel
theorem bt_list : bootBuiltins "list" = some (.type "list") := by decide +kernel
theorem bt_dict : bootBuiltins "dict" = some (.type "dict") := by decide +kernel
theorem bt_set : bootBuiltins "set" = some (.type "set") := by decide +kernel
theorem bt_range : bootBuiltins "range" = some (.type "range") := by decide +kernel
theorem bt_zip : bootBuiltins "zip" = some (.type "zip") := by decide +kernel
theorem bt_enumerate : bootBuiltins "enumerate" = some (.type "enumerate") := by decide +kernel
theorem bt_reversed : bootBuiltins "reversed" = some (.type "reversed") := by decide +kernel

/-! ### bounds by tens -/
def B (k : Nat) (x : Int) : Prop := x.natAbs < 10 ^ k
theorem ten_two (k : Nat) : (10 : Nat) ^ k ≤ 2 ^ (4 * k) := by
  rw [Nat.pow_mul]; exact Nat.pow_le_pow_left (by decide) k
theorem B.log {k : Nat} {x : Int} (h : B k x) (h0 : 0 < k) : x.natAbs.log2 < 4 * k :=
  PySem.Flt.log2_lt_of (by omega) (Nat.lt_of_lt_of_le h (ten_two k))
theorem B.mono {j k : Nat} {x : Int} (h : B j x) (l : j ≤ k) : B k x := Nat.lt_of_lt_of_le h (Nat.pow_le_pow_right (by decide) l)
theorem B.mul {j k : Nat} {x y : Int} (h : B j x) (h' : B k y) : B (j + k) (x * y) := by
  unfold B at *; rw [Int.natAbs_mul, Nat.pow_add]; exact Nat.mul_lt_mul'' h h'
theorem B.add {k : Nat} {x y : Int} (h : B k x) (h' : B k y) : B (k + 1) (x + y) := by
  unfold B at *; rw [Nat.pow_succ]; omega
theorem B.sub {k : Nat} {x y : Int} (h : B k x) (h' : B k y) : B (k + 1) (x - y) := by
  unfold B at *; rw [Nat.pow_succ]; omega
theorem B.neg {k : Nat} {x : Int} (h : B k x) : B k (-x) := by unfold B at *; omega
theorem cmul {j k : Nat} {x y : Int} (h : B j x) (h' : B k y) (l : j + k ≤ 20000) : CMulW x y := by
  have a := (h.mono (Nat.le_succ j)).log (by omega)
  have b := (h'.mono (Nat.le_succ k)).log (by omega)
  unfold CMulW; omega
theorem cdiv {k : Nat} {x y : Int} (h0 : y ≠ 0) (h : B k y) (l : k ≤ 2000) : CDivNW x y := by
  have b := (h.mono (Nat.le_succ k)).log (by omega)
  exact ⟨h0, by omega⟩

/-! ### heaps -/
theorem same_upd {H : Hp} {p : Addr} {o : HO} (h : H p = none) : Same H (upd H p o) := fun b x e => by
  rw [upd_ne (ne_of_none e h)]
  exact e
theorem size2 : (2 : Nat) ≤ sizeLine := by decide
/-- isinstance of a value with a built-in class -/
theorem isi_of {K : PySem.W.Frag} {H : Hp} {x : V} {a b : String} {r : Bool} {Q : VK} (t : TyX K H x (.type a)) (e : kitB a b = some r) (q : Q (.bl r) H) : rIsi K [x, .ty b] H Q :=
  ⟨x, .ty b, _, _, r, rfl, .ty b, t, kit_ty e, q⟩

/-! ### numbers -/
def Fr (H : Hp) (v : V) (q : Rat) : Prop := ∃ p, v = .ref p ∧ H p = some (.tup [.int q.num, .int q.den])
def Nu (H : Hp) (v : V) (q : Rat) : Prop := (q.den = 1 ∧ v = .int q.num) ∨ Fr H v q
theorem Fr.same {H H' : Hp} {v : V} {q : Rat} (s : Same H H') : Fr H v q → Fr H' v q := fun ⟨p, e, h⟩ => ⟨p, e, s _ _ h⟩
theorem Nu.same {H H' : Hp} {v : V} {q : Rat} (s : Same H H') : Nu H v q → Nu H' v q := fun h => h.elim .inl fun h => .inr (h.same s)

theorem fdiv_gcd_num (t b : Int) (hb : b ≠ 0) : t.fdiv (if b < 0 then -((Nat.gcd t.natAbs b.natAbs : Nat) : Int) else ((Nat.gcd t.natAbs b.natAbs : Nat) : Int)) = (Rat.divInt t b).num := by
  rw [Rat.num_divInt]
  have hg : (Int.gcd b t : Int) ≠ 0 := by
    intro h
    have := Int.gcd_eq_zero_iff.mp (Int.ofNat.inj h)
    exact hb this.1
  have e : ((Nat.gcd t.natAbs b.natAbs : Nat) : Int) = (Int.gcd b t : Int) := by rw [Int.gcd_comm]; rfl
  rw [e]
  have d1 : (Int.gcd b t : Int) ∣ t := Int.gcd_dvd_right ..
  obtain ⟨k, hk⟩ := d1
  by_cases h : b < 0
  · rw [if_pos h, Int.sign_eq_neg_one_of_neg h]
    generalize (Int.gcd b t : Int) = g at *
    subst hk
    rw [show (g * k).fdiv (-g) = -k from by rw [← Int.neg_mul_neg g k]; exact Int.mul_fdiv_cancel_left _ (by omega)]
    rw [show -1 * (g * k) = g * (-k) by rw [Int.mul_neg]; try rw [Int.neg_mul, Int.one_mul]]
    exact (Int.mul_ediv_cancel_left _ hg).symm
  · rw [if_neg h, Int.sign_eq_one_of_pos (by omega)]
    generalize (Int.gcd b t : Int) = g at *
    subst hk
    rw [Int.one_mul, Int.mul_fdiv_cancel_left _ hg, Int.mul_ediv_cancel_left _ hg]
theorem fdiv_gcd_den (t b : Int) (hb : b ≠ 0) : b.fdiv (if b < 0 then -((Nat.gcd t.natAbs b.natAbs : Nat) : Int) else ((Nat.gcd t.natAbs b.natAbs : Nat) : Int)) = ((Rat.divInt t b).den : Int) := by
  rw [Rat.den_divInt, if_neg hb]
  have hg : (Int.gcd b t : Int) ≠ 0 := by
    intro h
    have := Int.gcd_eq_zero_iff.mp (Int.ofNat.inj h)
    exact hb this.1
  have e : ((Nat.gcd t.natAbs b.natAbs : Nat) : Int) = (Int.gcd b t : Int) := by rw [Int.gcd_comm]; rfl
  rw [e, Int.natCast_ediv]
  have d1 : (Int.gcd b t : Int) ∣ b := Int.gcd_dvd_left ..
  obtain ⟨k, hk⟩ := d1
  have hp : 0 < (Int.gcd b t : Int) := by have := Int.natCast_nonneg (Int.gcd b t); omega
  by_cases h : b < 0
  · rw [if_pos h]
    have ea : ((b.natAbs : Nat) : Int) = -b := by omega
    rw [ea]
    generalize (Int.gcd b t : Int) = g at *
    subst hk
    rw [show (g * k).fdiv (-g) = -k from by rw [← Int.neg_mul_neg g k]; exact Int.mul_fdiv_cancel_left _ (by omega)]
    rw [show -(g * k) = g * (-k) by rw [Int.mul_neg]; try rw [Int.neg_mul, Int.one_mul]]
    exact (Int.mul_ediv_cancel_left _ hg).symm
  · rw [if_neg h]
    have ea : ((b.natAbs : Nat) : Int) = b := by omega
    rw [ea]
    generalize (Int.gcd b t : Int) = g at *
    subst hk
    rw [Int.mul_fdiv_cancel_left _ hg, Int.mul_ediv_cancel_left _ hg]
theorem divInt_num_le (t b : Int) : (Rat.divInt t b).num.natAbs ≤ t.natAbs := by
  rw [Rat.num_divInt, Int.natAbs_ediv_of_dvd (Int.dvd_mul_of_dvd_right (Int.gcd_dvd_right ..))]
  refine Nat.le_trans (Nat.div_le_self _ _) ?_
  rw [Int.natAbs_mul]
  have : b.sign.natAbs ≤ 1 := by rcases Int.lt_trichotomy b 0 with h | h | h <;> simp [Int.sign_eq_neg_one_of_neg, Int.sign_eq_one_of_pos, h]
  calc b.sign.natAbs * t.natAbs ≤ 1 * t.natAbs := Nat.mul_le_mul_right _ this
    _ = t.natAbs := Nat.one_mul _
theorem divInt_den_le (t b : Int) (hb : b ≠ 0) : (Rat.divInt t b).den ≤ b.natAbs := by
  rw [Rat.den_divInt, if_neg hb]; exact Nat.div_le_self _ _
end TT

set_option Elab.async false
set_option linter.all false
set_option maxRecDepth 100000
namespace TT
open PySem PySem.Spec PyProof.Rows L2

/-! ### data, as they lie in the heap -/
inductive Da where
  | non | bl (b : Bool) | int (i : Int) | str (s : Str) | tup (xs : List Da) | lst (xs : List Da) | dic
mutual
def Td (H : Hp) : Da → V → Prop
  | .non, v => v = .non
  | .bl b, v => v = .bl b
  | .int i, v => v = .int i
  | .str s, v => v = .str s
  | .tup ds, v => ∃ p vs, v = .ref p ∧ H p = some (.tup vs) ∧ TdL H ds vs
  | .lst ds, v => ∃ p vs, v = .ref p ∧ H p = some (.lst vs) ∧ TdL H ds vs
  | .dic, v => ∃ p, v = .ref p ∧ H p = some (.dK [])
def TdL (H : Hp) : List Da → List V → Prop
  | [], vs => vs = []
  | d :: ds, vs => ∃ v r, vs = v :: r ∧ Td H d v ∧ TdL H ds r
end
mutual
theorem Td.same {H H' : Hp} (s : Same H H') : ∀ (d : Da) (v : V), Td H d v → Td H' d v
  | .non, v, h => by simpa only [Td] using h
  | .bl b, v, h => by simpa only [Td] using h
  | .int i, v, h => by simpa only [Td] using h
  | .str x, v, h => by simpa only [Td] using h
  | .tup ds, v, h => by
    simp only [Td] at h ⊢
    obtain ⟨p, vs, e, h1, h2⟩ := h
    exact ⟨p, vs, e, s _ _ h1, TdL.same s ds vs h2⟩
  | .lst ds, v, h => by
    simp only [Td] at h ⊢
    obtain ⟨p, vs, e, h1, h2⟩ := h
    exact ⟨p, vs, e, s _ _ h1, TdL.same s ds vs h2⟩
  | .dic, v, h => by
    simp only [Td] at h ⊢
    obtain ⟨p, e, h1⟩ := h
    exact ⟨p, e, s _ _ h1⟩
theorem TdL.same {H H' : Hp} (s : Same H H') : ∀ (ds : List Da) (vs : List V), TdL H ds vs → TdL H' ds vs
  | [], vs, h => by simpa only [TdL] using h
  | d :: ds, vs, h => by
    simp only [TdL] at h ⊢
    obtain ⟨v, r, e, h1, h2⟩ := h
    exact ⟨v, r, e, Td.same s d v h1, TdL.same s ds r h2⟩
end
mutual
def Da.py : Da → PyData
  | .non => .none
  | .bl b => .bool b
  | .int i => .int i
  | .str s => .str s
  | .tup xs => .tuple (Da.pys xs)
  | .lst xs => .list (Da.pys xs)
  | .dic => .dict []
def Da.pys : List Da → List PyData
  | [] => []
  | d :: r => d.py :: Da.pys r
end
mutual
def Da.flat : Da → Bool
  | .tup xs => Da.flats xs
  | .lst xs => Da.flats xs
  | .dic => false
  | _ => true
def Da.flats : List Da → Bool
  | [] => true
  | d :: r => d.flat && Da.flats r
end
mutual
theorem Td.dp {K : PySem.W.Frag} {H : Hp} : ∀ (d : Da) (v : V), d.flat = true → Td H d v → Dp K H v d.py
  | .non, v, _, h => by simp only [Td] at h; subst h; simp only [Da.py]; exact .non
  | .bl b, v, _, h => by simp only [Td] at h; subst h; simp only [Da.py]; exact .bl b
  | .int i, v, _, h => by simp only [Td] at h; subst h; simp only [Da.py]; exact .int i
  | .str x, v, _, h => by simp only [Td] at h; subst h; simp only [Da.py]; exact .str x
  | .tup ds, v, f, h => by
    simp only [Td] at h; simp only [Da.flat] at f; simp only [Da.py]
    obtain ⟨p, vs, rfl, h1, h2⟩ := h
    exact .tup (.inl (.inl h1)) (TdL.dp ds vs f h2)
  | .lst ds, v, f, h => by
    simp only [Td] at h; simp only [Da.flat] at f; simp only [Da.py]
    obtain ⟨p, vs, rfl, h1, h2⟩ := h
    exact .lst (.inl (.inl h1)) (TdL.dp ds vs f h2)
  | .dic, v, f, h => by simp [Da.flat] at f
theorem TdL.dp {K : PySem.W.Frag} {H : Hp} : ∀ (ds : List Da) (vs : List V), Da.flats ds = true → TdL H ds vs → DpAll K H vs (Da.pys ds)
  | [], vs, _, h => by simp only [TdL] at h; subst h; simp only [Da.pys]; exact .nil
  | d :: ds, vs, f, h => by
    simp only [TdL] at h; simp only [Da.flats, Bool.and_eq_true] at f; simp only [Da.pys]
    obtain ⟨v, r, rfl, h1, h2⟩ := h
    exact .cons (Td.dp d v f.1 h1) (TdL.dp ds r f.2 h2)
end
/-- which built-in class -/
def Da.ty : Da → String
  | .non => "NoneType" | .bl _ => "bool" | .int _ => "int" | .str _ => "str" | .tup _ => "tuple" | .lst _ => "list" | .dic => "dict"
theorem Td.tyx {K : PySem.W.Frag} {H : Hp} {d : Da} {v : V} (h : Td H d v) : TyX K H v (.type d.ty) := by
  cases d <;> simp only [Td] at h <;> simp only [Da.ty]
  · subst h; exact .base .non
  · subst h; exact .base (.bl _)
  · subst h; exact .base (.int _)
  · subst h; exact .base (.str _)
  · obtain ⟨p, vs, rfl, h1, _⟩ := h; exact .base (.tup h1)
  · obtain ⟨p, vs, rfl, h1, _⟩ := h; exact .base (.lst h1)
  · obtain ⟨p, rfl, h1⟩ := h; exact .base (.dK h1)
def Da.isA (d : Da) (c : String) : Bool := (kitB d.ty c).getD false
theorem isi {K : PySem.W.Frag} {H : Hp} {d : Da} {v : V} {c : String} {Q : VK} (h : Td H d v) (hs : (kitB d.ty c).isSome = true) (q : Q (.bl (d.isA c)) H) : rIsi K [v, .ty c] H Q := by
  refine isi_of h.tyx ?_ q
  unfold Da.isA
  cases e : kitB d.ty c with
  | none => rw [e] at hs; cases hs
  | some r => rfl
def Da.isInt : Da → Bool | .int _ => true | .bl _ => true | _ => false
def Da.isBool : Da → Bool | .bl _ => true | _ => false
def Da.isTup : Da → Bool | .tup _ => true | _ => false
theorem isi_int {K : PySem.W.Frag} {H : Hp} {d : Da} {v : V} {Q : VK} (h : Td H d v) (q : Q (.bl d.isInt) H) : rIsi K [v, .ty "int"] H Q := by
  cases d <;> exact isi_of h.tyx (by simp only [Da.ty, Da.isInt, Da.isBool, Da.isTup]; decide +kernel) q
theorem isi_bool {K : PySem.W.Frag} {H : Hp} {d : Da} {v : V} {Q : VK} (h : Td H d v) (q : Q (.bl d.isBool) H) : rIsi K [v, .ty "bool"] H Q := by
  cases d <;> exact isi_of h.tyx (by simp only [Da.ty, Da.isInt, Da.isBool, Da.isTup]; decide +kernel) q
theorem isi_tup {K : PySem.W.Frag} {H : Hp} {d : Da} {v : V} {Q : VK} (h : Td H d v) (q : Q (.bl d.isTup) H) : rIsi K [v, .ty "tuple"] H Q := by
  cases d <;> exact isi_of h.tyx (by simp only [Da.ty, Da.isInt, Da.isBool, Da.isTup]; decide +kernel) q
theorem eqD_of {K : PySem.W.Frag} {H : Hp} {d e : Da} {x y : V} {Q : VK} (hx : Td H d x) (hy : Td H e y) (fd : d.flat = true) (fe : e.flat = true) (sd : SeqAt.shaped d.py = true) (se : SeqAt.shaped e.py = true) (q : Q (.bl (PyData.eqv d.py e.py)) H) : rEqD K x y H Q :=
  ⟨_, _, Td.dp d x fd hx, Td.dp e y fe hy, sd, se, q⟩
theorem neD_of {K : PySem.W.Frag} {H : Hp} {d e : Da} {x y : V} {Q : VK} (hx : Td H d x) (hy : Td H e y) (fd : d.flat = true) (fe : e.flat = true) (sd : SeqAt.shaped d.py = true) (se : SeqAt.shaped e.py = true) (q : Q (.bl (!PyData.eqv d.py e.py)) H) : rNeD K x y H Q :=
  ⟨_, _, Td.dp d x fd hx, Td.dp e y fe hy, sd, se, q⟩
/-- an item of a tuple, of a list -/
theorem ixT_of {K : PySem.W.Frag} {H : Hp} {p : Addr} {vs : List V} {i : Int} {v : V} {Q : VK} (h : H p = some (.tup vs)) (e : atI vs i = some v) (q : Q v H) : rIxT K (.ref p) (.int i) H Q :=
  ⟨p, vs, i, v, rfl, rfl, .inl (.inl h), e, q⟩
theorem ixL_of {K : PySem.W.Frag} {H : Hp} {p : Addr} {vs : List V} {i : Int} {v : V} {Q : VK} (h : H p = some (.lst vs)) (e : atI vs i = some v) (q : Q v H) : rIxL K (.ref p) (.int i) H Q :=
  ⟨p, vs, i, v, rfl, rfl, .inl (.inl h), e, q⟩
end TT
namespace TT
open PySem PySem.Spec PyProof.Rows L2
theorem Fr.td {H : Hp} {v : V} {q : Rat} (h : Fr H v q) : Td H (.tup [.int q.num, .int q.den]) v := by
  obtain ⟨p, rfl, hp⟩ := h
  simp only [Td, TdL]
  exact ⟨p, _, rfl, hp, _, _, rfl, rfl, _, _, rfl, rfl, rfl⟩
theorem Nu.td {H : Hp} {v : V} {q : Rat} (h : Nu H v q) : ∃ d, Td H d v ∧ ((d = .int q.num ∧ q.den = 1 ∧ v = .int q.num) ∨ (d = .tup [.int q.num, .int q.den] ∧ Fr H v q)) := by
  rcases h with ⟨h1, h2⟩ | h
  · exact ⟨.int q.num, by simp only [Td]; exact h2, .inl ⟨rfl, h1, h2⟩⟩
  · exact ⟨_, h.td, .inr ⟨rfl, h⟩⟩
theorem Fr.upd {H : Hp} {p : Addr} {q : Rat} {a b : Int} (ha : a = q.num) (hb : b = (q.den : Int)) : Fr (upd H p (.tup [.int a, .int b])) (.ref p) q := by
  subst ha hb; exact ⟨p, rfl, upd_same⟩
end TT
namespace TT
open PySem PySem.Spec PyProof.Rows L2
def rLen (K : PySem.W.Frag) : List V → Hp → VK → Prop := fun xs H Q => ∃ p ys, xs = [.ref p] ∧ (SqL K H p ys ∨ SqT K H p ys) ∧ Q (.int ys.length) H
theorem call_lenN {X : Cx} : CallR X (.builtin "len") (rLen X.K) := call_len_seq
theorem lenT_of {K : PySem.W.Frag} {H : Hp} {p : Addr} {vs : List V} {Q : VK} (h : H p = some (.tup vs)) (q : Q (.int vs.length) H) : rLen K [.ref p] H Q := ⟨p, vs, rfl, .inr (.inl (.inl h)), q⟩
theorem lenL_of {K : PySem.W.Frag} {H : Hp} {p : Addr} {vs : List V} {Q : VK} (h : H p = some (.lst vs)) (q : Q (.int vs.length) H) : rLen K [.ref p] H Q := ⟨p, vs, rfl, .inl (.inl (.inl h)), q⟩
theorem lenS_of {K : PySem.W.Frag} {H : Hp} {p : Addr} {vs : List V} {Q : VK} (h : SqL K H p vs) (q : Q (.int vs.length) H) : rLen K [.ref p] H Q := ⟨p, vs, rfl, .inl h, q⟩
def isWhole : Da → Bool | .int _ => true | _ => false
def isRatio : Da → Bool | .tup [.int a, .int b] => decide (0 < b) && decide (((Nat.gcd a.natAbs b.natAbs : Nat) : Int) = 1) | _ => false
def isInteger : Da → Bool | .int i => decide (-1000000000000000000000000000000000000000000000000000000000000 < i) && decide (i < 1000000000000000000000000000000000000000000000000000000000000) | _ => false
def isFraction : Da → Bool | .tup [.int a, .int b] => isRatio (.tup [.int a, .int b]) && isInteger (.int a) && isInteger (.int b) | _ => false
def isNumber (d : Da) : Bool := isInteger d || isFraction d
end TT
namespace TT
open PySem PySem.Spec PyProof.Rows L2
/-- the promise of a judge -/
def spJ (f : Da → Bool) : Sp := fun vs H Q _ => ∃ x d, vs = [x] ∧ Td H d x ∧ Q (.bl (f d)) H
theorem use_J {f : Da → Bool} {H : Hp} {x : V} {d : Da} {Q : VK} {E : XK} (h : Td H d x) (q : Q (.bl (f d)) H) : spJ f [x] H Q E := ⟨x, d, rfl, h, q⟩
theorem td_int {H : Hp} {i : Int} : Td H (.int i) (.int i) := by simp only [Td]
theorem td_bl {H : Hp} {b : Bool} : Td H (.bl b) (.bl b) := by simp only [Td]
theorem td_non {H : Hp} : Td H .non .non := by simp only [Td]
theorem td_str {H : Hp} {b : Str} : Td H (.str b) (.str b) := by simp only [Td]
theorem td_tup {H : Hp} {ds : List Da} {vs : List V} {p : Addr} (h : H p = some (.tup vs)) (t : TdL H ds vs) : Td H (.tup ds) (.ref p) := by simp only [Td]; exact ⟨p, vs, rfl, h, t⟩
theorem td_lst {H : Hp} {ds : List Da} {vs : List V} {p : Addr} (h : H p = some (.lst vs)) (t : TdL H ds vs) : Td H (.lst ds) (.ref p) := by simp only [Td]; exact ⟨p, vs, rfl, h, t⟩
theorem tdl_nil {H : Hp} : TdL H [] [] := by simp only [TdL]
theorem tdl_cons {H : Hp} {d : Da} {v : V} {ds : List Da} {vs : List V} (h : Td H d v) (t : TdL H ds vs) : TdL H (d :: ds) (v :: vs) := by simp only [TdL]; exact ⟨v, vs, rfl, h, t⟩
theorem TdL.len {H : Hp} : ∀ {ds : List Da} {vs : List V}, TdL H ds vs → vs.length = ds.length
  | [], vs, h => by simp only [TdL] at h; subst h; rfl
  | d :: ds, vs, h => by simp only [TdL] at h; obtain ⟨v, r, rfl, _, h2⟩ := h; simp only [List.length_cons, TdL.len h2]
end TT
namespace TT
open PySem PySem.Spec PyProof.Rows L2
theorem gtup_of {K : PySem.W.Frag} {n : Nat} {t : TGs} {p : Addr} {vs : List V} {σ : L2.St} {H : Hp} {Q : L2.St → Hp → Prop} (h : H p = some (.tup vs)) (l : vs.length = n) (q : t vs σ H Q) : gTup K n t (.ref p) σ H Q := ⟨p, vs, rfl, .inl (.inl h), l, q⟩
end TT
namespace TT
open PySem PySem.Spec PyProof.Rows L2
theorem setL_of {p : Addr} {vs : List V} {k : Int} {j : Nat} {v : V} {H : Hp} {Q : Hp → Prop} (h : H p = some (.lst vs)) (e : ixN vs.length k = some j) (q : Q (upd H p (.lst (vs.set j v)))) : rSetL (.ref p) (.int k) v H Q := ⟨p, vs, k, j, rfl, rfl, h, e, q⟩
/-- all that was tracked is as it was, but what stands at p -/
def But (p : Addr) (H H' : Hp) : Prop := ∀ b o, b ≠ p → H b = some o → H' b = some o
theorem But.refl {p : Addr} {H : Hp} : But p H H := fun _ _ _ h => h
theorem But.trans {p : Addr} {H H1 H2 : Hp} (a : But p H H1) (b : But p H1 H2) : But p H H2 := fun c o n h => b c o n (a c o n h)
theorem But.of {p : Addr} {H H' : Hp} (s : Same H H') : But p H H' := fun b o _ h => s b o h
theorem But.upd {p : Addr} {H : Hp} {o : HO} : But p H (upd H p o) := fun b u n h => by rw [upd_ne n]; exact h
theorem Fr.but {p : Addr} {H H' : Hp} {v : V} {q : Rat} {l : List V} (hp : H p = some (.lst l)) (s : But p H H') : Fr H v q → Fr H' v q := fun ⟨t, e, h⟩ => ⟨t, e, s _ _ (fun z => by subst z; rw [hp] at h; cases h) h⟩
theorem Nu.but {p : Addr} {H H' : Hp} {v : V} {q : Rat} {l : List V} (hp : H p = some (.lst l)) (s : But p H H') : Nu H v q → Nu H' v q := fun h => h.elim .inl fun h => .inr (h.but hp s)
/-- the dice -/
def Dice (H : Hp) (p : Addr) : Prop := ∃ x y z : Int, H p = some (.lst [.int x, .int y, .int z])
theorem Dice.same {H H' : Hp} {p : Addr} (s : Same H H') : Dice H p → Dice H' p := fun ⟨x, y, z, h⟩ => ⟨x, y, z, s _ _ h⟩
/-- no item of a tuple is at its index out of bounds: the item is one of them -/
theorem atI_some {vs : List V} {i : Int} (h0 : 0 ≤ i) (h1 : i < vs.length) : ∃ v, atI vs i = some v ∧ v ∈ vs := by
  have hj : i.toNat < vs.length := by omega
  refine ⟨vs[i.toNat], ?_, List.getElem_mem hj⟩
  unfold atI ixN
  rw [if_pos h0, if_pos h1]
  show vs[i.toNat]? = _
  exact List.getElem?_eq_getElem hj
theorem shaped_fr {a b : Int} : SeqAt.shaped (Da.py (.tup [.int a, .int b])) = true := by rfl
theorem neFr {K : PySem.W.Frag} {H : Hp} {x y : V} {p q : Rat} {Q : VK} (hx : Fr H x p) (hy : Fr H y q) (k : Q (.bl (!decide (p = q))) H) : rNeD K x y H Q := by
  refine neD_of hx.td hy.td rfl rfl shaped_fr shaped_fr ?_
  have e : PyData.eqv (Da.py (.tup [.int p.num, .int p.den])) (Da.py (.tup [.int q.num, .int q.den])) = decide (p = q) := by
    simp only [Da.py, Da.pys, PyData.eqv, PyData.eqvAll, Bool.and_true]
    by_cases h : p = q
    · subst h; simp
    · rw [decide_eq_false h]
      simp only [Bool.and_eq_false_iff, beq_eq_false_iff_ne, ne_eq]
      by_cases h1 : p.num = q.num
      · right; intro h2; exact h (Rat.ext h1 (Int.ofNat.inj h2))
      · left; exact h1
  rw [e]; exact k
theorem eqFr {K : PySem.W.Frag} {H : Hp} {x y : V} {p q : Rat} {Q : VK} (hx : Fr H x p) (hy : Fr H y q) (k : Q (.bl (decide (p = q))) H) : rEqD K x y H Q := by
  refine eqD_of hx.td hy.td rfl rfl shaped_fr shaped_fr ?_
  have e : PyData.eqv (Da.py (.tup [.int p.num, .int p.den])) (Da.py (.tup [.int q.num, .int q.den])) = decide (p = q) := by
    simp only [Da.py, Da.pys, PyData.eqv, PyData.eqvAll, Bool.and_true]
    by_cases h : p = q
    · subst h; simp
    · rw [decide_eq_false h]
      simp only [Bool.and_eq_false_iff, beq_eq_false_iff_ne, ne_eq]
      by_cases h1 : p.num = q.num
      · right; intro h2; exact h (Rat.ext h1 (Int.ofNat.inj h2))
      · left; exact h1
  rw [e]; exact k
end TT
namespace TT
open PySem PySem.Spec PyProof.Rows L2
theorem Same.but {p : Addr} {H H1 H2 : Hp} (hn : H p = none) (s : Same H H1) (b : But p H1 H2) : Same H H2 := fun c o h => b c o (fun z => by subst z; rw [hn] at h; cases h) (s c o h)
/-! ### loops, as they are asked -/
def Loop (J : It) (g : TG) (tb : TS) (D : Ends) (σ : L2.St) (H : Hp) : Prop := ∃ W : Nat → Nat → L2.St → Hp → Prop, (∃ m, W 0 m σ H) ∧ ∀ i m σ H, W i m σ H →
  (J.stop i H ∧ D.nx σ H) ∨ (J.go i H ∧ ∃ N : L2.St → Hp → Prop, (∀ σ' H', N σ' H' → ∃ m', m' < m ∧ W (i + 1) m' σ' H') ∧ ∀ x H', J.yld i H x H' → g x σ H' fun σ2 H2 => tb { D with nx := N, ct := N, bk := D.nx } σ2 H2)
section
variable {K : PySem.W.Frag} {ta : TA} {tl te : TE} {g : TG} {tb : TS} {tt : TT} {D : Ends} {σ : L2.St} {H : Hp} {Q : VK} {vs : List Nat}
theorem tFor_rng (h : ta σ H fun vs H1 => ∃ j : Int, vs = [.int j] ∧ -(2 ^ 62) ≤ j ∧ j < 2 ^ 62 ∧ Loop (Itr 0 j.toNat) g tb D σ H1) : tFor (iRng1 ta) g tb D σ H := h
theorem tFor_rng2 (h : ta σ H fun vs H1 => ∃ i j : Int, vs = [.int i, .int j] ∧ (-(2 ^ 62) ≤ i ∧ i < 2 ^ 62 ∧ -(2 ^ 62) ≤ j ∧ j < 2 ^ 62) ∧ Loop (Itr i (j - i).toNat) g tb D σ H1) : tFor (iRng2 ta) g tb D σ H := h
theorem tFor_list (h : tl σ H fun x H1 => ∃ a, x = .ref a ∧ (∃ xs, SqL K H1 a xs) ∧ Loop (Itl K a) g tb D σ H1) : tFor (iList K tl) g tb D σ H := h
theorem tFor_tup (h : tl σ H fun x H1 => ∃ a, x = .ref a ∧ (∃ xs, SqT K H1 a xs) ∧ Loop (Itt K a) g tb D σ H1) : tFor (iTup K tl) g tb D σ H := h
/-- a comprehension -/
def LoopC (J : It) (g : TG) (tt : TT) (te : TE) (vs : List Nat) (Q : VK) (σ : L2.St) (H1 : Hp) : Prop := ∀ D, H1 D = none → ∃ W : Nat → Nat → Hp → Prop, (∃ m, W 0 m (upd H1 D (.lst []))) ∧ ∀ i m H, W i m H →
  (J.stop i H ∧ Q (.ref D) H) ∨ (J.go i H ∧ ∃ Nx : Hp → Prop, (∀ H', Nx H' → ∃ m', m' < m ∧ W (i + 1) m' H') ∧ ∀ x H', J.yld i H x H' → g x (wipe σ vs) H' fun σ2 H2 => wipe σ2 vs = wipe σ vs ∧ tt σ2 H2 fun b H3 =>
    if b = true then te σ2 H3 fun y H4 => ∃ acc, H4 D = some (.lst acc) ∧ acc.length < sizeLine ∧ Nx (upd H4 D (.lst (acc ++ [y]))) else Nx H3)
theorem tLc_rng (h : ta σ H fun vs' H1 => ∃ j : Int, vs' = [.int j] ∧ -(2 ^ 62) ≤ j ∧ j < 2 ^ 62 ∧ LoopC (Itr 0 j.toNat) g tt te vs Q σ H1) : tLc (iRng1 ta) g tt te vs σ H Q := h
theorem tLc_list (h : tl σ H fun x H1 => ∃ a, x = .ref a ∧ (∃ xs, SqL K H1 a xs) ∧ LoopC (Itl K a) g tt te vs Q σ H1) : tLc (iList K tl) g tt te vs σ H Q := h
theorem tLc_tup (h : tl σ H fun x H1 => ∃ a, x = .ref a ∧ (∃ xs, SqT K H1 a xs) ∧ LoopC (Itt K a) g tt te vs Q σ H1) : tLc (iTup K tl) g tt te vs σ H Q := h
end
/-- a new tuple, a new list -/
theorem tup_of {H : Hp} {vs : List V} {Q : VK} (ds : List Da) (t : TdL H ds vs) (k : ∀ H' v, Same H H' → Td H' (.tup ds) v → Q v H') : ∀ p, H p = none → Q (.ref p) (upd H p (.tup vs)) := fun p hp =>
  k _ _ (same_upd hp) (td_tup upd_same (TdL.same (same_upd hp) _ _ t))
theorem lst_of {H : Hp} {vs : List V} {Q : VK} (ds : List Da) (t : TdL H ds vs) (k : ∀ H' v, Same H H' → Td H' (.lst ds) v → Q v H') : ∀ p, H p = none → Q (.ref p) (upd H p (.lst vs)) := fun p hp =>
  k _ _ (same_upd hp) (td_lst upd_same (TdL.same (same_upd hp) _ _ t))
theorem TdL.get {H : Hp} {ds : List Da} : ∀ {vs : List V} {i : Nat} {v : V}, TdL H ds vs → vs[i]? = some v → ∃ d, ds[i]? = some d ∧ Td H d v := by
  induction ds with
  | nil => intro vs i v h e; simp only [TdL] at h; subst h; simp at e
  | cons d ds ih =>
    intro vs i v h e
    simp only [TdL] at h; obtain ⟨v', r, rfl, h1, h2⟩ := h
    cases i with
    | zero => simp only [List.getElem?_cons_zero, Option.some.injEq] at e; subst e; exact ⟨d, rfl, h1⟩
    | succ i => simp only [List.getElem?_cons_succ] at e; exact ih h2 e
theorem szle0 : (0 ≤ sizeLine) = True := by simp
theorem szle1 : (1 ≤ sizeLine) = True := eq_true (by decide)
theorem szle2 : (2 ≤ sizeLine) = True := eq_true (by decide)
theorem szle3 : (3 ≤ sizeLine) = True := eq_true (by decide)
theorem szle4 : (4 ≤ sizeLine) = True := eq_true (by decide)
theorem szle5 : (5 ≤ sizeLine) = True := eq_true (by decide)
theorem szle6 : (6 ≤ sizeLine) = True := eq_true (by decide)
theorem szle8 : (8 ≤ sizeLine) = True := eq_true (by decide)
theorem szle13 : (13 ≤ sizeLine) = True := eq_true (by decide)
end TT
namespace TT
open PySem PySem.Spec PyProof.Rows L2
theorem TdL.mem {H : Hp} {ds : List Da} : ∀ {vs : List V} {v : V}, TdL H ds vs → v ∈ vs → ∃ d, d ∈ ds ∧ Td H d v := by
  induction ds with
  | nil => intro vs v h e; simp only [TdL] at h; subst h; simp at e
  | cons d ds ih =>
    intro vs v h e
    simp only [TdL] at h; obtain ⟨v', r, rfl, h1, h2⟩ := h
    rcases List.mem_cons.mp e with rfl | e
    · exact ⟨d, List.mem_cons_self, h1⟩
    · obtain ⟨d', m, t⟩ := ih h2 e; exact ⟨d', List.mem_cons_of_mem _ m, t⟩
theorem cat_of {a b : Addr} {xs ys : List V} {H : Hp} {Q : VK} (h1 : H a = some (.lst xs)) (h2 : H b = some (.lst ys)) (l : xs.length + ys.length ≤ sizeLine) (q : ∀ p, H p = none → Q (.ref p) (upd H p (.lst (xs ++ ys)))) : rCat (.ref a) (.ref b) H Q := ⟨a, b, xs, ys, rfl, rfl, h1, h2, l, q⟩
theorem rep_of {a : Addr} {k : Int} {xs : List V} {H : Hp} {Q : VK} (h1 : H a = some (.lst xs)) (l1 : -(2 ^ 63) ≤ k) (l2 : k < 2 ^ 63) (l : xs.length * k.toNat ≤ sizeLine) (q : ∀ p, H p = none → Q (.ref p) (upd H p (.lst (List.replicate k.toNat xs).flatten))) : rRep (.ref a) (.int k) H Q := ⟨a, k, xs, rfl, rfl, h1, l1, l2, l, q⟩
end TT
namespace TT
open PySem PySem.Spec PyProof.Rows L2
theorem lc_judge {f : Da → Bool} {K : PySem.W.Frag} {H : Hp} {p : Addr} {xs : List V} {ds : List Da} {σ : L2.St} {i : Nat} {Q : VK} (hp : H p = some (.tup xs)) (t : TdL H ds xs) (hl : xs.length < 100000) (hi : i < σ.length)
    (k : ∀ H' l, Same H H' → H' l = some (.lst (ds.map fun d => .bl (f d))) → Q (.ref l) H') : LoopC (Itt K p) (gName i) tYes (tCall (spJ f) [] E0 (tCons (tVar i) tNil)) [i] Q σ H := by
  intro D hD
  have e := t.len
  have nDp : p ≠ D := fun z => by subst z; rw [hp] at hD; cases hD
  refine lc_tup (fun n H' => Same H H' ∧ H' D = some (.lst ((ds.take n).map fun d => .bl (f d)))) ⟨same_upd hD, upd_same⟩ (fun i H' _ h => .inl (.inl (h.1 _ _ hp))) ?_ ?_
  · rintro n x H' hx ⟨S, hDD⟩
    obtain ⟨d, md, td⟩ := t.get hx
    have td := Td.same S _ _ td
    simp only [wipe, gName, tYes, tCall, tCons, tVar, tNil, List.append_nil, if_true]
    refine ⟨by rw [List.set_set, List.set_set], x, ?_, ?_⟩
    · rw [List.getElem?_set_self (by rw [List.length_set]; exact hi)]
    refine use_J td ?_
    refine ⟨_, hDD, ?_, ?_, ?_⟩
    · rw [List.length_map, List.length_take]
      exact Nat.lt_of_lt_of_le (show min n ds.length < 100000 by omega) (by decide)
    · exact fun b o h => by rw [upd_ne (fun z => by subst z; rw [hD] at h; cases h)]; exact S b o h
    · rw [upd_same, List.take_add_one, md]; simp
  · rintro H' ⟨S, hDD⟩
    refine k H' D S ?_
    rw [hDD, e, List.take_length]
end TT

set_option Elab.async false
set_option linter.all false
set_option maxRecDepth 100000
namespace TT
open PySem PySem.Spec PyProof.Rows L2
/-- a special method of an own class: the def at f -/
structure SpecM (K : PySem.W.Frag) (C f : Addr) (name : Str) : Prop where
  at_ : PySem.W.findIn K (.ref C) name = some (some (.ref f))
  fn : PySem.W.isFn K (.ref f) = true
section
variable {X : Cx} {pins : List (Addr × Obj)} {σ : L2.St} {H : Hp} {s : Shared} {CX : CXT} {k : Nat} {C f a dx : Addr} {fs : List (Str × V)} {fd : FuncData} {ps : List Str} {sp : Sp} {E : XK}
/-- a def run one level deeper in C, its promise behind it -/
theorem run_in1 {Q : VK} {us : List Value} {vs : List V} {E' : Value → Shared → Prop} (F : FnOk X.prog X.w X.K X.mg X.base CX k f fd ps sp) (hr : Room (k + 1) X.A) (hb : Binds X.K fd ps []) (hx : Passes CX X.nox E)
    (I : Inv X pins σ H s) (r : Vals vs us) (h : sp vs H Q E) : wpAny (model X.prog X.w) X.A.in1 (call (.ref f) us) (EP X pins σ Q) E' s := by
  have hl : (us ++ []).length = ps.length := by
    rw [List.append_nil, ← F.len _ _ _ _ h]; exact r.length.symm
  have hb' := hb s us I.kIn hl
  rw [List.append_nil] at hb'
  refine wpAny_call (codeAny_mono (F.run X.A.in1 X.stack s H ⟨us, []⟩ us vs Q E hr.in1 I.env0.in1 hb' r h) fun r s' hq => ?_)
  cases r with
  | error e => exact False.elim (hx pins σ H s e s' (I.wish _) hq)
  | ok fl =>
    cases fl with
    | ret u => exact I.after hq
    | next => exact False.elim hq
    | brk => exact False.elim hq
    | cont => exact False.elim hq
def rLenO (C : Addr) (sp : Sp) (E : XK) : List V → Hp → VK → Prop := fun xs H Q => ∃ a dx fs, xs = [.ref a] ∧ H a = some (.ins C dx fs) ∧ sp [.ref a] H (fun v H' => ∃ n : Int, v = .int n ∧ 0 ≤ n ∧ n < 2 ^ 63 ∧ Q (.int n) H') E
theorem call_lenO (S : SpecM X.K C f "__len__") (F : FnOk X.prog X.w X.K X.mg X.base CX k f fd ps sp) (hr : Room (k + 1) X.A) (hb : Binds X.K fd ps []) (hx : Passes CX X.nox E) : CallR X (.builtin "len") (rLenO C sp E) := by
  intro pins s σ H xs us Q I r h
  obtain ⟨a, dx, fs, rfl, ha, h⟩ := h
  obtain ⟨u, rfl, rx⟩ := vals1 r
  obtain rfl : u = Value.ref a := rx
  obtain ⟨mA, O, _⟩ := ins_get I.hok ha
  obtain ⟨od, J, _⟩ := O.look
  obtain ⟨m, hF⟩ := I.fr
  refine PySem.W.len_K hF I.mod.kin J S.at_ S.fn (wpAny_mono (run_in1 F hr hb hx I (us := [.ref a]) (.cons (show RelV (.ref a) (Value.ref a) from rfl) .nil) h) (fun v s' hv => ?_) fun _ _ z => z)
  obtain ⟨w, H', I', rw_, n, rfl, n0, n1, q⟩ := hv
  obtain ⟨t, rfl⟩ := rw_
  exact ⟨⟨n0, n1⟩, .int n, H', I'.tok _, ⟨_, rfl⟩, q⟩
/-- a call at this very level -/
theorem run_here {Q : VK} {us : List Value} {vs : List V} (F : FnOk X.prog X.w X.K X.mg X.base CX k f fd ps sp) (hr : Room k X.A) (hb : Binds X.K fd ps []) (hx : Passes CX X E)
    (I : Inv X pins σ H s) (r : Vals vs us) (h : sp vs H Q E) : wpAny (model X.prog X.w) X.A (call (.ref f) us) (EP X pins σ Q) X.xe s := by
  refine run_fn F hr hb .nil hx I r ?_
  rw [List.append_nil]; exact h
/-- o[i] of an own class -/
def rIxO (C : Addr) (sp : Sp) (E : XK) : R2 := fun x y H Q => ∃ a dx fs, x = .ref a ∧ H a = some (.ins C dx fs) ∧ sp [.ref a, y] H Q E
theorem ix_own (S : SpecM X.K C f "__getitem__") (hq : PySem.W.noSeq X.K C = true) (F : FnOk X.prog X.w X.K X.mg X.base CX k f fd ps sp) (hr : Room k X.A) (hb : Binds X.K fd ps []) (hx : Passes CX X E) : OpR X getItem (rIxO C sp E) := by
  intro pins s σ H x y v u Q I rx ry h
  obtain ⟨a, dx, fs, rfl, ha, h⟩ := h
  obtain rfl : v = Value.ref a := rx
  obtain ⟨mA, O, _⟩ := ins_get I.hok ha
  obtain ⟨od, J, _⟩ := O.look
  obtain ⟨m, hF⟩ := I.fr
  exact PySem.W.getItem_K hF I.mod.kin J hq S.at_ S.fn (run_here F hr hb hx I (us := [.ref a, u]) (.cons (show RelV (.ref a) (Value.ref a) from rfl) (.cons ry .nil)) h)
/-- x in o -/
def rInO (C : Addr) (sp : Sp) (E : XK) (neg : Bool) : R2 := fun x y H Q => ∃ a dx fs, y = .ref a ∧ H a = some (.ins C dx fs) ∧ sp [.ref a, x] H (fun v H' => ∃ b : Bool, v = .bl b ∧ Q (.bl (if neg then !b else b)) H') E
theorem in_own (S : SpecM X.K C f "__contains__") (F : FnOk X.prog X.w X.K X.mg X.base CX k f fd ps sp) (hr : Room k X.A) (hb : Binds X.K fd ps []) (hx : Passes CX X E) : OpR X (compareOp .In) (rInO C sp E false) := by
  intro pins s σ H x y v u Q I rx ry h
  obtain ⟨a, dx, fs, rfl, ha, h⟩ := h
  obtain rfl : u = Value.ref a := ry
  obtain ⟨mA, O, _⟩ := ins_get I.hok ha
  obtain ⟨od, J, _⟩ := O.look
  obtain ⟨m, hF⟩ := I.fr
  refine PySem.W.in_K hF I.mod.kin J S.at_ S.fn (wpAny_mono (run_here F hr hb hx I (us := [.ref a, v]) (.cons (show RelV (.ref a) (Value.ref a) from rfl) (.cons rx .nil)) h) (fun v s' hv => ?_) fun _ _ z => z)
  obtain ⟨w, H', I', rw_, b, rfl, q⟩ := hv
  obtain rfl : v = Value.bool b := rw_
  exact wpAny_truthy_bool ⟨.bl b, H', I', rfl, q⟩
end
end TT
namespace TT
open PySem PySem.Spec PyProof.Rows L2
section
variable {X : Cx} {pins : List (Addr × Obj)} {σ : L2.St} {H : Hp} {s : Shared} {CX : CXT} {k : Nat} {C f a dx : Addr} {fs : List (Str × V)} {fd : FuncData} {ps : List Str} {sp : Sp} {E : XK} {ta tb : TE}
/-- o[i], o of an own class with __getitem__ -/
theorem pe_ixO {e i : Expr} {pos : Pos} (S : SpecM X.K C f "__getitem__") (hfn : PySem.W.fnIn X.K f = true) (F : FnOk X.prog X.w X.K X.mg X.base CX k f fd ps sp) (hr : Room (k + 1) X.A) (hb : Binds X.K fd ps []) (hx : Passes CX X.nox E)
    (h1 : PE X e ta) (h2 : PE X i tb) (hsl : ∀ v u : Value, subscripted i true v u = runValue (.builtin "lifetime.subscript" ⟨[v, u], []⟩) := by intro _ _; rfl) : PE X (.Subscript e i pos) (tOp (rIxO C sp E) ta tb) := by
  refine ⟨fun pins s σ H Q I h => ?_⟩
  refine Subscript_ (binT h1 h2 I h fun v u s2 x y H2 I2 rx ry q => ?_)
  obtain ⟨a, dx, fs, rfl, ha, q⟩ := q
  obtain rfl : v = Value.ref a := rx
  obtain ⟨mA, O, _⟩ := ins_get I2.hok ha
  obtain ⟨od, J, _⟩ := O.look
  obtain ⟨m, hF⟩ := I2.fr
  exact PySem.W.sub_K hF I2.mod.kin J S.at_ hfn S.fn (run_in1 F hr hb hx I2 (us := [.ref a, u]) (.cons (show RelV (.ref a) (Value.ref a) from rfl) (.cons ry .nil)) q) (hsl _ _)
/-- cls(..): the class in a slot is made -/
def tMakeL (i : Nat) (C : Addr) (sp : Sp) (E : XK) (t : TA) : TE := fun σ H Q => σ[i]? = some (some (.ref C)) ∧ t σ H fun vs H1 => ∀ x dx, H1 x = none → H1 dx = none → dx ≠ x →
  sp (.ref x :: vs) (upd (upd H1 dx (.own x)) x (.ins C dx [])) (fun v H2 => v = .non ∧ Q (.ref x) H2) E
theorem pe_makeL {x : Str} {i : Nat} {p pos : Pos} {e : Expr} {es : List Expr} {t : TA} (M : Mk X.K C f) (F : FnOk X.prog X.w X.K X.mg X.base CX k f fd ps sp) (hr : Room (k + 1) X.A) (hN : X.N[i]? = some x) (hv : Vis X.env.scope x) (hb : Binds X.K fd ps []) (hx : Passes CX X E) (ha : PA X (e :: es) t)
    (hdb : (x == ("__debug__" : Str)) = false := by decide) (hcd : (x == ("__classdict__" : Str)) = false := by decide)
    (he : starEach (e :: es) X.env = (false, eval e X.env) :: starEach es X.env := by rfl) (hpl : (backTo pos (starEach es X.env)).any (·.1) = false := by rfl) : PE X (.Call (.Name x p) (e :: es) [] pos) (tMakeL i C sp E t) := by
  refine ⟨fun pins s σ H Q I h => ?_⟩
  obtain ⟨hs, ht⟩ := h
  refine wpAny_Call_Name_kw (thn ((pe_var (pos := p) hN hv hdb hcd).run pins s σ H (fun v H1 => v = .ref C ∧ H1 = H) I ⟨.ref C, hs, rfl, rfl⟩) fun u s1 ⟨v, H1, I1, r1, q1⟩ => ?_)
  obtain ⟨rfl, rfl⟩ := q1
  cases r1
  refine PySem.W.callWith_K (h₀ := X.base) I.ok.mod.kin M.kp (thn (ha.run pos pins s1 σ _ _ I1 ht) fun us s2 ⟨vs, H2, I2, r, q⟩ => ⟨I2.kIn, ?_⟩) he hpl
  exact run_make M F hr hb .nil hx I2 r (by simpa only [List.append_nil] using q)
/-- == of two objects of one class with an own __eq__ -/
def rEqO (C : Addr) (sp : Sp) (E : XK) (neg : Bool) : R2 := fun x y H Q => ∃ a dx fs b dy gs, x = .ref a ∧ H a = some (.ins C dx fs) ∧ y = .ref b ∧ H b = some (.ins C dy gs) ∧ sp [.ref a, .ref b] H (fun v H' => ∃ r : Bool, v = .bl r ∧ Q (.bl r) H') E
theorem eq_own (S : SpecM X.K C f "__eq__") (F : FnOk X.prog X.w X.K X.mg X.base CX k f fd ps sp) (hr : Room k X.A) (hb : Binds X.K fd ps []) (hx : Passes CX X E) : OpR X (compareOp .Eq) (rEqO C sp E false) := by
  intro pins s σ H x y v u Q I rx ry h
  obtain ⟨a, dx, fs, b, dy, gs, rfl, ha, rfl, hb', h⟩ := h
  obtain rfl : v = Value.ref a := rx
  obtain rfl : u = Value.ref b := ry
  obtain ⟨mA, O, _⟩ := ins_get I.hok ha
  obtain ⟨od, J, _⟩ := O.look
  obtain ⟨mB, O', _⟩ := ins_get I.hok hb'
  obtain ⟨od', J', _⟩ := O'.look
  obtain ⟨m, hF⟩ := I.fr
  refine PySem.W.cmp_K (op := .Eq) (tb := .ref C) (by have := hr.un; omega) hF I.mod.kin J J'.type (by simp [PySem.W.notFirst]) S.at_ S.fn (wpAny_mono (run_here F hr hb hx I (us := [.ref a, .ref b]) (.cons (show RelV (.ref a) (Value.ref a) from rfl) (.cons (show RelV (.ref b) (Value.ref b) from rfl) .nil)) h) (fun v s' hv => ?_) fun _ _ z => z)
  obtain ⟨w, H', I', rw_, r, rfl, q⟩ := hv
  obtain rfl : v = Value.bool r := rw_
  exact ⟨.bl r, H', I', rfl, q⟩
end
end TT

set_option Elab.async false
set_option linter.all false
set_option maxRecDepth 100000
set_option maxHeartbeats 2000000
/-! An own exception class over any built-in base, its __init__ keeping its one argument under the argument's own name (self.x = x). -/
namespace TT
open PySem PySem.Spec PyProof.Rows PySem.W PySem.Calls PySem.HandSPX
/-- the text of such an __init__ -/
def kA (x : String) (p1 p2 : Pos) : Arguments := { posonlyargs := [], args := [{ arg := "self", annotation := none, pos := p1 }, { arg := x, annotation := none, pos := p2 }], vararg := none, kwonlyargs := [], kw_defaults := [], kwarg := none, defaults := [] }
def kB (x : String) (q1 q2 q3 q4 : Pos) : List Stmt := [.Assign [.Attribute (.Name "self" q1) x q2] (.Name x q3) q4]
def kS (x : String) : Scope := { kind := .function, names := [(PySem.Str.ofString "self", .local), (PySem.Str.ofString x, .local)], isGenerator := false, isCoroutine := false, more := [] }
/-- the base -/
structure KBase (B newId initId : String) (bmB : List Value) : Prop where
  F : ExcBaseFacts B newId initId bmB
  S : StoreFacts B bmB "object.__setattr__" "object"
/-- a name that such a class may keep -/
structure KName (x : String) : Prop where
  bind : ∀ (qn : Str) (doc pm : Value) (an : Option Addr) (cdv ct : Value) (p1 p2 q1 q2 q3 q4 : Pos) (s : Shared) (u v : Value), BindsTo s (fnOf "__init__" qn (kA x p1 p2) (kB x q1 q2 q3 q4) (kS x) .none .none doc pm an cdv ct) ⟨[u, v], []⟩ [("self", u), ((x : Str), v)]
  k1 : ∀ (qn : Str) (L a : Addr) (cd : Value), (envOfC qn (kS x) L a cd).kindOf "self" = some .local
  k2 : ∀ (qn : Str) (L a : Addr) (cd : Value), (envOfC qn (kS x) L a cd).kindOf (x : Str) = some .local
  kinds : ∀ u v : Value, (([("self", u), ((x : Str), v)] : List (Str × Value)).all fun y => (kS x).names.lookup y.1 == some .local || (kS x).names.lookup y.1 == some .cell) = true
  ne : (x : Str) ≠ "self"
  dbg : ((x : Str) == ("__debug__" : Str)) = false
  swap : ∀ (qn : Str) (L a : Addr) (cd : Value) (q1 q2 q3 q4 : Pos), swapsWith (.Name x q3) (some (.Attribute (.Name "self" q1) x q2)) q4.line (envOfC qn (kS x) L a cd) = pure false
/-- what the written part says of the class at C, called cn, and of its __init__ -/
structure KeepX (K : Frag) (mg : Str → Option Value) (cn : Str) (x : String) (C fI : Addr) (newId : String) (bmB : List Value) : Prop where
  gC : mg cn = some (.ref C)
  cls : ∃ nm q N bs bm sn sub ab col dd k0 k1 k2 k3 k5, K.lookup C = some (excClassObj nm q C N bs bm true sn sub ab col dd k0 k1 k2 k3 k5 newId) ∧ excTail bmB bm = true
  sa : findIn K (.ref C) "__setattr__" = some (some (.builtin "object.__setattr__"))
  noN : findIn K (.ref C) (x : Str) = some none
  iC : findIn K (.ref C) "__init__" = some (some (.ref fI))
  tC : typeIn K (.ref fI) = some (.type "function")
  kC : keepIn K (.ref C) = true
  exC : subIn K (.ref C) (.type "BaseException") = some true
  tyC : typeIn K (.ref C) = some (.type "type")
  fn : ∃ (qn : Str) (oc : Value) (od : Option Addr) (doc pm : Value) (an : Option Addr) (cdv ct : Value) (osl : Array (Option Value)) (p1 p2 q1 q2 q3 q4 : Pos),
    K.lookup fI = some ⟨oc, od, .func (fnOf "__init__" qn (kA x p1 p2) (kB x q1 q2 q3 q4) (kS x) .none .none doc pm an cdv ct), osl⟩ ∧ codeIn K cdv qn = true
/-- the class's record, as its own line tells it -/
theorem KeepX.cdOf {K : Frag} {mg : Str → Option Value} {cn : Str} {x : String} {C fI : Addr} {newId : String} {bmB : List Value} (T : KeepX K mg cn x C fI newId bmB) : ∃ cd, clsIn K C = some cd ∧ cd.hasDict = true ∧ excOver K C bmB = true := by
  obtain ⟨nm, q, N, bs, bm, sn, sub, ab, col, dd, k0, k1, k2, k3, k5, hC, hbm⟩ := T.cls
  have hcl : clsIn K C = some { name := nm, bases := bs, mro := .ref C :: bm, ns := N, qualname := q, hasDict := true, slotNames := sn, subclasses := sub, abstract := ab, collection := col, hasDel := false } := by unfold clsIn; rw [hC] <;> rfl
  refine ⟨_, hcl, rfl, ?_⟩
  unfold excOver
  rw [hcl]
  simp [hbm]
section
open Builtin.ObjectAttr
variable {prog : Program} {w : World} {A : Around} {E : Value → Shared → Prop} {R : Result → Shared → Prop} {hp : Heap} {g : Array GenState} {d : Drawn} {t : Nat} {os : OsState}
/-- the first field of an exception of any base -/
theorem first_store {K : Frag} {B newId initId : String} {bmB : List Value} {name : Str} {tk : Tok} {v : Value} {x C : Addr} {fv : Array Value} {cd : ClassData} (KB : KBase B newId initId bmB)
    (X : K.In hp) (hx : hp.get? x = some { cls := .ref C, data := .fields fv }) (hcd : clsIn K C = some cd) (ho : excOver K C bmB = true) (hh : cd.hasDict = true) (ha : findIn K (.ref C) name = some none)
    (hq : ∀ h' tk' dx, (∀ b o, b ≠ x → hp.get? b = some o → h'.get? b = some o) → hp.objs.size ≤ dx → dx ≠ x → h'.get? x = some { cls := .ref C, dict := some dx, data := .fields fv } →
      h'.Ns1 dx (fun y => if y = name then some v else none) → R (.ok (.ret .none)) ⟨h', g, d, tk', os⟩) :
    codeAny (model prog w) A (.call (.builtin "object.__setattr__") ⟨[.ref x, .str name tk, v], []⟩) R ⟨hp, g, d, t, os⟩ := by
  have hxs : x ≠ hp.objs.size := Nat.ne_of_lt (Heap.lt_size hx)
  have I : InstAt hp x { cls := .ref C, data := .fields fv } C none := ⟨hx, rfl, rfl, trivial⟩
  refine osa_openX (s := ⟨hp, g, d, t, os⟩) KB.S X I ho (r := none) (by unfold takerIn; rw [ha]; rfl) fun b => ?_
  have hcls : Looks (model prog w) hp (classData C) cd := looks_clsIn X hcd
  show wpAny _ _ (storeInOwnDict (.ref x) (.ref C) (.str name tk) name v b) _ _ _
  obtain ⟨nm, bs, mro, ns, qn, hd, sn, sb, ab, col, del⟩ := cd
  dsimp only at hh
  subst hh
  unfold storeInOwnDict ownDictForStores
  repeat (first | with_reducible refine store_in_new ?_ ?_ | with_reducible refine wpAny_loadPart_at hx ?_ | with_reducible refine hcls.at ?_ | wp_step)
  · exact ⟨_, #[], _, (Heap.get?_update_ne _ _ _ _ hxs.symm).trans (Heap.get?_push_at rfl rfl), rfl, fun e he => absurd he (by simp), fun _ => rfl⟩
  · intro h' tk' hn' hs
    refine hq h' tk' hp.objs.size (fun b o hb ho => ?_) (Nat.le_refl _) hxs.symm ?_ hn'
    · exact (hs.2 b (Nat.ne_of_lt (Heap.lt_size ho))).trans ((Heap.get?_update_ne _ _ _ _ hb).trans (Heap.get?_push_of_some _ ho))
    · exact (hs.2 x hxs).trans (Heap.get?_update_self _ (Heap.get?_push_of_some _ hx) rfl)
end
/-- what is there behind the making: the exception at e, its own dict at d -/
structure Kept (h h' : Heap) (e C d : Addr) (x : Str) (v : Value) : Prop where
  keep : ∀ b o, h.get? b = some o → h'.get? b = some o
  new : h.objs.size ≤ e
  obj : ∃ t0 : Addr, h'.get? e = some { cls := .ref C, dict := some d, data := .fields #[.ref t0, .none, .none, .none, .bool false, .none] }
  dbig : h.objs.size ≤ d
  dne : d ≠ e
  ns : h'.Ns1 d (fun y => if y = x then some v else none)
section
variable {prog : Program} {w : World} {A : Around} {E : Value → Shared → Prop} {R : Result → Shared → Prop} {s : Shared} {K : Frag} {mg : Str → Option Value} {C fI : Addr} {cn : Str} {x : String} {B newId initId : String} {bmB : List Value}
/-- C(v) -/
theorem kept_call (KB : KBase B newId initId bmB) (KN : KName x) (T : KeepX K mg cn x C fI newId bmB) {v : Value} (X : K.In s.heap) (hlim : s.heap.NoLimit) (hroom : A.depth + 1 < recursionLimit)
    (hq : ∀ h' tk e d, Kept s.heap h' e C d x v → R (.ok (.ret (.ref e))) { s with heap := h', toks := tk }) : codeAny (model prog w) A (.call (.ref C) ⟨[v], []⟩) R s := by
  obtain ⟨nm, q, N, bs, bm, sn, sub, ab, col, dd, k0, k1, k2, k3, k5, hC, hbm⟩ := T.cls
  obtain ⟨cd, hcd, hhd, hov⟩ := T.cdOf
  obtain ⟨qn, oc, od, doc, pm, an, cdv, ct, osl, p1, p2, q1, q2, q3, q4, ho, hco⟩ := T.fn
  obtain ⟨hp, g, dr, tk, os⟩ := s
  have one : [v].length ≤ sizeLine := by rw [sizeLine_eq]; exact (by decide : 1 ≤ 16777216)
  have k : ∀ b o, hp.get? b = some o → ((hp.push (kdv_tup [v])).push (excO C hp.objs.size)).get? b = some o := fun b o e => Heap.get?_push_of_some _ (Heap.get?_push_of_some _ e)
  have hget : ((hp.push (kdv_tup [v])).push (excO C hp.objs.size)).get? (hp.objs.size + 1) = some (excO C hp.objs.size) := by heap_get
  refine call_own KB.F (fun Y => excTail_contains Y bm hbm) (X _ _ hC) (looks_findIn X T.iC) (fun self => bind_fn X self T.tC) one ?_
  refine Att.call_fn (s := ⟨(hp.push (kdv_tup [v])).push (excO C hp.objs.size), g, dr, tk, os⟩) (K := K) (X.keeps k) (hlim.keeps k) ho hco (by show A.depth + 1 < recursionLimit; exact hroom) (KN.bind qn doc pm an cdv ct p1 p2 q1 q2 q3 q4 _ (.ref (hp.objs.size + 1)) v) (KN.kinds _ _) (fun s₁ IC => ?_) rfl rfl rfl
  obtain ⟨h₁, tk₁, rfl⟩ := IC.toInCall.same
  have k1' := IC.toInCall.keep
  have hn := IC.toInCall.ns
  have X₁ : K.In h₁ := (X.keeps k).keeps k1'
  have hx₁ := k1' _ _ hget
  show wpAny _ _ (execs _ _) _ _ _
  refine wpAny_execs_cons (plainObj_wpAny_Assign_Attribute ?_ (KN.swap _ _ _ _ _ _ _ _))
  refine wpAny_Name (wpAny_loadName_local (v := v) rfl (KN.k2 _ _ _ _) hn ?_ ?_) KN.dbg
  · simp [bindL, KN.k1, KN.k2, KN.ne]
  refine wpAny_Name (wpAny_loadName_local (v := .ref (hp.objs.size + 1)) rfl (KN.k1 _ _ _ _) hn ?_ ?_) (by decide)
  · simp [bindL, KN.k1, KN.k2, KN.ne, Ne.symm KN.ne]
  refine set_plain X₁ (ox := excO C hp.objs.size) (od := none) ⟨hx₁, rfl, rfl, trivial⟩ T.sa ?_
  refine first_store KB X₁ hx₁ hcd hov hhd T.noN (fun h₃ tk₃ dx k₃ dn dne hx₃ hn₃ => ?_)
  show wpAny _ _ (execs _ _) _ _ _
  have z : (hp.push (kdv_tup [v])).objs.size + 1 < h₁.objs.size := by
    have := hn.lt
    simpa [Heap.size_push] using this
  have ze : hp.objs.size + 1 ≤ dx := by
    have z2 := z
    rw [Heap.size_push] at z2
    have dn' : h₁.objs.size ≤ dx := dn
    omega
  refine wpAny_execs_nil ⟨rfl, hq h₃ tk₃ (hp.objs.size + 1) dx ⟨fun b o e => ?_, Nat.le_succ _, ⟨_, hx₃⟩, Nat.le_trans (Nat.le_succ _) ze, dne, hn₃⟩⟩
  exact k₃ b o (Nat.ne_of_lt (Nat.lt_succ_of_lt (Heap.lt_size e))) (k1' b o (k b o e))
end
end TT
namespace TT
open PySem PySem.Spec PyProof.Rows L2
theorem relO_one {v : V} {v' : Value} (r : RelV v v') (x f : Str) : RelO (List.lookup f [(x, v)]) (if f = x then some v' else none) := by
  by_cases h : f = x
  · subst h
    rw [if_pos rfl]
    have q : List.lookup f [(f, v)] = some v := by simp [List.lookup]
    rw [q]
    exact r
  · rw [if_neg h]
    have e : (f == x) = false := by simpa using h
    have q : List.lookup f [(x, v)] = none := by simp [List.lookup, e]
    rw [q]
    trivial
section
variable {X : Cx} {C fI : Addr} {cn : Str} {x : String} {B newId initId : String} {bmB : List Value}
/-- C(e): a new dict at d holds x -/
def tKept (C : Addr) (x : Str) (ta : TA) : L2.St → Hp → XK → Prop := fun σ H Q => ta σ H fun vs H1 => ∃ v, vs = [v] ∧ ∀ d, H1 d = none → Q (.ref C) (some d) (upd H1 d (.xd [(x, v)]))
theorem pmk_kept {a : Expr} {ta : TA} {p pos : Pos} {k : Nat} (KB : KBase B newId initId bmB) (KN : KName x) (T : KeepX X.K X.mg cn x C fI newId bmB) (hr : Room k X.A) (hk : 1 ≤ k) (ha : PA X [a] ta) (hg : Gl X cn) (hdb : (cn == ("__debug__" : Str)) = false := by decide)
    (he : starEach (a :: []) X.env = (false, eval a X.env) :: starEach [] X.env := by rfl) (hpl : (backTo pos (starEach [] X.env)).any (·.1) = false := by rfl) :
    PMk X (.Call (.Name cn p) [a] [] pos) (tKept C x ta) := by
  intro pins s σ H Q I h
  refine wpAny_Call_Name_kw (ld_glob I hg T.gC ?_ hdb)
  refine PySem.W.callWith_K (h₀ := X.base) I.ok.mod.kin T.kC (thn (ha.run pos pins s σ H _ I h) fun us s1 ⟨vs, H1, I1, r1, v, ev, q1⟩ => ⟨I1.kIn, ?_⟩) he hpl
  subst ev
  obtain ⟨v', rfl, rv⟩ := vals1 r1
  show wpAny _ _ (call (.ref C) [v']) _ _ _
  have hlim := I1.nolimit
  obtain ⟨hp, g, dr, tk, os⟩ := s1
  refine wpAny_call (kept_call KB KN T I1.kIn hlim (by have := hr.dp; omega) fun h' tk' e d M => ?_)
  show MkP X pins σ Q (.ref e) ⟨h', g, dr, tk', os⟩
  obtain ⟨t0, hoe⟩ := M.obj
  obtain ⟨G, g1, g2⟩ := restrict h' fun b => decide (b ≠ e)
  have gk : ∀ b, b ≠ e → G.get? b = h'.get? b := fun b hb => g1 b (decide_eq_true hb)
  have ge : G.get? e = none := g2 e (by simp)
  have old : ∀ b o, hp.get? b = some o → G.get? b = some o := fun b o q => (gk b (Nat.ne_of_lt (Nat.lt_of_lt_of_le (Heap.lt_size q) M.new))).trans (M.keep b o q)
  have ob : ObjOk X.prog X.w (upd H1 d (.xd [((x : Str), v)])) G d (.xd [((x : Str), v)]) := ⟨_, M.ns.at (fun o q => (gk d M.dne).trans q), fun f => relO_one rv x f⟩
  refine ⟨e, _, _, ⟨G, g, dr, tk', os⟩, _, .ref C, some d, rfl, I1.laid (t' := tk') old M.dbig ob, fun b o q => ?_, ge, hoe, ⟨rfl, rfl⟩, rfl, rfl, ?_, rfl, I1.bare, raises_own T.exC T.tyC, q1 d (I1.hok.fresh M.dbig)⟩
  · by_cases hb : b = e
    · have q' : G.get? b = some o := q
      rw [hb, ge] at q'
      cases q'
    · exact (gk b hb).symm.trans q
  · rw [upd_ne (Ne.symm M.dne)]
    exact I1.hok.fresh M.new
/-- raise C(e) -/
def tRaiseK (C : Addr) (x : Str) (W : WX) (ta : TA) : TS := fun _ σ H => tKept C x ta σ H fun cls d H' => W cls d σ H'
theorem ps_raiseK {a : Expr} {ta : TA} {W : WX} {p pos pos2 : Pos} {k : Nat} (hc : X.calm = true) (KB : KBase B newId initId bmB) (KN : KName x) (T : KeepX X.K X.mg cn x C fI newId bmB) (hr : Room k X.A) (hk : 1 ≤ k) (tk : Takes X W) (ha : PA X [a] ta) (hg : Gl X cn)
    (hdb : (cn == ("__debug__" : Str)) = false := by decide) (he : starEach (a :: []) X.env = (false, eval a X.env) :: starEach [] X.env := by rfl) (hpl : (backTo pos (starEach [] X.env)).any (·.1) = false := by rfl) :
    PS X (.Raise (some (.Call (.Name cn p) [a] [] pos)) none pos2) (tRaiseK C x W ta) := ps_raise hc tk (pmk_kept KB KN T hr hk ha hg hdb he hpl)
end
/-! ### the bases -/
theorem kb_ValueError : KBase "ValueError" "ValueError.__new__" "ValueError.__init__" [.type "ValueError", .type "Exception", .type "BaseException", .type "object"] := ⟨F.excBase_ValueError, F.store_ValueError⟩
theorem kb_IndexError : KBase "IndexError" "IndexError.__new__" "IndexError.__init__" [.type "IndexError", .type "LookupError", .type "Exception", .type "BaseException", .type "object"] := ⟨F.excBase_IndexError, F.store_IndexError⟩
theorem kb_LookupError : KBase "LookupError" "LookupError.__new__" "LookupError.__init__" [.type "LookupError", .type "Exception", .type "BaseException", .type "object"] := ⟨F.excBase_LookupError, F.store_LookupError⟩
theorem kb_ArithmeticError : KBase "ArithmeticError" "ArithmeticError.__new__" "ArithmeticError.__init__" [.type "ArithmeticError", .type "Exception", .type "BaseException", .type "object"] := ⟨F.excBase_ArithmeticError, F.store_ArithmeticError⟩
theorem kb_OverflowError : KBase "OverflowError" "OverflowError.__new__" "OverflowError.__init__" [.type "OverflowError", .type "ArithmeticError", .type "Exception", .type "BaseException", .type "object"] := ⟨F.excBase_OverflowError, F.store_OverflowError⟩
/-! ### the names -/
local macro_rules | `(tactic| walk_at "kname") => `(tactic| exact ⟨fun _ _ _ _ _ _ _ _ _ _ _ _ _ _ _ => .of_eq (by first | rfl | with_unfolding_all rfl), fun _ _ _ _ => by first | rfl | with_unfolding_all rfl, fun _ _ _ _ => by first | rfl | with_unfolding_all rfl, fun _ _ => by first | rfl | with_unfolding_all rfl | decide, by decide, by decide, fun _ _ _ _ _ _ _ _ => by rfl⟩)
theorem kn_given : KName "given" := by walk_at "kname"
theorem kn_reason : KName "reason" := by walk_at "kname"
theorem kn_limit : KName "limit" := by walk_at "kname"
theorem kn_steps : KName "steps" := by walk_at "kname"
theorem kn_name : KName "name" := by walk_at "kname"
theorem kn_spot : KName "spot" := by walk_at "kname"
end TT

set_option Elab.async false
set_option linter.all false
set_option maxRecDepth 100000
set_option maxHeartbeats 2000000
namespace TT
open PySem PySem.Spec PyProof.Rows L2
/-! ### defs that are run where nothing is being shown (repr): the guards are known to be none -/
structure FnG (P : Program) (w : World) (K : PySem.W.Frag) (mg : Str → Option Value) (base : Heap) (CX : CXT) (k : Nat) (f : Addr) (fd : FuncData) (ps : List Str) (sp : Sp) : Prop where
  len : ∀ vs H Q E, sp vs H Q E → vs.length = ps.length
  run : ∀ (A : Around) (outer : List Env) (s : Shared) (H : Hp) (args : Args) (us : List Value) (vs : List V) (Q : VK) (E : XK), A.guards = some [] → Room k A → Env0 P w K mg base A outer s H → BindsTo s fd args (ps.zip us) →
    Vals vs us → sp vs H Q E → codeAny (model P w) A (.call (.ref f) args) (CR CX outer P w H s Q E) s
theorem FnG.of {P : Program} {w : World} {K : PySem.W.Frag} {mg : Str → Option Value} {base : Heap} {CX : CXT} {k : Nat} {f : Addr} {fd : FuncData} {ps : List Str} {sp : Sp} (F : FnOk P w K mg base CX k f fd ps sp) : FnG P w K mg base CX k f fd ps sp :=
  ⟨F.len, fun A outer s H args us vs Q E _ hr e0 hb r h => F.run A outer s H args us vs Q E hr e0 hb r h⟩
section
variable {P : Program} {w : World} {K : PySem.W.Frag} {mg : Str → Option Value} {base : Heap}
/-- a def by its body, as Fun.ok, with the guards told -/
theorem okG {x qual : Str} {st : Stmt} {f : Addr} {fd : FuncData} {N ps : List Str} {k : Nat} {sp : Sp} (F : Fun K x qual st f fd) (S : FnScope N ps (defScope st)) (len : ∀ vs H Q E, sp vs H Q E → vs.length = ps.length)
    (body : ∀ (cdv : Value) (A : Around) (outer : List Env) (s : Shared) (H : Hp) (vs : List V) (Q : VK) (E : XK), PySem.W.codeIn K cdv qual = true → (∃ oc od kV doc pm an ct osl, K.lookup f = some ⟨oc, od, .func (PySem.W.fnOf x qual (defArgs st) (defBody st) (defScope st) .none kV doc pm an cdv ct), osl⟩) → A.guards = some [] →
      Room k (A.deeper (envOfC qual (defScope st) s.heap.objs.size f cdv)) → sp vs H Q E →
      ∃ t, PSs (cxOf CX0 P w K mg base N qual (defScope st) f cdv A outer s H E).nox (defBody st) t ∧ t { nx := fun _ H' => Q .non H', rt := Q } (start N vs) H) : FnG P w K mg base CX0 (k + 1) f fd ps sp := by
  obtain ⟨oc, od, kV, doc, pm, an, cdv, ct, osl, rfl, lk, hcd⟩ := F.ex
  refine ⟨len, fun A outer s H args us vs Q E hg hr e0 hb r h => ?_⟩
  refine LamX.run_ofS lk hcd S hr e0 hb r (len _ _ _ _ h) fun hr' => ?_
  obtain ⟨t, h1, h2⟩ := body cdv A outer s H vs Q E hcd ⟨_, _, _, _, _, _, _, _, lk⟩ hg hr' h
  exact ⟨t, h1.nox, h2⟩
end
section
variable {X : Cx} {CX : CXT} {k : Nat} {f : Addr} {fd : FuncData} {ps : List Str} {sp : Sp} {E : XK} {ta : TA}
theorem pe_callG {x : Str} {p pos : Pos} {e : Expr} {es : List Expr} (F : FnG X.prog X.w X.K X.mg X.base CX k f fd ps sp) (hg : X.A.guards = some []) (hr : Room k X.A) (hgl : Gl X x) (hm : X.mg x = some (.ref f)) (hk : PySem.W.keepIn X.K (.ref f) = true) (hb : Binds X.K fd ps []) (hx : Passes CX X E)
    (ha : PA X (e :: es) ta) (hdb : (x == ("__debug__" : Str)) = false := by decide) (he : starEach (e :: es) X.env = (false, eval e X.env) :: starEach es X.env := by rfl) (hpl : (backTo pos (starEach es X.env)).any (·.1) = false := by rfl) :
    PE X (.Call (.Name x p) (e :: es) [] pos) (tCall sp [] E ta) := by
  refine ⟨fun pins s σ H Q I h => wpAny_Call_Name_kw (ld_glob I hgl hm ?_ hdb)⟩
  refine PySem.W.callWith_K (h₀ := X.base) I.ok.mod.kin hk (thn (ha.run pos pins s σ H _ I h) fun us s1 ⟨vs, H1, I1, r, q0⟩ => ⟨I1.kIn, ?_⟩) he hpl
  have q : sp (vs ++ []) H1 Q E := q0
  rw [List.append_nil] at q
  have hl : (us ++ []).length = ps.length := by rw [List.append_nil, ← F.len _ _ _ _ q]; exact r.length.symm
  have hb1 := hb s1 us I1.kIn hl
  rw [List.append_nil] at hb1
  refine wpAny_call (codeAny_mono (F.run X.A X.stack s1 H1 ⟨us, []⟩ us vs Q E hg hr I1.env0 hb1 r q) fun r' s' hq => ?_)
  match r', hq with
  | .error e, hq => exact hx pins σ H1 s1 e s' I1 hq
  | .ok (.ret u), hq => exact I1.after hq
/-! ### repr of data -/
def rRepr (K : PySem.W.Frag) : List V → Hp → VK → Prop := fun xs H Q => ∃ (x : V) (d : PyData), xs = [x] ∧ Dp K H x d ∧ d.showable = true ∧ d.hasDict = false ∧ d.depth ≤ 50 ∧ d.shown.length ≤ 100000 ∧ Q (.str d.shown) H
/-- data shown by repr, where no showing is under way -/
theorem call_reprD (hg : X.A.guards = some []) (hu : X.A.units + 64 < cLine) : CallR X (.builtin "repr") (rRepr X.K) := by
  intro pins s σ H xs us Q I r h
  obtain ⟨x, d, rfl, hd, hs, hnd, hdp, hsz, q⟩ := h
  obtain ⟨u, rfl, rx⟩ := vals1 r
  have sz : d.shown.length ≤ sizeLine := by rw [sizeLine_eq]; omega
  have fin : ∀ {h' : Heap} {t tk : Nat}, (∀ b o, s.heap.get? b = some o → h'.get? b = some o) → EP X pins σ Q (.str d.shown t) { s with heap := h', toks := tk } := fun {h' t tk} k => ⟨.str d.shown, H, I.kept k, ⟨_, rfl⟩, q⟩
  obtain ⟨as, hr⟩ := Dp.reads I d x u hd rx
  cases hd with
  | non =>
    cases rx
    exact PySem.P.repr_of_none (by simpa only [PyData.shown] using fin (fun _ _ e => e))
  | bl b =>
    cases rx
    exact PySem.P.repr_of_bool (by simpa only [PyData.shown] using fin (fun _ _ e => e))
  | int i =>
    obtain ⟨t, rfl⟩ := rx
    exact PySem.P.repr_of_int (by simpa [PyData.showable] using hs) (by simpa only [PyData.shown] using fin (fun _ _ e => e))
  | str y =>
    obtain ⟨t, rfl⟩ := rx
    exact PySem.P.repr_of_str (by simpa only [PyData.shown] using fin (fun _ _ e => e)) (by simpa only [PyData.shown] using sz)
  | lst _ _ =>
    cases rx
    exact repr_of_reads' hr hs (PyData.noDict_hsm hnd) hg (by omega) (fun _ _ e => e) (fun h' t tk k => fin k) sz
  | tup _ _ =>
    cases rx
    exact repr_of_reads' hr hs (PyData.noDict_hsm hnd) hg (by omega) (fun _ _ e => e) (fun h' t tk k => fin k) sz
end
end TT
namespace TT
open PySem PySem.Spec PyProof.Rows L2
/-! ### several clauses, some of them with a name -/
/-- a clause's suite with the exception at a in slot i, the slot empty behind it -/
def tNamed (i : Nat) (ts : Addr → Value → Option Addr → TS) : Addr → Value → Option Addr → TS := fun a cls d D σ H =>
  ts a cls d { nx := fun σ' H' => D.nx (σ'.set i none) H', rt := D.rt, bk := fun σ' H' => D.bk (σ'.set i none) H', ct := fun σ' H' => D.ct (σ'.set i none) H' } (σ.set i (some (.ref a))) H
abbrev Suite := Addr → Value → Option Addr → TS
inductive Clauses (X : Cx) : List ExceptHandler → List (Value × Suite) → Prop
  | nil : Clauses X [] []
  | plain {x : Str} {c : Value} {ts : Suite} {b₀ : Stmt} {suite : List Stmt} {np pos' : Pos} {hds : List ExceptHandler} {l : List (Value × Suite)} (hc : Names X x c)
      (hsu : ∀ (a : Addr) (oe : Obj) (cls : Value) (d : Option Addr) (pn : List (Addr × Obj)), Zc cls d oe → (∃ vs, oe.data = .fields vs) → PSs (X.suite a ((a, oe) :: pn)) (b₀ :: suite) (ts a cls d)) (r : Clauses X hds l) :
      Clauses X (.ExceptHandler (some (.Name x np)) none (b₀ :: suite) pos' :: hds) ((c, ts) :: l)
  | named {x n : Str} {i : Nat} {c : Value} {ts : Suite} {b₀ : Stmt} {suite : List Stmt} {np pos' : Pos} {hds : List ExceptHandler} {l : List (Value × Suite)} (hN : X.N.Nodup) (hi : X.N[i]? = some n) (hln : X.env.kindOf n = some .local) (hc : Names X x c)
      (hsu : ∀ (a : Addr) (oe : Obj) (cls : Value) (d : Option Addr) (pn : List (Addr × Obj)), Zc cls d oe → (∃ vs, oe.data = .fields vs) → PSs (X.suite a ((a, oe) :: pn)) (b₀ :: suite) (ts a cls d)) (r : Clauses X hds l) :
      Clauses X (.ExceptHandler (some (.Name x np)) (some n) (b₀ :: suite) pos' :: hds) ((c, tNamed i ts) :: l)
section
variable {X : Cx} {body : List Stmt} {h₀ : ExceptHandler} {hds : List ExceptHandler} {l : List (Value × Suite)} {pos : Pos} {tb : WX → TS} {Wout : WX}
theorem ps_try_mix (hs : X.stack = X.env :: X.outer) (hf : X.env.frame = some X.env.locals) (tk : Takes X Wout)
    (hb : ∀ (W : WX) (pn : List (Addr × Obj)) (xe : Value → Shared → Prop), Takes (X.tr pn xe) W → PassesOwn (model X.prog X.w) X.A X.env xe → PSs (X.tr pn xe) body (tb W))
    (hh : Clauses X (h₀ :: hds) l) : PS X (.Try body (h₀ :: hds) [] [] pos) (fun D σ H => tb (wMany X.K Wout D l) D σ H) := by
  refine ⟨fun pins s σ H D I h => ?_⟩
  have ok := I.ok
  have hfr : X.A.frames = some (X.env :: X.outer) := by rw [ok.frames, hs]
  refine wpAny_Try_except ?_
  refine wpAny_mono ((hb (wMany X.K Wout D l) (X.pn ++ pins) (fun e s₁ => wpAny (model X.prog X.w) X.A (noteFrame e X.env) (fun _ s₂ => wpAny (model X.prog X.w) X.A (setFlight e none) (fun _ s₃ =>
    wpAny (model X.prog X.w) X.A (handleBy e X.env (h₀ :: hds)) (SP X pins D) X.xe s₃) X.xe s₂) X.xe s₁) (fun u s' xx => ?_) PassesOwn.looking).run [] s σ H D (I.toTry _) h) (fun f s1 hsp => ?_) (fun e s1 he => he)
  · obtain ⟨a, B, sI, pins', σ', H', cls, d, rfl, J', nb, up, sky, na, os, ag, w⟩ := xx
    have J : Inv X pins σ' H' sI := J'.ofTry ok
    have sky' : Sky B (X.env :: X.outer) a (Zc cls d) X.env.locals s'.heap := by rw [← hs]; exact sky
    show wpAny (model X.prog X.w) X.A (noteFrame (.ref a) X.env) _ _ _
    refine Sky.land Zc.steady hfr hf sky' fun h3 fl3 up3 => ?_
    have J3 : Inv X pins σ' H' { s' with heap := h3 } := J.landed nb fl3.1 (up.trans up3) os ag
    obtain ⟨oe3, vs3, he3, hz3, hd3⟩ := fl3.there
    have nfr : a ∉ frs (X.env :: X.outer) := fun hm => by
      obtain ⟨_, o', e', hnf⟩ := fl3.2.2.1.mem hm
      rw [he3] at e'; cases e'
      exact hnf _ hd3
    have nL : a ≠ X.env.locals := fun z => nfr (List.mem_filterMap.mpr ⟨X.env, List.mem_cons_self, by rw [hf, z]⟩)
    have nF : a ∉ X.fs := fun hm => by
      obtain ⟨e, he, q⟩ := List.mem_filterMap.mp hm
      exact nfr (List.mem_filterMap.mpr ⟨e, List.mem_cons_of_mem _ he, q⟩)
    have S3 := J3.suite he3 hd3 na nL nF
    -- the clause's class is looked up, the exception's class is held against it
    have look : ∀ {x : Str} {c : Value} {b : Bool} {np : Pos} {Q : Bool → Shared → Prop} {E : Value → Shared → Prop}, Names X x c → PySem.W.exmOne X.K cls c = some b → Q b { s' with heap := h3 } →
        wpAny (model X.prog X.w) (X.A.mark (some (.ref a))) (eval (.Name x np) X.env) (fun v s4 => wpAny (model X.prog X.w) (X.A.mark (some (.ref a))) (excMatches (.ref a) v) Q E s4) E { s' with heap := h3 } := fun {x c b np Q E} hc hb q => by
      have LT : PySem.W.Looks (model X.prog X.w) h3 (typeOf (.ref a)) cls := fun A Q E s k q => wpAny_typeOf_ref (k _ _ he3) (by rw [hz3.1]; exact q)
      have LM := PySem.W.exm_one (M := model X.prog X.w) (J3.kIn) LT hb
      obtain ⟨hg, hdbg, hm | ⟨hm, hv, hnn⟩⟩ := hc
      · exact ld_glob (X := X.suite a ((a, oe3) :: (X.pn ++ pins))) S3 hg hm (LM.here q) hdbg
      · exact ld_blt (X := X.suite a ((a, oe3) :: (X.pn ++ pins))) S3 hg hm hv (LM.here q) hnn hdbg
    have go : ∀ {hds' : List ExceptHandler} {l' : List (Value × Suite)}, Clauses X hds' l' → wMany X.K Wout D l' cls d σ' H' →
        wpAny (model X.prog X.w) X.A (handleBy (.ref a) X.env hds') (SP X pins D) X.xe { s' with heap := h3 } := by
      intro hds' l' hk
      induction hk with
      | nil =>
        intro w
        refine wpAny_handleBy_nil ?_
        obtain ⟨k1, k2, k3, oe, vs, T, oT, ts', he, hz, hd, h1, hr⟩ := id fl3
        unfold PySem.passOn
        refine wpAny_bind (wpAny_field he hd h1 ?_)
        rw [if_neg (show ¬ ((Value.ref T == Value.none) = true) from by simp)]
        have fin : wpAny (model X.prog X.w) X.A (setFlight (.ref a) X.env.frame) (fun _ s4 => wpAny (model X.prog X.w) X.A (throw (.ref a) : Sem Flow) (SP X pins D) X.xe s4) X.xe { s' with heap := h3 } := by
          rw [hf]
          refine HandSPX.setFlight_upZ fl3 fun h4 hh4 up4 => wpAny_throw (tk _ _ ?_)
          exact ⟨a, B, sI, pins, σ', H', cls, d, rfl, J, nb, (up.trans up3).trans up4, .inr (.inr (by rw [hs]; exact hh4)), na, os, ag, w⟩
        first
          | exact wpAny_bind (wpAny_pure (wpAny_bind fin))
          | exact wpAny_bind fin
      | plain hc hsu r ih =>
        intro w
        obtain ⟨b, hb1, hyes, hno⟩ := w
        refine wpAny_handleBy_cons (codeAny_handlers_test ?_) (by intro q; cases q)
        refine look hc hb1 ?_
        cases b with
        | true =>
          refine codeAny_handlers_suite ?_
          refine HandSPX.lands_againZ fl3 fun h4 fl4 up4 => ?_
          have J4 : Inv X pins σ' H' { s' with heap := h4 } := J.landed nb fl4.1 ((up.trans up3).trans up4) os ag
          obtain ⟨oe4, vs4, he4, hz4, hd4⟩ := fl4.there
          refine wpAny_mono ((hsu a oe4 cls d (X.pn ++ pins) hz4 ⟨_, hd4⟩).run [] _ _ H' _ (J4.suite he4 hd4 na nL nF) (hyes rfl a na)) (fun f s6 hsp => ?_) (fun _ _ z => False.elim z)
          cases f with
          | ret u =>
            obtain ⟨v6, σ6, H6, S6, r6, q6⟩ := hsp
            exact ⟨_, _, _, S6.unsuite ok, r6, q6⟩
          | _ =>
            obtain ⟨σ6, H6, S6, q6⟩ := hsp
            exact ⟨_, _, S6.unsuite ok, q6⟩
        | false => exact ih (hno rfl)
      | named hN hi hln hc hsu r ih =>
        intro w
        obtain ⟨b, hb1, hyes, hno⟩ := w
        refine wpAny_handleBy_cons (codeAny_handlers_test ?_) (by intro q; cases q)
        refine look hc hb1 ?_
        cases b with
        | true =>
          refine codeAny_handlers_suite_as ?_
          refine HandSPX.lands_againZ fl3 fun h4 fl4 up4 => ?_
          have J4 : Inv X pins σ' H' { s' with heap := h4 } := J.landed nb fl4.1 ((up.trans up3).trans up4) os ag
          obtain ⟨oe4, vs4, he4, hz4, hd4⟩ := fl4.there
          refine store_ok (X := X.suite a ((a, oe4) :: (X.pn ++ pins))) (v := .ref a) (J4.suite he4 hd4 na nL nF) hN hi (.inl hln) rfl (fun s5 S5 => ?_) (.inr hln)
          refine wpAny_mono ((hsu a oe4 cls d (X.pn ++ pins) hz4 ⟨_, hd4⟩).run [] s5 _ H' _ S5 (hyes rfl a na)) (fun f s6 hsp => ?_) (fun _ _ z => False.elim z)
          cases f with
          | ret u =>
            obtain ⟨v6, σ6, H6, S6, r6, q6⟩ := hsp
            exact gone_ok (S6.unsuite ok) hN hi hln fun s7 J7 => ⟨_, _, _, J7, r6, q6⟩
          | _ =>
            obtain ⟨σ6, H6, S6, q6⟩ := hsp
            exact gone_ok (S6.unsuite ok) hN hi hln fun s7 J7 => ⟨_, _, J7, q6⟩
        | false => exact ih (hno rfl)
    exact go hh w
  · cases f with
    | next =>
      obtain ⟨σ', H', J', q⟩ := hsp
      exact wpAny_execs_nil ⟨σ', H', J'.ofTry ok, q⟩
    | ret u =>
      obtain ⟨v, σ', H', J', r, q⟩ := hsp
      exact ⟨v, σ', H', J'.ofTry ok, r, q⟩
    | _ =>
      obtain ⟨σ', H', J', q⟩ := hsp
      exact ⟨σ', H', J'.ofTry ok, q⟩
end
end TT
namespace TT
open PySem PySem.Spec PyProof.Rows L2
/-- a def of the top -/
structure DefT (K : PySem.W.Frag) (mg : Str → Option Value) (x : Str) (st : Stmt) (ps : List Str) where
  a : Addr
  d : FuncData
  F : Fun K x x st a d
  g : mg x = some (.ref a)
  b : Binds K d ps []
/-- an own exception class of the top without an __init__ of its own -/
structure ExcT (K : PySem.W.Frag) (mg : Str → Option Value) (x : Str) (bmB : List Value) (newId : String) where
  c : Addr
  g : mg x = some (.ref c)
  k : PySem.W.keepIn K (.ref c) = true
  e : PySem.W.excIn K c bmB newId = true
  s : PySem.W.subIn K (.ref c) (.type "BaseException") = some true
  y : PySem.W.typeIn K (.ref c) = some (.type "type")
/-- one that keeps its argument -/
structure KeepT (K : PySem.W.Frag) (mg : Str → Option Value) (cn : Str) (x : String) (bmB : List Value) (newId : String) where
  c : Addr
  i : Addr
  x : KeepX K mg cn x c i newId bmB
  f : XfC K c
/-- the classes held against each other -/
def ExmAll (K : PySem.W.Frag) : List Addr → Prop
  | cs => ∀ i j (hi : i < cs.length) (hj : j ≤ i), PySem.W.exmOne K (.ref cs[i]) (.ref (cs[j]'(by omega))) = some (decide (i = j))
end TT

set_option Elab.async false
set_option linter.all false
set_option maxRecDepth 100000
namespace TT
open PySem PySem.Spec PyProof.Rows L2
/-! ### comprehensions that build lists, item by item -/
theorem lc_mapL {J : It} {g : TG} {te : TE} {vs : List Nat} {Q : VK} {σ : L2.St} {H1 : Hp} (n : Nat) (P : Nat → Hp → V → Prop) (hn : n < 100000) (hgo : ∀ i H, i < n → Same H1 H → J.go i H) (hstop : ∀ H, Same H1 H → J.stop n H)
    (hP : ∀ i D H H' v, (∃ acc, H D = some (.lst acc)) → But D H H' → v ≠ .ref D → P i H v → P i H' v)
    (hstep : ∀ i D H x H', i < n → H1 D = none → (∃ acc, H D = some (.lst acc)) → Same H1 H → J.yld i H x H' → Same H H' ∧ ∀ K : VK, (∀ y H'', Same H' H'' → y ≠ .ref D → P i H'' y → K y H'') → g x (wipe σ vs) H' fun σ2 H2 => wipe σ2 vs = wipe σ vs ∧ te σ2 H2 K)
    (hdone : ∀ D H' acc, H1 D = none → Same H1 H' → H' D = some (.lst acc) → acc.length = n → (∀ i v, acc[i]? = some v → P i H' v) → Q (.ref D) H') : LoopC J g tYes te vs Q σ H1 := by
  intro D hD
  refine ⟨fun i m H => m = n - i ∧ i ≤ n ∧ Same H1 H ∧ ∃ acc : List V, H D = some (.lst acc) ∧ acc.length = i ∧ ∀ j v, acc[j]? = some v → v ≠ .ref D ∧ P j H v, ⟨n, rfl, Nat.zero_le _, same_upd hD, [], upd_same, rfl, fun j v h => by simp at h⟩, fun i m H ⟨hm, hi, S, acc, hDD, al, ht⟩ => ?_⟩
  rcases Nat.lt_or_ge i n with h | h
  · refine .inr ⟨hgo i H h S, fun H' => i + 1 ≤ n ∧ Same H1 H' ∧ ∃ acc : List V, H' D = some (.lst acc) ∧ acc.length = i + 1 ∧ ∀ j v, acc[j]? = some v → v ≠ .ref D ∧ P j H' v, fun H' q => ⟨n - (i + 1), by omega, rfl, q⟩, fun x H' hy => ?_⟩
    obtain ⟨S', st⟩ := hstep i D H x H' h hD ⟨acc, hDD⟩ S hy
    refine st _ fun y H'' S'' ny ty => ?_
    have hD2 : H'' D = some (.lst acc) := S'' _ _ (S' _ _ hDD)
    have bt : ∀ H0 : Hp, Same H0 H'' → But D H0 (upd H'' D (.lst (acc ++ [y]))) := fun H0 s b o nb q => by rw [upd_ne nb]; exact s b o q
    refine ⟨acc, hD2, ?_, h, ?_, _, upd_same, by simp [al], fun j v hj => ?_⟩
    · rw [al, sizeLine_eq]; omega
    · exact fun b o q => by rw [upd_ne (fun z => by subst z; rw [hD] at q; cases q)]; exact S'' _ _ (S' _ _ (S b o q))
    · rcases Nat.lt_or_ge j acc.length with hl | hl
      · rw [List.getElem?_append_left hl] at hj
        obtain ⟨n1, p1⟩ := ht j v hj
        exact ⟨n1, hP j D H _ v ⟨acc, hDD⟩ (bt H (S'.trans S'')) n1 p1⟩
      · rw [List.getElem?_append_right hl] at hj
        have e0 : j - acc.length = 0 := by
          rcases Nat.eq_zero_or_pos (j - acc.length) with z | z
          · exact z
          · rw [List.getElem?_eq_none (by simp; omega)] at hj; cases hj
        rw [e0] at hj
        obtain rfl : y = v := by simpa using hj
        obtain rfl : j = i := by omega
        exact ⟨ny, hP _ D H'' _ y ⟨acc, hD2⟩ (bt H'' (Same.refl _)) ny ty⟩
  · obtain rfl : i = n := by omega
    exact .inl ⟨hstop H S, hdone D H acc hD S hDD al fun j v hj => (ht j v hj).2⟩
theorem lc_map {J : It} {g : TG} {te : TE} {vs : List Nat} {Q : VK} {σ : L2.St} {H1 : Hp} (n : Nat) (P : Nat → Hp → V → Prop) (hn : n < 100000) (hgo : ∀ i H, i < n → Same H1 H → J.go i H) (hstop : ∀ H, Same H1 H → J.stop n H)
    (hP : ∀ i D H H' v, (∃ acc, H D = some (.lst acc)) → But D H H' → v ≠ .ref D → P i H v → P i H' v)
    (hstep : ∀ i D H x H', i < n → H1 D = none → H D ≠ none → Same H1 H → J.yld i H x H' → Same H H' ∧ ∀ K : VK, (∀ y H'', Same H' H'' → y ≠ .ref D → P i H'' y → K y H'') → g x (wipe σ vs) H' fun σ2 H2 => wipe σ2 vs = wipe σ vs ∧ te σ2 H2 K)
    (hdone : ∀ D H' acc, H1 D = none → Same H1 H' → H' D = some (.lst acc) → acc.length = n → (∀ i v, acc[i]? = some v → P i H' v) → Q (.ref D) H') : LoopC J g tYes te vs Q σ H1 :=
  lc_mapL n P hn hgo hstop hP (fun i D H x H' hi hD ⟨acc, e⟩ S hy => hstep i D H x H' hi hD (by rw [e]; simp) S hy) hdone
/-- over range(n), the item's slot j -/
theorem lc_rngP {te : TE} {vs : List Nat} {j : Nat} {Q : VK} {σ : L2.St} {H1 : Hp} {n : Nat} (P : Nat → Hp → V → Prop) (hn : n < 100000) (hw : ∀ x, wipe ((wipe σ vs).set j x) vs = wipe σ vs)
    (hP : ∀ i D H H' v, (∃ acc, H D = some (.lst acc)) → But D H H' → v ≠ .ref D → P i H v → P i H' v)
    (hstep : ∀ i D H, i < n → H1 D = none → H D ≠ none → Same H1 H → ∀ K : VK, (∀ y H'', Same H H'' → y ≠ .ref D → P i H'' y → K y H'') → te ((wipe σ vs).set j (some (.int i))) H K)
    (hdone : ∀ D H' acc, H1 D = none → Same H1 H' → H' D = some (.lst acc) → acc.length = n → (∀ i v, acc[i]? = some v → P i H' v) → Q (.ref D) H') : LoopC (Itr 0 n) (gName j) tYes te vs Q σ H1 := by
  refine lc_map n P hn (fun i H h _ => h) (fun H _ => Nat.le_refl n) hP (fun i D H x H' hi hD hd S hy => ?_) hdone
  obtain ⟨rfl, rfl⟩ := hy
  refine ⟨Same.refl _, fun K k => ⟨hw _, ?_⟩⟩
  have e : (0 : Int) + (i : Int) = (i : Int) := Int.zero_add _
  rw [e]
  exact hstep i D H' hi hD hd S K k
/-- over a list, a tuple -/
theorem lc_lstP {K0 : PySem.W.Frag} {te : TE} {vs : List Nat} {j : Nat} {Q : VK} {σ : L2.St} {H1 : Hp} {p : Addr} {xs : List V} (hp : H1 p = some (.lst xs)) (P : Nat → Hp → V → Prop) (hn : xs.length < 100000) (hw : ∀ x, wipe ((wipe σ vs).set j x) vs = wipe σ vs)
    (hP : ∀ i D H H' v, (∃ acc, H D = some (.lst acc)) → But D H H' → v ≠ .ref D → P i H v → P i H' v)
    (hstep : ∀ i D H x, xs[i]? = some x → H1 D = none → H D ≠ none → Same H1 H → ∀ K : VK, (∀ y H'', Same H H'' → y ≠ .ref D → P i H'' y → K y H'') → te ((wipe σ vs).set j (some x)) H K)
    (hdone : ∀ D H' acc, H1 D = none → Same H1 H' → H' D = some (.lst acc) → acc.length = xs.length → (∀ i v, acc[i]? = some v → P i H' v) → Q (.ref D) H') : LoopC (Itl K0 p) (gName j) tYes te vs Q σ H1 := by
  refine lc_map xs.length P hn (fun i H h S => ⟨xs, _, .inl (.inl (S _ _ hp)), List.getElem?_eq_getElem h⟩) (fun H S => ⟨xs, .inl (.inl (S _ _ hp)), Nat.le_refl _⟩) hP (fun i D H x H' hi hD hd S hy => ?_) hdone
  obtain ⟨rfl, hx⟩ := hy
  exact ⟨Same.refl _, fun K k => ⟨hw _, hstep i D H' x (hx xs (.inl (.inl (S _ _ hp)))) hD hd S K k⟩⟩
theorem lc_tupP {K0 : PySem.W.Frag} {te : TE} {vs : List Nat} {j : Nat} {Q : VK} {σ : L2.St} {H1 : Hp} {p : Addr} {xs : List V} (hp : H1 p = some (.tup xs)) (P : Nat → Hp → V → Prop) (hn : xs.length < 100000) (hw : ∀ x, wipe ((wipe σ vs).set j x) vs = wipe σ vs)
    (hP : ∀ i D H H' v, (∃ acc, H D = some (.lst acc)) → But D H H' → v ≠ .ref D → P i H v → P i H' v)
    (hstep : ∀ i D H x, xs[i]? = some x → H1 D = none → H D ≠ none → Same H1 H → ∀ K : VK, (∀ y H'', Same H H'' → y ≠ .ref D → P i H'' y → K y H'') → te ((wipe σ vs).set j (some x)) H K)
    (hdone : ∀ D H' acc, H1 D = none → Same H1 H' → H' D = some (.lst acc) → acc.length = xs.length → (∀ i v, acc[i]? = some v → P i H' v) → Q (.ref D) H') : LoopC (Itt K0 p) (gName j) tYes te vs Q σ H1 := by
  refine lc_map xs.length P hn (fun i H h S => ⟨xs, _, .inl (.inl (S _ _ hp)), List.getElem?_eq_getElem h⟩) (fun H S => ⟨xs, .inl (.inl (S _ _ hp)), Nat.le_refl _⟩) hP (fun i D H x H' hi hD hd S hy => ?_) hdone
  obtain ⟨rfl, hx⟩ := hy
  exact ⟨Same.refl _, fun K k => ⟨hw _, hstep i D H' x (hx xs (.inl (.inl (S _ _ hp)))) hD hd S K k⟩⟩
/-- over zip of two lists: both names -/
theorem lc_zipP {K0 K1 : PySem.W.Frag} {te : TE} {vs : List Nat} {j1 j2 : Nat} {Q : VK} {σ : L2.St} {H1 : Hp} {p q : Addr} {xs ys : List V} (hp : H1 p = some (.lst xs)) (hq : H1 q = some (.lst ys)) (hl : xs.length = ys.length) (P : Nat → Hp → V → Prop) (hn : xs.length < 100000)
    (hw : ∀ x y, wipe (((wipe σ vs).set j1 x).set j2 y) vs = wipe σ vs) (hP : ∀ i D H H' v, (∃ acc, H D = some (.lst acc)) → But D H H' → v ≠ .ref D → P i H v → P i H' v)
    (hstep : ∀ i D H x y, xs[i]? = some x → ys[i]? = some y → H1 D = none → H D ≠ none → Same H1 H → ∀ K : VK, (∀ y H'', Same H H'' → y ≠ .ref D → P i H'' y → K y H'') → te (((wipe σ vs).set j1 (some x)).set j2 (some y)) H K)
    (hdone : ∀ D H' acc, H1 D = none → Same H1 H' → H' D = some (.lst acc) → acc.length = xs.length → (∀ i v, acc[i]? = some v → P i H' v) → Q (.ref D) H') : LoopC (Itz K0 p q) (gTup K1 2 (gCons (gName j1) (gCons (gName j2) gNil))) tYes te vs Q σ H1 := by
  refine lc_map xs.length P hn (fun i H h S => ⟨xs, ys, _, _, .inl (.inl (S _ _ hp)), .inl (.inl (S _ _ hq)), List.getElem?_eq_getElem h, List.getElem?_eq_getElem (by omega)⟩) (fun H S => ⟨xs, ys, .inl (.inl (S _ _ hp)), .inl (.inl (S _ _ hq)), .inl (Nat.le_refl _)⟩) hP (fun i D H x H' hi hD hd S hy => ?_) hdone
  obtain ⟨T, x, y, rfl, hT, rfl, hx, hy⟩ := hy
  refine ⟨same_upd hT, fun K k => ⟨T, [x, y], rfl, .inl (.inl upd_same), rfl, x, [y], rfl, y, [], rfl, rfl, hw _ _, ?_⟩⟩
  exact hstep i D _ x y (hx xs (.inl (.inl (S _ _ hp)))) (hy ys (.inl (.inl (S _ _ hq)))) hD (by rw [upd_ne (fun z => by subst z; exact hd hT)]; exact hd) (S.trans (same_upd hT)) K k
/-- over enumerate of a list: both names -/
theorem lc_enumP {K0 K1 : PySem.W.Frag} {te : TE} {vs : List Nat} {j1 j2 : Nat} {Q : VK} {σ : L2.St} {H1 : Hp} {p : Addr} {xs : List V} (hp : H1 p = some (.lst xs)) (P : Nat → Hp → V → Prop) (hn : xs.length < 100000)
    (hw : ∀ x y, wipe (((wipe σ vs).set j1 x).set j2 y) vs = wipe σ vs) (hP : ∀ i D H H' v, (∃ acc, H D = some (.lst acc)) → But D H H' → v ≠ .ref D → P i H v → P i H' v)
    (hstep : ∀ i D H x, xs[i]? = some x → H1 D = none → H D ≠ none → Same H1 H → ∀ K : VK, (∀ y H'', Same H H'' → y ≠ .ref D → P i H'' y → K y H'') → te (((wipe σ vs).set j1 (some (.int (i : Nat)))).set j2 (some x)) H K)
    (hdone : ∀ D H' acc, H1 D = none → Same H1 H' → H' D = some (.lst acc) → acc.length = xs.length → (∀ i v, acc[i]? = some v → P i H' v) → Q (.ref D) H') : LoopC (Ite K0 p) (gTup K1 2 (gCons (gName j1) (gCons (gName j2) gNil))) tYes te vs Q σ H1 := by
  refine lc_map xs.length P hn (fun i H h S => ⟨xs, _, .inl (.inl (S _ _ hp)), List.getElem?_eq_getElem h⟩) (fun H S => ⟨xs, .inl (.inl (S _ _ hp)), Nat.le_refl _⟩) hP (fun i D H x H' hi hD hd S hy => ?_) hdone
  obtain ⟨T, x, rfl, hT, rfl, hx⟩ := hy
  refine ⟨same_upd hT, fun K k => ⟨T, [.int (i : Nat), x], rfl, .inl (.inl upd_same), rfl, _, [x], rfl, x, [], rfl, rfl, hw _ _, ?_⟩⟩
  exact hstep i D _ x (hx xs (.inl (.inl (S _ _ hp)))) hD (by rw [upd_ne (fun z => by subst z; exact hd hT)]; exact hd) (S.trans (same_upd hT)) K k
theorem tLc_zip {K : PySem.W.Frag} {ta : TA} {te : TE} {g : TG} {tt : TT} {σ : L2.St} {H : Hp} {Q : VK} {vs : List Nat} (h : ta σ H fun us H1 => ∃ a b xs ys, us = [.ref a, .ref b] ∧ SqL K H1 a xs ∧ SqL K H1 b ys ∧ LoopC (Itz K a b) g tt te vs Q σ H1) : tLc (iZip K ta) g tt te vs σ H Q := h
theorem tLc_enum {K : PySem.W.Frag} {ta : TA} {te : TE} {g : TG} {tt : TT} {σ : L2.St} {H : Hp} {Q : VK} {vs : List Nat} (h : ta σ H fun us H1 => ∃ a xs, us = [.ref a] ∧ SqL K H1 a xs ∧ LoopC (Ite K a) g tt te vs Q σ H1) : tLc (iEnum K ta) g tt te vs σ H Q := h
theorem tLc_rng2 {ta : TA} {te : TE} {g : TG} {tt : TT} {σ : L2.St} {H : Hp} {Q : VK} {vs : List Nat} (h : ta σ H fun us H1 => ∃ i j : Int, us = [.int i, .int j] ∧ (-(2 ^ 62) ≤ i ∧ i < 2 ^ 62 ∧ -(2 ^ 62) ≤ j ∧ j < 2 ^ 62) ∧ LoopC (Itr i (j - i).toNat) g tt te vs Q σ H1) : tLc (iRng2 ta) g tt te vs σ H Q := h
/-- an item that is a number -/
def PInt (f : Nat → Int) : Nat → Hp → V → Prop := fun i _ v => v = .int (f i)
theorem pInt_but {f : Nat → Int} : ∀ i D H H' v, (∃ acc, H D = some (.lst acc)) → But D H H' → v ≠ .ref D → PInt f i H v → PInt f i H' v := fun _ _ _ _ _ _ _ _ h => h
/-- an item that is a row -/
def PRow (f : Nat → List Int) : Nat → Hp → V → Prop := fun i H v => ∃ p, v = .ref p ∧ H p = some (.lst ((f i).map V.int))
theorem pRow_but {f : Nat → List Int} : ∀ i D H H' v, (∃ acc, H D = some (.lst acc)) → But D H H' → v ≠ .ref D → PRow f i H v → PRow f i H' v := fun i D H H' v _ b n ⟨p, e, h⟩ => ⟨p, e, b _ _ (fun z => n (by rw [e, z])) h⟩
/-- items that are numbers alone -/
theorem ints_of {f : Nat → Int} : ∀ {acc : List V} {n : Nat}, acc.length = n → (∀ i v, acc[i]? = some v → v = V.int (f i)) → acc = ((List.range n).map f).map V.int := by
  intro acc n hl h
  refine List.ext_getElem? fun i => ?_
  rcases Nat.lt_or_ge i n with hi | hi
  · rw [List.getElem?_eq_getElem (by omega : i < acc.length)]
    have := h i _ (List.getElem?_eq_getElem (by omega : i < acc.length))
    rw [this]
    simp [hi]
  · rw [List.getElem?_eq_none (by omega), List.getElem?_eq_none (by simp; omega)]
theorem tdl_ints {H : Hp} : ∀ {l : List Int}, TdL H (l.map Da.int) (l.map V.int)
  | [] => tdl_nil
  | a :: l => tdl_cons td_int (tdl_ints (l := l))

/-! ### tuple(xs), list(xs) -/
def rTupOf (K : PySem.W.Frag) : List V → Hp → VK → Prop := fun xs H Q => ∃ p ys, xs = [.ref p] ∧ ((SqL K H p ys ∧ ∀ l, H l = none → Q (.ref l) (upd H l (.tup ys))) ∨ (SqT K H p ys ∧ Q (.ref p) H))
theorem call_tupleN {X : Cx} : CallR X (.type "tuple") (rTupOf X.K) := call_tuple_of
def rLstOf (K : PySem.W.Frag) : List V → Hp → VK → Prop := fun xs H Q => ∃ p ys, xs = [.ref p] ∧ (SqL K H p ys ∨ SqT K H p ys) ∧ ∀ l, H l = none → Q (.ref l) (upd H l (.lst ys))
theorem call_listN {X : Cx} : CallR X (.type "list") (rLstOf X.K) := call_list_of
theorem tupL_of {K : PySem.W.Frag} {H : Hp} {p : Addr} {ys : List V} {Q : VK} (h : H p = some (.lst ys)) (k : ∀ l, H l = none → Q (.ref l) (upd H l (.tup ys))) : rTupOf K [.ref p] H Q := ⟨p, ys, rfl, .inl ⟨.inl (.inl h), k⟩⟩
theorem lstL_of {K : PySem.W.Frag} {H : Hp} {p : Addr} {ys : List V} {Q : VK} (h : H p = some (.lst ys)) (k : ∀ l, H l = none → Q (.ref l) (upd H l (.lst ys))) : rLstOf K [.ref p] H Q := ⟨p, ys, rfl, .inl (.inl (.inl h)), k⟩
theorem lstT_of {K : PySem.W.Frag} {H : Hp} {p : Addr} {ys : List V} {Q : VK} (h : H p = some (.tup ys)) (k : ∀ l, H l = none → Q (.ref l) (upd H l (.lst ys))) : rLstOf K [.ref p] H Q := ⟨p, ys, rfl, .inr (.inl (.inl h)), k⟩
end TT
namespace TT
open PySem PySem.Spec PyProof.Rows L2
/-- for over range: what holds behind i turns -/
theorem loop_rng {lo : Int} {n j : Nat} {tb : TS} {D : Ends} {σ : L2.St} {H : Hp} (I : Nat → L2.St → Hp → Prop) (h0 : I 0 σ H) (hend : ∀ σ H, I n σ H → D.nx σ H)
    (hstep : ∀ i σ H, i < n → I i σ H → tb { D with nx := I (i + 1), ct := I (i + 1), bk := D.nx } (σ.set j (some (.int (lo + (i : Nat))))) H) : Loop (Itr lo n) (gName j) tb D σ H := by
  refine ⟨fun i m σ H => m = n - i ∧ i ≤ n ∧ I i σ H, ⟨n, rfl, Nat.zero_le _, h0⟩, fun i m σ H ⟨hm, hi, q⟩ => ?_⟩
  rcases Nat.lt_or_ge i n with h | h
  · refine .inr ⟨h, I (i + 1), fun σ' H' q' => ⟨n - (i + 1), by omega, rfl, h, q'⟩, fun x H' hy => ?_⟩
    obtain ⟨rfl, rfl⟩ := hy
    exact hstep i σ H' h q
  · obtain rfl : i = n := by omega
    exact .inl ⟨Nat.le_refl _, hend σ H q⟩
/-! ### rows of numbers in lists -/
/-- at p a list of lists of numbers -/
def GridAt (H : Hp) (p : Addr) (G : List (List Int)) : Prop := ∃ vs, H p = some (.lst vs) ∧ vs.length = G.length ∧ ∀ i v, vs[i]? = some v → PRow (fun i => G.getD i []) i H v
theorem GridAt.same {H H' : Hp} {p : Addr} {G : List (List Int)} (s : Same H H') (h : GridAt H p G) : GridAt H' p G := by
  obtain ⟨vs, h1, h2, h3⟩ := h
  refine ⟨vs, s _ _ h1, h2, fun i v e => ?_⟩
  obtain ⟨q, e1, e2⟩ := h3 i v e
  exact ⟨q, e1, s _ _ e2⟩
/-- a table: a tuple of tuples -/
def TabAt (H : Hp) (p : Addr) (G : List (List Int)) : Prop := ∃ vs, H p = some (.tup vs) ∧ vs.length = G.length ∧ ∀ i v, vs[i]? = some v → ∃ q, v = .ref q ∧ H q = some (.tup ((G.getD i []).map V.int))
theorem TabAt.same {H H' : Hp} {p : Addr} {G : List (List Int)} (s : Same H H') (h : TabAt H p G) : TabAt H' p G := by
  obtain ⟨vs, h1, h2, h3⟩ := h
  refine ⟨vs, s _ _ h1, h2, fun i v e => ?_⟩
  obtain ⟨q, e1, e2⟩ := h3 i v e
  exact ⟨q, e1, s _ _ e2⟩
/-- an item at a place -/
theorem atI_nat {α : Type} {vs : List V} {i : Nat} {v : V} (h : vs[i]? = some v) : atI vs (i : Int) = some v := by
  have hi : i < vs.length := by
    rcases Nat.lt_or_ge i vs.length with z | z
    · exact z
    · rw [List.getElem?_eq_none z] at h; cases h
  unfold atI ixN
  rw [if_pos (by omega), if_pos (by omega)]
  show vs[(i : Int).toNat]? = _
  rw [Int.toNat_natCast]
  exact h
theorem ixN_nat {n i : Nat} (h : i < n) : ixN n (i : Int) = some i := by
  unfold ixN
  rw [if_pos (by omega), if_pos (by omega)]
  simp
theorem atI_int {l : List Int} {i : Nat} (h : i < l.length) : atI (l.map V.int) (i : Int) = some (.int (l.getD i 0)) := by
  refine atI_nat (α := Unit) ?_
  rw [List.getElem?_map, List.getElem?_eq_getElem h]
  simp [h]
/-- two items in one another's place -/
def exch {α : Type} (l : List α) (a b : Nat) : List α := match l[a]?, l[b]? with
  | some x, some y => (l.set a y).set b x
  | _, _ => l
theorem exch_at {α : Type} {l : List α} {a b : Nat} {x y : α} (h1 : l[a]? = some x) (h2 : l[b]? = some y) : exch l a b = (l.set a y).set b x := by
  unfold exch
  rw [h1, h2]
theorem exch_map {α β : Type} (f : α → β) (l : List α) (a b : Nat) : exch (l.map f) a b = (exch l a b).map f := by
  unfold exch
  rw [List.getElem?_map, List.getElem?_map]
  cases l[a]? <;> cases l[b]? <;> simp [List.map_set]
theorem exch_get {α : Type} {l : List α} {a b j : Nat} (ha : a < l.length) (hb : b < l.length) : (exch l a b)[j]? = if j = b then l[a]? else if j = a then l[b]? else l[j]? := by
  rw [exch_at (List.getElem?_eq_getElem ha) (List.getElem?_eq_getElem hb)]
  by_cases h1 : j = b
  · subst h1
    rw [if_pos rfl, List.getElem?_set_self (by rw [List.length_set]; exact hb), List.getElem?_eq_getElem ha]
  · rw [if_neg h1, List.getElem?_set_ne (Ne.symm h1)]
    by_cases h2 : j = a
    · subst h2
      rw [if_pos rfl, List.getElem?_set_self ha, List.getElem?_eq_getElem hb]
    · rw [if_neg h2, List.getElem?_set_ne (Ne.symm h2)]
theorem getD_of_get {α : Type} {l m : List α} {i j : Nat} {d : α} (h : l[i]? = m[j]?) : l.getD i d = m.getD j d := by
  rw [List.getD_eq_getElem?_getD, List.getD_eq_getElem?_getD, h]
/-- rows in one another's place -/
theorem exch_rows {H : Hp} {gs : List V} {G : List (List Int)} {a b : Nat} (gl : gs.length = G.length) (ha : a < G.length) (hb : b < G.length) (h : ∀ i v, gs[i]? = some v → PRow (fun i => G.getD i []) i H v) :
    ∀ i v, (exch gs a b)[i]? = some v → PRow (fun i => (exch G a b).getD i []) i H v := fun j v hv => by
  have e2 := exch_get (l := G) (j := j) ha hb
  rw [exch_get (by omega) (by omega)] at hv
  have key : ∀ k, gs[k]? = some v → (exch G a b)[j]? = G[k]? → PRow (fun i => (exch G a b).getD i []) j H v := fun k h1 h2 => by
    obtain ⟨q, e, hq⟩ := h k v h1
    exact ⟨q, e, by dsimp only; rw [getD_of_get h2]; exact hq⟩
  by_cases h1 : j = b
  · rw [if_pos h1] at hv e2
    exact key a hv e2
  · rw [if_neg h1] at hv e2
    by_cases h2 : j = a
    · rw [if_pos h2] at hv e2
      exact key b hv e2
    · rw [if_neg h2] at hv e2
      exact key j hv e2
theorem exch_length {α : Type} (l : List α) (a b : Nat) : (exch l a b).length = l.length := by
  unfold exch
  split <;> simp
end TT
namespace TT
open PySem PySem.Spec PyProof.Rows L2
/-- over a list, what is being built told as a list -/
theorem lc_lstL {K0 : PySem.W.Frag} {te : TE} {vs : List Nat} {j : Nat} {Q : VK} {σ : L2.St} {H1 : Hp} {p : Addr} {xs : List V} (hp : H1 p = some (.lst xs)) (P : Nat → Hp → V → Prop) (hn : xs.length < 100000) (hw : ∀ x, wipe ((wipe σ vs).set j x) vs = wipe σ vs)
    (hP : ∀ i D H H' v, (∃ acc, H D = some (.lst acc)) → But D H H' → v ≠ .ref D → P i H v → P i H' v)
    (hstep : ∀ i D H x, xs[i]? = some x → H1 D = none → (∃ acc, H D = some (.lst acc)) → Same H1 H → ∀ K : VK, (∀ y H'', Same H H'' → y ≠ .ref D → P i H'' y → K y H'') → te ((wipe σ vs).set j (some x)) H K)
    (hdone : ∀ D H' acc, H1 D = none → Same H1 H' → H' D = some (.lst acc) → acc.length = xs.length → (∀ i v, acc[i]? = some v → P i H' v) → Q (.ref D) H') : LoopC (Itl K0 p) (gName j) tYes te vs Q σ H1 := by
  refine lc_mapL xs.length P hn (fun i H h S => ⟨xs, _, .inl (.inl (S _ _ hp)), List.getElem?_eq_getElem h⟩) (fun H S => ⟨xs, .inl (.inl (S _ _ hp)), Nat.le_refl _⟩) hP (fun i D H x H' hi hD hd S hy => ?_) hdone
  obtain ⟨rfl, hx⟩ := hy
  exact ⟨Same.refl _, fun K k => ⟨hw _, hstep i D H' x (hx xs (.inl (.inl (S _ _ hp)))) hD hd S K k⟩⟩
end TT
namespace TT
open PySem PySem.Spec PyProof.Rows L2
/-- numbers of a range that pass a test -/
theorem lc_pick {tt : L2.TT} {te : TE} {vs : List Nat} {j n : Nat} {lo : Int} {Q : VK} {σ : L2.St} {H1 : Hp} (f : Nat → Bool) (hn : n < 100000) (hw : ∀ x, wipe ((wipe σ vs).set j x) vs = wipe σ vs)
    (htt : ∀ i H (K : Bool → Hp → Prop), i < n → Same H1 H → K (f i) H → tt ((wipe σ vs).set j (some (.int (lo + (i : Nat))))) H K)
    (hte : ∀ i H (K : VK), i < n → Same H1 H → K (.int (lo + (i : Nat))) H → te ((wipe σ vs).set j (some (.int (lo + (i : Nat))))) H K)
    (hdone : ∀ D H', H1 D = none → Same H1 H' → H' D = some (.lst (((List.range n).filter f).map fun i => V.int (lo + (i : Nat)))) → Q (.ref D) H') : LoopC (Itr lo n) (gName j) tt te vs Q σ H1 := by
  intro D hD
  refine ⟨fun i m H => m = n - i ∧ i ≤ n ∧ Same H1 H ∧ H D = some (.lst (((List.range i).filter f).map fun i => V.int (lo + (i : Nat)))), ⟨n, rfl, Nat.zero_le _, same_upd hD, upd_same⟩, fun i m H ⟨hm, hi, S, hDD⟩ => ?_⟩
  rcases Nat.lt_or_ge i n with h | h
  · refine .inr ⟨h, fun H' => i + 1 ≤ n ∧ Same H1 H' ∧ H' D = some (.lst (((List.range (i + 1)).filter f).map fun i => V.int (lo + (i : Nat)))), fun H' q => ⟨n - (i + 1), by omega, rfl, q⟩, fun x H' hy => ?_⟩
    obtain ⟨rfl, rfl⟩ := hy
    refine ⟨hw _, htt i H' _ h S ?_⟩
    have er : (List.range (i + 1)).filter f = (List.range i).filter f ++ if f i = true then [i] else [] := by
      rw [List.range_succ, List.filter_append]
      congr 1
      cases hf : f i <;> simp [List.filter_cons, hf]
    cases hf : f i with
    | true =>
      rw [if_pos rfl]
      refine hte i H' _ h S ⟨_, hDD, ?_, h, ?_, ?_⟩
      · rw [List.length_map, sizeLine_eq]
        have := List.length_filter_le f (List.range i)
        rw [List.length_range] at this
        omega
      · exact fun b o q => by rw [upd_ne (fun z => by subst z; rw [hD] at q; cases q)]; exact S b o q
      · rw [upd_same, er, if_pos hf, List.map_append]
        rfl
    | false =>
      rw [if_neg (by decide)]
      refine ⟨h, S, ?_⟩
      rw [er, if_neg (by rw [hf]; decide), List.append_nil]
      exact hDD
  · obtain rfl : i = n := by omega
    exact .inl ⟨Nat.le_refl _, hdone D H hD S hDD⟩
end TT

set_option Elab.async false
set_option linter.all false
set_option maxRecDepth 100000
/-! enumerate of a tuple -/
namespace TTE
open PySem PySem.Spec PyProof.Rows L2
set_option maxHeartbeats 1000000 in
theorem meets_enumT (l : Addr) (items : Array Value) (n : Nat) (dct : Option Addr) (sl : Array (Option Value)) :
    Meets (Builtin.«enumerate.__new__» ⟨[.type "enumerate", .ref l], []⟩) (fun _ R s => s.heap.get? l = some { cls := .type "tuple", dict := dct, data := .seq items n, slots := sl } ∧
      R (.ok (.ret (.ref (s.heap.push { cls := .type "tuple_iterator", data := .fields #[.ref l, .int 0 0] }).objs.size)))
        { s with heap := (s.heap.push { cls := .type "tuple_iterator", data := .fields #[.ref l, .int 0 0] }).push { cls := .type "enumerate", data := .fields #[.none, .bool false, .ref s.heap.objs.size, rawInt 0, .none, .none] } }) :=
  .of_wp fun prog w A R s h => by
    obtain ⟨hp, g, d, tk, os⟩ := s
    obtain ⟨hl, h⟩ := h
    have hsub := sub_enumerate
    have hT : Heap.IsTuple (Shared.heap ⟨hp, g, d, tk, os⟩) l items := ⟨_, hl, rfl, n, rfl⟩
    wp_walk using wpAny_loadPart' hl
    refine wpAny_stack_any fun st => wpAny_pure ?_
    split
    · rename_i c _ _ _ _ _
      cases (c == Value.type "enumerate")
      · wp_walk using wpAny_loadPart' hl, wpAny_pyIter_tuple hT
        exact ⟨_, rfl, h⟩
      · wp_walk using wpAny_loadPart' hl, wpAny_pyIter_tuple hT
        exact ⟨_, rfl, h⟩
    · wp_walk using wpAny_loadPart' hl, wpAny_pyIter_tuple hT
      exact ⟨_, rfl, h⟩
theorem call_enumT {prog : Program} {w : World} {A : Around} {E : Value → Shared → Prop} {s : Shared} {l : Addr} {items : Array Value} {Q : Value → Shared → Prop} (hL : IsTup s.heap l items)
    (h : ∀ h', IsEnum h' (s.heap.objs.size + 1) s.heap.objs.size 0 .none → h'.IsTupleIter s.heap.objs.size l 0 → h'.objs.size = s.heap.objs.size + 2 →
      (∀ b o, s.heap.get? b = some o → h'.get? b = some o) → Q (.ref (s.heap.objs.size + 1)) { s with heap := h' }) :
    wpAny (model prog w) A (call (.type "enumerate") [.ref l]) Q E s := by
  obtain ⟨⟨c, dct, dt, sl⟩, hl, hc, n, hd⟩ := hL
  replace hc : c = .type "tuple" := hc
  replace hd : dt = .seq items n := hd
  subst hc hd
  refine callType_new F.called_enumerate (by decide) (F.typeCall_enumerate_1 _) (F.newCall_enumerate_1 _) (fun obj => F.args_object_init_2 obj _) F.entry_enumerate_new (meets_enumT l items n dct sl) ⟨hl, ?_⟩
  have hz : (s.heap.push { cls := .type "tuple_iterator", data := .fields #[.ref l, .int 0 0] }).objs.size = s.heap.objs.size + 1 := Heap.size_push ..
  show _ ∧ _
  rw [hz]
  have he : IsEnum ((s.heap.push { cls := .type "tuple_iterator", data := .fields #[.ref l, .int 0 0] }).push
      { cls := .type "enumerate", data := .fields #[.none, .bool false, .ref s.heap.objs.size, rawInt 0, .none, .none] }) (s.heap.objs.size + 1) s.heap.objs.size 0 .none := by
    have := Heap.get?_push_size (s.heap.push { cls := .type "tuple_iterator", data := .fields #[.ref l, .int 0 0] })
      (o := { cls := .type "enumerate", data := .fields #[.none, .bool false, .ref s.heap.objs.size, rawInt 0, .none, .none] }) rfl
    rw [hz] at this; exact this
  refine ⟨⟨_, he, rfl⟩, h _ he ⟨_, Heap.get?_push_of_some _ (Heap.get?_push_size _ rfl), rfl, rfl⟩ (by rw [Heap.size_push, hz]) fun b o x => Heap.get?_push_of_some _ (Heap.get?_push_of_some _ x)⟩
/-- a tuple's items, drawn one by one -/
theorem drawsT {prog : Program} {w : World} {A : Around} {it t : Addr} {items : Array Value} (hne : t ≠ it) (hh : A.handled = none) :
    Draws prog w A it [it, t] items.size (fun i x => items[i]? = some x) (fun i h => h.IsTupleIter it t i ∧ h.IsTuple t items) where
  live := fun i h st => let ⟨⟨o, ho, _⟩, _⟩ := st; ⟨o, ho⟩
  frame := fun i h h' st k => by
    obtain ⟨⟨o, ho, r⟩, ⟨o2, ho2, r2⟩⟩ := st
    exact ⟨⟨o, k it (by simp) o ho, r⟩, ⟨o2, k t (by simp) o2 ho2, r2⟩⟩
  item := fun i s Q E hi st hQ => RZ.nextOf_tuple_item st.1 st.2 (Array.getElem?_eq_getElem hi) fun h' it' sb => by
    refine hQ _ h' s.toks (Array.getElem?_eq_getElem hi) ⟨it', ?_⟩ sb
    obtain ⟨o2, ho2, r2⟩ := st.2
    exact ⟨o2, (sb.2 t hne).trans ho2, r2⟩
  done := fun s Q E st hE => RZ.nextOf_tuple_end hh st.1 st.2 (by simp) hE
theorem enumT_end {prog : Program} {w : World} {A : Around} {E : Value → Shared → Prop} {s : Shared} {e it t : Addr} {items : Array Value} {i : Nat} {old : Value} {Q : Option Value → Shared → Prop} (hh : A.handled = none)
    (he : IsEnum s.heap e it i old) (hit : s.heap.IsTupleIter it t i) (ht : s.heap.IsTuple t items) (hx : items[i]? = none) (hQ : ∀ h', Heap.ExtBut it s.heap h' → Q none { s with heap := h' }) : wpAny (model prog w) A (pyNext (.ref e)) Q E s := by
  have hT : s.TypeIs (.ref e) "enumerate" := ⟨_, he, rfl⟩
  unfold pyNext
  refine wpAny_bind (wpAny_attempt (wpAny_callSpecial?_slot (name := Str.ofString "__next__") hT F.slot_enumerate_next
    (wpAny_call_entry F.slot_enumerate_next hT F.entry_enumerate_next ?_ (F.args_enumerate_next_1 _))))
  show wpAny _ _ (field (.ref e) 2 >>= _) _ _ _
  refine wpAny_bind (wpAny_field he rfl (x := .ref it) rfl ?_)
  refine wpAny_bind (RZ.nextOf_tuple_end hh hit ht hx fun h' x he' hx' => ?_)
  obtain ⟨o, ho, hc⟩ := hx'
  refine wpAny_bind (wpAny_isInstance (T := "StopIteration") (b := true) ⟨o, ho, hc⟩ isSubtype_stop ?_)
  exact wpAny_pure (hQ _ he')
/-- the tuple at a as it stands at each turn, each item in a new pair -/
def IteT (K : PySem.W.Frag) (a : Addr) : It :=
  ⟨fun i H => ∃ (xs : List V) (x : V), SqT K H a xs ∧ xs[i]? = some x, fun i H v H' => ∃ T x, v = .ref T ∧ H T = none ∧ H' = upd H T (.tup [.int (i : Nat), x]) ∧ ∀ xs, SqT K H a xs → xs[i]? = some x, fun i H => ∃ xs : List V, SqT K H a xs ∧ xs.length ≤ i⟩
theorem turn_enumT {P : Program} {w : World} {K : PySem.W.Frag} {elts : List Expr} {kk : Nat} {tpos : Pos} (a e it : Addr) :
    Turn P w K (.Tuple elts kk tpos) (IteT K a) [e, it] e (fun i h => (∃ old, IsEnum h e it ((i : Nat) : Int) old) ∧ h.IsTupleIter it a i ∧ e ≠ it) where
  mem := by simp
  obj := fun i h st b hb => by
    obtain ⟨⟨old, he⟩, ⟨o, ho, hc, hd⟩, _⟩ := st
    have e' : b = e ∨ b = it := by simpa using hb
    rcases e' with z | z
    · rw [z]; exact ⟨_, he, fun v q => nomatch q⟩
    · rw [z]; exact ⟨o, ho, fun v q => by rw [hd] at q; cases q⟩
  keep := fun i h h' st k => by
    obtain ⟨⟨old, he⟩, ⟨o, ho, r⟩, hne⟩ := st
    exact ⟨⟨old, k e (by simp) _ he⟩, ⟨o, k it (by simp) o ho, r⟩, hne⟩
  item := by
    intro X hP hw hK hc i pins s σ H E I hf st hg
    subst hP hw hK
    obtain ⟨⟨old, he⟩, hit, hne⟩ := st
    obtain ⟨xs, x, hq, hx⟩ := hg
    obtain ⟨its, rv, p, hz⟩ := I.tuple hq
    obtain ⟨u, hu, ru⟩ := rv.get hx
    have hel : e < s.heap.objs.size := Heap.lt_size he
    have hil : it < s.heap.objs.size := by obtain ⟨_, q, _⟩ := hit; exact Heap.lt_size q
    have nai : a ≠ it := fun z => by
      obtain ⟨o, ho, _, n, hd⟩ := p
      obtain ⟨o2, ho2, _, hd2⟩ := hit
      rw [z, ho2] at ho
      cases ho
      rw [hd] at hd2
      cases hd2
    have nae : e ≠ a := fun z => by
      obtain ⟨o, ho, hcc, n, hd⟩ := p
      rw [← z, he] at ho
      cases ho
      cases hd
    have hlt : i < its.toArray.size := by
      rcases Nat.lt_or_ge i its.length with z | z
      · simpa using z
      · rw [List.getElem?_eq_none z] at hu; cases hu
    refine wpAny_pyNext_enum_itemD (drawsT (A := X.A.in1) nai (I.ok.hd hc)) he ⟨hit, p⟩ hlt hne (by simp [hne, nae]) fun x' h' tk hPx ho hst hT hsz hk => ?_
    obtain rfl : u = x' := by
      have z : its[i]? = some x' := by simpa using hPx
      rw [hu] at z
      exact Option.some.inj z
    refine ⟨_, rfl, wpAny_letOwnedTupleGo_enum (s := { s with heap := h', toks := tk + 1 }) ho fun h'' he' sb => ?_⟩
    have hT2 : h''.get? s.heap.objs.size = some { cls := .type "tuple", data := .seq #[.int i tk, u] } := (sb.2 _ (Nat.ne_of_gt hel)).trans hT
    have new : ObjOk X.prog X.w (upd H s.heap.objs.size (.tup [.int (i : Nat), x])) h'' s.heap.objs.size (.tup [.int (i : Nat), x]) :=
      ⟨by show 2 ≤ sizeLine; decide, [.int i tk, u], .cons ⟨_, rfl⟩ (.cons ru .nil), ⟨_, hT2, rfl, _, rfl⟩⟩
    have I1 : Inv X pins σ (upd H s.heap.objs.size (.tup [.int (i : Nat), x])) { s with heap := h'', toks := tk + 1 } :=
      I.turnedNew (ch := [e, it]) (fun b ob hb q => (sb.2 b (fun z => hb (by simp [z]))).trans (hk b ob (fun z => hb (by simp [z])) (fun z => hb (by simp [z])) q)) hf (Nat.le_refl _) new
    refine ⟨.ref s.heap.objs.size, _, I1, rfl, ⟨_, x, rfl, I.hok.fresh (Nat.le_refl _), rfl, fun ys hy => by rw [I.tuple_inj hy hq]; exact hx⟩, ⟨⟨u, ?_⟩, ?_, hne⟩, fun b hb => ?_⟩
    · have e1 : ((i + 1 : Nat) : Int) = (i : Int) + 1 := by omega
      rw [e1]; exact he'
    · obtain ⟨o, ho1, r⟩ := hst.1
      exact ⟨o, (sb.2 it (Ne.symm hne)).trans ho1, r⟩
    · have hb' : b < s.heap.objs.size := by
        have e' : b = e ∨ b = it := by simpa using hb
        rcases e' with z | z
        · rw [z]; exact hel
        · rw [z]; exact hil
      rw [upd_ne (Nat.ne_of_lt hb')]
      exact (hf b hb).1
  done := by
    intro X hP hw hK hc i pins s σ H E I hf st hg
    subst hP hw hK
    obtain ⟨⟨old, he⟩, hit, hne⟩ := st
    obtain ⟨xs, hq, hx⟩ := hg
    obtain ⟨its, rv, p, hz⟩ := I.tuple hq
    obtain ⟨f0, f1, f2, f3, f4, f5⟩ := hf it (by simp)
    have hl := rv.length
    have nai : a ≠ it := fun z => by
      obtain ⟨o, ho, _, n, hd⟩ := p
      obtain ⟨o2, ho2, _, hd2⟩ := hit
      rw [z, ho2] at ho
      cases ho
      rw [hd] at hd2
      cases hd2
    have hno : its.toArray[i]? = none := by simp; omega
    refine enumT_end (I.ok.hd hc) he hit p hno fun h' eb => ⟨rfl, I.turned (t' := s.toks) (fun b o hb q => eb b o hb q) f0 f1 f3 f4 f5⟩
  self := fun A i s Q E st h => let ⟨⟨_, he⟩, _⟩ := st; wpAny_pyIter_enum he h
def iEnumT (K : PySem.W.Frag) (ta : TA) : TI := fun σ H R => ta σ H fun vs H1 => ∃ a xs, vs = [.ref a] ∧ SqT K H1 a xs ∧ R (IteT K a) H1
theorem pi_enumT {X : Cx} {e : Expr} {ta : TA} {p pos tpos : Pos} {elts : List Expr} {kk : Nat} (hg : Gl X "enumerate") (hm : X.mg "enumerate" = none) (ha : PA X [e] ta) (hs : starEach [e] X.env = [(false, eval e X.env)] := by rfl) :
    PI X (.Tuple elts kk tpos) (.Call (.Name "enumerate" p) [e] [] pos) (iEnumT X.K ta) := by
  refine ⟨fun pins s σ H R I h => ?_⟩
  refine Call_ (ld_blt I hg hm boot_enumerate (PyProof.Rows.callWith_type1 (thn (ha.run pos pins s σ H _ I h) fun us s1 ⟨vs, H1, I1, r1, q1⟩ => ?_) hs rfl))
  obtain ⟨a, xs, ex, hq, q⟩ := q1
  subst ex
  cases r1 with
  | cons r rr =>
    cases rr
    cases r
    obtain ⟨its, rv, p', hz⟩ := I1.tuple hq
    refine call_enumT p' fun h' he hit hsz hk => wpAny_pyIter_enum he ?_
    have I2 : Inv X pins σ H1 { s1 with heap := h' } := I1.kept (t' := s1.toks) hk
    refine ⟨s1.heap.objs.size + 1, [s1.heap.objs.size + 1, s1.heap.objs.size], _, _, H1, rfl, I2, turn_enumT a (s1.heap.objs.size + 1) s1.heap.objs.size, ⟨⟨.none, he⟩, hit, Nat.succ_ne_self _⟩, fun b hb => ?_, q⟩
    have e' : b = s1.heap.objs.size + 1 ∨ b = s1.heap.objs.size := by simpa using hb
    have hle : s1.heap.objs.size ≤ b := by
      rcases e' with z | z
      · rw [z]; exact Nat.le_add_right _ _
      · rw [z]; exact Nat.le_refl _
    exact I1.fpOk hle (I1.hok.fresh hle)
end TTE
namespace TT
open PySem PySem.Spec PyProof.Rows L2
theorem tLc_enumT {K : PySem.W.Frag} {ta : TA} {te : TE} {g : TG} {tt : L2.TT} {σ : L2.St} {H : Hp} {Q : VK} {vs : List Nat} (h : ta σ H fun us H1 => ∃ a xs, us = [.ref a] ∧ SqT K H1 a xs ∧ LoopC (TTE.IteT K a) g tt te vs Q σ H1) : tLc (TTE.iEnumT K ta) g tt te vs σ H Q := h
theorem lc_enumTP {K0 K1 : PySem.W.Frag} {te : TE} {vs : List Nat} {j1 j2 : Nat} {Q : VK} {σ : L2.St} {H1 : Hp} {p : Addr} {xs : List V} (hp : H1 p = some (.tup xs)) (P : Nat → Hp → V → Prop) (hn : xs.length < 100000)
    (hw : ∀ x y, wipe (((wipe σ vs).set j1 x).set j2 y) vs = wipe σ vs) (hP : ∀ i D H H' v, (∃ acc, H D = some (.lst acc)) → But D H H' → v ≠ .ref D → P i H v → P i H' v)
    (hstep : ∀ i D H x, xs[i]? = some x → H1 D = none → H D ≠ none → Same H1 H → ∀ K : VK, (∀ y H'', Same H H'' → y ≠ .ref D → P i H'' y → K y H'') → te (((wipe σ vs).set j1 (some (.int (i : Nat)))).set j2 (some x)) H K)
    (hdone : ∀ D H' acc, H1 D = none → Same H1 H' → H' D = some (.lst acc) → acc.length = xs.length → (∀ i v, acc[i]? = some v → P i H' v) → Q (.ref D) H') : LoopC (TTE.IteT K0 p) (gTup K1 2 (gCons (gName j1) (gCons (gName j2) gNil))) tYes te vs Q σ H1 := by
  refine lc_map xs.length P hn (fun i H h S => ⟨xs, _, .inl (.inl (S _ _ hp)), List.getElem?_eq_getElem h⟩) (fun H S => ⟨xs, .inl (.inl (S _ _ hp)), Nat.le_refl _⟩) hP (fun i D H x H' hi hD hd S hy => ?_) hdone
  obtain ⟨T, x, rfl, hT, rfl, hx⟩ := hy
  refine ⟨same_upd hT, fun K k => ⟨T, [.int (i : Nat), x], rfl, .inl (.inl upd_same), rfl, _, [x], rfl, x, [], rfl, rfl, hw _ _, ?_⟩⟩
  exact hstep i D _ x (hx xs (.inl (.inl (S _ _ hp)))) hD (by rw [upd_ne (fun z => by subst z; exact hd hT)]; exact hd) (S.trans (same_upd hT)) K k
end TT

set_option Elab.async false
set_option linter.all false
set_option maxRecDepth 100000
namespace TT
open PySem PySem.Spec PyProof.Rows L2
/-! ### literals that are data: read at once -/
/-- the reading makes the datum d, all else as it was -/
def RD (te : TE) (d : Da) : Prop := ∀ σ H (Q : VK), (∀ H' v, Same H H' → Td H' d v → Q v H') → te σ H Q
def RDs (ta : TA) (ds : List Da) : Prop := ∀ σ H (Q : List V → Hp → Prop), (∀ H' vs, Same H H' → TdL H' ds vs → Q vs H') → ta σ H Q
theorem rd_int {i : Int} : RD (tC (.int i)) (.int i) := fun σ H Q k => k H _ (Same.refl H) td_int
theorem rd_bl {b : Bool} : RD (tC (.bl b)) (.bl b) := fun σ H Q k => k H _ (Same.refl H) td_bl
theorem rd_non : RD (tC .non) .non := fun σ H Q k => k H _ (Same.refl H) td_non
theorem rd_str {x : Str} : RD (tC (.str x)) (.str x) := fun σ H Q k => k H _ (Same.refl H) td_str
theorem rd_neg {i : Int} : RD (tUn (rU fun i => .int (-i)) (tC (.int i))) (.int (-i)) := fun σ H Q k => ⟨i, rfl, k H _ (Same.refl H) td_int⟩
theorem rd_dic : RD tDNewK .dic := fun σ H Q k => fun d hd => k _ _ (same_upd hd) (by simp only [Td]; exact ⟨d, rfl, upd_same⟩)
theorem rds_nil : RDs tNil [] := fun σ H Q k => k H _ (Same.refl H) tdl_nil
theorem rds_cons {te : TE} {ta : TA} {d : Da} {ds : List Da} (h : RD te d) (hs : RDs ta ds) : RDs (tCons te ta) (d :: ds) := fun σ H Q k =>
  h σ H _ fun H1 v S1 t1 => hs σ H1 _ fun H2 vs S2 t2 => k H2 _ (S1.trans S2) (tdl_cons (t1.same S2 _ _) t2)
theorem rd_tup {ta : TA} {ds : List Da} (hs : RDs ta ds) (hl : ds.length ≤ 1000) : RD (tTup ta) (.tup ds) := fun σ H Q k =>
  hs σ H _ fun H1 vs S1 t1 => ⟨by rw [t1.len, sizeLine_eq]; omega, fun p hp => k _ _ (S1.trans (same_upd hp)) (td_tup upd_same (TdL.same (same_upd hp) _ _ t1))⟩
theorem rd_lst {ta : TA} {ds : List Da} (hs : RDs ta ds) (hl : ds.length ≤ 1000) : RD (tLst ta) (.lst ds) := fun σ H Q k =>
  hs σ H _ fun H1 vs S1 t1 => ⟨by rw [t1.len, sizeLine_eq]; omega, fun p hp => k _ _ (S1.trans (same_upd hp)) (td_lst upd_same (TdL.same (same_upd hp) _ _ t1))⟩
/-- a slot that holds data -/
theorem rd_of {te : TE} {d : Da} (h : RD te d) {σ : L2.St} {H : Hp} {Q : VK} (k : ∀ H' v, Same H H' → Td H' d v → Q v H') : te σ H Q := h σ H Q k
/-- one out of a list of data -/
theorem mem_td {H : Hp} : ∀ {ds : List Da} {vs : List V} {v : V}, TdL H ds vs → v ∈ vs → ∃ d, d ∈ ds ∧ Td H d v
  | [], vs, v, t, m => by simp only [TdL] at t; subst t; cases m
  | d :: ds, vs, v, t, m => by
    simp only [TdL] at t
    obtain ⟨u, r, rfl, t1, t2⟩ := t
    rcases List.mem_cons.mp m with rfl | m
    · exact ⟨d, List.mem_cons_self, t1⟩
    · obtain ⟨e, h1, h2⟩ := mem_td t2 m
      exact ⟨e, List.mem_cons_of_mem _ h1, h2⟩
/-- a loop over a tuple -/
theorem loop_tup {K0 : PySem.W.Frag} {a : Addr} {xs : List V} {j : Nat} {tb : TS} {D : Ends} {σ : L2.St} {H : Hp} (I : Nat → L2.St → Hp → Prop) (hI : ∀ i σ H, I i σ H → H a = some (.tup xs)) (h0 : I 0 σ H) (hend : ∀ σ H, I xs.length σ H → D.nx σ H)
    (hstep : ∀ i x σ H, xs[i]? = some x → I i σ H → tb { D with nx := I (i + 1), ct := I (i + 1), bk := D.nx } (σ.set j (some x)) H) : Loop (Itt K0 a) (gName j) tb D σ H := by
  refine ⟨fun i m σ H => m = xs.length - i ∧ i ≤ xs.length ∧ I i σ H, ⟨_, rfl, Nat.zero_le _, h0⟩, fun i m σ H ⟨hm, hi, q⟩ => ?_⟩
  have ha := hI i σ H q
  rcases Nat.lt_or_ge i xs.length with h | h
  · refine .inr ⟨⟨xs, _, .inl (.inl ha), List.getElem?_eq_getElem h⟩, I (i + 1), fun σ' H' q' => ⟨xs.length - (i + 1), by omega, rfl, h, q'⟩, fun x H' hy => ?_⟩
    obtain ⟨rfl, hx⟩ := hy
    exact hstep i x σ H' (hx xs (.inl (.inl ha))) q
  · obtain rfl : i = xs.length := by omega
    exact .inl ⟨⟨xs, .inl (.inl ha), Nat.le_refl _⟩, hend σ H q⟩
end TT

set_option Elab.async false
set_option linter.all false
set_option maxRecDepth 100000
set_option maxHeartbeats 4000000
namespace TT
open PySem PySem.Spec PyProof.Rows L2
/-! ### tuple * int, once or not at all -/
theorem tuple_mul1 (l : Addr) (items : Array Value) (n : Nat) (dd : Option Addr) (sl : Array (Option Value)) (u : Tok) :
    Meets (Builtin.«tuple.__mul__» ⟨[.ref l, .int 1 u], []⟩) (fun _ R s => s.heap.get? l = some { cls := .type "tuple", dict := dd, data := .seq items n, slots := sl } ∧
      R (.ok (.ret (Value.ref l))) s) :=
  .of_wp fun prog w A R s h => by
    obtain ⟨hp, g, d, tk, os⟩ := s
    obtain ⟨hl, h⟩ := h
    have f1 := AutoSeq1.idx_int
    wp_walk using wpAny_loadPart' hl
    repeat (first
      | (refine wpAny_ite_false (decide_eq_false (by decide)) ?_; wp_walk using wpAny_loadPart' hl)
      | (refine wpAny_ite_true (by simp) ?_; wp_walk using wpAny_loadPart' hl)
      | (refine wpAny_ite_true (decide_eq_true (by simp)) ?_; wp_walk using wpAny_loadPart' hl))
    exact ⟨_, rfl, h⟩
theorem tuple_mul0 (l : Addr) (items : Array Value) (n : Nat) (dd : Option Addr) (sl : Array (Option Value)) (x : Int) (u : Tok) (c0 : (decide (x < -(2 ^ 63)) || decide (x ≥ 2 ^ 63)) = false) (c1 : (items.isEmpty || x == 1) = false) (c2 : (decide (x ≤ 0) || items.isEmpty) = true) :
    Meets (Builtin.«tuple.__mul__» ⟨[.ref l, .int x u], []⟩) (fun _ R s => s.heap.get? l = some { cls := .type "tuple", dict := dd, data := .seq items n, slots := sl } ∧
      R (.ok (.ret (Value.ref s.heap.objs.size))) { s with heap := s.heap.push { cls := Value.type "tuple", data := Data.seq #[] }, toks := s.toks }) :=
  .of_wp fun prog w A R s h => by
    obtain ⟨hp, g, d, tk, os⟩ := s
    obtain ⟨hl, h⟩ := h
    have f1 := AutoSeq1.idx_int
    wp_walk using wpAny_loadPart' hl
    repeat (first
      | (refine wpAny_ite_false (decide_eq_false (by rw [c0]; exact Bool.false_ne_true)) ?_; wp_walk using wpAny_loadPart' hl)
      | (refine wpAny_ite_false (decide_eq_false (by rw [c1]; exact Bool.false_ne_true)) ?_; wp_walk using wpAny_loadPart' hl)
      | (refine wpAny_ite_true (decide_eq_true (by rw [c2])) ?_; wp_walk using wpAny_loadPart' hl)
      | (refine wpAny_ite_true c2 ?_; wp_walk using wpAny_loadPart' hl))
    exact ⟨_, rfl, h⟩
/-- t * k: itself once, empty for none, else anew -/
def rRepA (K : PySem.W.Frag) : R2 := fun x y H Q => ∃ l k xs, x = .ref l ∧ y = .int k ∧ SqT K H l xs ∧ xs ≠ [] ∧ -1000 ≤ k ∧ k ≤ 1000 ∧ xs.length ≤ 1000 ∧ (k = 1 → Q (.ref l) H) ∧ (k ≠ 1 → ∀ p, H p = none → Q (.ref p) (upd H p (.tup (List.replicate k.toNat xs).flatten)))
theorem op_repA {X : Cx} : OpR X (binaryOp .Mult) (rRepA X.K) := by
  intro pins s σ H x y v u Q I rx ry h
  obtain ⟨l, k, xs, rfl, rfl, hT, hne, h1, h2, hz, q1, q2⟩ := h
  by_cases hk2 : 2 ≤ k
  · exact op_repT pins s σ H _ _ v u Q I rx ry ⟨l, k, xs, rfl, rfl, hT, hne, hk2, h2, hz, q2 (by omega)⟩
  cases rx
  obtain ⟨t, rfl⟩ := ry
  obtain ⟨its, r, ⟨⟨cls, dd, data, sl⟩, ho, hc, n, hd⟩, hs⟩ := I.tuple hT
  simp only at hc hd
  subst hc hd
  have hle : its.length = xs.length := r.length.symm
  have hn : its ≠ [] := fun e => hne (by
    rw [e] at hle
    exact List.eq_nil_of_length_eq_zero hle.symm)
  have hi : its.toArray.isEmpty = false := by
    cases its with
    | nil => exact absurd rfl hn
    | cons a b => rfl
  by_cases hk1 : k = 1
  · subst hk1
    refine wpAny_binaryOp_repeat_ref (T := "tuple") (U := "int") (by decide) ⟨_, ho, rfl⟩ (fun s' => typeIs_int s' 1 t) noFill_tuple_mul F.fills_int_mul F.slot_int_rmul repeat_tuple F.slot_int_index.lookup
      (call_meets F.slot_int_rmul (typeIs_int s 1 t) F.entry_int_rmul (F.args_int_rmul_2 _ _) (int_rmul_tuple 1 t l its.toArray n dd sl)
        ⟨ho, rfl, ⟨_, ho, rfl⟩, call_meets F.slot_tuple_mul ⟨_, ho, rfl⟩ F.entry_tuple_mul (F.args_tuple_mul_2 _ _) (tuple_mul1 l its.toArray n dd sl t) ⟨ho, ?_⟩⟩)
    exact ⟨.ref l, H, I, rfl, q1 rfl⟩
  have c0 : (decide (k < -(2 ^ 63)) || decide (k ≥ 2 ^ 63)) = false := by
    rw [decide_eq_false (by omega), decide_eq_false (by omega)] <;> rfl
  have c1 : (its.toArray.isEmpty || k == 1) = false := by
    rw [hi, Bool.false_or]
    exact beq_eq_false_iff_ne.mpr (by omega)
  have c2 : (decide (k ≤ 0) || its.toArray.isEmpty) = true := by
    rw [hi, Bool.or_false]
    exact decide_eq_true (by omega)
  have e0 : (List.replicate k.toNat xs).flatten = [] := by
    rw [show k.toNat = 0 by omega]
    rfl
  refine wpAny_binaryOp_repeat_ref (T := "tuple") (U := "int") (by decide) ⟨_, ho, rfl⟩ (fun s' => typeIs_int s' k t) noFill_tuple_mul F.fills_int_mul F.slot_int_rmul repeat_tuple F.slot_int_index.lookup
    (call_meets F.slot_int_rmul (typeIs_int s k t) F.entry_int_rmul (F.args_int_rmul_2 _ _) (int_rmul_tuple k t l its.toArray n dd sl)
      ⟨ho, rfl, ⟨_, ho, rfl⟩, call_meets F.slot_tuple_mul ⟨_, ho, rfl⟩ F.entry_tuple_mul (F.args_tuple_mul_2 _ _) (tuple_mul0 l its.toArray n dd sl k t c0 c1 c2) ⟨ho, ?_⟩⟩)
  have q3 := q2 hk1
  rw [e0] at q3
  refine ⟨.ref s.heap.objs.size, _, I.laid (t' := s.toks) (o := .tup []) (fun b ob q => Heap.get?_push_of_some _ q) (Nat.le_refl _) ?_, rfl, q3 _ (I.hok.fresh (Nat.le_refl _))⟩
  exact ⟨Nat.zero_le _, [], .nil, IsTup.new _ _⟩
end TT

set_option Elab.async false
set_option linter.all false
set_option maxRecDepth 100000
set_option maxHeartbeats 2000000
namespace TT
open PySem PySem.Spec PyProof.Rows L2 LamX
theorem FnG.mono {P : Program} {w : World} {K : PySem.W.Frag} {mg : Str → Option Value} {base : Heap} {CX : CXT} {j k : Nat} {f : Addr} {fd : FuncData} {ps : List Str} {sp : Sp} (F : FnG P w K mg base CX j f fd ps sp) (h : j ≤ k) : FnG P w K mg base CX k f fd ps sp :=
  ⟨F.len, fun A outer s H args us vs Q E hg hr => F.run A outer s H args us vs Q E hg (hr.mono h)⟩
/-- a call that is known to raise nothing, of a def that may raise -/
theorem passNo {X : Cx} : Passes (L2.CX X.prog X.w) X L2.E0 := fun _ _ _ _ _ _ _ ⟨_, _, _, _, _, _, _, _, _, _, _, _, e⟩ => e.elim
/-! ### the end of a law whose defs want to know that nothing is being shown (FnG in the place of FnOk) -/
abbrev Told1 (t : Shared) : Result → Shared → Prop := fun r t' => r = .ok (.ret (.bool true)) ∧ OldK t.heap t'.heap ∧ t'.os = t.os ∧ AllBare t'.gens
/-- a heap of which the script and the tables alone may be told -/
structure OnlyT (P : Program) (w : World) (K : PySem.W.Frag) (t : Shared) (a : Addr) (tb : List Addr) (G : Hp) : Prop where
  ok : HOk P w G t.heap
  tab : ∀ p ∈ tb, G p = some (.tbl #[])
  kind : ∀ b, G b = none ∨ b ∈ tb ∨ ∃ o xs, G b = some (.frz o (.lst xs))
  some : ∀ b, G b ≠ none → b = a ∨ b ∈ tb
  free : G a ≠ none → K.lookup a = none
section
variable {P : Program} {w : World} {K : PySem.W.Frag} {mg mb : Str → Option Value} {CX : CXT} {k : Nat} {fa a : Addr} {tabs : List (Addr × Addr)} {fd : FuncData} {x : Str} {sp : Sp} {t : Shared} {us : List Value} {ms : List Int}
theorem lawG_core
    (inK : K.In t.heap) (nsM : t.heap.Ns mainGlobals mg) (nsB : t.heap.Ns builtinsNs mb) (boot : ∀ y : Str, y ≠ "__name__" → mb y = bootBuiltins y) (lim : t.heap.NoLimit) (gen : t.gens = #[])
    (tabO : ∀ p ∈ tabs, t.heap.get? p.2 = some { cls := .none, data := .fields #[] }) (tabK : ∀ p ∈ tabs, K.lookup p.2 = none) (heads : ∀ p ∈ tabs, PySem.W.CodeHd t.heap p.1 p.2)
    (bmain : ∃ (m : Addr) (ob : Obj), mg "__builtins__" = some (.ref m) ∧ m ≠ builtinsNs ∧ t.heap.get? m = some ob ∧ ob.cls = .type "module" ∧ ob.dict = some builtinsNs ∧ ob.data = .plain)
    (objA : t.heap.get? a = some { cls := .type "list", data := .seq us.toArray }) (room : Room k callerA)
    (F : ∀ base : Heap, K.In base → base.Ns mainGlobals mg → (∀ p ∈ tabs, TabB base mg p.1 p.2) → FnG P w K mg base CX k fa fd [x] sp) (bind : ∀ (s : Shared) (u : Value), BindsTo s fd ⟨[u], []⟩ [(x, u)])
    {G : Hp} (hG : OnlyT P w K t a (tabs.map (·.2)) G) (hsp : sp [.ref a] G (fun v _ => v = .bl true) fun _ _ _ => False) (hCX : ∀ e t', CX [] G t (fun _ _ _ => False) e t' → False) :
    codeAny (model P w) callerA (.call (.ref fa) ⟨[.ref a], []⟩) (Told1 t) t := by
  have isTab : ∀ b ∈ tabs.map (·.2), t.heap.get? b = some { cls := .none, data := .fields #[] } := by
    intro b hb
    obtain ⟨p, hp, rfl⟩ := List.mem_map.mp hb
    exact tabO p hp
  have inT : ∀ {p : Addr × Addr}, p ∈ tabs → p.2 ∈ tabs.map (·.2) := fun {p} hp => List.mem_map.mpr ⟨p, hp, rfl⟩
  -- what is neither a list nor a table is not told
  have untold : ∀ {b : Addr} {o : Obj}, t.heap.get? b = some o → (∀ vs n, o.data ≠ .seq vs n) → o.data ≠ .fields #[] → G b = none := by
    intro b o e h1 h2
    cases q : G b with
    | none => rfl
    | some u =>
      rcases hG.some b (by rw [q]; simp) with z | z
      · subst z
        rw [objA] at e
        exact absurd rfl (by cases e; exact h1 _ _)
      · rw [isTab b z] at e
        exact absurd rfl (by cases e; exact h2)
  have untoldD : ∀ {b : Addr} {o : Obj} {es : Array DictEntry} {ep : Nat}, t.heap.get? b = some o → o.data = .dict es ep → G b = none := fun e d =>
    untold e (fun vs n z => by rw [d] at z; cases z) (fun z => by rw [d] at z; cases z)
  have keepN : ∀ {b : Addr} {m : Str → Option Value}, t.heap.Ns b m → (hidT t.heap G).Ns b m := by
    rintro b m ⟨o, es, ep, e, d, r⟩
    exact ⟨o, es, ep, hidT_get e (untoldD e d), d, r⟩
  have inB : K.In (hidT t.heap G) := by
    intro b o e
    refine hidT_get (inK b o e) ?_
    cases q : G b with
    | none => rfl
    | some u =>
      rcases hG.some b (by rw [q]; simp) with z | z
      · subst z
        rw [hG.free (by rw [q]; simp)] at e
        cases e
      · obtain ⟨p, hp, rfl⟩ := List.mem_map.mp z
        rw [tabK p hp] at e
        cases e
  have tabB : ∀ p ∈ tabs, TabB (hidT t.heap G) mg p.1 p.2 := by
    intro p hp
    refine ⟨?_, ?_, fun z => ?_⟩
    · obtain ⟨o, us, file, tf, flags, tg, inF, text, tt, e1, r1, r2, r3, rest⟩ := heads p hp
      refine ⟨o, us, file, tf, flags, tg, inF, text, tt, hidT_get e1 (untold e1 (fun vs n z => ?_) fun z => ?_), r1, r2, r3, rest⟩
      · rw [r2] at z; cases z
      · rw [r2] at z; cases z; simp at r3
    · obtain ⟨m, ob, b1, b2, b3, b4, b5, b6⟩ := bmain
      refine ⟨m, ob, b1, b2, fun q => ?_, fun q => ?_, hidT_get b3 (untold b3 (fun vs n z => ?_) fun z => ?_), b4, b5, b6⟩
      · obtain ⟨o, es, ep, e, hd, _⟩ := nsM
        rw [q, e] at b3
        cases b3
        rw [hd] at b6
        cases b6
      · rw [q, tabO p hp] at b3
        cases b3
        cases b6
      · rw [b6] at z; cases z
      · rw [b6] at z; cases z
    · obtain ⟨o, es, ep, e, hd, _⟩ := nsM
      rw [z, tabO p hp] at e
      cases e
      cases hd
  have md : L2.Mod K mg (hidT t.heap G) := by
    obtain ⟨mc, l1, l2⟩ := lim
    exact ⟨inB, keepN nsM, ⟨mb, keepN nsB, boot⟩, mc, keepN l1, l2⟩
  have env : Env0 P w K mg (hidT t.heap G) callerA [] t G :=
    { frames := rfl, mod := md, bs := fun b o e => of_hidT e, bsz := Nat.le_of_eq (hidT_size _ _), funs := trivial, frf := fun b hb => absurd (show b ∈ ([] : List Addr) from hb) (by simp), hok := hG.ok, bare := .of_eq gen }
  have run := (F _ inB (keepN nsM) tabB).run callerA [] t G ⟨[.ref a], []⟩ [.ref a] [.ref a] _ _ rfl room env (bind t (.ref a)) (.cons rfl .nil) hsp
  refine codeAny_mono run fun r t' h => ?_
  match r, h with
  | .error e, h => exact (hCX e t' h).elim
  | .ok (.ret u), h =>
    obtain ⟨v, G', os, bare, un, hok', r', (q' : v = .bl true)⟩ := h
    subst q'
    obtain rfl : u = Value.bool true := r'
    have stay : ∀ b o, b ∉ tabs.map (·.2) → t.heap.get? b = some o → t'.heap.get? b = some o := by
      intro b o nb e
      rcases hG.kind b with q | q | ⟨ob, xs, q⟩
      · exact un.keep b o e q (by intro z; exact absurd (show b ∈ ([] : List Addr) from z) (by simp)) (by simp)
      · exact absurd q nb
      · obtain ⟨e1, _⟩ := hG.ok b _ q
        obtain ⟨e2, _⟩ := hok' b _ (un.frzs b ob _ q)
        rw [e] at e1
        cases e1
        exact e2
    have more : ∀ p ∈ tabs, ∃ ys : Array Value, t'.heap.get? p.2 = some { cls := .none, data := .fields ys } := by
      intro p hp
      obtain ⟨ys, z⟩ := un.tbls p.2 #[] (hG.tab _ (inT hp))
      exact ⟨_, hok' p.2 _ z⟩
    refine ⟨rfl, ⟨fun b o e => ?_, fun b o e => ?_⟩, os, bare⟩
    · by_cases hb : b ∈ tabs.map (·.2)
      · obtain ⟨p, hp, rfl⟩ := List.mem_map.mp hb
        obtain ⟨ys, hy⟩ := more p hp
        rw [tabO p hp] at e
        cases e
        refine .inr (.inl ⟨((heads p hp).tab (tabO p hp)).isCodeTable, rfl, #[], ys, rfl, ?_⟩)
        rw [Array.empty_append]
        exact hy
      · exact .inl (stay b o hb e)
    · by_cases hb : b ∈ tabs.map (·.2)
      · obtain ⟨p, hp, rfl⟩ := List.mem_map.mp hb
        exact ⟨_, (more p hp).choose_spec⟩
      · exact ⟨o, stay b o hb e⟩
/-- the tables' part of a told heap -/
def onlyTabs (tb : List Addr) : Hp := fun b => if b ∈ tb then some (.tbl #[]) else none
theorem onlyTabs_in {tb : List Addr} {b : Addr} (h : b ∈ tb) : onlyTabs tb b = some (.tbl #[]) := if_pos h
theorem onlyTabs_out {tb : List Addr} {b : Addr} (h : b ∉ tb) : onlyTabs tb b = none := if_neg h
theorem lawG_call
    (inK : K.In t.heap) (nsM : t.heap.Ns mainGlobals mg) (nsB : t.heap.Ns builtinsNs mb) (boot : ∀ y : Str, y ≠ "__name__" → mb y = bootBuiltins y) (lim : t.heap.NoLimit) (gen : t.gens = #[])
    (tabO : ∀ p ∈ tabs, t.heap.get? p.2 = some { cls := .none, data := .fields #[] }) (tabK : ∀ p ∈ tabs, K.lookup p.2 = none) (heads : ∀ p ∈ tabs, PySem.W.CodeHd t.heap p.1 p.2)
    (bmain : ∃ (m : Addr) (ob : Obj), mg "__builtins__" = some (.ref m) ∧ m ≠ builtinsNs ∧ t.heap.get? m = some ob ∧ ob.cls = .type "module" ∧ ob.dict = some builtinsNs ∧ ob.data = .plain)
    (objA : t.heap.get? a = some { cls := .type "list", data := .seq us.toArray }) (whole : IntsAre us ms) (size : ms.length ≤ sizeLine) (room : Room k callerA)
    (F : ∀ base : Heap, K.In base → base.Ns mainGlobals mg → (∀ p ∈ tabs, TabB base mg p.1 p.2) → FnG P w K mg base CX k fa fd [x] sp) (bind : ∀ (s : Shared) (u : Value), BindsTo s fd ⟨[u], []⟩ [(x, u)])
    (hsp : ∀ G : Hp, (∀ p ∈ tabs, G p.2 = some (.tbl #[])) → SqL K G a (ms.map V.int) → sp [.ref a] G (fun v _ => v = .bl true) fun _ _ _ => False) (hCX : ∀ G e t', CX [] G t (fun _ _ _ => False) e t' → False) :
    codeAny (model P w) callerA (.call (.ref fa) ⟨[.ref a], []⟩) (Told1 t) t := by
  have isTab : ∀ b ∈ tabs.map (·.2), t.heap.get? b = some { cls := .none, data := .fields #[] } := by
    intro b hb
    obtain ⟨p, hp, rfl⟩ := List.mem_map.mp hb
    exact tabO p hp
  have inT : ∀ p ∈ tabs, p.2 ∈ tabs.map (·.2) := fun p hp => List.mem_map.mpr ⟨p, hp, rfl⟩
  have aT : a ∉ tabs.map (·.2) := fun z => by
    have q := (isTab a z).symm.trans objA
    cases (congrArg Obj.data (Option.some.inj q) : Data.fields #[] = _)
  have vals := vals_ints whole
  have lens := whole.length
  have go := fun {G : Hp} (hG : OnlyT P w K t a (tabs.map (·.2)) G) (hS : SqL K G a (ms.map V.int)) => lawG_core inK nsM nsB boot lim gen tabO tabK heads bmain objA room F bind hG (hsp G (fun p hp => hG.tab _ (inT p hp)) hS) (hCX G)
  cases hk : K.lookup a with
  | some o =>
    have e := inK a o hk
    rw [objA] at e
    cases e
    refine go (G := onlyTabs (tabs.map (·.2))) ⟨fun b u z => ?_, fun p hp => onlyTabs_in hp, fun b => ?_, fun b z => ?_, fun z => absurd (onlyTabs_out aT) z⟩
      (.inr ⟨_, us.toArray, _, hk, rfl, rfl, rfl, by rw [List.size_toArray, lens]; exact size, by simpa using vals⟩)
    all_goals by_cases hb : b ∈ tabs.map (·.2)
    · cases (onlyTabs_in hb).symm.trans z
      exact isTab b hb
    · cases (onlyTabs_out hb).symm.trans z
    · exact .inr (.inl hb)
    · exact .inl (onlyTabs_out hb)
    · exact .inr hb
    · exact absurd (onlyTabs_out hb) z
  | none =>
    have at_a : upd (onlyTabs (tabs.map (·.2))) a (.frz { cls := .type "list", data := .seq us.toArray } (.lst (ms.map V.int))) a = some (.frz { cls := .type "list", data := .seq us.toArray } (.lst (ms.map V.int))) := upd_same
    have off_a : ∀ b, b ≠ a → upd (onlyTabs (tabs.map (·.2))) a (.frz { cls := .type "list", data := .seq us.toArray } (.lst (ms.map V.int))) b = onlyTabs (tabs.map (·.2)) b := fun b n => upd_ne n
    refine go (G := upd (onlyTabs (tabs.map (·.2))) a (.frz { cls := .type "list", data := .seq us.toArray } (.lst (ms.map V.int))))
      ⟨fun b u z => ?_, fun p hp => (off_a p fun q => aT (q ▸ hp)).trans (onlyTabs_in hp), fun b => ?_, fun b z => ?_, fun _ => hk⟩ (.inl (.inr ⟨_, at_a⟩))
    all_goals by_cases n : b = a
    · subst n
      cases at_a.symm.trans z
      exact ⟨objA, by rw [List.length_map]; exact size, us, _, vals, objA⟩
    · rw [off_a b n] at z
      by_cases hb : b ∈ tabs.map (·.2)
      · cases (onlyTabs_in hb).symm.trans z
        exact isTab b hb
      · cases (onlyTabs_out hb).symm.trans z
    · subst n
      exact .inr (.inr ⟨_, _, at_a⟩)
    · rw [off_a b n]
      by_cases hb : b ∈ tabs.map (·.2)
      · exact .inr (.inl hb)
      · exact .inl (onlyTabs_out hb)
    · exact .inl n
    · rw [off_a b n] at z
      by_cases hb : b ∈ tabs.map (·.2)
      · exact .inr hb
      · exact absurd (onlyTabs_out hb) z
end
/-- what is known of the law's promise at the head's heap -/
def LawG (l : PySem.W.OpenLaw) (w : World) (K : PySem.W.Frag) (CX : CXT) (k n : Nat) (x : Str) (mg : Str → Option Value) (fa : Addr) (h : Heap) : Prop :=
  ∃ (fd : FuncData) (tabs : List (Addr × Addr)) (sp : Sp),
    ((∀ p ∈ tabs, h.get? p.2 = some { cls := .none, data := .fields #[] }) ∧ (∀ p ∈ tabs, K.lookup p.2 = none) ∧ ∀ p ∈ tabs, PySem.W.CodeHd h p.1 p.2) ∧
    (∀ (s : Shared) (u : Value), BindsTo s fd ⟨[u], []⟩ [(x, u)]) ∧
    (∀ (G : Hp) (a : Addr) (ms : List Int), ms.length ≤ n → (∀ p ∈ tabs, G p.2 = some (.tbl #[])) → SqL K G a (ms.map V.int) → sp [.ref a] G (fun v _ => v = .bl true) fun _ _ _ => False) ∧
    ∀ base : Heap, K.In base → base.Ns mainGlobals mg → (∀ p ∈ tabs, TabB base mg p.1 p.2) → FnG l.prog w K mg base CX k fa fd [x] sp
theorem walk_ofG {l : PySem.W.OpenLaw} {n k : Nat} {q : Program} {loose : List Str} {XP : (Str → Option Value) → Heap → Prop} {YP : World → Heap → Prop} {d : DefRec} {K : Params → PySem.W.Frag} {CX : World → CXT} {x : Str}
    (most : l.most = some n) (small : n ≤ sizeLine) (dfl : d.params.defaults = []) (room : Room k callerA) (toK : ∀ (w : World) (h : Heap), YP w h → (K w.params).In h)
    (F : ∀ (w : World) (mg : Str → Option Value) (fa : Addr) (h : Heap), YP w h → (K w.params).In h → h.Ns mainGlobals mg → mg d.name = some (.ref fa) → LawG l w (K w.params) (CX w) k n x mg fa h)
    (hCX : ∀ (w : World) (H : Hp) (s : Shared) (e : Value) (s' : Shared), CX w [] H s (fun _ _ _ => False) e s' → False) :
    PySem.W.WalkO q loose XP YP l.row.toRowW d [] (fun f vs => PySem.call f vs) := by
  refine Att.attach_callB most dfl fun w s0 t mg mb fa o pm cd doc a us ms G Y ho hd hcd hmg objA whole len _ gen => ?_
  have KX := toK w _ Y
  obtain ⟨fd, tabs, sp, ⟨t1, t2, t3⟩, bind, hsp, hF⟩ := F w mg fa _ Y KX G.T.g hmg
  exact lawG_call KX G.T.g G.T.b G.T.builtins G.T.nolimit gen t1 t2 t3 G.T.bmain objA whole (Nat.le_trans len small) room hF bind (fun H hH hS => hsp H a ms len hH hS) fun H e s' => hCX w H t e s'
end TT

set_option Elab.async false
set_option linter.all false
set_option maxRecDepth 100000
set_option maxHeartbeats 2000000
namespace TT
open PySem PySem.Spec PyProof.Rows L2 LamX
/-! ### the head's facts, read for a text of defs and own errors -/
theorem walk_ofGE {l : PySem.W.OpenLaw} {n k : Nat} {q : Program} {loose : List Str} {XP : (Str → Option Value) → Heap → Prop} {YP : World → Heap → Prop} {d : DefRec} {CX : World → CXT} {x : Str}
    (most : l.most = some n) (small : n ≤ sizeLine) (dfl : d.params.defaults = []) (room : Room k callerA)
    (F : ∀ (w : World) (mg : Str → Option Value) (fa : Addr) (h : Heap), YP w h → h.Ns mainGlobals mg → mg d.name = some (.ref fa) → ∃ K : PySem.W.Frag, K.In h ∧ LawG l w K (CX w) k n x mg fa h)
    (hCX : ∀ (w : World) (H : Hp) (s : Shared) (e : Value) (s' : Shared), CX w [] H s (fun _ _ _ => False) e s' → False) :
    PySem.W.WalkO q loose XP YP l.row.toRowW d [] (fun f vs => PySem.call f vs) := by
  refine Att.attach_callB most dfl fun w s0 t mg mb fa o pm cd doc a us ms G Y ho hd hcd hmg objA whole len _ gen => ?_
  obtain ⟨K, KX, fd, tabs, sp, ⟨t1, t2, t3⟩, bind, hsp, hF⟩ := F w mg fa _ Y G.T.g hmg
  exact lawG_call KX G.T.g G.T.b G.T.builtins G.T.nolimit gen t1 t2 t3 G.T.bmain objA whole (Nat.le_trans len small) room hF bind (fun H hH hS => hsp H a ms len hH hS) fun H e s' => hCX w H t e s'
theorem fun_ofD {K : PySem.W.Frag} {x : Str} {st : Stmt} {f : Addr} {fd : FuncData} (F : FunD K x x (defArgs st) (defBody st) (defScope st) [] [] f fd) : Fun K x x st f fd := by
  obtain ⟨oc, od, dV, kV, doc, pm, an, cdv, ct, osl, e, lk, hcd, hD, _⟩ := F.ex
  rcases hD with ⟨_, rfl⟩ | ⟨z, _⟩
  · exact ⟨⟨oc, od, kV, doc, pm, an, cdv, ct, osl, e, lk, hcd⟩, F.kp⟩
  · exact absurd rfl z
/-- a def of the top, for the hook -/
def dD (x : Str) (st : Stmt) : He.DefD := ⟨(x, none), x, x, defArgs st, defBody st, defScope st, [], []⟩
section
variable {fa : List He.Fa} {fn : List He.DefD} {K : PySem.W.Frag} {h : Heap} {mg : Str → Option Value}
noncomputable def DefT.of (X : K.In h) (G : h.Ns mainGlobals mg) (c : He.SaysD fa fn K) (i j : Nat) {x : Str} {st : Stmt} {ps : List Str}
    (hb : ∀ (kV doc pm : Value) (an : Option Addr) (cdv ct : Value) (us : List Value), us.length = ps.length → bindArgs (PySem.W.fnOf x x (defArgs st) (defBody st) (defScope st) .none kV doc pm an cdv ct) ⟨us, []⟩ = pure (ps.zip us))
    (hd : fn[i]? = some (dD x st) := by rfl) (hg : fa[j]? = some (.glo x) := by rfl) : DefT K mg x st ps :=
  ⟨He.ga K x, (c.def_ i hd).choose, fun_ofD (c.def_ i hd).choose_spec, He.glo_ok X G (c.fact j hg), (fun_ofD (c.def_ i hd).choose_spec).binds hb⟩
/-! ### own errors -/
def excB (x : Str) (bmB : List Value) (newId : String) (K : PySem.W.Frag) : Bool :=
  PySem.W.keepIn K (.ref (He.ga K x)) && (PySem.W.excIn K (He.ga K x) bmB newId && (decide (PySem.W.subIn K (.ref (He.ga K x)) (.type "BaseException") = some true) && decide (PySem.W.typeIn K (.ref (He.ga K x)) = some (.type "type"))))
theorem ExcT.of (X : K.In h) (G : h.Ns mainGlobals mg) (c : He.SaysD fa fn K) (j : Nat) {x : Str} {bmB : List Value} {newId : String} (e : excB x bmB newId K = true) (hg : fa[j]? = some (.glo x) := by rfl) : ∃ E : ExcT K mg x bmB newId, E.c = He.ga K x := by
  obtain ⟨e1, e⟩ := He.ba e
  obtain ⟨e2, e⟩ := He.ba e
  obtain ⟨e3, e4⟩ := He.ba e
  exact ⟨⟨He.ga K x, He.glo_ok X G (c.fact j hg), e1, e2, of_decide_eq_true e3, of_decide_eq_true e4⟩, rfl⟩
/-- the def of the __init__ of an own error -/
def dI (cn : Str) (st : Stmt) : He.DefD := ⟨(cn, some "__init__"), "__init__", cn ++ ".__init__", defArgs st, defBody st, defScope st, [], []⟩
def kwNone (K : PySem.W.Frag) (f : Addr) : Bool := match K.lookup f with
  | some ⟨_, _, .func fd, _⟩ => decide (fd.kwdefaults = .none)
  | _ => false
def keepB (cn : Str) (x : String) (bmB : List Value) (newId : String) (K : PySem.W.Frag) : Bool :=
  PySem.W.excInitIn K (He.ga K cn) bmB newId && (PySem.W.hasDictIn K (He.ga K cn) && (decide (PySem.W.findIn K (.ref (He.ga K cn)) "__setattr__" = some (some (.builtin "object.__setattr__"))) &&
    (decide (PySem.W.findIn K (.ref (He.ga K cn)) (x : Str) = some none) && (decide (PySem.W.findIn K (.ref (He.ga K cn)) "__init__" = some (some (.ref (He.fAd K (cn, some "__init__"))))) &&
    (decide (PySem.W.typeIn K (.ref (He.fAd K (cn, some "__init__"))) = some (.type "function")) && (PySem.W.keepIn K (.ref (He.ga K cn)) && (decide (PySem.W.typeIn K (.ref (He.ga K cn)) = some (.type "type")) &&
    (kwNone K (He.fAd K (cn, some "__init__")) && xfB K (He.ga K cn)))))))))
theorem cls_of {C : Addr} {bmB : List Value} {newId : String} (q : PySem.W.excInitIn K C bmB newId = true) (d : PySem.W.hasDictIn K C = true) :
    ∃ nm q N bs bm sn sub ab col dd k0 k1 k2 k3 k5, K.lookup C = some (excClassObj nm q C N bs bm true sn sub ab col dd k0 k1 k2 k3 k5 newId) ∧ PySem.W.excTail bmB bm = true := by
  unfold PySem.W.excInitIn at q
  split at q
  · rename_i dd cd sl ho
    split at q
    · rename_i D bm s0 s1 s2 s3 n s5 hm hs
      simp only [Bool.and_eq_true, beq_iff_eq, Bool.not_eq_true'] at q
      obtain ⟨⟨⟨rfl, rfl⟩, nodel⟩, tail⟩ := q
      have hd : cd.hasDict = true := by
        unfold PySem.W.hasDictIn PySem.W.clsIn at d
        rw [ho] at d
        simpa using d
      obtain ⟨cn, cb, cm, cs, cq, ch, c1, c2, c3, c4, cdel⟩ := cd
      dsimp only at hm nodel hd
      subst hm nodel hd
      obtain ⟨sll⟩ := sl
      dsimp only at hs
      subst hs
      exact ⟨cn, cq, cs, cb, bm, c1, c2, c3, c4, dd, s0, s1, s2, s3, s5, ho, tail⟩
    · cases q
  · cases q
theorem KeepT.of (X : K.In h) (G : h.Ns mainGlobals mg) (c : He.SaysD fa fn K) (i j : Nat) {cn : Str} {x : String} {st : Stmt} {bmB : List Value} {newId : String} (e : keepB cn x bmB newId K = true)
    (hp : ∃ p1 p2 q1 q2 q3 q4, defArgs st = kA x p1 p2 ∧ defBody st = kB x q1 q2 q3 q4 ∧ defScope st = kS x) (hd : fn[i]? = some (dI cn st) := by rfl) (hg : fa[j]? = some (.glo cn) := by rfl) : ∃ E : KeepT K mg cn x bmB newId, E.c = He.ga K cn := by
  obtain ⟨e1, e⟩ := He.ba e
  obtain ⟨e2, e⟩ := He.ba e
  obtain ⟨e3, e⟩ := He.ba e
  obtain ⟨e4, e⟩ := He.ba e
  obtain ⟨e5, e⟩ := He.ba e
  obtain ⟨e6, e⟩ := He.ba e
  obtain ⟨e7, e⟩ := He.ba e
  obtain ⟨e8, e⟩ := He.ba e
  obtain ⟨e9, e10⟩ := He.ba e
  have xf := xfB_ok e10
  obtain ⟨fd, F⟩ := c.def_ i hd
  obtain ⟨oc, od, dV, kV, doc, pm, an, cdv, ct, osl, rfl, lk, hcd, hD, _⟩ := F.ex
  obtain ⟨p1, p2, q1, q2, q3, q4, a1, a2, a3⟩ := hp
  rcases hD with ⟨_, rfl⟩ | ⟨z, _⟩
  · have kv : kV = .none := by
      unfold kwNone at e9
      have lk2 : K.lookup (He.fAd K (cn, some "__init__")) = _ := lk
      rw [lk2] at e9
      exact of_decide_eq_true e9
    subst kv
    refine ⟨⟨He.ga K cn, He.fAd K (cn, some "__init__"), ⟨He.glo_ok X G (c.fact j hg), cls_of e1 e2, of_decide_eq_true e3, of_decide_eq_true e4, of_decide_eq_true e5, of_decide_eq_true e6, e7, xf.exC, of_decide_eq_true e8, ?_⟩, xf⟩, rfl⟩
    refine ⟨cn ++ ".__init__", oc, od, doc, pm, an, cdv, ct, osl, p1, p2, q1, q2, q3, q4, ?_, hcd⟩
    rw [← a1, ← a2, ← a3]
    exact lk
  · exact absurd rfl z
/-- the classes held against each other -/
def exmB (xs : List Str) (K : PySem.W.Frag) : Bool := (List.range xs.length).all fun i => (List.range (i + 1)).all fun j => decide (PySem.W.exmOne K (.ref (He.ga K (xs.getD i ""))) (.ref (He.ga K (xs.getD j ""))) = some (decide (i = j)))
theorem ExmAll.of {xs : List Str} (e : exmB xs K = true) : ExmAll K (xs.map fun x => He.ga K x) := by
  intro i j hi hj
  rw [List.length_map] at hi
  have h1 := List.all_eq_true.mp (List.all_eq_true.mp e i (List.mem_range.mpr hi)) j (List.mem_range.mpr (by omega))
  have h2 := of_decide_eq_true h1
  rw [List.getElem_map, List.getElem_map]
  rw [List.getD_eq_getElem?_getD, List.getD_eq_getElem?_getD, List.getElem?_eq_getElem hi, List.getElem?_eq_getElem (show j < xs.length by omega)] at h2
  exact h2
/-! ### the tables of code objects -/
theorem codeT_of {x : Str} {st : Stmt} {fd : FuncData} (F : Fun K x x st (He.ga K x) fd) (oc : Value) (od : Option Addr) (kV doc pm : Value) (an : Option Addr) (cdv ct : Value) (osl : Array (Option Value))
    (lk : K.lookup (He.ga K x) = some ⟨oc, od, .func (PySem.W.fnOf x x (defArgs st) (defBody st) (defScope st) .none kV doc pm an cdv ct), osl⟩) : cdv = .ref (He.cT K (x, none)).1 := by
  obtain ⟨oc', od', kV', doc', pm', an', cdv', ct', osl', e, lk', hcd⟩ := F.ex
  rw [lk] at lk'
  cases lk'
  cases e
  obtain ⟨c, rfl⟩ := He.codeIn_ref hcd
  have := He.codeOf_eq (p := (x, none)) (c := c) lk rfl
  show _ = Value.ref (He.codeOf K (x, none))
  rw [this]
/-- a def whose lambdas are told, with its text -/
abbrev LamD : Type := Str × Stmt
def lamQ (d : LamD) : Str := (envOfC d.1 (defScope d.2) 0 0 .none).qual ++ "<lambda>"
def lamT (K : PySem.W.Frag) (ds : List LamD) : List (Addr × Str) := ds.map fun d => ((He.cT K (d.1, none)).2, lamQ d)
def lamC (K : PySem.W.Frag) (ds : List LamD) : List (Addr × Addr) := ds.map fun d => He.cT K (d.1, none)
def apartB (ds : List LamD) (K : PySem.W.Frag) : Bool := ds.all fun d => ds.all fun e => decide (d.1 = e.1) || decide ((He.cT K (d.1, none)).2 ≠ (He.cT K (e.1, none)).2)
theorem lam_mem {ds : List LamD} {d : LamD} (h : d ∈ ds) : ((He.cT K (d.1, none)).2, lamQ d) ∈ lamT K ds := List.mem_map.mpr ⟨d, h, rfl⟩
theorem lam_uniq {ds : List LamD} {d : LamD} (h : d ∈ ds) (inj : ∀ a ∈ ds, ∀ b ∈ ds, a.1 = b.1 → a = b) (e : apartB ds K = true) : ∀ p ∈ lamT K ds, p.1 = (He.cT K (d.1, none)).2 → p.2 = lamQ d := fun p hp z => by
  obtain ⟨b, hb, rfl⟩ := List.mem_map.mp hp
  rcases Bool.or_eq_true_iff.mp (List.all_eq_true.mp (List.all_eq_true.mp e b hb) d h) with q | q
  · rw [inj b hb d h (of_decide_eq_true q)]
  · exact absurd z (of_decide_eq_true q)
theorem lam_tabs {ds : List LamD} {H : Hp} (e : ∀ p ∈ lamC K ds, H p.2 = some (.tbl #[])) : Tabs (lamT K ds) H := fun p hp => by
  obtain ⟨b, hb, rfl⟩ := List.mem_map.mp hp
  exact ⟨#[], e _ (List.mem_map.mpr ⟨b, hb, rfl⟩), by first | exact .nil | trivial | simp [TriplesOk], fun pos cv h => by simp [codeAmong] at h⟩
end
end TT

set_option Elab.async false
set_option linter.all false
set_option maxRecDepth 100000
namespace K02
open PySem PySem.Spec PyProof.Rows L2 TT
def topS (i : Nat) : Stmt := PySem.Challenge.pw_tametrees_k02_errors_of_fractions_and_ta.main.body.getD i (.Pass ⟨0, 0, 0, 0⟩)
abbrev s_is_whole : Stmt := topS 2
abbrev s_ratio : Stmt := topS 4
abbrev s_is_ratio : Stmt := topS 5
abbrev s_pair_of : Stmt := topS 6
abbrev s_ratio_sum : Stmt := topS 7
abbrev s_ratio_difference : Stmt := topS 8
abbrev s_ratio_product : Stmt := topS 9
abbrev s_ratio_quotient : Stmt := topS 10
abbrev s_is_integer : Stmt := topS 20
abbrev s_is_fraction : Stmt := topS 21
abbrev s_is_number : Stmt := topS 22
abbrev s_lowest : Stmt := topS 23
abbrev s_plus : Stmt := topS 24
abbrev s_minus : Stmt := topS 25
abbrev s_times : Stmt := topS 26
abbrev s_over : Stmt := topS 27
abbrev s_compare : Stmt := topS 28
abbrev s_floor_of : Stmt := topS 29
abbrev s_rest_of : Stmt := topS 30
abbrev s__pair : Stmt := topS 31
abbrev s_rank_and_minor : Stmt := topS 33
abbrev s__first_spot : Stmt := topS 34
abbrev s__exchanged : Stmt := topS 35
abbrev s__lessened : Stmt := topS 36
abbrev s_determinant_of_rows : Stmt := topS 37
abbrev s__unit_row : Stmt := topS 38
abbrev s_undone_rows : Stmt := topS 39
abbrev s_factors_of_rows : Stmt := topS 40
abbrev s__with_clear_cross : Stmt := topS 41
abbrev s__with_clear_column : Stmt := topS 42
abbrev s__mixed : Stmt := topS 43
abbrev s__shared_divisor : Stmt := topS 44
abbrev s__divisor_chain : Stmt := topS 45
abbrev s_is_table : Stmt := topS 48
abbrev s__is_table_row : Stmt := topS 49
abbrev s_rank : Stmt := topS 50
abbrev s_factors : Stmt := topS 51
abbrev s_determinant : Stmt := topS 52
abbrev s_undone : Stmt := topS 53
abbrev s__check_table : Stmt := topS 54
abbrev s__check_square : Stmt := topS 55
abbrev s__law_dice : Stmt := topS 57
abbrev s__law_roll : Stmt := topS 58
abbrev s__law_pick : Stmt := topS 59
abbrev s__law_tr_single : Stmt := topS 60
abbrev s__law_fault : Stmt := topS 61
abbrev s__law_numbers_right : Stmt := topS 62
abbrev s__law_tables_right : Stmt := topS 63
abbrev s_law : Stmt := topS 64
theorem sc_is_whole : FnScope ["value"] ["value"] (defScope s_is_whole) := ⟨rfl, rfl, rfl, by decide +kernel, rfl, by decide +kernel, by decide +kernel⟩
theorem sc_ratio : FnScope ["top", "bottom", "shared"] ["top", "bottom"] (defScope s_ratio) := ⟨rfl, rfl, rfl, by decide +kernel, rfl, by decide +kernel, by decide +kernel⟩
theorem sc_is_ratio : FnScope ["value"] ["value"] (defScope s_is_ratio) := ⟨rfl, rfl, rfl, by decide +kernel, rfl, by decide +kernel, by decide +kernel⟩
theorem sc_pair_of : FnScope ["number"] ["number"] (defScope s_pair_of) := ⟨rfl, rfl, rfl, by decide +kernel, rfl, by decide +kernel, by decide +kernel⟩
theorem sc_ratio_sum : FnScope ["one", "other"] ["one", "other"] (defScope s_ratio_sum) := ⟨rfl, rfl, rfl, by decide +kernel, rfl, by decide +kernel, by decide +kernel⟩
theorem sc_ratio_difference : FnScope ["one", "other"] ["one", "other"] (defScope s_ratio_difference) := ⟨rfl, rfl, rfl, by decide +kernel, rfl, by decide +kernel, by decide +kernel⟩
theorem sc_ratio_product : FnScope ["one", "other"] ["one", "other"] (defScope s_ratio_product) := ⟨rfl, rfl, rfl, by decide +kernel, rfl, by decide +kernel, by decide +kernel⟩
theorem sc_ratio_quotient : FnScope ["one", "other"] ["one", "other"] (defScope s_ratio_quotient) := ⟨rfl, rfl, rfl, by decide +kernel, rfl, by decide +kernel, by decide +kernel⟩
theorem sc_is_integer : FnScope ["value"] ["value"] (defScope s_is_integer) := ⟨rfl, rfl, rfl, by decide +kernel, rfl, by decide +kernel, by decide +kernel⟩
theorem sc_is_fraction : FnScope ["value"] ["value"] (defScope s_is_fraction) := ⟨rfl, rfl, rfl, by decide +kernel, rfl, by decide +kernel, by decide +kernel⟩
theorem sc_is_number : FnScope ["value"] ["value"] (defScope s_is_number) := ⟨rfl, rfl, rfl, by decide +kernel, rfl, by decide +kernel, by decide +kernel⟩
theorem sc_lowest : FnScope ["top", "bottom"] ["top", "bottom"] (defScope s_lowest) := ⟨rfl, rfl, rfl, by decide +kernel, rfl, by decide +kernel, by decide +kernel⟩
theorem sc_plus : FnScope ["one", "other"] ["one", "other"] (defScope s_plus) := ⟨rfl, rfl, rfl, by decide +kernel, rfl, by decide +kernel, by decide +kernel⟩
theorem sc_minus : FnScope ["one", "other"] ["one", "other"] (defScope s_minus) := ⟨rfl, rfl, rfl, by decide +kernel, rfl, by decide +kernel, by decide +kernel⟩
theorem sc_times : FnScope ["one", "other"] ["one", "other"] (defScope s_times) := ⟨rfl, rfl, rfl, by decide +kernel, rfl, by decide +kernel, by decide +kernel⟩
theorem sc_over : FnScope ["one", "other", "top", "bottom"] ["one", "other"] (defScope s_over) := ⟨rfl, rfl, rfl, by decide +kernel, rfl, by decide +kernel, by decide +kernel⟩
theorem sc_compare : FnScope ["one", "other", "top", "_"] ["one", "other"] (defScope s_compare) := ⟨rfl, rfl, rfl, by decide +kernel, rfl, by decide +kernel, by decide +kernel⟩
theorem sc_floor_of : FnScope ["number", "top", "bottom"] ["number"] (defScope s_floor_of) := ⟨rfl, rfl, rfl, by decide +kernel, rfl, by decide +kernel, by decide +kernel⟩
theorem sc_rest_of : FnScope ["number", "top", "bottom"] ["number"] (defScope s_rest_of) := ⟨rfl, rfl, rfl, by decide +kernel, rfl, by decide +kernel, by decide +kernel⟩
theorem sc__pair : FnScope ["value"] ["value"] (defScope s__pair) := ⟨rfl, rfl, rfl, by decide +kernel, rfl, by decide +kernel, by decide +kernel⟩
theorem sc_rank_and_minor : FnScope ["rows", "left", "last", "sign", "at", "spot", "row", "column", "top", "entries", "place"] ["rows"] (defScope s_rank_and_minor) := ⟨rfl, rfl, rfl, by decide +kernel, rfl, by decide +kernel, by decide +kernel⟩
theorem sc__first_spot : FnScope ["rows", "at", "column", "row"] ["rows", "at"] (defScope s__first_spot) := ⟨rfl, rfl, rfl, by decide +kernel, rfl, by decide +kernel, by decide +kernel⟩
theorem sc__exchanged : FnScope ["values", "one", "other", "changed"] ["values", "one", "other"] (defScope s__exchanged) := ⟨rfl, rfl, rfl, by decide +kernel, rfl, by decide +kernel, by decide +kernel⟩
theorem sc__lessened : FnScope ["row", "top", "at", "last", "here", "pivot", "entry", "above"] ["row", "top", "at", "last"] (defScope s__lessened) := ⟨rfl, rfl, rfl, by decide +kernel, rfl, by decide +kernel, by decide +kernel⟩
theorem sc_determinant_of_rows : FnScope ["rows", "rank", "minor"] ["rows"] (defScope s_determinant_of_rows) := ⟨rfl, rfl, rfl, by decide +kernel, rfl, by decide +kernel, by decide +kernel⟩
theorem sc__unit_row : FnScope ["place", "size", "at"] ["place", "size"] (defScope s__unit_row) := ⟨rfl, rfl, rfl, by decide +kernel, rfl, by decide +kernel, by decide +kernel⟩
theorem sc_undone_rows : FnScope ["rows", "size", "wide", "last", "at", "spots", "top", "place", "row", "entry"] ["rows"] (defScope s_undone_rows) := ⟨rfl, rfl, rfl, by decide +kernel, rfl, by decide +kernel, by decide +kernel⟩
theorem sc_factors_of_rows : FnScope ["rows", "rank", "minor", "modulus", "left", "found", "at", "row", "entry"] ["rows"] (defScope s_factors_of_rows) := ⟨rfl, rfl, rfl, by decide +kernel, rfl, by decide +kernel, by decide +kernel⟩
theorem sc__with_clear_cross : FnScope ["rows", "at", "modulus", "left", "turned", "entry", "column", "row"] ["rows", "at", "modulus"] (defScope s__with_clear_cross) := ⟨rfl, rfl, rfl, by decide +kernel, rfl, by decide +kernel, by decide +kernel⟩
theorem sc__with_clear_column : FnScope ["rows", "at", "modulus", "left", "row", "here", "below", "shared", "some", "more", "top"] ["rows", "at", "modulus"] (defScope s__with_clear_column) := ⟨rfl, rfl, rfl, by decide +kernel, rfl, by decide +kernel, by decide +kernel⟩
theorem sc__mixed : FnScope ["row", "other", "shares", "modulus", "share", "more", "entry", "beside"] ["row", "other", "shares", "modulus"] (defScope s__mixed) := ⟨rfl, rfl, rfl, by decide +kernel, rfl, by decide +kernel, by decide +kernel⟩
theorem sc__shared_divisor : FnScope ["one", "other", "some", "more", "times"] ["one", "other"] (defScope s__shared_divisor) := ⟨rfl, rfl, rfl, by decide +kernel, rfl, by decide +kernel, by decide +kernel⟩
theorem sc__divisor_chain : FnScope ["values", "chain", "at", "behind", "shared"] ["values"] (defScope s__divisor_chain) := ⟨rfl, rfl, rfl, by decide +kernel, rfl, by decide +kernel, by decide +kernel⟩
theorem sc_is_table : FnScope ["value", "row"] ["value"] (defScope s_is_table) := ⟨rfl, rfl, rfl, by decide +kernel, rfl, by decide +kernel, by decide +kernel⟩
theorem sc__is_table_row : FnScope ["value", "entry"] ["value"] (defScope s__is_table_row) := ⟨rfl, rfl, rfl, by decide +kernel, rfl, by decide +kernel, by decide +kernel⟩
theorem sc_rank : FnScope ["table", "found", "_"] ["table"] (defScope s_rank) := ⟨rfl, rfl, rfl, by decide +kernel, rfl, by decide +kernel, by decide +kernel⟩
theorem sc_factors : FnScope ["table"] ["table"] (defScope s_factors) := ⟨rfl, rfl, rfl, by decide +kernel, rfl, by decide +kernel, by decide +kernel⟩
theorem sc_determinant : FnScope ["table"] ["table"] (defScope s_determinant) := ⟨rfl, rfl, rfl, by decide +kernel, rfl, by decide +kernel, by decide +kernel⟩
theorem sc_undone : FnScope ["table", "found"] ["table"] (defScope s_undone) := ⟨rfl, rfl, rfl, by decide +kernel, rfl, by decide +kernel, by decide +kernel⟩
theorem sc__check_table : FnScope ["value"] ["value"] (defScope s__check_table) := ⟨rfl, rfl, rfl, by decide +kernel, rfl, by decide +kernel, by decide +kernel⟩
theorem sc__check_square : FnScope ["value"] ["value"] (defScope s__check_square) := ⟨rfl, rfl, rfl, by decide +kernel, rfl, by decide +kernel, by decide +kernel⟩
theorem sc__law_dice : FnScope ["script", "spot", "cell", "left"] ["script", "spot"] (defScope s__law_dice) := ⟨rfl, rfl, rfl, by decide +kernel, rfl, by decide +kernel, by decide +kernel⟩
theorem sc__law_roll : FnScope ["dice", "total", "found", "one", "two"] ["dice", "total"] (defScope s__law_roll) := ⟨rfl, rfl, rfl, by decide +kernel, rfl, by decide +kernel, by decide +kernel⟩
theorem sc__law_pick : FnScope ["dice", "items"] ["dice", "items"] (defScope s__law_pick) := ⟨rfl, rfl, rfl, by decide +kernel, rfl, by decide +kernel, by decide +kernel⟩
theorem sc__law_tr_single : FnScope ["size", "place", "at"] ["size", "place"] (defScope s__law_tr_single) := ⟨rfl, rfl, rfl, by decide +kernel, rfl, by decide +kernel, by decide +kernel⟩
theorem sc__law_fault : FnScope ["call", "error"] ["call"] (defScope s__law_fault) := ⟨rfl, rfl, rfl, by decide +kernel, rfl, by decide +kernel, by decide +kernel⟩
theorem sc__law_numbers_right : FnScope ["dice", "told", "due", "bad", "call", "low", "none"] ["dice"] (defScope s__law_numbers_right) := ⟨rfl, rfl, rfl, by decide +kernel, rfl, by decide +kernel, by decide +kernel⟩
theorem sc__law_tables_right : FnScope ["dice", "wrong", "size", "width", "told", "due", "call", "flat", "none", "wide", "at"] ["dice"] (defScope s__law_tables_right) := ⟨rfl, rfl, rfl, by decide +kernel, rfl, by decide +kernel, by decide +kernel⟩
theorem sc_law : FnScope ["script", "spot", "dice", "told", "great", "at"] ["script"] (defScope s_law) := ⟨rfl, rfl, rfl, by decide +kernel, rfl, by decide +kernel, by decide +kernel⟩
structure Txt (K : PySem.W.Frag) (mg : Str → Option Value) where
  D_is_whole : DefT K mg "is_whole" s_is_whole ["value"]
  D_ratio : DefT K mg "ratio" s_ratio ["top", "bottom"]
  D_is_ratio : DefT K mg "is_ratio" s_is_ratio ["value"]
  D_pair_of : DefT K mg "pair_of" s_pair_of ["number"]
  D_ratio_sum : DefT K mg "ratio_sum" s_ratio_sum ["one", "other"]
  D_ratio_difference : DefT K mg "ratio_difference" s_ratio_difference ["one", "other"]
  D_ratio_product : DefT K mg "ratio_product" s_ratio_product ["one", "other"]
  D_ratio_quotient : DefT K mg "ratio_quotient" s_ratio_quotient ["one", "other"]
  D_is_integer : DefT K mg "is_integer" s_is_integer ["value"]
  D_is_fraction : DefT K mg "is_fraction" s_is_fraction ["value"]
  D_is_number : DefT K mg "is_number" s_is_number ["value"]
  D_lowest : DefT K mg "lowest" s_lowest ["top", "bottom"]
  D_plus : DefT K mg "plus" s_plus ["one", "other"]
  D_minus : DefT K mg "minus" s_minus ["one", "other"]
  D_times : DefT K mg "times" s_times ["one", "other"]
  D_over : DefT K mg "over" s_over ["one", "other"]
  D_compare : DefT K mg "compare" s_compare ["one", "other"]
  D_floor_of : DefT K mg "floor_of" s_floor_of ["number"]
  D_rest_of : DefT K mg "rest_of" s_rest_of ["number"]
  D__pair : DefT K mg "_pair" s__pair ["value"]
  D_rank_and_minor : DefT K mg "rank_and_minor" s_rank_and_minor ["rows"]
  D__first_spot : DefT K mg "_first_spot" s__first_spot ["rows", "at"]
  D__exchanged : DefT K mg "_exchanged" s__exchanged ["values", "one", "other"]
  D__lessened : DefT K mg "_lessened" s__lessened ["row", "top", "at", "last"]
  D_determinant_of_rows : DefT K mg "determinant_of_rows" s_determinant_of_rows ["rows"]
  D__unit_row : DefT K mg "_unit_row" s__unit_row ["place", "size"]
  D_undone_rows : DefT K mg "undone_rows" s_undone_rows ["rows"]
  D_factors_of_rows : DefT K mg "factors_of_rows" s_factors_of_rows ["rows"]
  D__with_clear_cross : DefT K mg "_with_clear_cross" s__with_clear_cross ["rows", "at", "modulus"]
  D__with_clear_column : DefT K mg "_with_clear_column" s__with_clear_column ["rows", "at", "modulus"]
  D__mixed : DefT K mg "_mixed" s__mixed ["row", "other", "shares", "modulus"]
  D__shared_divisor : DefT K mg "_shared_divisor" s__shared_divisor ["one", "other"]
  D__divisor_chain : DefT K mg "_divisor_chain" s__divisor_chain ["values"]
  D_is_table : DefT K mg "is_table" s_is_table ["value"]
  D__is_table_row : DefT K mg "_is_table_row" s__is_table_row ["value"]
  D_rank : DefT K mg "rank" s_rank ["table"]
  D_factors : DefT K mg "factors" s_factors ["table"]
  D_determinant : DefT K mg "determinant" s_determinant ["table"]
  D_undone : DefT K mg "undone" s_undone ["table"]
  D__check_table : DefT K mg "_check_table" s__check_table ["value"]
  D__check_square : DefT K mg "_check_square" s__check_square ["value"]
  D__law_dice : DefT K mg "_law_dice" s__law_dice ["script", "spot"]
  D__law_roll : DefT K mg "_law_roll" s__law_roll ["dice", "total"]
  D__law_pick : DefT K mg "_law_pick" s__law_pick ["dice", "items"]
  D__law_tr_single : DefT K mg "_law_tr_single" s__law_tr_single ["size", "place"]
  D__law_fault : DefT K mg "_law_fault" s__law_fault ["call"]
  D__law_numbers_right : DefT K mg "_law_numbers_right" s__law_numbers_right ["dice"]
  D__law_tables_right : DefT K mg "_law_tables_right" s__law_tables_right ["dice"]
  D_law : DefT K mg "law" s_law ["script"]
  m_abs : mg "abs" = none
  m_all : mg "all" = none
  m_any : mg "any" = none
  m_bool : mg "bool" = none
  m_enumerate : mg "enumerate" = none
  m_int : mg "int" = none
  m_isinstance : mg "isinstance" = none
  m_len : mg "len" = none
  m_list : mg "list" = none
  m_max : mg "max" = none
  m_min : mg "min" = none
  m_range : mg "range" = none
  m_repr : mg "repr" = none
  m_tuple : mg "tuple" = none
  m_zip : mg "zip" = none
  t__TOO_LONG : Tok
  m__TOO_LONG : mg "_TOO_LONG" = some (.int (1000000000000000000000000000000000000000000000000000000000000) t__TOO_LONG)
  t_MAX_SIDE : Tok
  m_MAX_SIDE : mg "MAX_SIDE" = some (.int (20) t_MAX_SIDE)
  g_gcd : mg "gcd" = some (.builtin "math.gcd")
  E_InvalidTable : ExcT K mg "InvalidTable" [.type "ValueError", .type "Exception", .type "BaseException", .type "object"] "ValueError.__new__"
  E_InvalidFraction : ExcT K mg "InvalidFraction" [.type "ValueError", .type "Exception", .type "BaseException", .type "object"] "ValueError.__new__"
  E_InvalidOperation : ExcT K mg "InvalidOperation" [.type "ValueError", .type "Exception", .type "BaseException", .type "object"] "ValueError.__new__"
  E_InvalidNumber : KeepT K mg "InvalidNumber" "given" [.type "IndexError", .type "LookupError", .type "Exception", .type "BaseException", .type "object"] "IndexError.__new__"
  E_Refused : KeepT K mg "Refused" "reason" [.type "ArithmeticError", .type "Exception", .type "BaseException", .type "object"] "ArithmeticError.__new__"
  exm : ExmAll K [E_InvalidFraction.c, E_InvalidTable.c, E_InvalidOperation.c, E_InvalidNumber.c, E_Refused.c]
section
variable {K : PySem.W.Frag} {mg : Str → Option Value} (T : Txt K mg)
abbrev Txt.a_is_whole : Addr := T.D_is_whole.a
abbrev Txt.d_is_whole : FuncData := T.D_is_whole.d
theorem Txt.F_is_whole : Fun K "is_whole" "is_whole" s_is_whole T.a_is_whole T.d_is_whole := T.D_is_whole.F
theorem Txt.g_is_whole : mg "is_whole" = some (.ref T.a_is_whole) := T.D_is_whole.g
theorem Txt.b_is_whole : Binds K T.d_is_whole ["value"] [] := T.D_is_whole.b
theorem Txt.k_is_whole : PySem.W.keepIn K (.ref T.a_is_whole) = true := T.D_is_whole.F.kp
abbrev Txt.a_ratio : Addr := T.D_ratio.a
abbrev Txt.d_ratio : FuncData := T.D_ratio.d
theorem Txt.F_ratio : Fun K "ratio" "ratio" s_ratio T.a_ratio T.d_ratio := T.D_ratio.F
theorem Txt.g_ratio : mg "ratio" = some (.ref T.a_ratio) := T.D_ratio.g
theorem Txt.b_ratio : Binds K T.d_ratio ["top", "bottom"] [] := T.D_ratio.b
theorem Txt.k_ratio : PySem.W.keepIn K (.ref T.a_ratio) = true := T.D_ratio.F.kp
abbrev Txt.a_is_ratio : Addr := T.D_is_ratio.a
abbrev Txt.d_is_ratio : FuncData := T.D_is_ratio.d
theorem Txt.F_is_ratio : Fun K "is_ratio" "is_ratio" s_is_ratio T.a_is_ratio T.d_is_ratio := T.D_is_ratio.F
theorem Txt.g_is_ratio : mg "is_ratio" = some (.ref T.a_is_ratio) := T.D_is_ratio.g
theorem Txt.b_is_ratio : Binds K T.d_is_ratio ["value"] [] := T.D_is_ratio.b
theorem Txt.k_is_ratio : PySem.W.keepIn K (.ref T.a_is_ratio) = true := T.D_is_ratio.F.kp
abbrev Txt.a_pair_of : Addr := T.D_pair_of.a
abbrev Txt.d_pair_of : FuncData := T.D_pair_of.d
theorem Txt.F_pair_of : Fun K "pair_of" "pair_of" s_pair_of T.a_pair_of T.d_pair_of := T.D_pair_of.F
theorem Txt.g_pair_of : mg "pair_of" = some (.ref T.a_pair_of) := T.D_pair_of.g
theorem Txt.b_pair_of : Binds K T.d_pair_of ["number"] [] := T.D_pair_of.b
theorem Txt.k_pair_of : PySem.W.keepIn K (.ref T.a_pair_of) = true := T.D_pair_of.F.kp
abbrev Txt.a_ratio_sum : Addr := T.D_ratio_sum.a
abbrev Txt.d_ratio_sum : FuncData := T.D_ratio_sum.d
theorem Txt.F_ratio_sum : Fun K "ratio_sum" "ratio_sum" s_ratio_sum T.a_ratio_sum T.d_ratio_sum := T.D_ratio_sum.F
theorem Txt.g_ratio_sum : mg "ratio_sum" = some (.ref T.a_ratio_sum) := T.D_ratio_sum.g
theorem Txt.b_ratio_sum : Binds K T.d_ratio_sum ["one", "other"] [] := T.D_ratio_sum.b
theorem Txt.k_ratio_sum : PySem.W.keepIn K (.ref T.a_ratio_sum) = true := T.D_ratio_sum.F.kp
abbrev Txt.a_ratio_difference : Addr := T.D_ratio_difference.a
abbrev Txt.d_ratio_difference : FuncData := T.D_ratio_difference.d
theorem Txt.F_ratio_difference : Fun K "ratio_difference" "ratio_difference" s_ratio_difference T.a_ratio_difference T.d_ratio_difference := T.D_ratio_difference.F
theorem Txt.g_ratio_difference : mg "ratio_difference" = some (.ref T.a_ratio_difference) := T.D_ratio_difference.g
theorem Txt.b_ratio_difference : Binds K T.d_ratio_difference ["one", "other"] [] := T.D_ratio_difference.b
theorem Txt.k_ratio_difference : PySem.W.keepIn K (.ref T.a_ratio_difference) = true := T.D_ratio_difference.F.kp
abbrev Txt.a_ratio_product : Addr := T.D_ratio_product.a
abbrev Txt.d_ratio_product : FuncData := T.D_ratio_product.d
theorem Txt.F_ratio_product : Fun K "ratio_product" "ratio_product" s_ratio_product T.a_ratio_product T.d_ratio_product := T.D_ratio_product.F
theorem Txt.g_ratio_product : mg "ratio_product" = some (.ref T.a_ratio_product) := T.D_ratio_product.g
theorem Txt.b_ratio_product : Binds K T.d_ratio_product ["one", "other"] [] := T.D_ratio_product.b
theorem Txt.k_ratio_product : PySem.W.keepIn K (.ref T.a_ratio_product) = true := T.D_ratio_product.F.kp
abbrev Txt.a_ratio_quotient : Addr := T.D_ratio_quotient.a
abbrev Txt.d_ratio_quotient : FuncData := T.D_ratio_quotient.d
theorem Txt.F_ratio_quotient : Fun K "ratio_quotient" "ratio_quotient" s_ratio_quotient T.a_ratio_quotient T.d_ratio_quotient := T.D_ratio_quotient.F
theorem Txt.g_ratio_quotient : mg "ratio_quotient" = some (.ref T.a_ratio_quotient) := T.D_ratio_quotient.g
theorem Txt.b_ratio_quotient : Binds K T.d_ratio_quotient ["one", "other"] [] := T.D_ratio_quotient.b
theorem Txt.k_ratio_quotient : PySem.W.keepIn K (.ref T.a_ratio_quotient) = true := T.D_ratio_quotient.F.kp
abbrev Txt.a_is_integer : Addr := T.D_is_integer.a
abbrev Txt.d_is_integer : FuncData := T.D_is_integer.d
theorem Txt.F_is_integer : Fun K "is_integer" "is_integer" s_is_integer T.a_is_integer T.d_is_integer := T.D_is_integer.F
theorem Txt.g_is_integer : mg "is_integer" = some (.ref T.a_is_integer) := T.D_is_integer.g
theorem Txt.b_is_integer : Binds K T.d_is_integer ["value"] [] := T.D_is_integer.b
theorem Txt.k_is_integer : PySem.W.keepIn K (.ref T.a_is_integer) = true := T.D_is_integer.F.kp
abbrev Txt.a_is_fraction : Addr := T.D_is_fraction.a
abbrev Txt.d_is_fraction : FuncData := T.D_is_fraction.d
theorem Txt.F_is_fraction : Fun K "is_fraction" "is_fraction" s_is_fraction T.a_is_fraction T.d_is_fraction := T.D_is_fraction.F
theorem Txt.g_is_fraction : mg "is_fraction" = some (.ref T.a_is_fraction) := T.D_is_fraction.g
theorem Txt.b_is_fraction : Binds K T.d_is_fraction ["value"] [] := T.D_is_fraction.b
theorem Txt.k_is_fraction : PySem.W.keepIn K (.ref T.a_is_fraction) = true := T.D_is_fraction.F.kp
abbrev Txt.a_is_number : Addr := T.D_is_number.a
abbrev Txt.d_is_number : FuncData := T.D_is_number.d
theorem Txt.F_is_number : Fun K "is_number" "is_number" s_is_number T.a_is_number T.d_is_number := T.D_is_number.F
theorem Txt.g_is_number : mg "is_number" = some (.ref T.a_is_number) := T.D_is_number.g
theorem Txt.b_is_number : Binds K T.d_is_number ["value"] [] := T.D_is_number.b
theorem Txt.k_is_number : PySem.W.keepIn K (.ref T.a_is_number) = true := T.D_is_number.F.kp
abbrev Txt.a_lowest : Addr := T.D_lowest.a
abbrev Txt.d_lowest : FuncData := T.D_lowest.d
theorem Txt.F_lowest : Fun K "lowest" "lowest" s_lowest T.a_lowest T.d_lowest := T.D_lowest.F
theorem Txt.g_lowest : mg "lowest" = some (.ref T.a_lowest) := T.D_lowest.g
theorem Txt.b_lowest : Binds K T.d_lowest ["top", "bottom"] [] := T.D_lowest.b
theorem Txt.k_lowest : PySem.W.keepIn K (.ref T.a_lowest) = true := T.D_lowest.F.kp
abbrev Txt.a_plus : Addr := T.D_plus.a
abbrev Txt.d_plus : FuncData := T.D_plus.d
theorem Txt.F_plus : Fun K "plus" "plus" s_plus T.a_plus T.d_plus := T.D_plus.F
theorem Txt.g_plus : mg "plus" = some (.ref T.a_plus) := T.D_plus.g
theorem Txt.b_plus : Binds K T.d_plus ["one", "other"] [] := T.D_plus.b
theorem Txt.k_plus : PySem.W.keepIn K (.ref T.a_plus) = true := T.D_plus.F.kp
abbrev Txt.a_minus : Addr := T.D_minus.a
abbrev Txt.d_minus : FuncData := T.D_minus.d
theorem Txt.F_minus : Fun K "minus" "minus" s_minus T.a_minus T.d_minus := T.D_minus.F
theorem Txt.g_minus : mg "minus" = some (.ref T.a_minus) := T.D_minus.g
theorem Txt.b_minus : Binds K T.d_minus ["one", "other"] [] := T.D_minus.b
theorem Txt.k_minus : PySem.W.keepIn K (.ref T.a_minus) = true := T.D_minus.F.kp
abbrev Txt.a_times : Addr := T.D_times.a
abbrev Txt.d_times : FuncData := T.D_times.d
theorem Txt.F_times : Fun K "times" "times" s_times T.a_times T.d_times := T.D_times.F
theorem Txt.g_times : mg "times" = some (.ref T.a_times) := T.D_times.g
theorem Txt.b_times : Binds K T.d_times ["one", "other"] [] := T.D_times.b
theorem Txt.k_times : PySem.W.keepIn K (.ref T.a_times) = true := T.D_times.F.kp
abbrev Txt.a_over : Addr := T.D_over.a
abbrev Txt.d_over : FuncData := T.D_over.d
theorem Txt.F_over : Fun K "over" "over" s_over T.a_over T.d_over := T.D_over.F
theorem Txt.g_over : mg "over" = some (.ref T.a_over) := T.D_over.g
theorem Txt.b_over : Binds K T.d_over ["one", "other"] [] := T.D_over.b
theorem Txt.k_over : PySem.W.keepIn K (.ref T.a_over) = true := T.D_over.F.kp
abbrev Txt.a_compare : Addr := T.D_compare.a
abbrev Txt.d_compare : FuncData := T.D_compare.d
theorem Txt.F_compare : Fun K "compare" "compare" s_compare T.a_compare T.d_compare := T.D_compare.F
theorem Txt.g_compare : mg "compare" = some (.ref T.a_compare) := T.D_compare.g
theorem Txt.b_compare : Binds K T.d_compare ["one", "other"] [] := T.D_compare.b
theorem Txt.k_compare : PySem.W.keepIn K (.ref T.a_compare) = true := T.D_compare.F.kp
abbrev Txt.a_floor_of : Addr := T.D_floor_of.a
abbrev Txt.d_floor_of : FuncData := T.D_floor_of.d
theorem Txt.F_floor_of : Fun K "floor_of" "floor_of" s_floor_of T.a_floor_of T.d_floor_of := T.D_floor_of.F
theorem Txt.g_floor_of : mg "floor_of" = some (.ref T.a_floor_of) := T.D_floor_of.g
theorem Txt.b_floor_of : Binds K T.d_floor_of ["number"] [] := T.D_floor_of.b
theorem Txt.k_floor_of : PySem.W.keepIn K (.ref T.a_floor_of) = true := T.D_floor_of.F.kp
abbrev Txt.a_rest_of : Addr := T.D_rest_of.a
abbrev Txt.d_rest_of : FuncData := T.D_rest_of.d
theorem Txt.F_rest_of : Fun K "rest_of" "rest_of" s_rest_of T.a_rest_of T.d_rest_of := T.D_rest_of.F
theorem Txt.g_rest_of : mg "rest_of" = some (.ref T.a_rest_of) := T.D_rest_of.g
theorem Txt.b_rest_of : Binds K T.d_rest_of ["number"] [] := T.D_rest_of.b
theorem Txt.k_rest_of : PySem.W.keepIn K (.ref T.a_rest_of) = true := T.D_rest_of.F.kp
abbrev Txt.a__pair : Addr := T.D__pair.a
abbrev Txt.d__pair : FuncData := T.D__pair.d
theorem Txt.F__pair : Fun K "_pair" "_pair" s__pair T.a__pair T.d__pair := T.D__pair.F
theorem Txt.g__pair : mg "_pair" = some (.ref T.a__pair) := T.D__pair.g
theorem Txt.b__pair : Binds K T.d__pair ["value"] [] := T.D__pair.b
theorem Txt.k__pair : PySem.W.keepIn K (.ref T.a__pair) = true := T.D__pair.F.kp
abbrev Txt.a_rank_and_minor : Addr := T.D_rank_and_minor.a
abbrev Txt.d_rank_and_minor : FuncData := T.D_rank_and_minor.d
theorem Txt.F_rank_and_minor : Fun K "rank_and_minor" "rank_and_minor" s_rank_and_minor T.a_rank_and_minor T.d_rank_and_minor := T.D_rank_and_minor.F
theorem Txt.g_rank_and_minor : mg "rank_and_minor" = some (.ref T.a_rank_and_minor) := T.D_rank_and_minor.g
theorem Txt.b_rank_and_minor : Binds K T.d_rank_and_minor ["rows"] [] := T.D_rank_and_minor.b
theorem Txt.k_rank_and_minor : PySem.W.keepIn K (.ref T.a_rank_and_minor) = true := T.D_rank_and_minor.F.kp
abbrev Txt.a__first_spot : Addr := T.D__first_spot.a
abbrev Txt.d__first_spot : FuncData := T.D__first_spot.d
theorem Txt.F__first_spot : Fun K "_first_spot" "_first_spot" s__first_spot T.a__first_spot T.d__first_spot := T.D__first_spot.F
theorem Txt.g__first_spot : mg "_first_spot" = some (.ref T.a__first_spot) := T.D__first_spot.g
theorem Txt.b__first_spot : Binds K T.d__first_spot ["rows", "at"] [] := T.D__first_spot.b
theorem Txt.k__first_spot : PySem.W.keepIn K (.ref T.a__first_spot) = true := T.D__first_spot.F.kp
abbrev Txt.a__exchanged : Addr := T.D__exchanged.a
abbrev Txt.d__exchanged : FuncData := T.D__exchanged.d
theorem Txt.F__exchanged : Fun K "_exchanged" "_exchanged" s__exchanged T.a__exchanged T.d__exchanged := T.D__exchanged.F
theorem Txt.g__exchanged : mg "_exchanged" = some (.ref T.a__exchanged) := T.D__exchanged.g
theorem Txt.b__exchanged : Binds K T.d__exchanged ["values", "one", "other"] [] := T.D__exchanged.b
theorem Txt.k__exchanged : PySem.W.keepIn K (.ref T.a__exchanged) = true := T.D__exchanged.F.kp
abbrev Txt.a__lessened : Addr := T.D__lessened.a
abbrev Txt.d__lessened : FuncData := T.D__lessened.d
theorem Txt.F__lessened : Fun K "_lessened" "_lessened" s__lessened T.a__lessened T.d__lessened := T.D__lessened.F
theorem Txt.g__lessened : mg "_lessened" = some (.ref T.a__lessened) := T.D__lessened.g
theorem Txt.b__lessened : Binds K T.d__lessened ["row", "top", "at", "last"] [] := T.D__lessened.b
theorem Txt.k__lessened : PySem.W.keepIn K (.ref T.a__lessened) = true := T.D__lessened.F.kp
abbrev Txt.a_determinant_of_rows : Addr := T.D_determinant_of_rows.a
abbrev Txt.d_determinant_of_rows : FuncData := T.D_determinant_of_rows.d
theorem Txt.F_determinant_of_rows : Fun K "determinant_of_rows" "determinant_of_rows" s_determinant_of_rows T.a_determinant_of_rows T.d_determinant_of_rows := T.D_determinant_of_rows.F
theorem Txt.g_determinant_of_rows : mg "determinant_of_rows" = some (.ref T.a_determinant_of_rows) := T.D_determinant_of_rows.g
theorem Txt.b_determinant_of_rows : Binds K T.d_determinant_of_rows ["rows"] [] := T.D_determinant_of_rows.b
theorem Txt.k_determinant_of_rows : PySem.W.keepIn K (.ref T.a_determinant_of_rows) = true := T.D_determinant_of_rows.F.kp
abbrev Txt.a__unit_row : Addr := T.D__unit_row.a
abbrev Txt.d__unit_row : FuncData := T.D__unit_row.d
theorem Txt.F__unit_row : Fun K "_unit_row" "_unit_row" s__unit_row T.a__unit_row T.d__unit_row := T.D__unit_row.F
theorem Txt.g__unit_row : mg "_unit_row" = some (.ref T.a__unit_row) := T.D__unit_row.g
theorem Txt.b__unit_row : Binds K T.d__unit_row ["place", "size"] [] := T.D__unit_row.b
theorem Txt.k__unit_row : PySem.W.keepIn K (.ref T.a__unit_row) = true := T.D__unit_row.F.kp
abbrev Txt.a_undone_rows : Addr := T.D_undone_rows.a
abbrev Txt.d_undone_rows : FuncData := T.D_undone_rows.d
theorem Txt.F_undone_rows : Fun K "undone_rows" "undone_rows" s_undone_rows T.a_undone_rows T.d_undone_rows := T.D_undone_rows.F
theorem Txt.g_undone_rows : mg "undone_rows" = some (.ref T.a_undone_rows) := T.D_undone_rows.g
theorem Txt.b_undone_rows : Binds K T.d_undone_rows ["rows"] [] := T.D_undone_rows.b
theorem Txt.k_undone_rows : PySem.W.keepIn K (.ref T.a_undone_rows) = true := T.D_undone_rows.F.kp
abbrev Txt.a_factors_of_rows : Addr := T.D_factors_of_rows.a
abbrev Txt.d_factors_of_rows : FuncData := T.D_factors_of_rows.d
theorem Txt.F_factors_of_rows : Fun K "factors_of_rows" "factors_of_rows" s_factors_of_rows T.a_factors_of_rows T.d_factors_of_rows := T.D_factors_of_rows.F
theorem Txt.g_factors_of_rows : mg "factors_of_rows" = some (.ref T.a_factors_of_rows) := T.D_factors_of_rows.g
theorem Txt.b_factors_of_rows : Binds K T.d_factors_of_rows ["rows"] [] := T.D_factors_of_rows.b
theorem Txt.k_factors_of_rows : PySem.W.keepIn K (.ref T.a_factors_of_rows) = true := T.D_factors_of_rows.F.kp
abbrev Txt.a__with_clear_cross : Addr := T.D__with_clear_cross.a
abbrev Txt.d__with_clear_cross : FuncData := T.D__with_clear_cross.d
theorem Txt.F__with_clear_cross : Fun K "_with_clear_cross" "_with_clear_cross" s__with_clear_cross T.a__with_clear_cross T.d__with_clear_cross := T.D__with_clear_cross.F
theorem Txt.g__with_clear_cross : mg "_with_clear_cross" = some (.ref T.a__with_clear_cross) := T.D__with_clear_cross.g
theorem Txt.b__with_clear_cross : Binds K T.d__with_clear_cross ["rows", "at", "modulus"] [] := T.D__with_clear_cross.b
theorem Txt.k__with_clear_cross : PySem.W.keepIn K (.ref T.a__with_clear_cross) = true := T.D__with_clear_cross.F.kp
abbrev Txt.a__with_clear_column : Addr := T.D__with_clear_column.a
abbrev Txt.d__with_clear_column : FuncData := T.D__with_clear_column.d
theorem Txt.F__with_clear_column : Fun K "_with_clear_column" "_with_clear_column" s__with_clear_column T.a__with_clear_column T.d__with_clear_column := T.D__with_clear_column.F
theorem Txt.g__with_clear_column : mg "_with_clear_column" = some (.ref T.a__with_clear_column) := T.D__with_clear_column.g
theorem Txt.b__with_clear_column : Binds K T.d__with_clear_column ["rows", "at", "modulus"] [] := T.D__with_clear_column.b
theorem Txt.k__with_clear_column : PySem.W.keepIn K (.ref T.a__with_clear_column) = true := T.D__with_clear_column.F.kp
abbrev Txt.a__mixed : Addr := T.D__mixed.a
abbrev Txt.d__mixed : FuncData := T.D__mixed.d
theorem Txt.F__mixed : Fun K "_mixed" "_mixed" s__mixed T.a__mixed T.d__mixed := T.D__mixed.F
theorem Txt.g__mixed : mg "_mixed" = some (.ref T.a__mixed) := T.D__mixed.g
theorem Txt.b__mixed : Binds K T.d__mixed ["row", "other", "shares", "modulus"] [] := T.D__mixed.b
theorem Txt.k__mixed : PySem.W.keepIn K (.ref T.a__mixed) = true := T.D__mixed.F.kp
abbrev Txt.a__shared_divisor : Addr := T.D__shared_divisor.a
abbrev Txt.d__shared_divisor : FuncData := T.D__shared_divisor.d
theorem Txt.F__shared_divisor : Fun K "_shared_divisor" "_shared_divisor" s__shared_divisor T.a__shared_divisor T.d__shared_divisor := T.D__shared_divisor.F
theorem Txt.g__shared_divisor : mg "_shared_divisor" = some (.ref T.a__shared_divisor) := T.D__shared_divisor.g
theorem Txt.b__shared_divisor : Binds K T.d__shared_divisor ["one", "other"] [] := T.D__shared_divisor.b
theorem Txt.k__shared_divisor : PySem.W.keepIn K (.ref T.a__shared_divisor) = true := T.D__shared_divisor.F.kp
abbrev Txt.a__divisor_chain : Addr := T.D__divisor_chain.a
abbrev Txt.d__divisor_chain : FuncData := T.D__divisor_chain.d
theorem Txt.F__divisor_chain : Fun K "_divisor_chain" "_divisor_chain" s__divisor_chain T.a__divisor_chain T.d__divisor_chain := T.D__divisor_chain.F
theorem Txt.g__divisor_chain : mg "_divisor_chain" = some (.ref T.a__divisor_chain) := T.D__divisor_chain.g
theorem Txt.b__divisor_chain : Binds K T.d__divisor_chain ["values"] [] := T.D__divisor_chain.b
theorem Txt.k__divisor_chain : PySem.W.keepIn K (.ref T.a__divisor_chain) = true := T.D__divisor_chain.F.kp
abbrev Txt.a_is_table : Addr := T.D_is_table.a
abbrev Txt.d_is_table : FuncData := T.D_is_table.d
theorem Txt.F_is_table : Fun K "is_table" "is_table" s_is_table T.a_is_table T.d_is_table := T.D_is_table.F
theorem Txt.g_is_table : mg "is_table" = some (.ref T.a_is_table) := T.D_is_table.g
theorem Txt.b_is_table : Binds K T.d_is_table ["value"] [] := T.D_is_table.b
theorem Txt.k_is_table : PySem.W.keepIn K (.ref T.a_is_table) = true := T.D_is_table.F.kp
abbrev Txt.a__is_table_row : Addr := T.D__is_table_row.a
abbrev Txt.d__is_table_row : FuncData := T.D__is_table_row.d
theorem Txt.F__is_table_row : Fun K "_is_table_row" "_is_table_row" s__is_table_row T.a__is_table_row T.d__is_table_row := T.D__is_table_row.F
theorem Txt.g__is_table_row : mg "_is_table_row" = some (.ref T.a__is_table_row) := T.D__is_table_row.g
theorem Txt.b__is_table_row : Binds K T.d__is_table_row ["value"] [] := T.D__is_table_row.b
theorem Txt.k__is_table_row : PySem.W.keepIn K (.ref T.a__is_table_row) = true := T.D__is_table_row.F.kp
abbrev Txt.a_rank : Addr := T.D_rank.a
abbrev Txt.d_rank : FuncData := T.D_rank.d
theorem Txt.F_rank : Fun K "rank" "rank" s_rank T.a_rank T.d_rank := T.D_rank.F
theorem Txt.g_rank : mg "rank" = some (.ref T.a_rank) := T.D_rank.g
theorem Txt.b_rank : Binds K T.d_rank ["table"] [] := T.D_rank.b
theorem Txt.k_rank : PySem.W.keepIn K (.ref T.a_rank) = true := T.D_rank.F.kp
abbrev Txt.a_factors : Addr := T.D_factors.a
abbrev Txt.d_factors : FuncData := T.D_factors.d
theorem Txt.F_factors : Fun K "factors" "factors" s_factors T.a_factors T.d_factors := T.D_factors.F
theorem Txt.g_factors : mg "factors" = some (.ref T.a_factors) := T.D_factors.g
theorem Txt.b_factors : Binds K T.d_factors ["table"] [] := T.D_factors.b
theorem Txt.k_factors : PySem.W.keepIn K (.ref T.a_factors) = true := T.D_factors.F.kp
abbrev Txt.a_determinant : Addr := T.D_determinant.a
abbrev Txt.d_determinant : FuncData := T.D_determinant.d
theorem Txt.F_determinant : Fun K "determinant" "determinant" s_determinant T.a_determinant T.d_determinant := T.D_determinant.F
theorem Txt.g_determinant : mg "determinant" = some (.ref T.a_determinant) := T.D_determinant.g
theorem Txt.b_determinant : Binds K T.d_determinant ["table"] [] := T.D_determinant.b
theorem Txt.k_determinant : PySem.W.keepIn K (.ref T.a_determinant) = true := T.D_determinant.F.kp
abbrev Txt.a_undone : Addr := T.D_undone.a
abbrev Txt.d_undone : FuncData := T.D_undone.d
theorem Txt.F_undone : Fun K "undone" "undone" s_undone T.a_undone T.d_undone := T.D_undone.F
theorem Txt.g_undone : mg "undone" = some (.ref T.a_undone) := T.D_undone.g
theorem Txt.b_undone : Binds K T.d_undone ["table"] [] := T.D_undone.b
theorem Txt.k_undone : PySem.W.keepIn K (.ref T.a_undone) = true := T.D_undone.F.kp
abbrev Txt.a__check_table : Addr := T.D__check_table.a
abbrev Txt.d__check_table : FuncData := T.D__check_table.d
theorem Txt.F__check_table : Fun K "_check_table" "_check_table" s__check_table T.a__check_table T.d__check_table := T.D__check_table.F
theorem Txt.g__check_table : mg "_check_table" = some (.ref T.a__check_table) := T.D__check_table.g
theorem Txt.b__check_table : Binds K T.d__check_table ["value"] [] := T.D__check_table.b
theorem Txt.k__check_table : PySem.W.keepIn K (.ref T.a__check_table) = true := T.D__check_table.F.kp
abbrev Txt.a__check_square : Addr := T.D__check_square.a
abbrev Txt.d__check_square : FuncData := T.D__check_square.d
theorem Txt.F__check_square : Fun K "_check_square" "_check_square" s__check_square T.a__check_square T.d__check_square := T.D__check_square.F
theorem Txt.g__check_square : mg "_check_square" = some (.ref T.a__check_square) := T.D__check_square.g
theorem Txt.b__check_square : Binds K T.d__check_square ["value"] [] := T.D__check_square.b
theorem Txt.k__check_square : PySem.W.keepIn K (.ref T.a__check_square) = true := T.D__check_square.F.kp
abbrev Txt.a__law_dice : Addr := T.D__law_dice.a
abbrev Txt.d__law_dice : FuncData := T.D__law_dice.d
theorem Txt.F__law_dice : Fun K "_law_dice" "_law_dice" s__law_dice T.a__law_dice T.d__law_dice := T.D__law_dice.F
theorem Txt.g__law_dice : mg "_law_dice" = some (.ref T.a__law_dice) := T.D__law_dice.g
theorem Txt.b__law_dice : Binds K T.d__law_dice ["script", "spot"] [] := T.D__law_dice.b
theorem Txt.k__law_dice : PySem.W.keepIn K (.ref T.a__law_dice) = true := T.D__law_dice.F.kp
abbrev Txt.a__law_roll : Addr := T.D__law_roll.a
abbrev Txt.d__law_roll : FuncData := T.D__law_roll.d
theorem Txt.F__law_roll : Fun K "_law_roll" "_law_roll" s__law_roll T.a__law_roll T.d__law_roll := T.D__law_roll.F
theorem Txt.g__law_roll : mg "_law_roll" = some (.ref T.a__law_roll) := T.D__law_roll.g
theorem Txt.b__law_roll : Binds K T.d__law_roll ["dice", "total"] [] := T.D__law_roll.b
theorem Txt.k__law_roll : PySem.W.keepIn K (.ref T.a__law_roll) = true := T.D__law_roll.F.kp
abbrev Txt.a__law_pick : Addr := T.D__law_pick.a
abbrev Txt.d__law_pick : FuncData := T.D__law_pick.d
theorem Txt.F__law_pick : Fun K "_law_pick" "_law_pick" s__law_pick T.a__law_pick T.d__law_pick := T.D__law_pick.F
theorem Txt.g__law_pick : mg "_law_pick" = some (.ref T.a__law_pick) := T.D__law_pick.g
theorem Txt.b__law_pick : Binds K T.d__law_pick ["dice", "items"] [] := T.D__law_pick.b
theorem Txt.k__law_pick : PySem.W.keepIn K (.ref T.a__law_pick) = true := T.D__law_pick.F.kp
abbrev Txt.a__law_tr_single : Addr := T.D__law_tr_single.a
abbrev Txt.d__law_tr_single : FuncData := T.D__law_tr_single.d
theorem Txt.F__law_tr_single : Fun K "_law_tr_single" "_law_tr_single" s__law_tr_single T.a__law_tr_single T.d__law_tr_single := T.D__law_tr_single.F
theorem Txt.g__law_tr_single : mg "_law_tr_single" = some (.ref T.a__law_tr_single) := T.D__law_tr_single.g
theorem Txt.b__law_tr_single : Binds K T.d__law_tr_single ["size", "place"] [] := T.D__law_tr_single.b
theorem Txt.k__law_tr_single : PySem.W.keepIn K (.ref T.a__law_tr_single) = true := T.D__law_tr_single.F.kp
abbrev Txt.a__law_fault : Addr := T.D__law_fault.a
abbrev Txt.d__law_fault : FuncData := T.D__law_fault.d
theorem Txt.F__law_fault : Fun K "_law_fault" "_law_fault" s__law_fault T.a__law_fault T.d__law_fault := T.D__law_fault.F
theorem Txt.g__law_fault : mg "_law_fault" = some (.ref T.a__law_fault) := T.D__law_fault.g
theorem Txt.b__law_fault : Binds K T.d__law_fault ["call"] [] := T.D__law_fault.b
theorem Txt.k__law_fault : PySem.W.keepIn K (.ref T.a__law_fault) = true := T.D__law_fault.F.kp
abbrev Txt.a__law_numbers_right : Addr := T.D__law_numbers_right.a
abbrev Txt.d__law_numbers_right : FuncData := T.D__law_numbers_right.d
theorem Txt.F__law_numbers_right : Fun K "_law_numbers_right" "_law_numbers_right" s__law_numbers_right T.a__law_numbers_right T.d__law_numbers_right := T.D__law_numbers_right.F
theorem Txt.g__law_numbers_right : mg "_law_numbers_right" = some (.ref T.a__law_numbers_right) := T.D__law_numbers_right.g
theorem Txt.b__law_numbers_right : Binds K T.d__law_numbers_right ["dice"] [] := T.D__law_numbers_right.b
theorem Txt.k__law_numbers_right : PySem.W.keepIn K (.ref T.a__law_numbers_right) = true := T.D__law_numbers_right.F.kp
abbrev Txt.a__law_tables_right : Addr := T.D__law_tables_right.a
abbrev Txt.d__law_tables_right : FuncData := T.D__law_tables_right.d
theorem Txt.F__law_tables_right : Fun K "_law_tables_right" "_law_tables_right" s__law_tables_right T.a__law_tables_right T.d__law_tables_right := T.D__law_tables_right.F
theorem Txt.g__law_tables_right : mg "_law_tables_right" = some (.ref T.a__law_tables_right) := T.D__law_tables_right.g
theorem Txt.b__law_tables_right : Binds K T.d__law_tables_right ["dice"] [] := T.D__law_tables_right.b
theorem Txt.k__law_tables_right : PySem.W.keepIn K (.ref T.a__law_tables_right) = true := T.D__law_tables_right.F.kp
abbrev Txt.a_law : Addr := T.D_law.a
abbrev Txt.d_law : FuncData := T.D_law.d
theorem Txt.F_law : Fun K "law" "law" s_law T.a_law T.d_law := T.D_law.F
theorem Txt.g_law : mg "law" = some (.ref T.a_law) := T.D_law.g
theorem Txt.b_law : Binds K T.d_law ["script"] [] := T.D_law.b
theorem Txt.k_law : PySem.W.keepIn K (.ref T.a_law) = true := T.D_law.F.kp
abbrev Txt.c_InvalidTable : Addr := T.E_InvalidTable.c
abbrev Txt.c_InvalidFraction : Addr := T.E_InvalidFraction.c
abbrev Txt.c_InvalidOperation : Addr := T.E_InvalidOperation.c
abbrev Txt.c_InvalidNumber : Addr := T.E_InvalidNumber.c
abbrev Txt.c_Refused : Addr := T.E_Refused.c
end
end K02

set_option Elab.async false
set_option linter.all false
set_option maxRecDepth 100000
set_option maxHeartbeats 4000000
namespace K02
open PySem PySem.Spec PyProof.Rows L2 TT
local macro_rules | `(tactic| walk_at "ev") => `(tactic| simp only [L2.start, tRet, tRetN, tSeq, tNext, tNever, tDrop, tIfS, tAsg, tPar, gName, tVar, tC, tOp, tUn, tTest, tB, tAnd, tOr, tNot, tAndV, tOrV, tNotV, tIf, tChain, tCons, tNil, tTup, tLst, wipe, tBM, tSl, tPart, tNoPart, tCB, tCall, tCallS, tRaiseK, tKept, WE, rI0, rI, rU, rEq, rNe, rGcd, scal, gNil, gCons, gSub, Int.zero_sub,
  List.length_cons, List.length_nil, List.map_cons, List.map_nil, List.replicate, List.cons_append, List.nil_append, List.append_nil, List.set_cons_zero, List.set_cons_succ, List.set_nil, List.getElem?_cons_zero, List.getElem?_cons_succ, List.getElem?_nil, List.drop_zero, List.drop_succ_cons, List.drop_nil, List.length_drop,
  Option.some.injEq, V.int.injEq, V.bl.injEq, V.ref.injEq, List.cons.injEq, and_true, true_and, and_assoc, exists_and_left, exists_and_right, exists_eq_left, exists_eq_left', exists_eq', exists_eq, if_true, if_false, Bool.false_eq_true, ite_true, ite_false, eq_self, reduceCtorEq, szle0, szle1, szle2, szle3, szle4, szle5, szle6, szle8, szle13, false_and, and_false, exists_false, exists_const, or_false, false_or, Bool.true_and, Bool.false_and, Bool.and_true, Bool.and_false, decide_eq_true_eq, Bool.not_true, Bool.not_false, Bool.not_not, Nat.reduceAdd, Int.reduceNeg, Int.reduceToNat, Int.reducePow, Int.cast_ofNat_Int, Int.reduceEq, Int.reduceLT, Int.reduceLE, Int.reduceAdd, Int.reduceMul, Int.reduceSub, decide_true, decide_false, Bool.not_eq_true', decide_eq_false_iff_not, not_false_eq_true, not_true_eq_false])
local macro_rules | `(tactic| walk_at "go") => `(tactic| repeat (first | walk_at "ev" | (refine isi_int (by assumption) ?_) | (refine isi_bool (by assumption) ?_) | (refine isi_tup (by assumption) ?_) | (refine use_J (by assumption) ?_) | (refine use_J td_int ?_) | (refine tFor_rng ?_) | (refine tFor_list ?_) | (refine tFor_tup ?_) | (refine tLc_rng ?_) | (refine tLc_zip ?_) | (refine tLc_enum ?_) | (refine tLc_rng2 ?_) | (refine tFor_rng2 ?_) | (refine tupL_of (by assumption) ?_) | (refine lstL_of (by assumption) ?_) | (refine lstT_of (by assumption) ?_) | (refine tLc_list ?_) | (refine tLc_tup ?_) | (refine ixT_of (by assumption) rfl ?_) | (refine ixL_of (by assumption) rfl ?_) | (refine lenT_of (by assumption) ?_) | (refine lenL_of (by assumption) ?_) | (refine gtup_of (by assumption) rfl ?_) | (refine ⟨cmul (by assumption) (by assumption) (by decide), ?_⟩) | (refine ⟨Or.inl (by decide), ?_⟩) | (refine ⟨Or.inr (by decide), ?_⟩) | (refine ixL_of upd_same rfl ?_) | (refine setL_of (by assumption) (by rfl) ?_) | (refine ⟨(show CPow _ _ from ⟨by decide, by decide, by decide⟩), ?_⟩) | (refine ⟨(show _ ≤ sizeLine by decide), ?_⟩)))

section
variable {P : Program} {w : World} {K : PySem.W.Frag} {mg : Str → Option Value} {base : Heap}
theorem len_J {f : Da → Bool} : ∀ vs H Q E, spJ f vs H Q E → vs.length = 1 := fun vs H Q E h => by
  obtain ⟨x, d, rfl, _⟩ := h
  rfl
theorem ok_is_whole (T : Txt K mg) : FnOk P w K mg base CX0 1 T.a_is_whole T.d_is_whole ["value"] (spJ isWhole) := by
  refine T.F_is_whole.ok sc_is_whole len_J (fun cdv A outer s H vs Q E hr h => ⟨_, (pss_one (ps_ret (pe_and (pe_callB call_isi (by rfl) T.m_isinstance bt_isinstance (pa_cons (pv 0) (pa_cons (pe_bltn (v := V.ty "int") (by rfl) T.m_int bt_int rfl) pa_nil))) (pe_one (pe_not (pe_callB call_isi (by rfl) T.m_isinstance bt_isinstance (pa_cons (pv 0) (pa_cons (pe_bltn (v := V.ty "bool") (by rfl) T.m_bool bt_bool rfl) pa_nil)))))))), ?_⟩)
  obtain ⟨x, d, rfl, ty, q⟩ := h
  walk_at "go"
  cases d <;> simp only [Da.isInt] <;> walk_at "go" <;> exact q
def sp_ratio : Sp := fun vs H Q _ => ∃ t b, vs = [.int t, .int b] ∧ b ≠ 0 ∧ B 1000 b ∧ ∀ H' v, Same H H' → Fr H' v (Rat.divInt t b) → Q v H'
theorem ok_ratio (T : Txt K mg) : FnOk P w K mg base CX0 1 T.a_ratio T.d_ratio ["top", "bottom"] sp_ratio := by
  refine T.F_ratio.ok sc_ratio (fun vs H Q E h => ?_) (fun cdv A outer s H vs Q E hr h => ⟨_, (pss_cons (ps_set (i := 2) sc_ratio.nd rfl (Or.inl rfl) (pe_callBfun cr_gcd (by rfl) T.g_gcd (pa_cons (pv 0) (pa_cons (pv 1) pa_nil))))
      (pss_cons (ps_if (pt_cmpR op_lt (pv 1) pe_int (nomark _)) (pss_one (ps_set (i := 2) sc_ratio.nd rfl (Or.inl rfl) (pe_un un_neg (pv 2)))) pss_nil)
      (pss_one (ps_ret (pe_tup (pa_cons (pe_op op_fdivNW (pv 0) (pv 2)) (pa_cons (pe_op op_fdivNW (pv 1) (pv 2)) pa_nil))))))), ?_⟩)
  · obtain ⟨t, b, rfl, _⟩ := h
    rfl
  · obtain ⟨t, b, rfl, h0, hb, q⟩ := h
    walk_at "go"
    have e1 := fdiv_gcd_num t b h0
    have e2 := fdiv_gcd_den t b h0
    have hg : ((Nat.gcd t.natAbs b.natAbs : Nat) : Int) ≠ 0 := by
      intro h; have := Nat.gcd_eq_zero_iff.mp (Int.ofNat.inj h); omega
    have hB : B 1000 ((Nat.gcd t.natAbs b.natAbs : Nat) : Int) := by
      refine Nat.lt_of_le_of_lt ?_ hb
      exact Nat.le_of_dvd (by omega) (Nat.gcd_dvd_right _ _)
    by_cases h : b < 0
    · rw [if_pos h] at e1 e2 ⊢
      refine ⟨cdiv (by omega) hB.neg (by decide), cdiv (by omega) hB.neg (by decide), fun p hp => q _ _ (same_upd hp) (Fr.upd e1 e2)⟩
    · rw [if_neg h] at e1 e2 ⊢
      refine ⟨cdiv (by omega) hB (by decide), cdiv (by omega) hB (by decide), fun p hp => q _ _ (same_upd hp) (Fr.upd e1 e2)⟩
theorem isRatio_long {a b c : Da} {r : List Da} : isRatio (.tup (a :: b :: c :: r)) = false := by
  unfold isRatio; split
  · rename_i h; simp at h
  · rfl
theorem isWhole_int {d : Da} (h : isWhole d = true) : ∃ i, d = .int i := by
  cases d <;> simp [isWhole] at h ⊢
theorem ok_is_ratio (T : Txt K mg) : FnOk P w K mg base CX0 2 T.a_is_ratio T.d_is_ratio ["value"] (spJ isRatio) := by
  have G_is_whole := ok_is_whole (P := P) (w := w) (base := base) T
  refine T.F_is_ratio.ok sc_is_ratio len_J (fun cdv A outer s H vs Q E hr h => ⟨_, (pss_cons (ps_if (PW.pt (pw_or (pt_not (pt_val (pe_callB call_isi (by rfl) T.m_isinstance bt_isinstance (pa_cons (pv 0) (pa_cons (pe_bltn (v := V.ty "tuple") (by rfl) T.m_tuple bt_tuple rfl) pa_nil))))) (pw_or1 (pt_cmpR op_ne (pe_callB call_lenN (by rfl) T.m_len bt_len (pa_cons (pv 0) pa_nil)) pe_int (nomark _))))) (pss_one (ps_ret pe_bl)) pss_nil)
      (pss_cons (ps_if (PW.pt (pw_or (pt_not (pt_val (pe_call (G_is_whole.mono (by decide)) hr (by rfl) T.g_is_whole T.k_is_whole T.b_is_whole .nil pass0 (pa_cons (pe_ix ix_tup (pv 0) pe_int (fun _ _ => rfl)) pa_nil)))) (pw_or1 (pt_not (pt_val (pe_call (G_is_whole.mono (by decide)) hr (by rfl) T.g_is_whole T.k_is_whole T.b_is_whole .nil pass0 (pa_cons (pe_ix ix_tup (pv 0) pe_int (fun _ _ => rfl)) pa_nil))))))) (pss_one (ps_ret pe_bl)) pss_nil)
      (pss_one (ps_ret (pe_and (pe_cmpR op_gt (pe_ix ix_tup (pv 0) pe_int (fun _ _ => rfl)) pe_int (nomark _)) (pe_one (pe_cmpR op_eq (pe_callBfun cr_gcd (by rfl) T.g_gcd (pa_cons (pe_ix ix_tup (pv 0) pe_int (fun _ _ => rfl)) (pa_cons (pe_ix ix_tup (pv 0) pe_int (fun _ _ => rfl)) pa_nil))) pe_int (nomark _)))))))), ?_⟩)
  obtain ⟨x, d, rfl, ty, q⟩ := h
  walk_at "go"
  cases d with
  | tup ds =>
    simp only [Da.isTup]
    walk_at "go"
    simp only [Td] at ty
    obtain ⟨p, vs, rfl, hp, hv⟩ := ty
    match ds, hv with
    | [], hv =>
      simp only [TdL] at hv; subst hv
      walk_at "go"
      exact q
    | [a], hv =>
      simp only [TdL] at hv
      obtain ⟨va, _, rfl, ha, rfl⟩ := hv
      walk_at "go"
      have e : isRatio (.tup [a]) = false := by cases a <;> rfl
      rw [e] at q
      exact q
    | [a, b], hv =>
      simp only [TdL] at hv
      obtain ⟨va, _, rfl, ha, vb, _, rfl, hb, rfl⟩ := hv
      walk_at "go"
      cases hwa : isWhole a with
      | false =>
        walk_at "go"
        have e : isRatio (.tup [a, b]) = false := by cases a <;> first | rfl | (simp only [isWhole] at hwa; cases hwa)
        rw [e] at q; exact q
      | true => ?_
      walk_at "go"
      cases hwb : isWhole b with
      | false =>
        walk_at "go"
        have e : isRatio (.tup [a, b]) = false := by cases a <;> cases b <;> first | rfl | (simp only [isWhole] at hwb; cases hwb)
        rw [e] at q; exact q
      | true => ?_
      obtain ⟨a, rfl⟩ := isWhole_int hwa
      obtain ⟨b, rfl⟩ := isWhole_int hwb
      simp only [Td] at ha hb
      subst ha hb
      walk_at "go"
      simp only [isRatio] at q
      by_cases h : 0 < b
      · rw [if_pos h]; rw [decide_eq_true h] at q; walk_at "go"; exact q
      · rw [if_neg h]; rw [decide_eq_false h] at q; exact q
    | a :: b :: c :: r, hv =>
      simp only [TdL] at hv
      obtain ⟨va, _, rfl, ha, vb, _, rfl, hb, vc, vr, rfl, hc, hr'⟩ := hv
      walk_at "go"
      rw [if_pos (by omega)]
      rw [isRatio_long] at q
      exact q
  | _ =>
    simp only [Da.isTup]
    walk_at "go"
    exact q
def spNu : Sp := fun vs H Q _ => ∃ x q, vs = [x] ∧ Nu H x q ∧ B 60 q.num ∧ B 60 q.den ∧ ∀ H' v, Same H H' → Fr H' v q → Q v H'
theorem ok_pair_of (T : Txt K mg) : FnOk P w K mg base CX0 1 T.a_pair_of T.d_pair_of ["number"] spNu := by
  refine T.F_pair_of.ok sc_pair_of (fun vs H Q E h => ?_) (fun cdv A outer s H vs Q E hr h => ⟨_, (pss_cons (ps_if (pt_val (pe_callB call_isi (by rfl) T.m_isinstance bt_isinstance (pa_cons (pv 0) (pa_cons (pe_bltn (v := V.ty "tuple") (by rfl) T.m_tuple bt_tuple rfl) pa_nil)))) (pss_one (ps_ret (pv 0))) pss_nil)
      (pss_one (ps_ret (pe_tup (pa_cons (pv 0) (pa_cons pe_int pa_nil)))))), ?_⟩)
  · obtain ⟨x, q, rfl, _⟩ := h
    rfl
  · obtain ⟨x, q, rfl, hx, b1, b2, k⟩ := h
    obtain ⟨d, td, ⟨rfl, h1, rfl⟩ | ⟨rfl, hf⟩⟩ := hx.td
    · walk_at "go"
      simp only [Da.isTup]
      walk_at "go"
      exact fun p hp => k _ _ (same_upd hp) (Fr.upd rfl (by rw [h1]; rfl))
    · walk_at "go"
      simp only [Da.isTup]
      walk_at "go"
      exact k _ _ (Same.refl H) hf
/-- two fractions -/
def sp2 (C : Rat → Rat → Prop) (f : Rat → Rat → Rat) : Sp := fun vs H Q _ => ∃ x y p q, vs = [x, y] ∧ Fr H x p ∧ Fr H y q ∧ C p q ∧ B 100 p.num ∧ B 100 p.den ∧ B 100 q.num ∧ B 100 q.den ∧ ∀ H' v, Same H H' → Fr H' v (f p q) → Q v H'
theorem len_2 {C : Rat → Rat → Prop} {f : Rat → Rat → Rat} : ∀ vs H Q E, sp2 C f vs H Q E → vs.length = 2 := fun vs H Q E h => by
  obtain ⟨x, y, p, q, rfl, _⟩ := h
  rfl
theorem den_ne (q : Rat) : (q.den : Int) ≠ 0 := by have := q.den_nz; omega
theorem ok_ratio_sum (T : Txt K mg) : FnOk P w K mg base CX0 2 T.a_ratio_sum T.d_ratio_sum ["one", "other"] (sp2 (fun _ _ => True) fun p q => p + q) := by
  have G_ratio := ok_ratio (P := P) (w := w) (base := base) T
  refine T.F_ratio_sum.ok sc_ratio_sum len_2 (fun cdv A outer s H vs Q E hr h => ⟨_, (pss_one (ps_ret (pe_call (G_ratio.mono (by decide)) hr (by rfl) T.g_ratio T.k_ratio T.b_ratio .nil pass0 (pa_cons (pe_op op_add (pe_op op_mulW (pe_ix ix_tup (pv 0) pe_int (fun _ _ => rfl)) (pe_ix ix_tup (pv 1) pe_int (fun _ _ => rfl))) (pe_op op_mulW (pe_ix ix_tup (pv 1) pe_int (fun _ _ => rfl)) (pe_ix ix_tup (pv 0) pe_int (fun _ _ => rfl)))) (pa_cons (pe_op op_mulW (pe_ix ix_tup (pv 0) pe_int (fun _ _ => rfl)) (pe_ix ix_tup (pv 1) pe_int (fun _ _ => rfl))) pa_nil))))), ?_⟩)
  obtain ⟨x, y, p, q, rfl, ⟨a, rfl, ha⟩, ⟨b, rfl, hb⟩, _, b1, b2, b3, b4, k⟩ := h
  walk_at "go"
  refine ⟨_, _, rfl, Int.mul_ne_zero (den_ne p) (den_ne q), (b2.mul b4).mono (by decide), fun H' v s f => k H' v s ?_⟩
  have e : p + q = Rat.divInt (p.num * q.den + q.num * p.den) (p.den * q.den) := by
    have := Rat.divInt_add_divInt p.num q.num (den_ne p) (den_ne q)
    rw [Rat.num_divInt_den, Rat.num_divInt_den] at this
    exact this
  dsimp only; rw [e]; exact f
theorem ok_ratio_difference (T : Txt K mg) : FnOk P w K mg base CX0 2 T.a_ratio_difference T.d_ratio_difference ["one", "other"] (sp2 (fun _ _ => True) fun p q => p - q) := by
  have G_ratio := ok_ratio (P := P) (w := w) (base := base) T
  refine T.F_ratio_difference.ok sc_ratio_difference len_2 (fun cdv A outer s H vs Q E hr h => ⟨_, (pss_one (ps_ret (pe_call (G_ratio.mono (by decide)) hr (by rfl) T.g_ratio T.k_ratio T.b_ratio .nil pass0 (pa_cons (pe_op op_sub (pe_op op_mulW (pe_ix ix_tup (pv 0) pe_int (fun _ _ => rfl)) (pe_ix ix_tup (pv 1) pe_int (fun _ _ => rfl))) (pe_op op_mulW (pe_ix ix_tup (pv 1) pe_int (fun _ _ => rfl)) (pe_ix ix_tup (pv 0) pe_int (fun _ _ => rfl)))) (pa_cons (pe_op op_mulW (pe_ix ix_tup (pv 0) pe_int (fun _ _ => rfl)) (pe_ix ix_tup (pv 1) pe_int (fun _ _ => rfl))) pa_nil))))), ?_⟩)
  obtain ⟨x, y, p, q, rfl, ⟨a, rfl, ha⟩, ⟨b, rfl, hb⟩, _, b1, b2, b3, b4, k⟩ := h
  walk_at "go"
  refine ⟨_, _, rfl, Int.mul_ne_zero (den_ne p) (den_ne q), (b2.mul b4).mono (by decide), fun H' v s f => k H' v s ?_⟩
  have e : p - q = Rat.divInt (p.num * q.den - q.num * p.den) (p.den * q.den) := by
    have := Rat.divInt_sub_divInt p.num q.num (den_ne p) (den_ne q)
    rw [Rat.num_divInt_den, Rat.num_divInt_den] at this
    exact this
  dsimp only; rw [e]; exact f
theorem ok_ratio_product (T : Txt K mg) : FnOk P w K mg base CX0 2 T.a_ratio_product T.d_ratio_product ["one", "other"] (sp2 (fun _ _ => True) fun p q => p * q) := by
  have G_ratio := ok_ratio (P := P) (w := w) (base := base) T
  refine T.F_ratio_product.ok sc_ratio_product len_2 (fun cdv A outer s H vs Q E hr h => ⟨_, (pss_one (ps_ret (pe_call (G_ratio.mono (by decide)) hr (by rfl) T.g_ratio T.k_ratio T.b_ratio .nil pass0 (pa_cons (pe_op op_mulW (pe_ix ix_tup (pv 0) pe_int (fun _ _ => rfl)) (pe_ix ix_tup (pv 1) pe_int (fun _ _ => rfl))) (pa_cons (pe_op op_mulW (pe_ix ix_tup (pv 0) pe_int (fun _ _ => rfl)) (pe_ix ix_tup (pv 1) pe_int (fun _ _ => rfl))) pa_nil))))), ?_⟩)
  obtain ⟨x, y, p, q, rfl, ⟨a, rfl, ha⟩, ⟨b, rfl, hb⟩, _, b1, b2, b3, b4, k⟩ := h
  walk_at "go"
  refine ⟨_, _, rfl, Int.mul_ne_zero (den_ne p) (den_ne q), (b2.mul b4).mono (by decide), fun H' v s f => k H' v s ?_⟩
  have e : p * q = Rat.divInt (p.num * q.num) (p.den * q.den) := by
    have := Rat.divInt_mul_divInt p.num q.num (d₁ := p.den) (d₂ := q.den)
    rw [Rat.num_divInt_den, Rat.num_divInt_den] at this
    exact this
  dsimp only; rw [e]; exact f
theorem ok_ratio_quotient (T : Txt K mg) : FnOk P w K mg base CX0 2 T.a_ratio_quotient T.d_ratio_quotient ["one", "other"] (sp2 (fun _ q => q ≠ 0) fun p q => p / q) := by
  have G_ratio := ok_ratio (P := P) (w := w) (base := base) T
  refine T.F_ratio_quotient.ok sc_ratio_quotient len_2 (fun cdv A outer s H vs Q E hr h => ⟨_, (pss_one (ps_ret (pe_call (G_ratio.mono (by decide)) hr (by rfl) T.g_ratio T.k_ratio T.b_ratio .nil pass0 (pa_cons (pe_op op_mulW (pe_ix ix_tup (pv 0) pe_int (fun _ _ => rfl)) (pe_ix ix_tup (pv 1) pe_int (fun _ _ => rfl))) (pa_cons (pe_op op_mulW (pe_ix ix_tup (pv 0) pe_int (fun _ _ => rfl)) (pe_ix ix_tup (pv 1) pe_int (fun _ _ => rfl))) pa_nil))))), ?_⟩)
  obtain ⟨x, y, p, q, rfl, ⟨a, rfl, ha⟩, ⟨b, rfl, hb⟩, q0, b1, b2, b3, b4, k⟩ := h
  walk_at "go"
  have n0 : q.num ≠ 0 := fun h => q0 (Rat.num_eq_zero.mp h)
  refine ⟨_, _, rfl, Int.mul_ne_zero (den_ne p) n0, (b2.mul b3).mono (by decide), fun H' v s f => k H' v s ?_⟩
  have e : p / q = Rat.divInt (p.num * q.den) (p.den * q.num) := by
    have := Rat.divInt_mul_divInt p.num q.den (d₁ := p.den) (d₂ := q.num)
    rw [Rat.num_divInt_den] at this
    rw [Rat.div_def, Rat.inv_def]
    exact this
  dsimp only; rw [e]; exact f
theorem ok_is_integer (T : Txt K mg) : FnOk P w K mg base CX0 2 T.a_is_integer T.d_is_integer ["value"] (spJ isInteger) := by
  have G_is_whole := ok_is_whole (P := P) (w := w) (base := base) T
  refine T.F_is_integer.ok sc_is_integer len_J (fun cdv A outer s H vs Q E hr h => ⟨_, (pss_one (ps_ret (pe_and (pe_call (G_is_whole.mono (by decide)) hr (by rfl) T.g_is_whole T.k_is_whole T.b_is_whole .nil pass0 (pa_cons (pv 0) pa_nil)) (pe_one (pe_chain op_lt op_lt (pe_un un_neg (pe_glob (v := V.int (1000000000000000000000000000000000000000000000000000000000000)) rfl T.m__TOO_LONG ⟨_, rfl⟩)) (pv 0) (pe_glob (v := V.int (1000000000000000000000000000000000000000000000000000000000000)) rfl T.m__TOO_LONG ⟨_, rfl⟩)))))), ?_⟩)
  obtain ⟨x, d, rfl, ty, q⟩ := h
  walk_at "go"
  cases d <;> simp only [isWhole] <;> walk_at "go" <;> first | exact q | skip
  rename_i i
  simp only [Td] at ty
  subst ty
  walk_at "go"
  simp only [isInteger] at q
  split
  · rename_i h; rw [decide_eq_true h] at q; exact q
  · rename_i h; rw [decide_eq_false h] at q; exact q
theorem isFraction_no {d : Da} (h : isRatio d = false) : isFraction d = false := by
  unfold isFraction; split
  · rw [h]; rfl
  · rfl
theorem isRatio_yes {d : Da} (h : isRatio d = true) : ∃ a b, d = .tup [.int a, .int b] := by
  unfold isRatio at h; split at h
  · exact ⟨_, _, rfl⟩
  · cases h
theorem ok_is_fraction (T : Txt K mg) : FnOk P w K mg base CX0 3 T.a_is_fraction T.d_is_fraction ["value"] (spJ isFraction) := by
  have G_is_ratio := ok_is_ratio (P := P) (w := w) (base := base) T
  have G_is_integer := ok_is_integer (P := P) (w := w) (base := base) T
  refine T.F_is_fraction.ok sc_is_fraction len_J (fun cdv A outer s H vs Q E hr h => ⟨_, (pss_one (ps_ret (pe_and (pe_call (G_is_ratio.mono (by decide)) hr (by rfl) T.g_is_ratio T.k_is_ratio T.b_is_ratio .nil pass0 (pa_cons (pv 0) pa_nil)) (pe_and (pe_call (G_is_integer.mono (by decide)) hr (by rfl) T.g_is_integer T.k_is_integer T.b_is_integer .nil pass0 (pa_cons (pe_ix ix_tup (pv 0) pe_int (fun _ _ => rfl)) pa_nil)) (pe_one (pe_call (G_is_integer.mono (by decide)) hr (by rfl) T.g_is_integer T.k_is_integer T.b_is_integer .nil pass0 (pa_cons (pe_ix ix_tup (pv 0) pe_int (fun _ _ => rfl)) pa_nil))))))), ?_⟩)
  obtain ⟨x, d, rfl, ty, q⟩ := h
  walk_at "go"
  cases h : isRatio d with
  | false => walk_at "go"; rw [isFraction_no h] at q; exact q
  | true =>
    walk_at "go"
    obtain ⟨a, b, rfl⟩ := isRatio_yes h
    simp only [Td, TdL] at ty
    obtain ⟨p, _, rfl, hp, _, _, rfl, rfl, _, _, rfl, rfl, rfl⟩ := ty
    simp only [isFraction, h] at q
    have t1 := td_int (H := H) (i := a)
    have t2 := td_int (H := H) (i := b)
    walk_at "go"
    cases h1 : isInteger (.int a) <;> rw [h1] at q <;> walk_at "go" <;> exact q
theorem ok_is_number (T : Txt K mg) : FnOk P w K mg base CX0 4 T.a_is_number T.d_is_number ["value"] (spJ isNumber) := by
  have G_is_fraction := ok_is_fraction (P := P) (w := w) (base := base) T
  have G_is_integer := ok_is_integer (P := P) (w := w) (base := base) T
  refine T.F_is_number.ok sc_is_number len_J (fun cdv A outer s H vs Q E hr h => ⟨_, (pss_one (ps_ret (pe_or (pe_call (G_is_integer.mono (by decide)) hr (by rfl) T.g_is_integer T.k_is_integer T.b_is_integer .nil pass0 (pa_cons (pv 0) pa_nil)) (pe_one (pe_call (G_is_fraction.mono (by decide)) hr (by rfl) T.g_is_fraction T.k_is_fraction T.b_is_fraction .nil pass0 (pa_cons (pv 0) pa_nil)))))), ?_⟩)
  obtain ⟨x, d, rfl, ty, q⟩ := h
  walk_at "go"
  simp only [isNumber] at q
  cases h1 : isInteger d <;> rw [h1] at q <;> walk_at "go" <;> exact q
theorem B60 {x : Int} (h : B 60 x) : isInteger (.int x) = true := by
  unfold B at h
  simp only [isInteger, Bool.and_eq_true, decide_eq_true_eq]
  omega
theorem low_gcd (q : Rat) : isRatio (.tup [.int q.num, .int q.den]) = true := by
  simp only [isRatio, Bool.and_eq_true, decide_eq_true_eq]
  refine ⟨by have := q.den_nz; omega, ?_⟩
  have := q.reduced
  unfold Nat.Coprime at this
  rw [Int.natAbs_natCast, this]; rfl
theorem fr_number {q : Rat} (b1 : B 60 q.num) (b2 : B 60 q.den) : isFraction (.tup [.int q.num, .int q.den]) = true := by
  simp only [isFraction, low_gcd, B60 b1, B60 b2, Bool.and_self]
theorem nu_number {H : Hp} {x : V} {q : Rat} (h : Nu H x q) (b1 : B 60 q.num) (b2 : B 60 q.den) : ∃ d, Td H d x ∧ isNumber d = true := by
  obtain ⟨d, td, ⟨rfl, _, rfl⟩ | ⟨rfl, hf⟩⟩ := h.td
  · exact ⟨_, td, by simp only [isNumber, B60 b1, Bool.true_or]⟩
  · exact ⟨_, td, by simp only [isNumber, fr_number b1 b2, Bool.or_true]⟩
theorem len_Nu : ∀ vs H Q E, spNu vs H Q E → vs.length = 1 := fun vs H Q E h => by
  obtain ⟨x, q, rfl, _⟩ := h
  rfl
/-- as what kind of thing a number was asked for -/
def BadFst (H : Hp) (x y : V) : Prop := ∃ d e, Td H d x ∧ Td H e y ∧ (isNumber d = false ∨ (∃ q, Nu H x q ∧ B 60 q.num ∧ B 60 q.den) ∧ isNumber e = false)
def sp__pair (C : Addr) : Sp := fun vs H Q E => ∃ x, vs = [x] ∧ ((∃ d, Td H d x ∧ isNumber d = false ∧ E (.ref C) none H) ∨ ∃ q, Nu H x q ∧ B 60 q.num ∧ B 60 q.den ∧ ∀ H' v, Same H H' → Fr H' v q → Q v H')
theorem ok__pair (T : Txt K mg) : FnOk P w K mg base (L2.CX P w) 5 T.a__pair T.d__pair ["value"] (sp__pair T.c_InvalidFraction) := by
  have G_is_number := ok_is_number (P := P) (w := w) (base := base) T
  have G_pair_of := ok_pair_of (P := P) (w := w) (base := base) T
  refine T.F__pair.okX sc__pair (fun vs H Q E h => ?_) (fun cdv A outer s H vs Q E hr h => ⟨_, (pss_cons (ps_if (pt_not (pt_val (pe_call (G_is_number.mono (by decide)) hr (by rfl) T.g_is_number T.k_is_number T.b_is_number .nil pass0 (pa_cons (pv 0) pa_nil)))) (pss_one (ps_raise rfl (takes_of rfl rfl rfl rfl) (pmk_own F.excBase_ValueError T.E_InvalidFraction.e T.E_InvalidFraction.g T.E_InvalidFraction.k (raises_own T.E_InvalidFraction.s T.E_InvalidFraction.y) (by rfl)))) pss_nil)
      (pss_one (ps_ret (pe_call (G_pair_of.mono (by decide)) hr (by rfl) T.g_pair_of T.k_pair_of T.b_pair_of .nil pass0 (pa_cons (pv 0) pa_nil))))), ?_⟩)
  · obtain ⟨x, rfl, _⟩ := h
    rfl
  obtain ⟨x, rfl, ⟨d, td, hd, k⟩ | ⟨q, hx, b1, b2, k⟩⟩ := h
  · walk_at "go"
    rw [hd]
    walk_at "go"
    exact k
  · obtain ⟨d, td, hd⟩ := nu_number hx b1 b2
    walk_at "go"
    rw [hd]
    walk_at "go"
    exact ⟨x, q, rfl, hx, b1, b2, k⟩
/-- two numbers, one of them none -/
def sp_two (C : Addr) : Sp := fun vs H _ E => ∃ x y, vs = [x, y] ∧ BadFst H x y ∧ ∀ H', Same H H' → E (.ref C) none H'
theorem len_two {C : Addr} : ∀ vs H Q E, sp_two C vs H Q E → vs.length = 2 := fun vs H Q E h => by
  obtain ⟨x, y, rfl, _⟩ := h
  rfl
/-- how both are read: the first one that is none decides -/
theorem two_pairs {C : Addr} {H : Hp} {x y : V} {E : XK} {Q : V → V → Hp → Prop} (b : BadFst H x y) (k : ∀ H', Same H H' → E (.ref C) none H') : sp__pair C [x] H (fun v H1 => sp__pair C [y] H1 (fun u H2 => Q v u H2) E) E := by
  obtain ⟨d, e, td, te, hd | ⟨⟨q, hx, b1, b2⟩, he⟩⟩ := b
  · exact ⟨x, rfl, .inl ⟨d, td, hd, k H (Same.refl H)⟩⟩
  · exact ⟨x, rfl, .inr ⟨q, hx, b1, b2, fun H1 v s1 f1 => ⟨y, rfl, .inl ⟨e, te.same s1 _ _, he, k H1 s1⟩⟩⟩⟩
theorem ok_plus (T : Txt K mg) : FnOk P w K mg base (L2.CX P w) 6 T.a_plus T.d_plus ["one", "other"] (sp_two T.c_InvalidFraction) := by
  have G_ratio_sum := ok_ratio_sum (P := P) (w := w) (base := base) T
  have G__pair := ok__pair (P := P) (w := w) (base := base) T
  refine T.F_plus.okX sc_plus len_two (fun cdv A outer s H vs Q E hr h => ⟨_, (pss_one (ps_ret (pe_call (G_ratio_sum.mono (by decide)) hr (by rfl) T.g_ratio_sum T.k_ratio_sum T.b_ratio_sum .nil pass0 (pa_cons (pe_callS (G__pair.mono (by decide)) hr (by rfl) T.g__pair T.k__pair T.b__pair (fun σ => passAt (takes_of rfl rfl rfl rfl) σ) (pa_cons (pv 0) pa_nil)) (pa_cons (pe_callS (G__pair.mono (by decide)) hr (by rfl) T.g__pair T.k__pair T.b__pair (fun σ => passAt (takes_of rfl rfl rfl rfl) σ) (pa_cons (pv 1) pa_nil)) pa_nil))))), ?_⟩)
  obtain ⟨x, y, rfl, b, k⟩ := h
  walk_at "go"
  exact two_pairs b k
theorem ok_minus (T : Txt K mg) : FnOk P w K mg base (L2.CX P w) 6 T.a_minus T.d_minus ["one", "other"] (sp_two T.c_InvalidFraction) := by
  have G_ratio_difference := ok_ratio_difference (P := P) (w := w) (base := base) T
  have G__pair := ok__pair (P := P) (w := w) (base := base) T
  refine T.F_minus.okX sc_minus len_two (fun cdv A outer s H vs Q E hr h => ⟨_, (pss_one (ps_ret (pe_call (G_ratio_difference.mono (by decide)) hr (by rfl) T.g_ratio_difference T.k_ratio_difference T.b_ratio_difference .nil pass0 (pa_cons (pe_callS (G__pair.mono (by decide)) hr (by rfl) T.g__pair T.k__pair T.b__pair (fun σ => passAt (takes_of rfl rfl rfl rfl) σ) (pa_cons (pv 0) pa_nil)) (pa_cons (pe_callS (G__pair.mono (by decide)) hr (by rfl) T.g__pair T.k__pair T.b__pair (fun σ => passAt (takes_of rfl rfl rfl rfl) σ) (pa_cons (pv 1) pa_nil)) pa_nil))))), ?_⟩)
  obtain ⟨x, y, rfl, b, k⟩ := h
  walk_at "go"
  exact two_pairs b k
theorem ok_times (T : Txt K mg) : FnOk P w K mg base (L2.CX P w) 6 T.a_times T.d_times ["one", "other"] (sp_two T.c_InvalidFraction) := by
  have G_ratio_product := ok_ratio_product (P := P) (w := w) (base := base) T
  have G__pair := ok__pair (P := P) (w := w) (base := base) T
  refine T.F_times.okX sc_times len_two (fun cdv A outer s H vs Q E hr h => ⟨_, (pss_one (ps_ret (pe_call (G_ratio_product.mono (by decide)) hr (by rfl) T.g_ratio_product T.k_ratio_product T.b_ratio_product .nil pass0 (pa_cons (pe_callS (G__pair.mono (by decide)) hr (by rfl) T.g__pair T.k__pair T.b__pair (fun σ => passAt (takes_of rfl rfl rfl rfl) σ) (pa_cons (pv 0) pa_nil)) (pa_cons (pe_callS (G__pair.mono (by decide)) hr (by rfl) T.g__pair T.k__pair T.b__pair (fun σ => passAt (takes_of rfl rfl rfl rfl) σ) (pa_cons (pv 1) pa_nil)) pa_nil))))), ?_⟩)
  obtain ⟨x, y, rfl, b, k⟩ := h
  walk_at "go"
  exact two_pairs b k
theorem ok_compare (T : Txt K mg) : FnOk P w K mg base (L2.CX P w) 6 T.a_compare T.d_compare ["one", "other"] (sp_two T.c_InvalidFraction) := by
  have G_ratio_difference := ok_ratio_difference (P := P) (w := w) (base := base) T
  have G__pair := ok__pair (P := P) (w := w) (base := base) T
  refine T.F_compare.okX sc_compare len_two (fun cdv A outer s H vs Q E hr h => ⟨_, (pss_cons (ps_asg (pe_call (G_ratio_difference.mono (by decide)) hr (by rfl) T.g_ratio_difference T.k_ratio_difference T.b_ratio_difference .nil pass0 (pa_cons (pe_callS (G__pair.mono (by decide)) hr (by rfl) T.g__pair T.k__pair T.b__pair (fun σ => passAt (takes_of rfl rfl rfl rfl) σ) (pa_cons (pv 0) pa_nil)) (pa_cons (pe_callS (G__pair.mono (by decide)) hr (by rfl) T.g__pair T.k__pair T.b__pair (fun σ => passAt (takes_of rfl rfl rfl rfl) σ) (pa_cons (pv 1) pa_nil)) pa_nil))) (pg_tup rfl (pgs_cons (pg_name (i := 2) sc_compare.nd rfl (Or.inl rfl)) (pgs_cons (pg_name (i := 3) sc_compare.nd rfl (Or.inl rfl)) pgs_nil))))
      (pss_cons (ps_if (pt_cmpR op_eq (pv 2) pe_int (nomark _)) (pss_one (ps_ret pe_int)) pss_nil)
      (pss_one (ps_ret (pe_ifExp (pt_cmpR op_gt (pv 2) pe_int (nomark _)) pe_int (pe_un un_neg pe_int)))))), ?_⟩)
  obtain ⟨x, y, rfl, b, k⟩ := h
  walk_at "go"
  exact two_pairs b k
/-- over: also by nought, also let -/
def sp_over (C D : Addr) : Sp := fun vs H Q E => ∃ x y, vs = [x, y] ∧ ((BadFst H x y ∧ ∀ H', Same H H' → E (.ref C) none H') ∨ ∃ p q, Nu H x p ∧ Nu H y q ∧ B 60 p.num ∧ B 60 p.den ∧ B 60 q.num ∧ B 60 q.den ∧
  ((q = 0 ∧ ∀ H', Same H H' → E (.ref D) none H') ∨ (q ≠ 0 ∧ ∀ H' v, Same H H' → Fr H' v (p / q) → Q v H')))
theorem ok_over (T : Txt K mg) : FnOk P w K mg base (L2.CX P w) 6 T.a_over T.d_over ["one", "other"] (sp_over T.c_InvalidFraction T.c_InvalidOperation) := by
  have G_ratio_quotient := ok_ratio_quotient (P := P) (w := w) (base := base) T
  have G__pair := ok__pair (P := P) (w := w) (base := base) T
  refine T.F_over.okX sc_over (fun vs H Q E h => ?_) (fun cdv A outer s H vs Q E hr h => ⟨_, (pss_cons (ps_par (i := 2) (j := 3) rfl sc_over.nd rfl rfl (by decide) rfl rfl (pa_cons (pe_callS (G__pair.mono (by decide)) hr (by rfl) T.g__pair T.k__pair T.b__pair (fun σ => passAt (takes_of rfl rfl rfl rfl) σ) (pa_cons (pv 0) pa_nil)) (pa_cons (pe_callS (G__pair.mono (by decide)) hr (by rfl) T.g__pair T.k__pair T.b__pair (fun σ => passAt (takes_of rfl rfl rfl rfl) σ) (pa_cons (pv 1) pa_nil)) pa_nil)) (by rfl))
      (pss_cons (ps_if (pt_cmpR op_eq (pe_ix ix_tup (pv 3) pe_int (fun _ _ => rfl)) pe_int (nomark _)) (pss_one (ps_raise rfl (takes_of rfl rfl rfl rfl) (pmk_own F.excBase_ValueError T.E_InvalidOperation.e T.E_InvalidOperation.g T.E_InvalidOperation.k (raises_own T.E_InvalidOperation.s T.E_InvalidOperation.y) (by rfl)))) pss_nil)
      (pss_one (ps_ret (pe_call (G_ratio_quotient.mono (by decide)) hr (by rfl) T.g_ratio_quotient T.k_ratio_quotient T.b_ratio_quotient .nil pass0 (pa_cons (pv 2) (pa_cons (pv 3) pa_nil))))))), ?_⟩)
  · obtain ⟨x, y, rfl, _⟩ := h
    rfl
  obtain ⟨x, y, rfl, ⟨b, k⟩ | ⟨p, q, hx, hy, b1, b2, b3, b4, k⟩⟩ := h
  · walk_at "go"
    exact two_pairs b k
  · walk_at "go"
    refine ⟨x, rfl, .inr ⟨p, hx, b1, b2, fun H1 u s1 f1 => ⟨y, rfl, .inr ⟨q, hy.same s1, b3, b4, fun H2 v s2 f2 => ?_⟩⟩⟩⟩
    obtain ⟨pv, rfl, hv⟩ := f2
    walk_at "go"
    rcases k with ⟨q0, k⟩ | ⟨q0, k⟩
    · rw [if_pos (by rw [q0]; rfl)]
      walk_at "go"
      exact k H2 (s1.trans s2)
    · rw [if_neg (fun h => q0 (Rat.num_eq_zero.mp h))]
      exact ⟨_, _, _, _, rfl, f1.same s2, ⟨pv, rfl, hv⟩, q0, b1.mono (by decide), b2.mono (by decide), b3.mono (by decide), b4.mono (by decide), fun H3 z s3 f3 => k H3 z (s1.trans (s2.trans s3)) f3⟩
def sp_one (C : Addr) : Sp := fun vs H _ E => ∃ x d, vs = [x] ∧ Td H d x ∧ isNumber d = false ∧ E (.ref C) none H
theorem len_one {C : Addr} : ∀ vs H Q E, sp_one C vs H Q E → vs.length = 1 := fun vs H Q E h => by
  obtain ⟨x, d, rfl, _⟩ := h
  rfl
theorem ok_floor_of (T : Txt K mg) : FnOk P w K mg base (L2.CX P w) 6 T.a_floor_of T.d_floor_of ["number"] (sp_one T.c_InvalidFraction) := by
  have G__pair := ok__pair (P := P) (w := w) (base := base) T
  refine T.F_floor_of.okX sc_floor_of len_one (fun cdv A outer s H vs Q E hr h => ⟨_, (pss_cons (ps_asg (pe_callS (G__pair.mono (by decide)) hr (by rfl) T.g__pair T.k__pair T.b__pair (fun σ => passAt (takes_of rfl rfl rfl rfl) σ) (pa_cons (pv 0) pa_nil)) (pg_tup rfl (pgs_cons (pg_name (i := 1) sc_floor_of.nd rfl (Or.inl rfl)) (pgs_cons (pg_name (i := 2) sc_floor_of.nd rfl (Or.inl rfl)) pgs_nil))))
      (pss_one (ps_ret (pe_op op_fdivNW (pv 1) (pv 2))))), ?_⟩)
  obtain ⟨x, d, rfl, td, hd, k⟩ := h
  walk_at "go"
  exact ⟨x, rfl, .inl ⟨d, td, hd, k⟩⟩
theorem ok_rest_of (T : Txt K mg) : FnOk P w K mg base (L2.CX P w) 6 T.a_rest_of T.d_rest_of ["number"] (sp_one T.c_InvalidFraction) := by
  have G__pair := ok__pair (P := P) (w := w) (base := base) T
  have G_ratio := ok_ratio (P := P) (w := w) (base := base) T
  refine T.F_rest_of.okX sc_rest_of len_one (fun cdv A outer s H vs Q E hr h => ⟨_, (pss_cons (ps_asg (pe_callS (G__pair.mono (by decide)) hr (by rfl) T.g__pair T.k__pair T.b__pair (fun σ => passAt (takes_of rfl rfl rfl rfl) σ) (pa_cons (pv 0) pa_nil)) (pg_tup rfl (pgs_cons (pg_name (i := 1) sc_rest_of.nd rfl (Or.inl rfl)) (pgs_cons (pg_name (i := 2) sc_rest_of.nd rfl (Or.inl rfl)) pgs_nil))))
      (pss_one (ps_ret (pe_call (G_ratio.mono (by decide)) hr (by rfl) T.g_ratio T.k_ratio T.b_ratio .nil pass0 (pa_cons (pe_op op_mod (pv 1) (pv 2)) (pa_cons (pv 2) pa_nil)))))), ?_⟩)
  obtain ⟨x, d, rfl, td, hd, k⟩ := h
  walk_at "go"
  exact ⟨x, rfl, .inl ⟨d, td, hd, k⟩⟩
/-- an error that keeps v -/
def Keeps (C : Addr) (n : Str) (v : V) (H : Hp) (E : XK) : Prop := ∀ dd, H dd = none → E (.ref C) (some dd) (upd H dd (.xd [(n, v)]))
def sp_lowest (C : Addr) : Sp := fun vs H Q E => ∃ x y d e, vs = [x, y] ∧ Td H d x ∧ Td H e y ∧ ((isInteger d = false ∧ Keeps C "given" x H E) ∨ (isInteger d = true ∧ (isInteger e = false ∨ e = .int 0) ∧ Keeps C "given" y H E) ∨
  ∃ t b, d = .int t ∧ e = .int b ∧ b ≠ 0 ∧ B 60 t ∧ B 60 b ∧ ∀ H' v, Same H H' → Fr H' v (Rat.divInt t b) → Q v H')
theorem ok_lowest (T : Txt K mg) : FnOk P w K mg base (L2.CX P w) 3 T.a_lowest T.d_lowest ["top", "bottom"] (sp_lowest T.c_InvalidNumber) := by
  have G_is_integer := ok_is_integer (P := P) (w := w) (base := base) T
  have G_ratio := ok_ratio (P := P) (w := w) (base := base) T
  refine T.F_lowest.okX sc_lowest (fun vs H Q E h => ?_) (fun cdv A outer s H vs Q E hr h => ⟨_, (pss_cons (ps_if (pt_not (pt_val (pe_call (G_is_integer.mono (by decide)) hr (by rfl) T.g_is_integer T.k_is_integer T.b_is_integer .nil pass0 (pa_cons (pv 0) pa_nil)))) (pss_one (ps_raiseK rfl kb_IndexError kn_given T.E_InvalidNumber.x hr (by decide) (takes_of rfl rfl rfl rfl) (pa_cons (pv 0) pa_nil) (by rfl))) pss_nil)
      (pss_cons (ps_if (PW.pt (pw_or (pt_not (pt_val (pe_call (G_is_integer.mono (by decide)) hr (by rfl) T.g_is_integer T.k_is_integer T.b_is_integer .nil pass0 (pa_cons (pv 1) pa_nil)))) (pw_or1 (pt_cmpR op_eq (pv 1) pe_int (nomark _))))) (pss_one (ps_raiseK rfl kb_IndexError kn_given T.E_InvalidNumber.x hr (by decide) (takes_of rfl rfl rfl rfl) (pa_cons (pv 1) pa_nil) (by rfl))) pss_nil)
      (pss_one (ps_ret (pe_call (G_ratio.mono (by decide)) hr (by rfl) T.g_ratio T.k_ratio T.b_ratio .nil pass0 (pa_cons (pv 0) (pa_cons (pv 1) pa_nil))))))), ?_⟩)
  · obtain ⟨x, y, d, e, rfl, _⟩ := h
    rfl
  obtain ⟨x, y, d, e, rfl, td, te, ⟨hd, k⟩ | ⟨hd, he, k⟩ | ⟨t, b, rfl, rfl, b0, b1, b2, k⟩⟩ := h
  · walk_at "go"
    rw [hd]
    walk_at "go"
    exact k
  · walk_at "go"
    rw [hd]
    walk_at "go"
    rcases he with he | rfl
    · rw [he]
      walk_at "go"
      exact k
    · simp only [Td] at te
      subst te
      have e0 : isInteger (.int 0) = true := by decide
      rw [e0]
      walk_at "go"
      exact k
  · simp only [Td] at td te
    subst td te
    have t1 := td_int (H := H) (i := t)
    have t2 := td_int (H := H) (i := b)
    walk_at "go"
    rw [B60 b1]
    walk_at "go"
    rw [B60 b2]
    walk_at "go"
    rw [if_neg b0]
    exact ⟨_, _, rfl, b0, b2.mono (by decide), k⟩
end
end K02

set_option Elab.async false
set_option linter.all false
set_option maxRecDepth 100000
set_option maxHeartbeats 4000000
namespace K02
open PySem PySem.Spec PyProof.Rows L2 TT LamX
local macro_rules | `(tactic| walk_at "ev") => `(tactic| simp only [L2.start, tRet, tRetN, tSeq, tNext, tNever, tDrop, tIfS, tAsg, tPar, gName, tVar, tC, tOp, tUn, tTest, tB, tAnd, tOr, tNot, tAndV, tOrV, tNotV, tIf, tChain, tCons, tNil, tTup, tLst, wipe, tBM, tSl, tPart, tNoPart, tCB, tCall, tCallS, tRaiseK, tKept, WE, rI0, rI, rU, rEq, rNe, rGcd, scal, gNil, gCons, gSub, Int.zero_sub,
  List.length_cons, List.length_nil, List.map_cons, List.map_nil, List.replicate, List.cons_append, List.nil_append, List.append_nil, List.set_cons_zero, List.set_cons_succ, List.set_nil, List.getElem?_cons_zero, List.getElem?_cons_succ, List.getElem?_nil, List.drop_zero, List.drop_succ_cons, List.drop_nil, List.length_drop,
  Option.some.injEq, V.int.injEq, V.bl.injEq, V.ref.injEq, List.cons.injEq, and_true, true_and, and_assoc, exists_and_left, exists_and_right, exists_eq_left, exists_eq_left', exists_eq', exists_eq, if_true, if_false, Bool.false_eq_true, ite_true, ite_false, eq_self, reduceCtorEq, szle0, szle1, szle2, szle3, szle4, szle5, szle6, szle8, szle13, false_and, and_false, exists_false, exists_const, or_false, false_or, Bool.true_and, Bool.false_and, Bool.and_true, Bool.and_false, decide_eq_true_eq, Bool.not_true, Bool.not_false, Bool.not_not, Nat.reduceAdd, Int.reduceNeg, Int.reduceToNat, Int.reducePow, Int.cast_ofNat_Int, Int.reduceEq, Int.reduceLT, Int.reduceLE, Int.reduceAdd, Int.reduceMul, Int.reduceSub, decide_true, decide_false, Bool.not_eq_true', decide_eq_false_iff_not, not_false_eq_true, not_true_eq_false])
local macro_rules | `(tactic| walk_at "go") => `(tactic| repeat (first | walk_at "ev" | (refine isi_int (by assumption) ?_) | (refine isi_bool (by assumption) ?_) | (refine isi_tup (by assumption) ?_) | (refine use_J (by assumption) ?_) | (refine use_J td_int ?_) | (refine tFor_rng ?_) | (refine tFor_list ?_) | (refine tFor_tup ?_) | (refine tLc_rng ?_) | (refine tLc_zip ?_) | (refine tLc_enum ?_) | (refine tLc_rng2 ?_) | (refine tFor_rng2 ?_) | (refine tupL_of (by assumption) ?_) | (refine lstL_of (by assumption) ?_) | (refine lstT_of (by assumption) ?_) | (refine tLc_list ?_) | (refine tLc_tup ?_) | (refine ixT_of (by assumption) rfl ?_) | (refine ixL_of (by assumption) rfl ?_) | (refine lenT_of (by assumption) ?_) | (refine lenL_of (by assumption) ?_) | (refine gtup_of (by assumption) rfl ?_) | (refine ⟨cmul (by assumption) (by assumption) (by decide), ?_⟩) | (refine ⟨Or.inl (by decide), ?_⟩) | (refine ⟨Or.inr (by decide), ?_⟩) | (refine ixL_of upd_same rfl ?_) | (refine setL_of (by assumption) (by rfl) ?_) | (refine ⟨(show CPow _ _ from ⟨by decide, by decide, by decide⟩), ?_⟩) | (refine ⟨(show _ ≤ sizeLine by decide), ?_⟩)))

/-! ### what the law makes of a call: _law_fault -/
/-- a pair of two texts, as the law tells a call -/
def Pair2 (a b : Str) (Q : VK) (H : Hp) : Prop := ∀ p, H p = none → Q (.ref p) (upd H p (.tup [.str a, .str b]))
/-- what is kept of the error under x, shown -/
def Shows (K : PySem.W.Frag) (x : Str) (d : Option Addr) (H : Hp) (k : Str → Prop) : Prop := ∃ dd v y, d = some dd ∧ H dd = some (.xd [(x, v)]) ∧ Dp K H v y ∧ y.showable = true ∧ y.hasDict = false ∧ y.depth ≤ 50 ∧ y.shown.length ≤ 100000 ∧ k y.shown
section
variable {K : PySem.W.Frag} {mg : Str → Option Value} (T : Txt K mg)
def faultE (Q : VK) : XK := fun cls d H =>
  (cls = .ref T.c_InvalidFraction ∧ Pair2 "refused" "fraction" Q H) ∨ (cls = .ref T.c_InvalidTable ∧ Pair2 "refused" "table" Q H) ∨ (cls = .ref T.c_InvalidOperation ∧ Pair2 "refused" "operation" Q H) ∨
  (cls = .ref T.c_InvalidNumber ∧ Shows K "given" d H fun z => Pair2 "refused" ("number " ++ z) Q H) ∨ (cls = .ref T.c_Refused ∧ Shows K "reason" d H fun z => Pair2 "refused" z Q H)
def TFault : (XK → Hp → VK → Prop) → Hp → VK → Prop := fun tl H Q => tl (faultE T Q) H fun _ H' => Pair2 "let" "" Q H'
end
/-- the state at a raise has its slots -/
theorem takes_len {X : Cx} {W : WX} (tk : Takes X W) : Takes X (fun cls d σ H => σ.length = X.N.length → W cls d σ H) := fun u s' xx => by
  obtain ⟨a, B, sI, pins', σ', H', cls, d, e, J, nb, up, sky, na, os, ag, w⟩ := xx
  exact tk u s' ⟨a, B, sI, pins', σ', H', cls, d, e, J, nb, up, sky, na, os, ag, w J.len⟩
theorem fault_gives {X : Cx} (T : Txt X.K X.mg) (hg : X.A.guards = some []) (hu : X.A.units + 100 < cLine) {g : Addr} {cdg : Value} {q : Str} :
    GivesTo X ["call", "error"] "_law_fault" (defScope s__law_fault) g cdg (defBody s__law_fault) "call" q (TFault T) := by
  intro f c' s H Q tl act hc h
  have hu' : X.A.units + 3 + 64 < cLine := by omega
  refine ⟨_, pss_cons (ps_try_mix (X := (cxOf C8.CX0 X.prog X.w X.K X.mg X.base ["call", "error"] "_law_fault" (defScope s__law_fault) g cdg X.A X.stack s H C8.E0).nox)
      (tb := fun W D σ H => ∃ Ech : XK, (∀ cls d σ' H', σ'.length = 2 → Ech cls d H' → W cls d σ' H') ∧ σ[0]? = some (some (.ref f)) ∧ H c' = some (CodeO c' q) ∧ tl Ech H (fun _ H' => D.nx σ H'))
      rfl rfl LamX.takes0 (fun W pn xe tk _ => ?_)
      (.plain (c := .ref T.c_InvalidFraction) ⟨rfl, by decide, .inl T.E_InvalidFraction.g⟩ (fun a oe cls d pn _ _ => pss_one (ps_ret (pe_tup (pa_cons pe_str (pa_cons pe_str pa_nil)))))
      (.plain (c := .ref T.c_InvalidTable) ⟨rfl, by decide, .inl T.E_InvalidTable.g⟩ (fun a oe cls d pn _ _ => pss_one (ps_ret (pe_tup (pa_cons pe_str (pa_cons pe_str pa_nil)))))
      (.plain (c := .ref T.c_InvalidOperation) ⟨rfl, by decide, .inl T.E_InvalidOperation.g⟩ (fun a oe cls d pn _ _ => pss_one (ps_ret (pe_tup (pa_cons pe_str (pa_cons pe_str pa_nil)))))
      (.named (i := 1) (c := .ref T.c_InvalidNumber) sc__law_fault.nd rfl rfl ⟨rfl, by decide, .inl T.E_InvalidNumber.x.gC⟩ (fun a oe cls d pn hz hf => pss_one (ps_ret (pe_tup (pa_cons pe_str (pa_cons (pe_op op_add_str pe_str (pe_callB (show CallR _ (.builtin "repr") (rRepr X.K) from call_reprD (X := ((cxOf C8.CX0 X.prog X.w X.K X.mg X.base ["call", "error"] "_law_fault" (defScope s__law_fault) g cdg X.A X.stack s H C8.E0).nox).suite a ((a, oe) :: pn)) hg hu') (by rfl) T.m_repr bt_repr (pa_cons (pe_xf T.E_InvalidNumber.f T.E_InvalidNumber.x.noN hz hf (pv 1)) pa_nil))) pa_nil)))))
      (.named (i := 1) (c := .ref T.c_Refused) sc__law_fault.nd rfl rfl ⟨rfl, by decide, .inl T.E_Refused.x.gC⟩ (fun a oe cls d pn hz hf => pss_one (ps_ret (pe_tup (pa_cons pe_str (pa_cons (pe_callB (show CallR _ (.builtin "repr") (rRepr X.K) from call_reprD (X := ((cxOf C8.CX0 X.prog X.w X.K X.mg X.base ["call", "error"] "_law_fault" (defScope s__law_fault) g cdg X.A X.stack s H C8.E0).nox).suite a ((a, oe) :: pn)) hg hu') (by rfl) T.m_repr bt_repr (pa_cons (pe_xf T.E_Refused.f T.E_Refused.x.noN hz hf (pv 1)) pa_nil)) pa_nil)))))
      .nil))))))
    (pss_one (ps_ret (pe_tup (pa_cons pe_str (pa_cons pe_str pa_nil))))), ?_⟩
  · refine ⟨fun pins s' σ H' D I h' => ?_⟩
    obtain ⟨Ech, hW, h1, h2, h3⟩ := h'
    have hp := fun p1 p2 => act _ pn xe Ech p1 p2 (takes_len tk) (fun cls d σ' H' he hl => hW cls d σ' H' hl he)
    exact (pss_one (ps_expr (hp _ _))).run pins s' σ H' D I ⟨h1, h2, h3⟩
  · refine ⟨faultE T Q, fun cls d σ' H' hl e => ?_, rfl, hc, ?_⟩
    · have nf : ∀ {α : Prop}, false = true → α := fun h => by cases h
      have nt : ∀ {α : Prop}, true = false → α := fun h => by cases h
      obtain ⟨u0, u1, rfl⟩ : ∃ u0 u1, σ' = [u0, u1] := by
        match σ', hl with
        | [u0, u1], _ => exact ⟨u0, u1, rfl⟩
      rcases e with ⟨rfl, k⟩ | ⟨rfl, k⟩ | ⟨rfl, k⟩ | ⟨rfl, k⟩ | ⟨rfl, k⟩
      · refine ⟨true, T.exm 0 0 (by simp) (by decide), fun _ a ha => ?_, nt⟩
        walk_at "ev"
        exact k
      · refine ⟨false, T.exm 1 0 (by simp) (by decide), nf, fun _ => ⟨true, T.exm 1 1 (by simp) (by decide), fun _ a ha => ?_, nt⟩⟩
        walk_at "ev"
        exact k
      · refine ⟨false, T.exm 2 0 (by simp) (by decide), nf, fun _ => ⟨false, T.exm 2 1 (by simp) (by decide), nf, fun _ => ⟨true, T.exm 2 2 (by simp) (by decide), fun _ a ha => ?_, nt⟩⟩⟩
        walk_at "ev"
        exact k
      · refine ⟨false, T.exm 3 0 (by simp) (by decide), nf, fun _ => ⟨false, T.exm 3 1 (by simp) (by decide), nf, fun _ => ⟨false, T.exm 3 2 (by simp) (by decide), nf, fun _ => ⟨true, T.exm 3 3 (by simp) (by decide), fun _ a ha => ?_, nt⟩⟩⟩⟩
        obtain ⟨dd, v, y, rfl, hd, hy, y1, y2, y3, y4, k⟩ := k
        unfold tNamed
        walk_at "ev"
        refine ⟨_, rfl, rfl, rfl, dd, _, v, rfl, hd, by simp [List.lookup], v, y, rfl, hy, y1, y2, y3, y4, "number ", rfl, y.shown, rfl, ?_, k⟩
        have e : Str.length "number " = 7 := by decide +kernel
        rw [sizeLine_eq]
        omega
      · refine ⟨false, T.exm 4 0 (by simp) (by decide), nf, fun _ => ⟨false, T.exm 4 1 (by simp) (by decide), nf, fun _ => ⟨false, T.exm 4 2 (by simp) (by decide), nf, fun _ => ⟨false, T.exm 4 3 (by simp) (by decide), nf, fun _ => ⟨true, T.exm 4 4 (by simp) (by decide), fun _ a ha => ?_, nt⟩⟩⟩⟩⟩
        obtain ⟨dd, v, y, rfl, hd, hy, y1, y2, y3, y4, k⟩ := k
        unfold tNamed
        walk_at "ev"
        exact ⟨_, rfl, rfl, rfl, dd, _, v, rfl, hd, by simp [List.lookup], v, y, rfl, hy, y1, y2, y3, y4, k⟩
    · unfold TFault at h
      walk_at "ev"
      exact h
end K02

set_option Elab.async false
set_option linter.all false
set_option maxRecDepth 100000
set_option maxHeartbeats 4000000
namespace K02
open PySem PySem.Spec PyProof.Rows L2 TT
local macro_rules | `(tactic| walk_at "ev") => `(tactic| simp only [L2.start, tRet, tRetN, tSeq, tNext, tNever, tDrop, tIfS, tAsg, tPar, gName, tVar, tC, tOp, tUn, tTest, tB, tAnd, tOr, tNot, tAndV, tOrV, tNotV, tIf, tChain, tCons, tNil, tTup, tLst, wipe, tBM, tSl, tPart, tNoPart, tCB, tCall, tCallS, tRaiseK, tKept, WE, rI0, rI, rU, rEq, rNe, rGcd, scal, gNil, gCons, gSub, Int.zero_sub,
  List.length_cons, List.length_nil, List.map_cons, List.map_nil, List.replicate, List.cons_append, List.nil_append, List.append_nil, List.set_cons_zero, List.set_cons_succ, List.set_nil, List.getElem?_cons_zero, List.getElem?_cons_succ, List.getElem?_nil, List.drop_zero, List.drop_succ_cons, List.drop_nil, List.length_drop,
  Option.some.injEq, V.int.injEq, V.bl.injEq, V.ref.injEq, List.cons.injEq, and_true, true_and, and_assoc, exists_and_left, exists_and_right, exists_eq_left, exists_eq_left', exists_eq', exists_eq, if_true, if_false, Bool.false_eq_true, ite_true, ite_false, eq_self, reduceCtorEq, szle0, szle1, szle2, szle3, szle4, szle5, szle6, szle8, szle13, false_and, and_false, exists_false, exists_const, or_false, false_or, Bool.true_and, Bool.false_and, Bool.and_true, Bool.and_false, decide_eq_true_eq, Bool.not_true, Bool.not_false, Bool.not_not, Nat.reduceAdd, Int.reduceNeg, Int.reduceToNat, Int.reducePow, Int.cast_ofNat_Int, Int.reduceEq, Int.reduceLT, Int.reduceLE, Int.reduceAdd, Int.reduceMul, Int.reduceSub, decide_true, decide_false, Bool.not_eq_true', decide_eq_false_iff_not, not_false_eq_true, not_true_eq_false])
local macro_rules | `(tactic| walk_at "go") => `(tactic| repeat (first | walk_at "ev" | (refine isi_int (by assumption) ?_) | (refine isi_bool (by assumption) ?_) | (refine isi_tup (by assumption) ?_) | (refine use_J (by assumption) ?_) | (refine use_J td_int ?_) | (refine tFor_rng ?_) | (refine tFor_list ?_) | (refine tFor_tup ?_) | (refine tLc_rng ?_) | (refine tLc_zip ?_) | (refine tLc_enum ?_) | (refine tLc_rng2 ?_) | (refine tFor_rng2 ?_) | (refine tupL_of (by assumption) ?_) | (refine lstL_of (by assumption) ?_) | (refine lstT_of (by assumption) ?_) | (refine tLc_list ?_) | (refine tLc_tup ?_) | (refine ixT_of (by assumption) rfl ?_) | (refine ixL_of (by assumption) rfl ?_) | (refine lenT_of (by assumption) ?_) | (refine lenL_of (by assumption) ?_) | (refine gtup_of (by assumption) rfl ?_) | (refine ⟨cmul (by assumption) (by assumption) (by decide), ?_⟩) | (refine ⟨Or.inl (by decide), ?_⟩) | (refine ⟨Or.inr (by decide), ?_⟩) | (refine ixL_of upd_same rfl ?_) | (refine setL_of (by assumption) (by rfl) ?_) | (refine ⟨(show CPow _ _ from ⟨by decide, by decide, by decide⟩), ?_⟩) | (refine ⟨(show _ ≤ sizeLine by decide), ?_⟩)))

section
variable {P : Program} {w : World} {K : PySem.W.Frag} {mg : Str → Option Value} {base : Heap}
def sp_roll : Sp := fun vs H Q _ => ∃ p t, vs = [.ref p, .int t] ∧ Dice H p ∧ 0 < t ∧ B 2000 t ∧ ∀ H' r, 0 ≤ r → r < t → But p H H' → Dice H' p → Q (.int r) H'
theorem ok__law_roll (T : Txt K mg) : FnOk P w K mg base CX0 1 T.a__law_roll T.d__law_roll ["dice", "total"] sp_roll := by
  refine T.F__law_roll.ok sc__law_roll (fun vs H Q E h => ?_) (fun cdv A outer s H vs Q E hr h => ⟨_, (pss_cons (ps_if (pt_cmpR op_gt (pe_ix ix_list (pv 0) pe_int (fun _ _ => rfl)) pe_int (nomark _)) (pss_cons (ps_set (i := 2) sc__law_roll.nd rfl (Or.inl rfl) (pe_op op_mod (pe_callTy call_int1 (by rfl) T.m_int bt_int (pa_cons (pe_ix ix_list (pv 0) pe_int (fun _ _ => rfl)) pa_nil)) (pv 1)))
      (pss_cons (ps_asg (pe_op op_fdivNW (pe_ix ix_list (pv 0) pe_int (fun _ _ => rfl)) (pv 1)) (pg_sub (pv 0) pe_int set_list))
      (pss_one (ps_ret (pv 2))))) pss_nil)
      (pss_cons (ps_asg (pe_op op_add (pe_ix ix_list (pv 0) pe_int (fun _ _ => rfl)) pe_int) (pg_sub (pv 0) pe_int set_list))
      (pss_cons (ps_set (i := 3) sc__law_roll.nd rfl (Or.inl rfl) (pe_op op_mod (pe_callTy call_int1 (by rfl) T.m_int bt_int (pa_cons (pe_op op_add (pe_ix ix_list (pv 0) pe_int (fun _ _ => rfl)) (pe_op op_mul pe_int (pe_ix ix_list (pv 0) pe_int (fun _ _ => rfl)))) pa_nil)) pe_int))
      (pss_cons (ps_set (i := 4) sc__law_roll.nd rfl (Or.inl rfl) (pe_op op_add (pe_op op_mul (pe_op op_mod (pe_callTy call_int1 (by rfl) T.m_int bt_int (pa_cons (pe_op op_add (pe_op op_mulW (pv 3) (pv 3)) (pe_op op_mul pe_int (pe_ix ix_list (pv 0) pe_int (fun _ _ => rfl)))) pa_nil)) pe_int) pe_int) (pv 3)))
      (pss_one (ps_ret (pe_op op_mod (pe_callTy call_int1 (by rfl) T.m_int bt_int (pa_cons (pe_op op_fdivNW (pv 4) pe_int) pa_nil)) (pv 1)))))))), ?_⟩)
  · obtain ⟨p, t, rfl, _⟩ := h
    rfl
  obtain ⟨p, t, rfl, ⟨x, y, z, hp⟩, t0, t1, k⟩ := h
  walk_at "go"
  split
  · walk_at "go"
    refine ⟨t0, ?_⟩
    walk_at "go"
    refine ⟨cdiv (by omega) t1 (by decide), ?_⟩
    walk_at "go"
    refine k _ _ (Int.emod_nonneg _ (by omega)) (Int.emod_lt_of_pos _ t0) But.upd ⟨_, _, _, upd_same⟩
  · walk_at "go"
    have hone : B 19 ((y + 86028121 * (z + 1)) % 2305843009213693669) := by
      unfold B
      have := Int.emod_nonneg (y + 86028121 * (z + 1)) (show (2305843009213693669 : Int) ≠ 0 by decide)
      have := Int.emod_lt_of_pos (y + 86028121 * (z + 1)) (show (0 : Int) < 2305843009213693669 by decide)
      omega
    refine ⟨cmul hone hone (by decide), ?_⟩
    walk_at "go"
    refine ⟨cdiv (k := 5) (by decide) (by unfold B; decide) (by decide), t0, k _ _ (Int.emod_nonneg _ (by omega)) (Int.emod_lt_of_pos _ t0) But.upd ⟨_, _, _, upd_same⟩⟩
def sp_pick : Sp := fun vs H Q _ => ∃ p l xs, vs = [.ref p, .ref l] ∧ Dice H p ∧ H l = some (.lst xs) ∧ xs ≠ [] ∧ xs.length < 1000 ∧ l ≠ p ∧ ∀ H' x, x ∈ xs → But p H H' → Dice H' p → Q x H'
theorem ok__law_pick (T : Txt K mg) : FnOk P w K mg base CX0 2 T.a__law_pick T.d__law_pick ["dice", "items"] sp_pick := by
  have G__law_roll := ok__law_roll (P := P) (w := w) (base := base) T
  refine T.F__law_pick.ok sc__law_pick (fun vs H Q E h => ?_) (fun cdv A outer s H vs Q E hr h => ⟨_, (pss_one (ps_ret (pe_ix ix_list (pv 1) (pe_call (G__law_roll.mono (by decide)) hr (by rfl) T.g__law_roll T.k__law_roll T.b__law_roll .nil pass0 (pa_cons (pv 0) (pa_cons (pe_callB call_lenN (by rfl) T.m_len bt_len (pa_cons (pv 1) pa_nil)) pa_nil))) (fun _ _ => rfl)))), ?_⟩)
  · obtain ⟨p, l, xs, rfl, _⟩ := h
    rfl
  obtain ⟨p, l, xs, rfl, hp, hl, h0, h1, ne, k⟩ := h
  walk_at "go"
  have hlen : 0 < xs.length := List.length_pos_iff.mpr h0
  refine ⟨p, _, rfl, hp, by omega, ?_, fun H' r r0 r1 b d => ?_⟩
  · show (xs.length : Int).natAbs < 10 ^ 2000
    exact Nat.lt_of_lt_of_le (by omega : _ < 10 ^ 3) (Nat.pow_le_pow_right (by decide) (by decide))
  obtain ⟨v, e, m⟩ := atI_some (vs := xs) r0 r1
  exact ixL_of (b _ _ ne hl) e (k H' v m b d)
def sp_dice (K : PySem.W.Frag) : Sp := fun vs H Q _ => ∃ a, ∃ ns : List Int, ∃ i, vs = [.ref a, .int i] ∧ SqL K H a (ns.map V.int) ∧ 0 ≤ i ∧ ∀ p H', H p = none → Same H H' → Dice H' p → Q (.ref p) H'
theorem ok__law_dice (T : Txt K mg) : FnOk P w K mg base CX0 1 T.a__law_dice T.d__law_dice ["script", "spot"] (sp_dice K) := by
  refine T.F__law_dice.ok sc__law_dice (fun vs H Q E h => ?_) (fun cdv A outer s H vs Q E hr h => ⟨_, (pss_cons (ps_set (i := 2) sc__law_dice.nd rfl (Or.inl rfl) (pe_ifExp (pt_cmpR op_lt (pv 1) (pe_callB call_lenN (by rfl) T.m_len bt_len (pa_cons (pv 0) pa_nil)) (nomark _)) (pe_callTy call_int1 (by rfl) T.m_int bt_int (pa_cons (pe_ix ix_list (pv 0) (pv 1) (fun _ _ => rfl)) pa_nil)) (pe_op op_add (pe_op op_mul pe_int (pv 1)) pe_int)))
      (pss_cons (ps_set (i := 3) sc__law_dice.nd rfl (Or.inl rfl) (pe_op op_mod (pe_callB (call_max2 rfl) (by rfl) T.m_max bt_max (pa_cons pe_int (pa_cons (pe_op op_sub (pe_callB call_abs (by rfl) T.m_abs bt_abs (pa_cons (pv 2) pa_nil)) (pe_op op_pow pe_int pe_int)) pa_nil))) (pe_op op_mulW (pe_op op_pow pe_int pe_int) (pe_op op_pow pe_int pe_int))))
      (pss_one (ps_ret (pe_lst (pa_cons (pv 3) (pa_cons (pe_op op_add (pe_op op_add (pe_op op_add (pe_op op_mul (pe_op op_mod (pe_callB call_abs (by rfl) T.m_abs bt_abs (pa_cons (pv 2) pa_nil)) pe_int) pe_int) (pe_op op_mul pe_int (pv 1))) (pe_op op_mul pe_int (pe_callTy call_int1 (by rfl) T.m_int bt_int (pa_cons (pe_cmpR op_lt (pv 2) pe_int (nomark _)) pa_nil)))) pe_int) (pa_cons pe_int pa_nil)))))))), ?_⟩)
  · obtain ⟨a, ns, i, rfl, _⟩ := h
    rfl
  obtain ⟨a, ns, i, rfl, hS, h0, k⟩ := h
  walk_at "go"
  refine lenS_of hS ?_
  walk_at "go"
  have done : ∀ x y : Int, ∀ p, H p = none → Q (.ref p) (upd H p (.lst [.int x, .int y, .int 0])) := fun x y p hp => k p _ hp (same_upd hp) ⟨_, _, _, upd_same⟩
  have c2 : CMulW 1000000000000000000000000000000000000000000000000000000000 1000000000000000000000000000000000000000000000000000000000000 := cmul (j := 58) (k := 61) (by unfold B; decide) (by unfold B; decide) (by decide)
  split
  · rename_i hi
    have hj : i.toNat < ns.length := by rw [List.length_map] at hi; omega
    refine ⟨a, _, i, .int ns[i.toNat], rfl, rfl, hS, ?_, ?_⟩
    · unfold atI ixN
      rw [if_pos h0, if_pos hi]
      show (ns.map V.int)[i.toNat]? = _
      rw [List.getElem?_map, List.getElem?_eq_getElem hj]; rfl
    walk_at "go"
    refine ⟨c2, ?_⟩
    walk_at "go"
    exact done _ _
  · walk_at "go"
    refine ⟨c2, ?_⟩
    walk_at "go"
    exact done _ _

/-- a row with 1 at a place -/
def single (n : Nat) (p : Int) : List Int := (List.range n).map fun (i : Nat) => if (i : Int) = p then (1 : Int) else 0
def sp_single : Sp := fun vs H Q _ => ∃ (n : Nat) (p : Int), vs = [.int n, .int p] ∧ n ≤ 1000 ∧ ∀ H' q, Same H H' → H' q = some (.tup ((single n p).map V.int)) → Q (.ref q) H'
theorem ok__law_tr_single (T : Txt K mg) : FnOk P w K mg base CX0 1 T.a__law_tr_single T.d__law_tr_single ["size", "place"] sp_single := by
  refine T.F__law_tr_single.ok sc__law_tr_single (fun vs H Q E h => ?_) (fun cdv A outer s H vs Q E hr h => ⟨_, (pss_one (ps_ret (pe_callTy call_tupleN (by rfl) T.m_tuple bt_tuple (pa_cons (pe_lc (own := [("at", 2)]) (g := gName 2) (tt := tYes) rfl sc__law_tr_single.nd (pi_range1 rfl T.m_range (pa_cons (pv 0) pa_nil)) (blkOk_by (N := ["size", "place", "at"]) (sc := defScope s__law_tr_single) (by decide +kernel)) (fun _ _ _ _ _ => (pg_name (i := 2) sc__law_tr_single.nd rfl (Or.inl rfl))) (fun _ _ _ _ _ => pts_nil) (fun _ _ _ _ _ => (pe_callTy call_int1 (by rfl) T.m_int bt_int (pa_cons (pe_cmpR op_eq (pv 2) (pv 1) (nomark _)) pa_nil)))) pa_nil)))), ?_⟩)
  · obtain ⟨n, p, rfl, _⟩ := h
    rfl
  obtain ⟨n, p, rfl, hn, k⟩ := h
  walk_at "go"
  refine ⟨by omega, by omega, ?_⟩
  rw [Int.toNat_natCast]
  refine lc_rngP (PInt fun i => if (i : Int) = p then 1 else 0) (by omega) (fun x => by simp [wipe]) pInt_but (fun i D H' hi hD hd S K k' => ?_) (fun D H' acc hD S ha hl hP => ?_)
  · walk_at "go"
    exact k' _ _ (Same.refl _) (by simp) (by unfold PInt; by_cases h : (i : Int) = p <;> simp [h])
  · have e := ints_of hl hP
    rw [e] at ha
    walk_at "go"
    exact fun q hq => k _ _ (S.trans (same_upd hq)) upd_same
end
end K02

set_option Elab.async false
set_option linter.all false
set_option maxRecDepth 100000
set_option maxHeartbeats 4000000
namespace K02
open PySem PySem.Spec PyProof.Rows L2 TT
local macro_rules | `(tactic| walk_at "ev") => `(tactic| simp only [L2.start, tRet, tRetN, tSeq, tNext, tNever, tDrop, tIfS, tAsg, tPar, gName, tVar, tC, tOp, tUn, tTest, tB, tAnd, tOr, tNot, tAndV, tOrV, tNotV, tIf, tChain, tCons, tNil, tTup, tLst, wipe, tBM, tSl, tPart, tNoPart, tCB, tCall, tCallS, tRaiseK, tKept, WE, rI0, rI, rU, rEq, rNe, rGcd, scal, gNil, gCons, gSub, Int.zero_sub,
  List.length_cons, List.length_nil, List.map_cons, List.map_nil, List.replicate, List.cons_append, List.nil_append, List.append_nil, List.set_cons_zero, List.set_cons_succ, List.set_nil, List.getElem?_cons_zero, List.getElem?_cons_succ, List.getElem?_nil, List.drop_zero, List.drop_succ_cons, List.drop_nil, List.length_drop,
  Option.some.injEq, V.int.injEq, V.bl.injEq, V.ref.injEq, List.cons.injEq, and_true, true_and, and_assoc, exists_and_left, exists_and_right, exists_eq_left, exists_eq_left', exists_eq', exists_eq, if_true, if_false, Bool.false_eq_true, ite_true, ite_false, eq_self, reduceCtorEq, szle0, szle1, szle2, szle3, szle4, szle5, szle6, szle8, szle13, false_and, and_false, exists_false, exists_const, or_false, false_or, Bool.true_and, Bool.false_and, Bool.and_true, Bool.and_false, decide_eq_true_eq, Bool.not_true, Bool.not_false, Bool.not_not, Nat.reduceAdd, Int.reduceNeg, Int.reduceToNat, Int.reducePow, Int.cast_ofNat_Int, Int.reduceEq, Int.reduceLT, Int.reduceLE, Int.reduceAdd, Int.reduceMul, Int.reduceSub, decide_true, decide_false, Bool.not_eq_true', decide_eq_false_iff_not, not_false_eq_true, not_true_eq_false])
local macro_rules | `(tactic| walk_at "go") => `(tactic| repeat (first | walk_at "ev" | (refine isi_int (by assumption) ?_) | (refine isi_bool (by assumption) ?_) | (refine isi_tup (by assumption) ?_) | (refine use_J (by assumption) ?_) | (refine use_J td_int ?_) | (refine tFor_rng ?_) | (refine tFor_list ?_) | (refine tFor_tup ?_) | (refine tLc_rng ?_) | (refine tLc_zip ?_) | (refine tLc_enum ?_) | (refine tLc_rng2 ?_) | (refine tFor_rng2 ?_) | (refine tupL_of (by assumption) ?_) | (refine lstL_of (by assumption) ?_) | (refine lstT_of (by assumption) ?_) | (refine tLc_list ?_) | (refine tLc_tup ?_) | (refine ixT_of (by assumption) rfl ?_) | (refine ixL_of (by assumption) rfl ?_) | (refine lenT_of (by assumption) ?_) | (refine lenL_of (by assumption) ?_) | (refine gtup_of (by assumption) rfl ?_) | (refine ⟨cmul (by assumption) (by assumption) (by decide), ?_⟩) | (refine ⟨Or.inl (by decide), ?_⟩) | (refine ⟨Or.inr (by decide), ?_⟩) | (refine ixL_of upd_same rfl ?_) | (refine setL_of (by assumption) (by rfl) ?_) | (refine ⟨(show CPow _ _ from ⟨by decide, by decide, by decide⟩), ?_⟩) | (refine ⟨(show _ ≤ sizeLine by decide), ?_⟩)))

section
variable {P : Program} {w : World} {K : PySem.W.Frag} {mg : Str → Option Value} {base : Heap}
def sp_exch : Sp := fun vs H Q _ => ∃ (l : Addr) (a b : Nat) (xs : List V), vs = [.ref l, .int a, .int b] ∧ H l = some (.lst xs) ∧ a < xs.length ∧ b < xs.length ∧ ∀ H' p, Same H H' → H p = none → H' p = some (.lst (exch xs a b)) → Q (.ref p) H'
theorem ok__exchanged (T : Txt K mg) : FnOk P w K mg base CX0 1 T.a__exchanged T.d__exchanged ["values", "one", "other"] sp_exch := by
  refine T.F__exchanged.ok sc__exchanged (fun vs H Q E h => ?_) (fun cdv A outer s H vs Q E hr h => ⟨_, (pss_cons (ps_set (i := 3) sc__exchanged.nd rfl (Or.inl rfl) (pe_callTy call_listN (by rfl) T.m_list bt_list (pa_cons (pv 0) pa_nil)))
      (pss_cons (ps_asg (pe_tup (pa_cons (pe_ix ix_list (pv 0) (pv 2) (fun _ _ => rfl)) (pa_cons (pe_ix ix_list (pv 0) (pv 1) (fun _ _ => rfl)) pa_nil))) (pg_tup rfl (pgs_cons (pg_sub (pv 3) (pv 1) set_list) (pgs_cons (pg_sub (pv 3) (pv 2) set_list) pgs_nil))))
      (pss_one (ps_ret (pv 3))))), ?_⟩)
  · obtain ⟨l, a, b, xs, rfl, _⟩ := h
    rfl
  obtain ⟨l, a, b, xs, rfl, hl, ha, hb, k⟩ := h
  have ea := List.getElem?_eq_getElem ha
  have eb := List.getElem?_eq_getElem hb
  walk_at "go"
  intro p hp
  have lp : l ≠ p := fun z => by subst z; rw [hl] at hp; cases hp
  refine ixL_of (by rw [upd_ne lp]; exact hl) (atI_nat (α := Unit) eb) ?_
  walk_at "go"
  refine ixL_of (by rw [upd_ne lp]; exact hl) (atI_nat (α := Unit) ea) ?_
  walk_at "go"
  intro q hq
  have qp : p ≠ q := fun z => by subst z; rw [upd_same] at hq; cases hq
  refine gtup_of upd_same rfl ?_
  walk_at "go"
  refine setL_of (by rw [upd_ne qp, upd_same]) (ixN_nat ha) ?_
  walk_at "go"
  refine setL_of upd_same (ixN_nat (by rw [List.length_set]; exact hb)) ?_
  walk_at "go"
  refine k _ p ?_ hp (by rw [upd_same, exch_at ea eb])
  intro c o hc
  have cp : c ≠ p := fun z => by subst z; rw [hp] at hc; cases hc
  have cq : c ≠ q := fun z => by subst z; rw [upd_ne cp] at hq; rw [hc] at hq; cases hq
  rw [upd_ne cp, upd_ne cp, upd_ne cq, upd_ne cp]
  exact hc
/-- a row with 0 at a column, as it is reckoned -/
def lessen (row top : List Int) (a : Nat) (last : Int) : List Int := (List.range row.length).map fun i => (top.getD a 0 * row.getD i 0 - row.getD a 0 * top.getD i 0).fdiv last
def BRow (k : Nat) (l : List Int) : Prop := ∀ i, B k (l.getD i 0)
def sp_less : Sp := fun vs H Q _ => ∃ (r t : Addr) (a : Nat) (last : Int) (row top : List Int), vs = [.ref r, .ref t, .int a, .int last] ∧ H r = some (.lst (row.map V.int)) ∧ H t = some (.lst (top.map V.int)) ∧ row.length = top.length ∧ a < row.length ∧ row.length < 1000 ∧
  BRow 100 row ∧ BRow 100 top ∧ last ≠ 0 ∧ B 100 last ∧ ∀ H' p, Same H H' → H p = none → H' p = some (.lst ((lessen row top a last).map V.int)) → Q (.ref p) H'
theorem ok__lessened (T : Txt K mg) : FnOk P w K mg base CX0 1 T.a__lessened T.d__lessened ["row", "top", "at", "last"] sp_less := by
  refine T.F__lessened.ok sc__lessened (fun vs H Q E h => ?_) (fun cdv A outer s H vs Q E hr h => ⟨_, (pss_cons (ps_asg (pe_tup (pa_cons (pe_ix ix_list (pv 0) (pv 2) (fun _ _ => rfl)) (pa_cons (pe_ix ix_list (pv 1) (pv 2) (fun _ _ => rfl)) pa_nil))) (pg_tup rfl (pgs_cons (pg_name (i := 4) sc__lessened.nd rfl (Or.inr rfl)) (pgs_cons (pg_name (i := 5) sc__lessened.nd rfl (Or.inr rfl)) pgs_nil))))
      (pss_one (ps_ret (pe_lc (own := [("entry", 6), ("above", 7)]) (g := gTup K 2 (gCons (gName 6) (gCons (gName 7) gNil))) (tt := tYes) rfl sc__lessened.nd (pi_zip (by rfl) T.m_zip (pa_cons (pv 0) (pa_cons (pv 1) pa_nil))) (blkOk_by (N := ["row", "top", "at", "last", "here", "pivot", "entry", "above"]) (sc := defScope s__lessened) (by decide +kernel)) (fun _ _ _ _ _ => (pg_tup rfl (pgs_cons (pg_name (i := 6) sc__lessened.nd rfl (Or.inl rfl)) (pgs_cons (pg_name (i := 7) sc__lessened.nd rfl (Or.inl rfl)) pgs_nil)))) (fun _ _ _ _ _ => pts_nil) (fun _ _ _ _ _ => (pe_op op_fdivNW (pe_op op_sub (pe_op op_mulW (pv 5) (pv 6)) (pe_op op_mulW (pv 4) (pv 7))) (pv 3))))))), ?_⟩)
  · obtain ⟨r, t, a, last, row, top, rfl, _⟩ := h
    rfl
  obtain ⟨r, t, a, last, row, top, rfl, hr1, ht, hl, ha, hz, b1, b2, h0, b3, k⟩ := h
  walk_at "go"
  refine ixL_of hr1 (atI_int ha) ?_
  walk_at "go"
  refine ixL_of ht (atI_int (by omega)) ?_
  walk_at "go"
  intro c hc
  refine gtup_of upd_same rfl ?_
  have sc := same_upd (o := .tup [V.int (row.getD a 0), V.int (top.getD a 0)]) hc
  have hr2 := sc _ _ hr1
  have ht2 := sc _ _ ht
  walk_at "go"
  refine ⟨⟨_, .inl (.inl hr2)⟩, ⟨_, .inl (.inl ht2)⟩, ?_⟩
  refine lc_zipP hr2 ht2 (by simp [hl]) (PInt fun i => (top.getD a 0 * row.getD i 0 - row.getD a 0 * top.getD i 0).fdiv last) (by simp; omega) (fun x y => by simp [wipe]) pInt_but (fun i D H' x y hx hy hD hd S K k' => ?_) (fun D H' acc hD S ha hl hP => ?_)
  · rw [List.getElem?_map] at hx hy
    obtain ⟨x', ex, rfl⟩ := Option.map_eq_some_iff.mp hx
    obtain ⟨y', ey, rfl⟩ := Option.map_eq_some_iff.mp hy
    have gx : row.getD i 0 = x' := by rw [List.getD_eq_getElem?_getD, ex]; rfl
    have gy : top.getD i 0 = y' := by rw [List.getD_eq_getElem?_getD, ey]; rfl
    walk_at "go"
    refine ⟨cmul (b2 a) (gx ▸ b1 i) (by decide), cmul (b1 a) (gy ▸ b2 i) (by decide), cdiv h0 b3 (by decide), ?_⟩
    exact k' _ _ (Same.refl _) (by simp) (by unfold PInt; dsimp only; rw [gx, gy])
  · have e := ints_of hl hP
    rw [e, List.length_map] at ha
    have cD : D ≠ c := fun z => by subst z; rw [upd_same] at hD; cases hD
    exact k H' D (sc.trans S) (by rw [upd_ne cD] at hD; exact hD) ha
def unit (place size : Nat) : List Int := (List.range size).map fun i => if (place : Int) = (i : Nat) then (1 : Int) else 0
def sp_unit : Sp := fun vs H Q _ => ∃ (p n : Nat), vs = [.int p, .int n] ∧ n < 1000 ∧ ∀ H' q, Same H H' → H q = none → H' q = some (.lst ((unit p n).map V.int)) → Q (.ref q) H'
theorem ok__unit_row (T : Txt K mg) : FnOk P w K mg base CX0 1 T.a__unit_row T.d__unit_row ["place", "size"] sp_unit := by
  refine T.F__unit_row.ok sc__unit_row (fun vs H Q E h => ?_) (fun cdv A outer s H vs Q E hr h => ⟨_, (pss_one (ps_ret (pe_lc (own := [("at", 2)]) (g := gName 2) (tt := tYes) rfl sc__unit_row.nd (pi_range1 rfl T.m_range (pa_cons (pv 1) pa_nil)) (blkOk_by (N := ["place", "size", "at"]) (sc := defScope s__unit_row) (by decide +kernel)) (fun _ _ _ _ _ => (pg_name (i := 2) sc__unit_row.nd rfl (Or.inl rfl))) (fun _ _ _ _ _ => pts_nil) (fun _ _ _ _ _ => (pe_ifExp (pt_cmpR op_eq (pv 0) (pv 2) (nomark _)) pe_int pe_int))))), ?_⟩)
  · obtain ⟨p, n, rfl, _⟩ := h
    rfl
  obtain ⟨p, n, rfl, hn, k⟩ := h
  walk_at "go"
  refine ⟨by omega, by omega, ?_⟩
  rw [Int.toNat_natCast]
  refine lc_rngP (PInt fun i => if (p : Int) = (i : Nat) then 1 else 0) (by omega) (fun x => by simp [wipe]) pInt_but (fun i D H' hi hD hd S K k' => ?_) (fun D H' acc hD S ha hl hP => ?_)
  · walk_at "go"
    by_cases h : (p : Int) = (i : Nat)
    · rw [if_pos h]
      exact k' _ _ (Same.refl _) (by simp) (by unfold PInt; simp [h])
    · rw [if_neg h]
      exact k' _ _ (Same.refl _) (by simp) (by unfold PInt; simp [h])
  · have e := ints_of hl hP
    rw [e] at ha
    exact k H' D S hD ha
/-! ### the first entry that is not 0 -/
def spotRow (G : List (List Int)) (c : Nat) : Nat → Nat → Option Nat
  | _, 0 => none
  | r, n + 1 => if (G.getD r []).getD c 0 = 0 then spotRow G c (r + 1) n else some r
theorem spotRow_succ (G : List (List Int)) (c r n : Nat) : spotRow G c r (n + 1) = if (G.getD r []).getD c 0 = 0 then spotRow G c (r + 1) n else some r := rfl
def spotCol (G : List (List Int)) (a : Nat) : Nat → Nat → Option (Nat × Nat)
  | _, 0 => none
  | c, n + 1 => match spotRow G c a (G.length - a) with
    | some r => some (r, c)
    | none => spotCol G a (c + 1) n
def firstSpot (G : List (List Int)) (a wd : Nat) : Option (Nat × Nat) := spotCol G a a (wd - a)
/-- all rows have this length -/
def Wide (G : List (List Int)) (wd : Nat) : Prop := ∀ i, i < G.length → (G.getD i []).length = wd
def sp_spot : Sp := fun vs H Q _ => ∃ (g : Addr) (a wd : Nat) (G : List (List Int)), vs = [.ref g, .int a] ∧ GridAt H g G ∧ a ≤ G.length ∧ a ≤ wd ∧ G.length < 1000 ∧ wd < 1000 ∧ 0 < G.length ∧ Wide G wd ∧
  (firstSpot G a wd = none → Q .non H) ∧ ∀ r c, firstSpot G a wd = some (r, c) → ∀ p, H p = none → Q (.ref p) (upd H p (.tup [.int (r : Nat), .int (c : Nat)]))
theorem ok__first_spot (T : Txt K mg) : FnOk P w K mg base CX0 1 T.a__first_spot T.d__first_spot ["rows", "at"] sp_spot := by
  refine T.F__first_spot.ok sc__first_spot (fun vs H Q E h => ?_) (fun cdv A outer s H vs Q E hr h => ⟨_, (pss_cons (ps_for PassesOwn.never rfl (pi_range2 rfl T.m_range (pa_cons (pv 1) (pa_cons (pe_callB call_lenN (by rfl) T.m_len bt_len (pa_cons (pe_ix ix_list (pv 0) pe_int (fun _ _ => rfl)) pa_nil)) pa_nil))) (pg_name (i := 2) sc__first_spot.nd rfl (Or.inl rfl)) (pss_one (ps_for PassesOwn.never rfl (pi_range2 rfl T.m_range (pa_cons (pv 1) (pa_cons (pe_callB call_lenN (by rfl) T.m_len bt_len (pa_cons (pv 0) pa_nil)) pa_nil))) (pg_name (i := 3) sc__first_spot.nd rfl (Or.inl rfl)) (pss_one (ps_if (pt_cmpR op_ne (pe_ix ix_list (pe_ix ix_list (pv 0) (pv 3) (fun _ _ => rfl)) (pv 2) (fun _ _ => rfl)) pe_int (nomark _)) (pss_one (ps_ret (pe_tup (pa_cons (pv 3) (pa_cons (pv 2) pa_nil))))) pss_nil)))))
      (pss_one (ps_ret pe_non))), ?_⟩)
  · obtain ⟨g, a, wd, G, rfl, _⟩ := h
    rfl
  obtain ⟨g, a, wd, G, rfl, ⟨gs, hg, gl, hG⟩, ha, hw, hl, hwl, hpos, hW, k0, k1⟩ := h
  have row : ∀ i, i < G.length → ∃ q, gs[i]? = some (.ref q) ∧ H q = some (.lst ((G.getD i []).map V.int)) := fun i hi => by
    have e := List.getElem?_eq_getElem (l := gs) (i := i) (by omega)
    obtain ⟨q, e1, e2⟩ := hG i _ e
    exact ⟨q, by rw [e, e1], e2⟩
  obtain ⟨q0, e0, hq0⟩ := row 0 hpos
  walk_at "go"
  refine ixL_of hg (atI_nat (α := Unit) (i := 0) e0) ?_
  walk_at "go"
  rw [List.length_map, hW 0 hpos]
  refine ⟨by omega, by omega, by omega, by omega, ?_⟩
  have ew : ((wd : Int) - (a : Int)).toNat = wd - a := by omega
  have er : ((gs.length : Int) - (a : Int)).toNat = G.length - a := by omega
  rw [ew]
  refine loop_rng (fun i σ H' => H' = H ∧ (∃ u v, σ = [some (.ref g), some (.int a), u, v]) ∧ spotCol G a (a + i) (wd - a - i) = firstSpot G a wd) ⟨rfl, ⟨none, none, rfl⟩, rfl⟩ ?_ ?_
  · rintro σ H' ⟨rfl, ⟨u, v, rfl⟩, e⟩
    walk_at "go"
    rw [Nat.sub_self] at e
    exact k0 e.symm
  · rintro i σ H' hi ⟨rfl, ⟨u, v, rfl⟩, e⟩
    walk_at "go"
    refine ⟨by omega, by omega, by omega, by omega, ?_⟩
    rw [er]
    have es : wd - a - i = (wd - a - (i + 1)) + 1 := by omega
    rw [es] at e
    refine loop_rng (fun j σ H'' => H'' = H' ∧ (∃ v, σ = [some (.ref g), some (.int a), some (.int ((a : Int) + (i : Nat))), v]) ∧ spotRow G (a + i) (a + j) (G.length - a - j) = spotRow G (a + i) a (G.length - a)) ⟨rfl, ⟨_, rfl⟩, rfl⟩ ?_ ?_
    · rintro σ H'' ⟨rfl, ⟨v, rfl⟩, f⟩
      rw [Nat.sub_self] at f
      refine ⟨rfl, ⟨_, _, rfl⟩, ?_⟩
      rw [← e]
      show _ = (match spotRow G (a + i) a (G.length - a) with | some r => some (r, a + i) | none => spotCol G a (a + i + 1) (wd - a - (i + 1)))
      rw [← f]
      rfl
    · rintro j σ H'' hj ⟨rfl, ⟨v, rfl⟩, f⟩
      obtain ⟨q, e1, hq⟩ := row (a + j) (by omega)
      have wq := hW (a + j) (by omega)
      walk_at "go"
      refine ixL_of hg (by rw [show ((a : Int) + (j : Nat)) = ((a + j : Nat) : Int) by omega]; exact atI_nat (α := Unit) e1) ?_
      walk_at "go"
      refine ixL_of hq (by rw [show ((a : Int) + (i : Nat)) = ((a + i : Nat) : Int) by omega]; exact atI_int (by omega)) ?_
      walk_at "go"
      have ef : G.length - a - j = (G.length - a - (j + 1)) + 1 := by omega
      rw [ef] at f
      rw [spotRow_succ] at f
      by_cases h0 : (G.getD (a + j) []).getD (a + i) 0 = 0
      · rw [if_neg (by simpa using h0)]
        rw [if_pos h0] at f
        exact f
      · rw [if_pos h0]
        rw [if_neg h0] at f
        have fs : firstSpot G a wd = some (a + j, a + i) := by
          rw [← e]
          show (match spotRow G (a + i) a (G.length - a) with | some r => some (r, a + i) | none => spotCol G a (a + i + 1) (wd - a - (i + 1))) = _
          rw [← f]
        have k2 := k1 _ _ fs
        rw [show ((a + j : Nat) : Int) = (a : Int) + (j : Nat) by omega, show ((a + i : Nat) : Int) = (a : Int) + (i : Nat) by omega] at k2
        exact k2
end
end K02

set_option Elab.async false
set_option linter.all false
set_option maxRecDepth 100000
set_option maxHeartbeats 4000000
namespace K02
open PySem PySem.Spec PyProof.Rows L2 TT
local macro_rules | `(tactic| walk_at "ev") => `(tactic| simp only [L2.start, tRet, tRetN, tSeq, tNext, tNever, tDrop, tIfS, tAsg, tPar, gName, tVar, tC, tOp, tUn, tTest, tB, tAnd, tOr, tNot, tAndV, tOrV, tNotV, tIf, tChain, tCons, tNil, tTup, tLst, wipe, tBM, tSl, tPart, tNoPart, tCB, tCall, tCallS, tRaiseK, tKept, WE, rI0, rI, rU, rEq, rNe, rGcd, scal, gNil, gCons, gSub, Int.zero_sub,
  List.length_cons, List.length_nil, List.map_cons, List.map_nil, List.replicate, List.cons_append, List.nil_append, List.append_nil, List.set_cons_zero, List.set_cons_succ, List.set_nil, List.getElem?_cons_zero, List.getElem?_cons_succ, List.getElem?_nil, List.drop_zero, List.drop_succ_cons, List.drop_nil, List.length_drop,
  Option.some.injEq, V.int.injEq, V.bl.injEq, V.ref.injEq, List.cons.injEq, and_true, true_and, and_assoc, exists_and_left, exists_and_right, exists_eq_left, exists_eq_left', exists_eq', exists_eq, if_true, if_false, Bool.false_eq_true, ite_true, ite_false, eq_self, reduceCtorEq, szle0, szle1, szle2, szle3, szle4, szle5, szle6, szle8, szle13, false_and, and_false, exists_false, exists_const, or_false, false_or, Bool.true_and, Bool.false_and, Bool.and_true, Bool.and_false, decide_eq_true_eq, Bool.not_true, Bool.not_false, Bool.not_not, Nat.reduceAdd, Int.reduceNeg, Int.reduceToNat, Int.reducePow, Int.cast_ofNat_Int, Int.reduceEq, Int.reduceLT, Int.reduceLE, Int.reduceAdd, Int.reduceMul, Int.reduceSub, decide_true, decide_false, Bool.not_eq_true', decide_eq_false_iff_not, not_false_eq_true, not_true_eq_false])
local macro_rules | `(tactic| walk_at "go") => `(tactic| repeat (first | walk_at "ev" | (refine isi_int (by assumption) ?_) | (refine isi_bool (by assumption) ?_) | (refine isi_tup (by assumption) ?_) | (refine use_J (by assumption) ?_) | (refine use_J td_int ?_) | (refine tFor_rng ?_) | (refine tFor_list ?_) | (refine tFor_tup ?_) | (refine tLc_rng ?_) | (refine tLc_zip ?_) | (refine tLc_enum ?_) | (refine tLc_rng2 ?_) | (refine tFor_rng2 ?_) | (refine tupL_of (by assumption) ?_) | (refine lstL_of (by assumption) ?_) | (refine lstT_of (by assumption) ?_) | (refine tLc_list ?_) | (refine tLc_tup ?_) | (refine ixT_of (by assumption) rfl ?_) | (refine ixL_of (by assumption) rfl ?_) | (refine lenT_of (by assumption) ?_) | (refine lenL_of (by assumption) ?_) | (refine gtup_of (by assumption) rfl ?_) | (refine ⟨cmul (by assumption) (by assumption) (by decide), ?_⟩) | (refine ⟨Or.inl (by decide), ?_⟩) | (refine ⟨Or.inr (by decide), ?_⟩) | (refine ixL_of upd_same rfl ?_) | (refine setL_of (by assumption) (by rfl) ?_) | (refine ⟨(show CPow _ _ from ⟨by decide, by decide, by decide⟩), ?_⟩) | (refine ⟨(show _ ≤ sizeLine by decide), ?_⟩)))

theorem spotRow_in {G : List (List Int)} {c r : Nat} : ∀ {n s : Nat}, spotRow G c s n = some r → s ≤ r ∧ r < s + n
  | 0, s, h => by cases h
  | n + 1, s, h => by
    rw [spotRow_succ] at h
    by_cases h0 : (G.getD s []).getD c 0 = 0
    · rw [if_pos h0] at h
      have := spotRow_in h
      omega
    · rw [if_neg h0] at h
      cases h
      omega
theorem spotCol_in {G : List (List Int)} {a r c : Nat} : ∀ {n s : Nat}, spotCol G a s n = some (r, c) → s ≤ c ∧ c < s + n ∧ a ≤ r ∧ r < a + (G.length - a)
  | 0, s, h => by cases h
  | n + 1, s, h => by
    have h' : (match spotRow G s a (G.length - a) with | some r => some (r, s) | none => spotCol G a (s + 1) n) = some (r, c) := h
    cases e : spotRow G s a (G.length - a) with
    | some r' =>
      rw [e] at h'
      cases h'
      have := spotRow_in e
      omega
    | none =>
      rw [e] at h'
      have := spotCol_in (n := n) (s := s + 1) h'
      omega
def okG (G : List (List Int)) (last : Int) : Bool := G.all (fun row => row.all fun x => decide (x.natAbs < 10 ^ 100)) && (decide (last ≠ 0) && decide (last.natAbs < 10 ^ 100))
def crossed (G : List (List Int)) (a r c : Nat) : List (List Int) := (exch G a r).map fun row => exch row a c
def lessened (G : List (List Int)) (a : Nat) (last : Int) : List (List Int) := (List.range G.length).map fun p => if a < p then lessen (G.getD p []) (G.getD a []) a last else G.getD p []
def rankLoop (wd : Nat) : Nat → Nat → List (List Int) → Int → Int → Option (Nat × Int)
  | 0, a, _, last, sign => some (a, sign * last)
  | f + 1, a, G, last, sign => match firstSpot G a wd with
    | none => some (a, sign * last)
    | some (r, c) => if okG (crossed G a r c) last = true then rankLoop wd f (a + 1) (lessened (crossed G a r c) a last) (((crossed G a r c).getD a []).getD a 0) (if decide (r = a) = decide (c = a) then sign else -sign) else none
def rankMinor (G : List (List Int)) (wd : Nat) : Option (Nat × Int) := rankLoop wd (min G.length wd) 0 G 1 1
theorem okG_row {G : List (List Int)} {last : Int} (h : okG G last = true) (i : Nat) : BRow 100 (G.getD i []) := by
  unfold okG at h
  simp only [Bool.and_eq_true, List.all_eq_true, decide_eq_true_eq] at h
  intro j
  rcases Nat.lt_or_ge i G.length with hi | hi
  · rcases Nat.lt_or_ge j (G.getD i []).length with hj | hj
    · have e : G.getD i [] = G[i] := by simp [hi]
      refine h.1 (G.getD i []) (by rw [e]; exact List.getElem_mem hi) _ ?_
      generalize G.getD i [] = l at hj
      rw [List.getD_eq_getElem?_getD, List.getElem?_eq_getElem hj]
      exact List.getElem_mem hj
    · generalize G.getD i [] = l at hj
      rw [List.getD_eq_getElem?_getD, List.getElem?_eq_none hj]
      exact Nat.pos_of_ne_zero (by decide)
  · have e : G.getD i [] = [] := by simp [hi]
    rw [e]
    exact Nat.pos_of_ne_zero (by decide)
theorem okG_last {G : List (List Int)} {last : Int} (h : okG G last = true) : last ≠ 0 ∧ B 100 last := by
  unfold okG at h
  simp only [Bool.and_eq_true, decide_eq_true_eq] at h
  exact h.2
section
variable {P : Program} {w : World} {K : PySem.W.Frag} {mg : Str → Option Value} {base : Heap}
def sp_rank : Sp := fun vs H Q _ => ∃ (t : Addr) (wd : Nat) (G : List (List Int)) (r : Nat) (m : Int), vs = [.ref t] ∧ TabAt H t G ∧ 0 < G.length ∧ G.length < 1000 ∧ 0 < wd ∧ wd < 1000 ∧ Wide G wd ∧ rankMinor G wd = some (r, m) ∧
  ∀ H' p, Same H H' → H' p = some (.tup [.int (r : Nat), .int m]) → Q (.ref p) H'
theorem ok_rank_and_minor (T : Txt K mg) : FnOk P w K mg base CX0 2 T.a_rank_and_minor T.d_rank_and_minor ["rows"] sp_rank := by
  have G__first_spot := ok__first_spot (P := P) (w := w) (base := base) T
  have G__exchanged := ok__exchanged (P := P) (w := w) (base := base) T
  have G__lessened := ok__lessened (P := P) (w := w) (base := base) T
  refine T.F_rank_and_minor.ok sc_rank_and_minor (fun vs H Q E h => ?_) (fun cdv A outer s H vs Q E hr h => ⟨_, (pss_cons (ps_setLc (i := 1) (own := [("entries", 9)]) (g := gName 9) (tt := tYes) rfl sc_rank_and_minor.nd rfl rfl (sw_true rfl rfl rfl (by decide +kernel)) (pi_tup (pv 0)) (blkOk_by (N := ["rows", "left", "last", "sign", "at", "spot", "row", "column", "top", "entries", "place"]) (sc := defScope s_rank_and_minor) (by decide +kernel)) (fun _ _ _ _ _ => (pg_name (i := 9) sc_rank_and_minor.nd rfl (Or.inl rfl))) (fun _ _ _ _ _ => pts_nil) (fun _ _ _ _ _ => (pe_callTy (show CallR _ (.type "list") (rLstOf K) from call_listN) (by rfl) T.m_list bt_list (pa_cons (pv 9) pa_nil))))
      (pss_cons (ps_asg (pe_tup (pa_cons pe_int (pa_cons pe_int pa_nil))) (pg_tup rfl (pgs_cons (pg_name (i := 2) sc_rank_and_minor.nd rfl (Or.inr rfl)) (pgs_cons (pg_name (i := 3) sc_rank_and_minor.nd rfl (Or.inl rfl)) pgs_nil))))
      (pss_cons (ps_for PassesOwn.never rfl (pi_range1 rfl T.m_range (pa_cons (pe_callB (call_min2 rfl) (by rfl) T.m_min bt_min (pa_cons (pe_callB call_lenN (by rfl) T.m_len bt_len (pa_cons (pv 0) pa_nil)) (pa_cons (pe_callB call_lenN (by rfl) T.m_len bt_len (pa_cons (pe_ix ix_tup (pv 0) pe_int (fun _ _ => rfl)) pa_nil)) pa_nil))) pa_nil)) (pg_name (i := 4) sc_rank_and_minor.nd rfl (Or.inr rfl)) (pss_cons (ps_set (i := 5) sc_rank_and_minor.nd rfl (Or.inl rfl) (pe_call (G__first_spot.mono (by decide)) hr (by rfl) T.g__first_spot T.k__first_spot T.b__first_spot .nil pass0 (pa_cons (pv 1) (pa_cons (pv 4) pa_nil))))
      (pss_cons (ps_if (pt_cmpR op_isN (pv 5) pe_non (nomark _)) (pss_one (ps_ret (pe_tup (pa_cons (pv 4) (pa_cons (pe_op op_mulW (pv 3) (pv 2)) pa_nil))))) pss_nil)
      (pss_cons (ps_asg (pv 5) (pg_tup rfl (pgs_cons (pg_name (i := 6) sc_rank_and_minor.nd rfl (Or.inl rfl)) (pgs_cons (pg_name (i := 7) sc_rank_and_minor.nd rfl (Or.inr rfl)) pgs_nil))))
      (pss_cons (ps_setLc (i := 1) (own := [("entries", 9)]) (g := gName 9) (tt := tYes) rfl sc_rank_and_minor.nd rfl rfl (sw_true rfl rfl rfl (by decide +kernel)) (pi_list (pe_call (G__exchanged.mono (by decide)) hr (by rfl) T.g__exchanged T.k__exchanged T.b__exchanged .nil pass0 (pa_cons (pv 1) (pa_cons (pv 4) (pa_cons (pv 6) pa_nil))))) (blkOk_by (N := ["rows", "left", "last", "sign", "at", "spot", "row", "column", "top", "entries", "place"]) (sc := defScope s_rank_and_minor) (by decide +kernel)) (fun _ _ _ _ _ => (pg_name (i := 9) sc_rank_and_minor.nd rfl (Or.inl rfl))) (fun _ _ _ _ _ => pts_nil) (fun _ _ _ _ _ => (pe_call (G__exchanged.mono (by decide)) hr (by rfl) T.g__exchanged T.k__exchanged T.b__exchanged .nil pass0 (pa_cons (pv 9) (pa_cons (pv 4) (pa_cons (pv 7) pa_nil))))))
      (pss_cons (ps_set (i := 3) sc_rank_and_minor.nd rfl (Or.inl rfl) (pe_ifExp (pt_cmpR op_eq (pe_cmpR op_eq (pv 6) (pv 4) (nomark _)) (pe_cmpR op_eq (pv 7) (pv 4) (nomark _)) (nomark _)) (pv 3) (pe_un un_neg (pv 3))))
      (pss_cons (ps_set (i := 8) sc_rank_and_minor.nd rfl (Or.inr rfl) (pe_ix ix_list (pv 1) (pv 4) (fun _ _ => rfl)))
      (pss_cons (ps_setLc (i := 1) (own := [("place", 10), ("entries", 9)]) (g := gTup K 2 (gCons (gName 10) (gCons (gName 9) gNil))) (tt := tYes) rfl sc_rank_and_minor.nd rfl rfl (sw_true rfl rfl rfl (by decide +kernel)) (pi_enum (by rfl) T.m_enumerate (pa_cons (pv 1) pa_nil)) (blkOk_by (N := ["rows", "left", "last", "sign", "at", "spot", "row", "column", "top", "entries", "place"]) (sc := defScope s_rank_and_minor) (by decide +kernel)) (fun _ _ _ _ _ => (pg_tup rfl (pgs_cons (pg_name (i := 10) sc_rank_and_minor.nd rfl (Or.inl rfl)) (pgs_cons (pg_name (i := 9) sc_rank_and_minor.nd rfl (Or.inl rfl)) pgs_nil)))) (fun _ _ _ _ _ => pts_nil) (fun _ _ _ _ _ => (pe_ifExp (pt_cmpR op_gt (pv 10) (pv 4) (nomark _)) (pe_call (G__lessened.mono (by decide)) hr (by rfl) T.g__lessened T.k__lessened T.b__lessened .nil pass0 (pa_cons (pv 9) (pa_cons (pv 8) (pa_cons (pv 4) (pa_cons (pv 2) pa_nil))))) (pv 9))))
      (pss_one (ps_set (i := 2) sc_rank_and_minor.nd rfl (Or.inr rfl) (pe_ix ix_list (pv 8) (pv 4) (fun _ _ => rfl))))))))))))
      (pss_one (ps_ret (pe_tup (pa_cons (pe_callB (call_min2 rfl) (by rfl) T.m_min bt_min (pa_cons (pe_callB call_lenN (by rfl) T.m_len bt_len (pa_cons (pv 0) pa_nil)) (pa_cons (pe_callB call_lenN (by rfl) T.m_len bt_len (pa_cons (pe_ix ix_tup (pv 0) pe_int (fun _ _ => rfl)) pa_nil)) pa_nil))) (pa_cons (pe_op op_mulW (pv 3) (pv 2)) pa_nil)))))))), ?_⟩)
  · obtain ⟨t, wd, G, r, m, rfl, _⟩ := h
    rfl
  obtain ⟨t, wd, G, r, m, rfl, ⟨ts, ht, tl, hT⟩, hp, hl, wp, wl, hW, hR, k⟩ := h
  walk_at "go"
  have row0 : ∃ q, ts[0]? = some (.ref q) ∧ H q = some (.tup ((G.getD 0 []).map V.int)) := by
    have e := List.getElem?_eq_getElem (l := ts) (i := 0) (by omega)
    obtain ⟨q, e1, e2⟩ := hT 0 _ e
    exact ⟨q, by rw [e, e1], e2⟩
  obtain ⟨q0, e0, hq0⟩ := row0
  refine ⟨⟨_, .inl (.inl ht)⟩, ?_⟩
  refine lc_tupP ht (PRow fun i => G.getD i []) (by omega) (fun x => by simp [wipe]) pRow_but (fun i D H' x hx hD hd S K' k' => ?_) (fun D H' acc hD S ha al hP => ?_)
  · obtain ⟨q, rfl, hq⟩ := hT i x hx
    have hq' := S _ _ hq
    walk_at "go"
    intro l hl
    exact k' _ _ (same_upd hl) (fun z => by cases z; exact hd hl) ⟨l, rfl, upd_same⟩
  intro p hp'
  refine gtup_of upd_same rfl ?_
  have hg0 : GridAt (upd H' p (.tup [.int 1, .int 1])) D G := GridAt.same (same_upd hp') ⟨acc, ha, by omega, hP⟩
  have S0 : Same H (upd H' p (.tup [.int 1, .int 1])) := S.trans (same_upd hp')
  generalize upd H' p (.tup [.int 1, .int 1]) = H0 at hg0 S0 ⊢
  have ht0 := S0 _ _ ht
  have hq00 := S0 _ _ hq0
  walk_at "go"
  refine ixT_of ht0 (atI_nat (α := Unit) (i := 0) e0) ?_
  walk_at "go"
  have emin : (if ((List.map V.int (G.getD 0 [])).length : Int) < (ts.length : Int) then ((List.map V.int (G.getD 0 [])).length : Int) else (ts.length : Int)) = ((min G.length wd : Nat) : Int) := by
    rw [List.length_map, hW 0 hp, tl]
    split <;> omega
  rw [emin]
  refine ⟨by omega, by omega, ?_⟩
  rw [Int.toNat_natCast]
  refine loop_rng (fun i σ H' => ∃ (lp : Addr) (Gi : List (List Int)) (last sign : Int) (v4 v5 v6 v7 v8 v9 v10 : Option V), σ = [some (.ref t), some (.ref lp), some (.int last), some (.int sign), v4, v5, v6, v7, v8, v9, v10] ∧ Same H H' ∧ GridAt H' lp Gi ∧ Gi.length = G.length ∧ Wide Gi wd ∧ B 100 last ∧ B 1 sign ∧
      rankLoop wd (min G.length wd - i) i Gi last sign = some (r, m)) ⟨D, G, 1, 1, none, none, none, none, none, none, none, rfl, S0, hg0, rfl, hW, (by unfold B; decide), (by unfold B; decide), hR⟩ ?_ ?_
  · rintro σ H1 ⟨lp, Gi, last, sign, v4, v5, v6, v7, v8, v9, v10, rfl, S1, hg1, gl1, hW1, b1, b2, hR1⟩
    rw [Nat.sub_self] at hR1
    have e1 : min G.length wd = r ∧ sign * last = m := by
      have h : some (min G.length wd, sign * last) = some (r, m) := hR1
      cases h
      exact ⟨rfl, rfl⟩
    have hq1 := S1 _ _ hq0
    have ht1 := S1 _ _ ht
    walk_at "go"
    refine ixT_of ht1 (atI_nat (α := Unit) (i := 0) e0) ?_
    walk_at "go"
    rw [emin, e1.1, e1.2]
    exact fun q hq => k _ q (S1.trans (same_upd hq)) upd_same
  · rintro i σ H1 hi ⟨lp, Gi, last, sign, v4, v5, v6, v7, v8, v9, v10, rfl, S1, hg1, gl1, hW1, b1, b2, hR1⟩
    have en : min G.length wd - i = (min G.length wd - (i + 1)) + 1 := by omega
    rw [en] at hR1
    rw [show (0 : Int) + (i : Nat) = ((i : Nat) : Int) by omega]
    have hR2 : (match firstSpot Gi i wd with
      | none => some (i, sign * last)
      | some (r, c) => if okG (crossed Gi i r c) last = true then rankLoop wd (min G.length wd - (i + 1)) (i + 1) (lessened (crossed Gi i r c) i last) (((crossed Gi i r c).getD i []).getD i 0) (if decide (r = i) = decide (c = i) then sign else -sign) else none) = some (r, m) := hR1
    walk_at "go"
    refine ⟨lp, i, wd, Gi, rfl, hg1, by omega, by omega, by omega, wl, by omega, hW1, fun hf => ?_, fun r' c' hf => ?_⟩
    · rw [hf] at hR2
      have e1 : i = r ∧ sign * last = m := by
        cases hR2
        exact ⟨rfl, rfl⟩
      walk_at "go"
      rw [e1.1, e1.2]
      exact fun q hq => k _ q (S1.trans (same_upd hq)) upd_same
    · have hin := spotCol_in hf
      rw [hf] at hR2
      have hR3 : (if okG (crossed Gi i r' c') last = true then rankLoop wd (min G.length wd - (i + 1)) (i + 1) (lessened (crossed Gi i r' c') i last) (((crossed Gi i r' c').getD i []).getD i 0) (if decide (r' = i) = decide (c' = i) then sign else -sign) else none) = some (r, m) := hR2
      clear hR2 hR1
      have hok : okG (crossed Gi i r' c') last = true := by
        cases h : okG (crossed Gi i r' c') last with
        | true => rfl
        | false => rw [h, if_neg (by decide)] at hR3; cases hR3
      rw [if_pos hok] at hR3
      intro p2 hp2
      have S2 := S1.trans (same_upd (o := .tup [.int (r' : Nat), .int (c' : Nat)]) hp2)
      have hg2 := hg1.same (same_upd (o := .tup [.int (r' : Nat), .int (c' : Nat)]) hp2)
      walk_at "go"
      refine gtup_of upd_same rfl ?_
      generalize upd H1 p2 (.tup [.int (r' : Nat), .int (c' : Nat)]) = H2 at hg2 S2 ⊢
      walk_at "go"
      obtain ⟨gs, hgs, gsl, hgr⟩ := hg2
      refine ⟨lp, i, r', gs, rfl, hgs, by omega, by omega, fun H3 l3 S3 n3 h3 => ?_⟩
      refine ⟨l3, rfl, ⟨_, .inl (.inl h3)⟩, ?_⟩
      have xl : (exch gs i r').length = Gi.length := by rw [exch_length, gsl]
      have gl : (exch Gi i r').length = Gi.length := exch_length _ _ _
      have cl : (crossed Gi i r' c').length = Gi.length := by unfold crossed; rw [List.length_map, gl]
      have ir : i < Gi.length := by omega
      have rr : r' < Gi.length := by omega
      have wx : ∀ j, j < Gi.length → ((exch Gi i r').getD j []).length = wd := fun j hj => by
        have e2 := exch_get (l := Gi) (j := j) ir rr
        by_cases h1 : j = r'
        · rw [if_pos h1] at e2
          rw [getD_of_get e2]
          exact hW1 i ir
        · rw [if_neg h1] at e2
          by_cases h2 : j = i
          · rw [if_pos h2] at e2
            rw [getD_of_get e2]
            exact hW1 r' rr
          · rw [if_neg h2] at e2
            rw [getD_of_get e2]
            exact hW1 j hj
      have cx : ∀ j, j < Gi.length → (crossed Gi i r' c').getD j [] = exch ((exch Gi i r').getD j []) i c' := fun j hj => by
        unfold crossed
        rw [List.getD_eq_getElem?_getD, List.getElem?_map, List.getElem?_eq_getElem (by omega)]
        simp [List.getD_eq_getElem?_getD, List.getElem?_eq_getElem (show j < (exch Gi i r').length by omega)]
      have wc : Wide (crossed Gi i r' c') wd := fun j hj => by
        rw [cl] at hj
        rw [cx j hj, exch_length]
        exact wx j hj
      have hr3 := exch_rows gsl ir rr hgr
      refine lc_lstP h3 (PRow fun j => (crossed Gi i r' c').getD j []) (by omega) (fun x => by simp [wipe]) pRow_but (fun j D4 H4 x hx hD4 hd4 S4 K4 k4 => ?_) (fun D4 H4 acc4 hD4 S4 ha4 al4 hP4 => ?_)
      · have hj : j < Gi.length := by
          rcases Nat.lt_or_ge j (exch gs i r').length with z | z
          · omega
          · rw [List.getElem?_eq_none z] at hx; cases hx
        obtain ⟨q, rfl, hq⟩ := hr3 j x hx
        have hq4 : H4 q = some (.lst (((exch Gi i r').getD j []).map V.int)) := S4 _ _ (S3 _ _ hq)
        have lq : (((exch Gi i r').getD j []).map V.int).length = wd := by rw [List.length_map]; exact wx j hj
        walk_at "go"
        refine ⟨q, i, c', _, rfl, hq4, by omega, by omega, fun H5 p5 S5 n5 h5 => ?_⟩
        rw [exch_map] at h5
        refine k4 _ _ S5 (fun z => by cases z; exact hd4 n5) ⟨p5, rfl, ?_⟩
        show H5 p5 = some (.lst (((crossed Gi i r' c').getD j []).map V.int))
        rw [cx j hj]
        exact h5
      have S5 := S2.trans (S3.trans S4)
      have hg4 : GridAt H4 D4 (crossed Gi i r' c') := ⟨acc4, ha4, by omega, hP4⟩
      clear hr3 hgr hgs h3 S3 S4 hD4 S2 hp2
      generalize crossed Gi i r' c' = C at *
      have lx : ∀ j, j < C.length → (lessened C i last).getD j [] = if i < j then lessen (C.getD j []) (C.getD i []) i last else C.getD j [] := fun j hj => by
        unfold lessened
        rw [List.getD_eq_getElem?_getD, List.getElem?_map, List.getElem?_range hj]
        rfl
      have ll : (lessened C i last).length = C.length := by unfold lessened; rw [List.length_map, List.length_range]
      have wl2 : Wide (lessened C i last) wd := fun j hj => by
        rw [ll] at hj
        rw [lx j hj]
        split
        · unfold lessen
          rw [List.length_map, List.length_range]
          exact wc j hj
        · exact wc j hj
      have lt := okG_last hok
      have al5 : acc4.length = C.length := by omega
      have ei := List.getElem?_eq_getElem (l := acc4) (i := i) (by omega)
      obtain ⟨qi, eqi, hqi⟩ := hP4 i _ ei
      rw [eqi] at ei
      have hqi : H4 qi = some (.lst ((C.getD i []).map V.int)) := hqi
      have hs' : (decide ((r' : Int) = (i : Nat)) = decide ((c' : Int) = (i : Nat))) ↔ (decide (r' = i) = decide (c' = i)) := by
        rw [decide_eq_decide, decide_eq_decide]
        constructor <;> intro h <;> constructor <;> intro h2 <;> omega
      walk_at "go"
      by_cases hs : decide (r' = i) = decide (c' = i)
      · rw [if_pos (hs'.mpr hs)]
        rw [if_pos hs] at hR3
        have bs : B 1 sign := b2
        generalize sign = sg at hR3 bs ⊢
        refine ixL_of ha4 (atI_nat (α := Unit) ei) ?_
        walk_at "go"
        refine ⟨⟨_, .inl (.inl ha4)⟩, ?_⟩
        refine lc_enumP ha4 (PRow fun p => (lessened C i last).getD p []) (by omega) (fun x y => by simp [wipe]) pRow_but (fun j D6 H6 x hx hD6 hd6 S6 K6 k6 => ?_) (fun D6 H6 acc6 hD6 S6 ha6 al6 hP6 => ?_)
        · have hj : j < C.length := by
            rcases Nat.lt_or_ge j acc4.length with z | z
            · omega
            · rw [List.getElem?_eq_none z] at hx; cases hx
          obtain ⟨q, rfl, hq⟩ := hP4 j x hx
          have hq6 := S6 _ _ hq
          have hqi6 := S6 _ _ hqi
          have wj := wc j hj
          have wi := wc i (by omega)
          walk_at "go"
          by_cases hij : i < j
          · rw [if_pos (by omega)]
            refine ⟨q, qi, i, last, C.getD j [], C.getD i [], rfl, hq6, hqi6, by omega, by omega, by omega, okG_row hok j, okG_row hok i, lt.1, lt.2, fun H7 p7 S7 n7 h7 => ?_⟩
            refine k6 _ _ S7 (fun z => by cases z; exact hd6 n7) ⟨p7, rfl, ?_⟩
            dsimp only
            rw [lx j hj, if_pos hij]
            exact h7
          · rw [if_neg (by omega)]
            refine k6 _ _ (Same.refl _) (fun z => by cases z; rw [hD6] at hq; cases hq) ⟨q, rfl, ?_⟩
            dsimp only
            rw [lx j hj, if_neg hij]
            exact hq6
        · have hqi6 := S6 _ _ hqi
          have wi := wc i (by omega)
          walk_at "go"
          refine ixL_of hqi6 (atI_int (by omega)) ?_
          walk_at "go"
          exact ⟨S5.trans S6, _, ⟨acc6, ha6, by omega, hP6⟩, by omega, wl2, okG_row hok i i, bs, hR3⟩
      · rw [if_neg (fun z => hs (hs'.mp z))]
        rw [if_neg hs] at hR3
        have bs : B 1 (-sign) := b2.neg
        generalize -sign = sg at hR3 bs ⊢
        refine ixL_of ha4 (atI_nat (α := Unit) ei) ?_
        walk_at "go"
        refine ⟨⟨_, .inl (.inl ha4)⟩, ?_⟩
        refine lc_enumP ha4 (PRow fun p => (lessened C i last).getD p []) (by omega) (fun x y => by simp [wipe]) pRow_but (fun j D6 H6 x hx hD6 hd6 S6 K6 k6 => ?_) (fun D6 H6 acc6 hD6 S6 ha6 al6 hP6 => ?_)
        · have hj : j < C.length := by
            rcases Nat.lt_or_ge j acc4.length with z | z
            · omega
            · rw [List.getElem?_eq_none z] at hx; cases hx
          obtain ⟨q, rfl, hq⟩ := hP4 j x hx
          have hq6 := S6 _ _ hq
          have hqi6 := S6 _ _ hqi
          have wj := wc j hj
          have wi := wc i (by omega)
          walk_at "go"
          by_cases hij : i < j
          · rw [if_pos (by omega)]
            refine ⟨q, qi, i, last, C.getD j [], C.getD i [], rfl, hq6, hqi6, by omega, by omega, by omega, okG_row hok j, okG_row hok i, lt.1, lt.2, fun H7 p7 S7 n7 h7 => ?_⟩
            refine k6 _ _ S7 (fun z => by cases z; exact hd6 n7) ⟨p7, rfl, ?_⟩
            dsimp only
            rw [lx j hj, if_pos hij]
            exact h7
          · rw [if_neg (by omega)]
            refine k6 _ _ (Same.refl _) (fun z => by cases z; rw [hD6] at hq; cases hq) ⟨q, rfl, ?_⟩
            dsimp only
            rw [lx j hj, if_neg hij]
            exact hq6
        · have hqi6 := S6 _ _ hqi
          have wi := wc i (by omega)
          walk_at "go"
          refine ixL_of hqi6 (atI_int (by omega)) ?_
          walk_at "go"
          exact ⟨S5.trans S6, _, ⟨acc6, ha6, by omega, hP6⟩, by omega, wl2, okG_row hok i i, bs, hR3⟩
end
end K02

set_option Elab.async false
set_option linter.all false
set_option maxRecDepth 100000
set_option maxHeartbeats 4000000
namespace K02
open PySem PySem.Spec PyProof.Rows L2 TT
local macro_rules | `(tactic| walk_at "ev") => `(tactic| simp only [L2.start, tRet, tRetN, tSeq, tNext, tNever, tDrop, tIfS, tAsg, tPar, gName, tVar, tC, tOp, tUn, tTest, tB, tAnd, tOr, tNot, tAndV, tOrV, tNotV, tIf, tChain, tCons, tNil, tTup, tLst, wipe, tBM, tSl, tPart, tNoPart, tCB, tCall, tCallS, tRaiseK, tKept, WE, rI0, rI, rU, rEq, rNe, rGcd, scal, gNil, gCons, gSub, Int.zero_sub,
  List.length_cons, List.length_nil, List.map_cons, List.map_nil, List.replicate, List.cons_append, List.nil_append, List.append_nil, List.set_cons_zero, List.set_cons_succ, List.set_nil, List.getElem?_cons_zero, List.getElem?_cons_succ, List.getElem?_nil, List.drop_zero, List.drop_succ_cons, List.drop_nil, List.length_drop,
  Option.some.injEq, V.int.injEq, V.bl.injEq, V.ref.injEq, List.cons.injEq, and_true, true_and, and_assoc, exists_and_left, exists_and_right, exists_eq_left, exists_eq_left', exists_eq', exists_eq, if_true, if_false, Bool.false_eq_true, ite_true, ite_false, eq_self, reduceCtorEq, szle0, szle1, szle2, szle3, szle4, szle5, szle6, szle8, szle13, false_and, and_false, exists_false, exists_const, or_false, false_or, Bool.true_and, Bool.false_and, Bool.and_true, Bool.and_false, decide_eq_true_eq, Bool.not_true, Bool.not_false, Bool.not_not, Nat.reduceAdd, Int.reduceNeg, Int.reduceToNat, Int.reducePow, Int.cast_ofNat_Int, Int.reduceEq, Int.reduceLT, Int.reduceLE, Int.reduceAdd, Int.reduceMul, Int.reduceSub, decide_true, decide_false, Bool.not_eq_true', decide_eq_false_iff_not, not_false_eq_true, not_true_eq_false])
local macro_rules | `(tactic| walk_at "go") => `(tactic| repeat (first | walk_at "ev" | (refine isi_int (by assumption) ?_) | (refine isi_bool (by assumption) ?_) | (refine isi_tup (by assumption) ?_) | (refine use_J (by assumption) ?_) | (refine use_J td_int ?_) | (refine tFor_rng ?_) | (refine tFor_list ?_) | (refine tFor_tup ?_) | (refine tLc_rng ?_) | (refine tLc_zip ?_) | (refine tLc_enum ?_) | (refine tLc_rng2 ?_) | (refine tFor_rng2 ?_) | (refine tupL_of (by assumption) ?_) | (refine lstL_of (by assumption) ?_) | (refine lstT_of (by assumption) ?_) | (refine tLc_list ?_) | (refine tLc_tup ?_) | (refine ixT_of (by assumption) rfl ?_) | (refine ixL_of (by assumption) rfl ?_) | (refine lenT_of (by assumption) ?_) | (refine lenL_of (by assumption) ?_) | (refine gtup_of (by assumption) rfl ?_) | (refine ⟨cmul (by assumption) (by assumption) (by decide), ?_⟩) | (refine ⟨Or.inl (by decide), ?_⟩) | (refine ⟨Or.inr (by decide), ?_⟩) | (refine ixL_of upd_same rfl ?_) | (refine setL_of (by assumption) (by rfl) ?_) | (refine ⟨(show CPow _ _ from ⟨by decide, by decide, by decide⟩), ?_⟩) | (refine ⟨(show _ ≤ sizeLine by decide), ?_⟩)))

def isTableRow : Da → Bool | .tup ds => decide (1 ≤ ds.length) && decide (ds.length ≤ 20) && ds.all isInteger | _ => false
def lenDa : Da → Nat | .tup ds => ds.length | _ => 0
def isTable : Da → Bool | .tup ds => decide (1 ≤ ds.length) && decide (ds.length ≤ 20) && ds.all isTableRow && ds.all (fun r => decide (lenDa r = lenDa (ds.getD 0 .non))) | _ => false
section
variable {P : Program} {w : World} {K : PySem.W.Frag} {mg : Str → Option Value} {base : Heap}
theorem all_of {K : PySem.W.Frag} {H : Hp} {l : Addr} {α : Type} {ds : List α} {f : α → Bool} {Q : VK} (h : H l = some (.lst (ds.map fun d => V.bl (f d)))) (q : Q (.bl (ds.all f)) H) : rAll K [.ref l] H Q :=
  ⟨l, ds.map f, rfl, .inl (.inl (by rw [h, List.map_map]; rfl)), by rw [List.all_map]; exact q⟩
/-- a judge that leaves new things behind -/
def spJS (f : Da → Bool) : Sp := fun vs H Q _ => ∃ x d, vs = [x] ∧ Td H d x ∧ ∀ H', Same H H' → Q (.bl (f d)) H'
theorem len_JS {f : Da → Bool} : ∀ vs H Q E, spJS f vs H Q E → vs.length = 1 := fun vs H Q E h => by
  obtain ⟨x, d, rfl, _⟩ := h
  rfl
theorem len_in {n : Nat} : (decide ((1 : Int) ≤ (n : Nat)) && decide ((n : Int) ≤ 20)) = (decide (1 ≤ n) && decide (n ≤ 20)) := by
  by_cases h1 : 1 ≤ n <;> by_cases h2 : n ≤ 20 <;> simp [h1, h2] <;> omega
theorem ok__is_table_row (T : Txt K mg) : FnOk P w K mg base CX0 3 T.a__is_table_row T.d__is_table_row ["value"] (spJS isTableRow) := by
  have G_is_integer := ok_is_integer (P := P) (w := w) (base := base) T
  refine T.F__is_table_row.ok sc__is_table_row len_JS (fun cdv A outer s H vs Q E hr h => ⟨_, (pss_cons (ps_if (PW.pt (pw_or (pt_not (pt_val (pe_callB call_isi (by rfl) T.m_isinstance bt_isinstance (pa_cons (pv 0) (pa_cons (pe_bltn (v := V.ty "tuple") (by rfl) T.m_tuple bt_tuple rfl) pa_nil))))) (pw_or1 (pt_not (pt_chain op_le op_le pe_int (pe_callB call_lenN (by rfl) T.m_len bt_len (pa_cons (pv 0) pa_nil)) (pe_glob (v := V.int (20)) rfl T.m_MAX_SIDE ⟨_, rfl⟩)))))) (pss_one (ps_ret pe_bl)) pss_nil)
      (pss_one (ps_ret (pe_callB (cr_all rfl) (by rfl) T.m_all bt_all (pa_cons (pe_lc (own := [("entry", 1)]) (g := gName 1) (tt := tYes) rfl sc__is_table_row.nd (pi_tup (pv 0)) (blkOk_by (N := ["value", "entry"]) (sc := defScope s__is_table_row) (by decide +kernel)) (fun _ _ _ _ _ => (pg_name (i := 1) sc__is_table_row.nd rfl (Or.inl rfl))) (fun _ _ _ _ _ => pts_nil) (fun _ _ _ _ _ => (pe_call (G_is_integer.mono (by decide)) hr (by rfl) T.g_is_integer T.k_is_integer T.b_is_integer .nil pass0 (pa_cons (pv 1) pa_nil)))) pa_nil))))), ?_⟩)
  obtain ⟨x, d, rfl, ty, q⟩ := h
  have q0 := q H (Same.refl H)
  walk_at "go"
  cases d with
  | tup ds =>
    simp only [Da.isTup]
    walk_at "go"
    simp only [Td] at ty
    obtain ⟨p, vs, rfl, hp, hv⟩ := ty
    have hl := hv.len
    walk_at "go"
    by_cases h1 : 1 ≤ ds.length
    · rw [if_pos (by omega)]
      by_cases h2 : ds.length ≤ 20
      · rw [if_neg (by omega)]
        walk_at "go"
        refine ⟨⟨_, .inl (.inl hp)⟩, ?_⟩
        refine lc_judge hp hv (by omega) (by simp) fun H' l S hl' => ?_
        refine all_of hl' ?_
        have e : isTableRow (.tup ds) = ds.all isInteger := by simp [isTableRow, h1, h2]
        have q1 := q H' S
        rw [e] at q1
        exact q1
      · rw [if_pos (by omega)]
        have e : isTableRow (.tup ds) = false := by simp [isTableRow, h2]
        rw [e] at q0
        exact q0
    · rw [if_neg (by omega)]
      have e : isTableRow (.tup ds) = false := by simp [isTableRow, h1]
      rw [e] at q0
      exact q0
  | _ =>
    simp only [Da.isTup]
    walk_at "go"
    exact q0
/-- a judge's answers, item by item, where the judge leaves new things behind -/
theorem lc_judgeS {f : Da → Bool} {K0 : PySem.W.Frag} {H : Hp} {p : Addr} {xs : List V} {ds : List Da} {te : TE} {σ : L2.St} {i : Nat} {Q : VK} (hp : H p = some (.tup xs)) (t : TdL H ds xs) (hl : xs.length < 100000) (hw : ∀ x, wipe ((wipe σ [i]).set i x) [i] = wipe σ [i])
    (hstep : ∀ x d H' (K : VK), Td H d x → d ∈ ds → Same H H' → (∀ H'', Same H' H'' → K (.bl (f d)) H'') → te ((wipe σ [i]).set i (some x)) H' K)
    (k : ∀ H' l, Same H H' → H' l = some (.lst (ds.map fun d => .bl (f d))) → Q (.ref l) H') : LoopC (Itt K0 p) (gName i) tYes te [i] Q σ H := by
  have e := t.len
  refine lc_tupP hp (fun j _ v => v = .bl (f (ds.getD j .non))) hl hw (fun _ _ _ _ _ _ _ _ h => h) (fun j D H' x hx hD hd S K kk => ?_) (fun D H' acc hD S ha al hP => ?_)
  · obtain ⟨d, md, td⟩ := t.get hx
    have ed : ds.getD j .non = d := by rw [List.getD_eq_getElem?_getD, md]; rfl
    exact hstep x d H' K td (List.mem_of_getElem? md) S fun H'' S'' => kk _ _ S'' (by simp) (by rw [ed])
  · refine k H' D S ?_
    rw [ha]
    congr 2
    refine List.ext_getElem? fun j => ?_
    rcases Nat.lt_or_ge j acc.length with hj | hj
    · rw [List.getElem?_eq_getElem hj, hP j _ (List.getElem?_eq_getElem hj), List.getElem?_map, List.getElem?_eq_getElem (by omega : j < ds.length)]
      simp [List.getD_eq_getElem?_getD, List.getElem?_eq_getElem (by omega : j < ds.length)]
    · rw [List.getElem?_eq_none hj, List.getElem?_eq_none (by rw [List.length_map]; omega)]
theorem row_tup {d : Da} (h : isTableRow d = true) : ∃ es, d = .tup es := by
  cases d <;> simp [isTableRow] at h
  exact ⟨_, rfl⟩
theorem ok_is_table (T : Txt K mg) : FnOk P w K mg base CX0 4 T.a_is_table T.d_is_table ["value"] (spJS isTable) := by
  have G__is_table_row := ok__is_table_row (P := P) (w := w) (base := base) T
  refine T.F_is_table.ok sc_is_table len_JS (fun cdv A outer s H vs Q E hr h => ⟨_, (pss_cons (ps_if (PW.pt (pw_or (pt_not (pt_val (pe_callB call_isi (by rfl) T.m_isinstance bt_isinstance (pa_cons (pv 0) (pa_cons (pe_bltn (v := V.ty "tuple") (by rfl) T.m_tuple bt_tuple rfl) pa_nil))))) (pw_or1 (pt_not (pt_chain op_le op_le pe_int (pe_callB call_lenN (by rfl) T.m_len bt_len (pa_cons (pv 0) pa_nil)) (pe_glob (v := V.int (20)) rfl T.m_MAX_SIDE ⟨_, rfl⟩)))))) (pss_one (ps_ret pe_bl)) pss_nil)
      (pss_cons (ps_if (pt_not (pt_val (pe_callB (cr_all rfl) (by rfl) T.m_all bt_all (pa_cons (pe_lc (own := [("row", 1)]) (g := gName 1) (tt := tYes) rfl sc_is_table.nd (pi_tup (pv 0)) (blkOk_by (N := ["value", "row"]) (sc := defScope s_is_table) (by decide +kernel)) (fun _ _ _ _ _ => (pg_name (i := 1) sc_is_table.nd rfl (Or.inl rfl))) (fun _ _ _ _ _ => pts_nil) (fun _ _ _ _ _ => (pe_call (G__is_table_row.mono (by decide)) hr (by rfl) T.g__is_table_row T.k__is_table_row T.b__is_table_row .nil pass0 (pa_cons (pv 1) pa_nil)))) pa_nil)))) (pss_one (ps_ret pe_bl)) pss_nil)
      (pss_one (ps_ret (pe_callB (cr_all rfl) (by rfl) T.m_all bt_all (pa_cons (pe_lc (own := [("row", 1)]) (g := gName 1) (tt := tYes) rfl sc_is_table.nd (pi_tup (pv 0)) (blkOk_by (N := ["value", "row"]) (sc := defScope s_is_table) (by decide +kernel)) (fun _ _ _ _ _ => (pg_name (i := 1) sc_is_table.nd rfl (Or.inl rfl))) (fun _ _ _ _ _ => pts_nil) (fun _ _ _ _ _ => (pe_cmpR op_eq (pe_callB (show CallR _ (.builtin "len") (TT.rLen K) from call_lenN) (by rfl) T.m_len bt_len (pa_cons (pv 1) pa_nil)) (pe_callB (show CallR _ (.builtin "len") (TT.rLen K) from call_lenN) (by rfl) T.m_len bt_len (pa_cons (pe_ix (show IxR _ (rIxT K) from ix_tup) (pv 0) pe_int (fun _ _ => rfl)) pa_nil)) (nomark _)))) pa_nil)))))), ?_⟩)
  obtain ⟨x, d, rfl, ty, q⟩ := h
  have q0 := q H (Same.refl H)
  walk_at "go"
  cases d with
  | tup ds =>
    simp only [Da.isTup]
    walk_at "go"
    simp only [Td] at ty
    obtain ⟨p, vs, rfl, hp, hv⟩ := ty
    have hl := hv.len
    walk_at "go"
    by_cases h1 : 1 ≤ ds.length
    · rw [if_pos (by omega)]
      by_cases h2 : ds.length ≤ 20
      · rw [if_neg (by omega)]
        walk_at "go"
        refine ⟨⟨_, .inl (.inl hp)⟩, ?_⟩
        refine lc_judgeS (f := isTableRow) hp hv (by omega) (fun x => by simp [wipe]) (fun x d H' K' td md S kk => ?_) fun H' l S hl' => ?_
        · walk_at "go"
          exact ⟨x, d, rfl, td.same S _ _, kk⟩
        refine all_of hl' ?_
        have q1 := q H' S
        have hp' := S _ _ hp
        have hv' := TdL.same S _ _ hv
        cases h3 : ds.all isTableRow with
        | false =>
          walk_at "go"
          have e : isTable (.tup ds) = false := by simp only [isTable, h3, Bool.and_false, Bool.false_and]
          rw [e] at q1
          exact q1
        | true =>
          walk_at "go"
          refine ⟨⟨_, .inl (.inl hp')⟩, ?_⟩
          refine lc_judgeS (f := fun r => decide (lenDa r = lenDa (ds.getD 0 .non))) hp' hv' (by omega) (fun x => by simp [wipe]) (fun x d H2 K' td md S2 kk => ?_) fun H2 l2 S2 hl2 => ?_
          · have hrow := List.all_eq_true.mp h3
            obtain ⟨es, rfl⟩ := row_tup (hrow d md)
            obtain ⟨d0, md0⟩ : ∃ d0, ds[0]? = some d0 := ⟨_, List.getElem?_eq_getElem (by omega : 0 < ds.length)⟩
            obtain ⟨es0, rfl⟩ := row_tup (hrow d0 (List.mem_of_getElem? md0))
            obtain ⟨v0, ev0⟩ : ∃ v0, vs[0]? = some v0 := ⟨_, List.getElem?_eq_getElem (by omega : 0 < vs.length)⟩
            obtain ⟨d0', e0', td0⟩ := hv'.get ev0
            rw [md0] at e0'
            cases e0'
            have hp2 := S2 _ _ hp'
            have td2 := td.same S2 _ _
            have td02 := td0.same S2 _ _
            simp only [Td] at td2 td02
            obtain ⟨q1', ws, rfl, hq1, hw1⟩ := td2
            obtain ⟨q2', ws2, rfl, hq2, hw2⟩ := td02
            have g0 : ds.getD 0 .non = .tup es0 := by rw [List.getD_eq_getElem?_getD, md0]; rfl
            walk_at "go"
            refine ixT_of hp2 (atI_nat (α := Unit) (i := 0) ev0) ?_
            walk_at "go"
            have kk2 := kk H2 (Same.refl _)
            rw [g0] at kk2
            have e1 := hw1.len
            have e2 := hw2.len
            have e3 : decide ((ws.length : Int) = (ws2.length : Nat)) = decide (lenDa (.tup es) = lenDa (.tup es0)) := by
              rw [decide_eq_decide, e1, e2]
              show _ ↔ es.length = es0.length
              constructor <;> intro h <;> omega
            rw [e3]
            exact kk2
          refine all_of hl2 ?_
          have q2 := q H2 (S.trans S2)
          have e : isTable (.tup ds) = ds.all (fun r => decide (lenDa r = lenDa (ds.getD 0 .non))) := by simp only [isTable, h3, h1, h2, decide_true, Bool.true_and]
          rw [e] at q2
          exact q2
      · rw [if_pos (by omega)]
        have e : isTable (.tup ds) = false := by simp [isTable, h2]
        rw [e] at q0
        exact q0
    · rw [if_neg (by omega)]
      have e : isTable (.tup ds) = false := by simp [isTable, h1]
      rw [e] at q0
      exact q0
  | _ =>
    simp only [Da.isTup]
    walk_at "go"
    exact q0
/-! ### tables as data -/
def tabDa (G : List (List Int)) : Da := .tup (G.map fun r => .tup (r.map Da.int))
theorem ints_td {H : Hp} : ∀ {r : List Int} {ws : List V}, TdL H (r.map Da.int) ws → ws = r.map V.int
  | [], ws, h => by simpa only [List.map_nil, TdL] using h
  | a :: r, ws, h => by
    simp only [List.map_cons, TdL] at h
    obtain ⟨v, t, rfl, h1, h2⟩ := h
    simp only [Td] at h1
    rw [ints_td h2, h1]
    rfl
theorem tab_td {H : Hp} {t : Addr} {G : List (List Int)} (h : TabAt H t G) : Td H (tabDa G) (.ref t) := by
  obtain ⟨vs, hp, hl, hr⟩ := h
  refine td_tup hp ?_
  have key : ∀ (G : List (List Int)) (vs : List V), vs.length = G.length → (∀ i v, vs[i]? = some v → ∃ q, v = .ref q ∧ H q = some (.tup ((G.getD i []).map V.int))) → TdL H (G.map fun r => .tup (r.map Da.int)) vs := by
    intro G
    induction G with
    | nil => intro vs hl _; rw [List.length_nil] at hl; rw [List.eq_nil_of_length_eq_zero hl]; exact tdl_nil
    | cons r G ih =>
      intro vs hl hr
      cases vs with
      | nil => simp at hl
      | cons v vs =>
        refine tdl_cons ?_ (ih vs (by simpa using hl) fun i w e => hr (i + 1) w e)
        obtain ⟨q, rfl, hq⟩ := hr 0 v rfl
        exact td_tup hq tdl_ints
  exact key G vs hl hr
theorem tab_len {G : List (List Int)} (h : isTable (tabDa G) = true) : 0 < G.length ∧ G.length < 1000 ∧ 0 < (G.getD 0 []).length ∧ (G.getD 0 []).length < 1000 ∧ Wide G (G.getD 0 []).length := by
  unfold tabDa isTable at h
  simp only [Bool.and_eq_true, decide_eq_true_eq, List.length_map, List.all_eq_true] at h
  obtain ⟨⟨⟨h1, h2⟩, h3⟩, h4⟩ := h
  have row : ∀ i, i < G.length → (1 ≤ (G.getD i []).length ∧ (G.getD i []).length ≤ 20) ∧ (G.getD i []).length = (G.getD 0 []).length := fun i hi => by
    have e : G.getD i [] = G[i] := by simp [hi]
    have e0 : G.getD 0 [] = G[0] := by rw [List.getD_eq_getElem?_getD, List.getElem?_eq_getElem (show 0 < G.length by omega)]; rfl
    have m : Da.tup ((G[i]).map Da.int) ∈ G.map fun r => Da.tup (r.map Da.int) := List.mem_map.mpr ⟨G[i], List.getElem_mem hi, rfl⟩
    have r3 := h3 _ m
    have r4 := h4 _ m
    simp only [isTableRow, Bool.and_eq_true, decide_eq_true_eq, List.length_map] at r3
    have g0 : (G.map fun r => Da.tup (r.map Da.int)).getD 0 .non = Da.tup ((G[0]).map Da.int) := by simp [List.getD_eq_getElem?_getD, List.getElem?_eq_getElem (show 0 < G.length by omega)]
    rw [g0] at r4
    simp only [lenDa, List.length_map] at r4
    rw [e, e0]
    exact ⟨r3.1, r4⟩
  have r0 := row 0 (by omega)
  exact ⟨by omega, by omega, by omega, by omega, fun i hi => (row i hi).2⟩
/-- the first row of a table -/
theorem tab_row0 {H : Hp} {t : Addr} {G : List (List Int)} (h : TabAt H t G) (h0 : 0 < G.length) : ∃ vs q, H t = some (.tup vs) ∧ vs.length = G.length ∧ vs[0]? = some (.ref q) ∧ H q = some (.tup ((G.getD 0 []).map V.int)) := by
  obtain ⟨vs, hp, hl, hr⟩ := h
  have e := List.getElem?_eq_getElem (l := vs) (i := 0) (by omega)
  obtain ⟨q, e1, e2⟩ := hr 0 _ e
  exact ⟨vs, q, hp, hl, by rw [e, e1], e2⟩
def sp_chk (C : Addr) : Sp := fun vs H Q E => ∃ x d, vs = [x] ∧ Td H d x ∧ ((isTable d = false ∧ ∀ H', Same H H' → E (.ref C) none H') ∨ (isTable d = true ∧ ∀ H', Same H H' → Q .non H'))
theorem ok__check_table (T : Txt K mg) : FnOk P w K mg base (L2.CX P w) 5 T.a__check_table T.d__check_table ["value"] (sp_chk T.c_InvalidTable) := by
  have G_is_table := ok_is_table (P := P) (w := w) (base := base) T
  refine T.F__check_table.okX sc__check_table (fun vs H Q E h => ?_) (fun cdv A outer s H vs Q E hr h => ⟨_, (pss_one (ps_if (pt_not (pt_val (pe_call (G_is_table.mono (by decide)) hr (by rfl) T.g_is_table T.k_is_table T.b_is_table .nil pass0 (pa_cons (pv 0) pa_nil)))) (pss_one (ps_raise rfl (takes_of rfl rfl rfl rfl) (pmk_own F.excBase_ValueError T.E_InvalidTable.e T.E_InvalidTable.g T.E_InvalidTable.k (raises_own T.E_InvalidTable.s T.E_InvalidTable.y) (by rfl)))) pss_nil)), ?_⟩)
  · obtain ⟨x, d, rfl, _⟩ := h
    rfl
  obtain ⟨x, d, rfl, td, ⟨hd, k⟩ | ⟨hd, k⟩⟩ := h
  · walk_at "go"
    refine ⟨x, d, rfl, td, fun H' S => ?_⟩
    rw [hd]
    walk_at "go"
    exact k H' S
  · walk_at "go"
    refine ⟨x, d, rfl, td, fun H' S => ?_⟩
    rw [hd]
    walk_at "go"
    exact k H' S
def sp_sq (C D : Addr) : Sp := fun vs H Q E => ∃ x, vs = [x] ∧ ((∃ d, Td H d x ∧ isTable d = false ∧ ∀ H', Same H H' → E (.ref C) none H') ∨ ∃ t G, x = .ref t ∧ TabAt H t G ∧ isTable (tabDa G) = true ∧
  ((G.length ≠ (G.getD 0 []).length ∧ ∀ H', Same H H' → E (.ref D) none H') ∨ (G.length = (G.getD 0 []).length ∧ ∀ H', Same H H' → Q .non H')))
theorem ok__check_square (T : Txt K mg) : FnOk P w K mg base (L2.CX P w) 6 T.a__check_square T.d__check_square ["value"] (sp_sq T.c_InvalidTable T.c_InvalidOperation) := by
  have G__check_table := ok__check_table (P := P) (w := w) (base := base) T
  refine T.F__check_square.okX sc__check_square (fun vs H Q E h => ?_) (fun cdv A outer s H vs Q E hr h => ⟨_, (pss_cons (ps_expr (pe_callS (G__check_table.mono (by decide)) hr (by rfl) T.g__check_table T.k__check_table T.b__check_table (fun σ => passAt (takes_of rfl rfl rfl rfl) σ) (pa_cons (pv 0) pa_nil)))
      (pss_one (ps_if (pt_cmpR op_ne (pe_callB call_lenN (by rfl) T.m_len bt_len (pa_cons (pv 0) pa_nil)) (pe_callB call_lenN (by rfl) T.m_len bt_len (pa_cons (pe_ix ix_tup (pv 0) pe_int (fun _ _ => rfl)) pa_nil)) (nomark _)) (pss_one (ps_raise rfl (takes_of rfl rfl rfl rfl) (pmk_own F.excBase_ValueError T.E_InvalidOperation.e T.E_InvalidOperation.g T.E_InvalidOperation.k (raises_own T.E_InvalidOperation.s T.E_InvalidOperation.y) (by rfl)))) pss_nil))), ?_⟩)
  · obtain ⟨x, rfl, _⟩ := h
    rfl
  obtain ⟨x, rfl, ⟨d, td, hd, k⟩ | ⟨t, G, rfl, hT, hG, k⟩⟩ := h
  · walk_at "go"
    exact ⟨x, d, rfl, td, .inl ⟨hd, k⟩⟩
  · walk_at "go"
    refine ⟨_, _, rfl, tab_td hT, .inr ⟨hG, fun H1 S1 => ?_⟩⟩
    obtain ⟨vs, q, hp, hl, ev, hq⟩ := tab_row0 (hT.same S1) (tab_len hG).1
    walk_at "go"
    refine ixT_of hp (atI_nat (α := Unit) (i := 0) ev) ?_
    walk_at "go"
    rw [List.length_map]
    rcases k with ⟨hn, k⟩ | ⟨hn, k⟩
    · rw [if_pos (by omega)]
      exact k H1 S1
    · rw [if_neg (by omega)]
      exact k H1 S1
/-! ### what is asked of tables -/
def sp_rk (C : Addr) : Sp := fun vs H Q E => ∃ x, vs = [x] ∧ ((∃ d, Td H d x ∧ isTable d = false ∧ ∀ H', Same H H' → E (.ref C) none H') ∨ ∃ t G r m, x = .ref t ∧ TabAt H t G ∧ isTable (tabDa G) = true ∧ rankMinor G (G.getD 0 []).length = some (r, m) ∧ ∀ H', Same H H' → Q (.int (r : Nat)) H')
theorem ok_rank (T : Txt K mg) : FnOk P w K mg base (L2.CX P w) 6 T.a_rank T.d_rank ["table"] (sp_rk T.c_InvalidTable) := by
  have G__check_table := ok__check_table (P := P) (w := w) (base := base) T
  have G_rank_and_minor := ok_rank_and_minor (P := P) (w := w) (base := base) T
  refine T.F_rank.okX sc_rank (fun vs H Q E h => ?_) (fun cdv A outer s H vs Q E hr h => ⟨_, (pss_cons (ps_expr (pe_callS (G__check_table.mono (by decide)) hr (by rfl) T.g__check_table T.k__check_table T.b__check_table (fun σ => passAt (takes_of rfl rfl rfl rfl) σ) (pa_cons (pv 0) pa_nil)))
      (pss_cons (ps_asg (pe_call (G_rank_and_minor.mono (by decide)) hr (by rfl) T.g_rank_and_minor T.k_rank_and_minor T.b_rank_and_minor .nil pass0 (pa_cons (pv 0) pa_nil)) (pg_tup rfl (pgs_cons (pg_name (i := 1) sc_rank.nd rfl (Or.inl rfl)) (pgs_cons (pg_name (i := 2) sc_rank.nd rfl (Or.inl rfl)) pgs_nil))))
      (pss_one (ps_ret (pv 1))))), ?_⟩)
  · obtain ⟨x, rfl, _⟩ := h
    rfl
  obtain ⟨x, rfl, ⟨d, td, hd, k⟩ | ⟨t, G, r, m, rfl, hT, hG, hR, k⟩⟩ := h
  · walk_at "go"
    exact ⟨x, d, rfl, td, .inl ⟨hd, k⟩⟩
  · walk_at "go"
    refine ⟨_, _, rfl, tab_td hT, .inr ⟨hG, fun H1 S1 => ?_⟩⟩
    have tl := tab_len hG
    walk_at "go"
    refine ⟨t, _, G, r, m, rfl, hT.same S1, tl.1, tl.2.1, tl.2.2.1, tl.2.2.2.1, tl.2.2.2.2, hR, fun H2 p S2 hp => ?_⟩
    refine gtup_of hp rfl ?_
    walk_at "go"
    exact k H2 (S1.trans S2)
def sp_drows : Sp := fun vs H Q _ => ∃ t G r m, vs = [.ref t] ∧ TabAt H t G ∧ isTable (tabDa G) = true ∧ rankMinor G (G.getD 0 []).length = some (r, m) ∧ ∀ H', Same H H' → Q (.int (if (r : Int) = (G.length : Nat) then m else 0)) H'
theorem ok_determinant_of_rows (T : Txt K mg) : FnOk P w K mg base CX0 3 T.a_determinant_of_rows T.d_determinant_of_rows ["rows"] sp_drows := by
  have G_rank_and_minor := ok_rank_and_minor (P := P) (w := w) (base := base) T
  refine T.F_determinant_of_rows.ok sc_determinant_of_rows (fun vs H Q E h => ?_) (fun cdv A outer s H vs Q E hr h => ⟨_, (pss_cons (ps_asg (pe_call (G_rank_and_minor.mono (by decide)) hr (by rfl) T.g_rank_and_minor T.k_rank_and_minor T.b_rank_and_minor .nil pass0 (pa_cons (pv 0) pa_nil)) (pg_tup rfl (pgs_cons (pg_name (i := 1) sc_determinant_of_rows.nd rfl (Or.inl rfl)) (pgs_cons (pg_name (i := 2) sc_determinant_of_rows.nd rfl (Or.inl rfl)) pgs_nil))))
      (pss_one (ps_ret (pe_ifExp (pt_cmpR op_eq (pv 1) (pe_callB call_lenN (by rfl) T.m_len bt_len (pa_cons (pv 0) pa_nil)) (nomark _)) (pv 2) pe_int)))), ?_⟩)
  · obtain ⟨t, G, r, m, rfl, _⟩ := h
    rfl
  obtain ⟨t, G, r, m, rfl, hT, hG, hR, k⟩ := h
  have tl := tab_len hG
  walk_at "go"
  refine ⟨t, _, G, r, m, rfl, hT, tl.1, tl.2.1, tl.2.2.1, tl.2.2.2.1, tl.2.2.2.2, hR, fun H2 p S2 hp => ?_⟩
  refine gtup_of hp rfl ?_
  obtain ⟨vs, hv, hl, _⟩ := hT.same S2
  have k2 := k H2 S2
  walk_at "go"
  rw [hl]
  by_cases h : (r : Int) = (G.length : Nat)
  · rw [if_pos h] at k2 ⊢
    exact k2
  · rw [if_neg h] at k2 ⊢
    exact k2
def sp_det (C D : Addr) : Sp := fun vs H Q E => ∃ x, vs = [x] ∧ ((∃ d, Td H d x ∧ isTable d = false ∧ ∀ H', Same H H' → E (.ref C) none H') ∨ ∃ t G, x = .ref t ∧ TabAt H t G ∧ isTable (tabDa G) = true ∧
  ((G.length ≠ (G.getD 0 []).length ∧ ∀ H', Same H H' → E (.ref D) none H') ∨ (G.length = (G.getD 0 []).length ∧ ∃ r m, rankMinor G (G.getD 0 []).length = some (r, m) ∧ ∀ H', Same H H' → Q (.int (if (r : Int) = (G.length : Nat) then m else 0)) H')))
theorem ok_determinant (T : Txt K mg) : FnOk P w K mg base (L2.CX P w) 7 T.a_determinant T.d_determinant ["table"] (sp_det T.c_InvalidTable T.c_InvalidOperation) := by
  have G__check_square := ok__check_square (P := P) (w := w) (base := base) T
  have G_determinant_of_rows := ok_determinant_of_rows (P := P) (w := w) (base := base) T
  refine T.F_determinant.okX sc_determinant (fun vs H Q E h => ?_) (fun cdv A outer s H vs Q E hr h => ⟨_, (pss_cons (ps_expr (pe_callS (G__check_square.mono (by decide)) hr (by rfl) T.g__check_square T.k__check_square T.b__check_square (fun σ => passAt (takes_of rfl rfl rfl rfl) σ) (pa_cons (pv 0) pa_nil)))
      (pss_one (ps_ret (pe_call (G_determinant_of_rows.mono (by decide)) hr (by rfl) T.g_determinant_of_rows T.k_determinant_of_rows T.b_determinant_of_rows .nil pass0 (pa_cons (pv 0) pa_nil))))), ?_⟩)
  · obtain ⟨x, rfl, _⟩ := h
    rfl
  obtain ⟨x, rfl, ⟨d, td, hd, k⟩ | ⟨t, G, rfl, hT, hG, ⟨hn, k⟩ | ⟨hn, r, m, hR, k⟩⟩⟩ := h
  · walk_at "go"
    exact ⟨x, rfl, .inl ⟨d, td, hd, k⟩⟩
  · walk_at "go"
    exact ⟨_, rfl, .inr ⟨t, G, rfl, hT, hG, .inl ⟨hn, k⟩⟩⟩
  · walk_at "go"
    refine ⟨_, rfl, .inr ⟨t, G, rfl, hT, hG, .inr ⟨hn, fun H1 S1 => ?_⟩⟩⟩
    walk_at "go"
    exact ⟨t, G, r, m, rfl, hT.same S1, hG, hR, fun H2 S2 => k H2 (S1.trans S2)⟩
end
end K02

set_option Elab.async false
set_option linter.all false
set_option maxRecDepth 100000
set_option maxHeartbeats 4000000
namespace K02
open PySem PySem.Spec PyProof.Rows L2 TT
local macro_rules | `(tactic| walk_at "ev") => `(tactic| simp only [L2.start, tRet, tRetN, tSeq, tNext, tNever, tDrop, tIfS, tAsg, tPar, gName, tVar, tC, tOp, tUn, tTest, tB, tAnd, tOr, tNot, tAndV, tOrV, tNotV, tIf, tChain, tCons, tNil, tTup, tLst, wipe, tBM, tSl, tPart, tNoPart, tCB, tCall, tCallS, tRaiseK, tKept, WE, rI0, rI, rU, rEq, rNe, rGcd, scal, gNil, gCons, gSub, Int.zero_sub,
  List.length_cons, List.length_nil, List.map_cons, List.map_nil, List.replicate, List.cons_append, List.nil_append, List.append_nil, List.set_cons_zero, List.set_cons_succ, List.set_nil, List.getElem?_cons_zero, List.getElem?_cons_succ, List.getElem?_nil, List.drop_zero, List.drop_succ_cons, List.drop_nil, List.length_drop,
  Option.some.injEq, V.int.injEq, V.bl.injEq, V.ref.injEq, List.cons.injEq, and_true, true_and, and_assoc, exists_and_left, exists_and_right, exists_eq_left, exists_eq_left', exists_eq', exists_eq, if_true, if_false, Bool.false_eq_true, ite_true, ite_false, eq_self, reduceCtorEq, szle0, szle1, szle2, szle3, szle4, szle5, szle6, szle8, szle13, false_and, and_false, exists_false, exists_const, or_false, false_or, Bool.true_and, Bool.false_and, Bool.and_true, Bool.and_false, decide_eq_true_eq, Bool.not_true, Bool.not_false, Bool.not_not, Nat.reduceAdd, Int.reduceNeg, Int.reduceToNat, Int.reducePow, Int.cast_ofNat_Int, Int.reduceEq, Int.reduceLT, Int.reduceLE, Int.reduceAdd, Int.reduceMul, Int.reduceSub, decide_true, decide_false, Bool.not_eq_true', decide_eq_false_iff_not, not_false_eq_true, not_true_eq_false])
local macro_rules | `(tactic| walk_at "go") => `(tactic| repeat (first | walk_at "ev" | (refine isi_int (by assumption) ?_) | (refine isi_bool (by assumption) ?_) | (refine isi_tup (by assumption) ?_) | (refine use_J (by assumption) ?_) | (refine use_J td_int ?_) | (refine tFor_rng ?_) | (refine tFor_list ?_) | (refine tFor_tup ?_) | (refine tLc_rng ?_) | (refine tLc_zip ?_) | (refine tLc_enum ?_) | (refine tLc_rng2 ?_) | (refine tFor_rng2 ?_) | (refine tupL_of (by assumption) ?_) | (refine lstL_of (by assumption) ?_) | (refine lstT_of (by assumption) ?_) | (refine tLc_list ?_) | (refine tLc_tup ?_) | (refine ixT_of (by assumption) rfl ?_) | (refine ixL_of (by assumption) rfl ?_) | (refine lenT_of (by assumption) ?_) | (refine lenL_of (by assumption) ?_) | (refine gtup_of (by assumption) rfl ?_) | (refine ⟨cmul (by assumption) (by assumption) (by decide), ?_⟩) | (refine ⟨Or.inl (by decide), ?_⟩) | (refine ⟨Or.inr (by decide), ?_⟩) | (refine ixL_of upd_same rfl ?_) | (refine setL_of (by assumption) (by rfl) ?_) | (refine ⟨(show CPow _ _ from ⟨by decide, by decide, by decide⟩), ?_⟩) | (refine ⟨(show _ ≤ sizeLine by decide), ?_⟩)))

section
variable {P : Program} {w : World} {K : PySem.W.Frag} {mg : Str → Option Value} {base : Heap}
/-! ### the factors of a table of one number -/
def sp_col : Sp := fun vs H Q _ => ∃ (l : Addr) (m : Int) (x : V), vs = [.ref l, .int 0, .int m] ∧ H l = some (.lst [x]) ∧ ∀ H' p, Same H H' → H' p = some (.lst [x]) → Q (.ref p) H'
theorem ok__with_clear_column (T : Txt K mg) : FnOk P w K mg base CX0 1 T.a__with_clear_column T.d__with_clear_column ["rows", "at", "modulus"] sp_col := by
  refine T.F__with_clear_column.ok sc__with_clear_column (fun vs H Q E h => ?_) (fun cdv A outer s H vs Q E hr h => ⟨_, (pss_cons (ps_set (i := 3) sc__with_clear_column.nd rfl (Or.inl rfl) (pe_callTy call_listN (by rfl) T.m_list bt_list (pa_cons (pv 0) pa_nil)))
      (pss_cons (ps_for PassesOwn.never rfl (pi_range2 rfl T.m_range (pa_cons (pe_op op_add (pv 1) pe_int) (pa_cons (pe_callB call_lenN (by rfl) T.m_len bt_len (pa_cons (pv 3) pa_nil)) pa_nil))) (pg_name (i := 4) sc__with_clear_column.nd rfl (Or.inl rfl)) pss_never)
      (pss_one (ps_ret (pv 3))))), ?_⟩)
  · obtain ⟨l, m, x, rfl, _⟩ := h
    rfl
  obtain ⟨l, m, x, rfl, hl, k⟩ := h
  walk_at "go"
  intro p hp
  have k2 := k _ p (same_upd (o := .lst [x]) hp) upd_same
  have hp2 : upd H p (.lst [x]) p = some (.lst [x]) := upd_same
  generalize upd H p (.lst [x]) = H2 at k2 hp2 ⊢
  walk_at "go"
  exact loop_rng (fun i σ H' => H' = H2 ∧ ∃ v, σ = [some (.ref l), some (.int 0), some (.int m), some (.ref p), v, none, none, none, none, none, none]) ⟨rfl, _, rfl⟩ (fun σ H' ⟨e1, v, e2⟩ => by subst e1 e2; walk_at "go"; exact k2) (fun i _ _ hi _ => absurd hi (by omega))
def sp_cross : Sp := fun vs H Q _ => ∃ (l q : Addr) (m z : Int), vs = [.ref l, .int 0, .int m] ∧ H l = some (.lst [.ref q]) ∧ H q = some (.lst [.int z]) ∧ ∀ H' p, Same H H' → H' p = some (.lst [.ref q]) → Q (.ref p) H'
theorem ok__with_clear_cross (T : Txt K mg) : FnOk P w K mg base CX0 2 T.a__with_clear_cross T.d__with_clear_cross ["rows", "at", "modulus"] sp_cross := by
  have G__with_clear_column := ok__with_clear_column (P := P) (w := w) (base := base) T
  refine T.F__with_clear_cross.ok sc__with_clear_cross (fun vs H Q E h => ?_) (fun cdv A outer s H vs Q E hr h => ⟨_, (pss_cons (ps_set (i := 3) sc__with_clear_cross.nd rfl (Or.inr rfl) (pe_call (G__with_clear_column.mono (by decide)) hr (by rfl) T.g__with_clear_column T.k__with_clear_column T.b__with_clear_column .nil pass0 (pa_cons (pv 0) (pa_cons (pv 1) (pa_cons (pv 2) pa_nil)))))
      (pss_cons (ps_while PassesOwn.never (pt_val (pe_callB (cr_any rfl) (by rfl) T.m_any bt_any (pa_cons (pe_lc (own := [("entry", 5)]) (g := gName 5) (tt := tYes) rfl sc__with_clear_cross.nd (pi_list (pe_slice sl_list (pe_ix ix_list (pv 3) (pv 1) (fun _ _ => rfl)) (po_some (pe_op op_add (pv 1) pe_int)) po_none)) (blkOk_by (N := ["rows", "at", "modulus", "left", "turned", "entry", "column", "row"]) (sc := defScope s__with_clear_cross) (by decide +kernel)) (fun _ _ _ _ _ => (pg_name (i := 5) sc__with_clear_cross.nd rfl (Or.inl rfl))) (fun _ _ _ _ _ => pts_nil) (fun _ _ _ _ _ => (pe_cmpR op_ne (pv 5) pe_int (nomark _)))) pa_nil))) pss_never)
      (pss_one (ps_ret (pv 3))))), ?_⟩)
  · obtain ⟨l, q, m, z, rfl, _⟩ := h
    rfl
  obtain ⟨l, q, m, z, rfl, hl, hq, k⟩ := h
  walk_at "go"
  refine ⟨l, m, _, rfl, hl, fun H1 p S1 hp => ?_⟩
  have hq1 := S1 _ _ hq
  walk_at "go"
  refine ⟨fun n σ H' => H' = H1 ∧ σ = [some (.ref l), some (.int 0), some (.int m), some (.ref p), none, none, none, none], ⟨0, rfl, rfl⟩, fun n σ H' ⟨e1, e2⟩ => ?_⟩
  subst e1 e2
  walk_at "go"
  refine ⟨q, _, rfl, .inl (.inl hq1), fun p2 hp2 => ?_⟩
  have hn : upd H' p2 (.lst (cutV [V.int z] (some 1) none)) p2 = some (.lst []) := upd_same
  have S2 := S1.trans (same_upd (o := .lst (cutV [V.int z] (some 1) none)) hp2)
  have hp3 := same_upd (o := .lst (cutV [V.int z] (some 1) none)) hp2 _ _ hp
  generalize upd H' p2 (.lst (cutV [V.int z] (some 1) none)) = H3 at hn S2 hp3 ⊢
  refine ⟨_, rfl, ⟨_, .inl (.inl hn)⟩, ?_⟩
  refine lc_lstP hn (fun _ _ _ => True) (by decide) (fun x => by simp [wipe]) (fun _ _ _ _ _ _ _ _ _ => trivial) (fun i D H' x hx => by simp at hx) (fun D H4 acc hD S3 ha hl hP => ?_)
  obtain rfl : acc = [] := List.eq_nil_of_length_eq_zero hl
  refine ⟨D, [], rfl, .inl (.inl ha), ?_⟩
  walk_at "go"
  exact k H4 p (S2.trans S3) (S3 _ _ hp3)
def sp_chain : Sp := fun vs H Q _ => ∃ (l : Addr) (z : Int), vs = [.ref l] ∧ H l = some (.lst [.int z]) ∧ ∀ H' p, Same H H' → H' p = some (.lst [.int z]) → Q (.ref p) H'
theorem ok__divisor_chain (T : Txt K mg) : FnOk P w K mg base CX0 1 T.a__divisor_chain T.d__divisor_chain ["values"] sp_chain := by
  refine T.F__divisor_chain.ok sc__divisor_chain (fun vs H Q E h => ?_) (fun cdv A outer s H vs Q E hr h => ⟨_, (pss_cons (ps_set (i := 1) sc__divisor_chain.nd rfl (Or.inl rfl) (pe_callTy call_listN (by rfl) T.m_list bt_list (pa_cons (pv 0) pa_nil)))
      (pss_cons (ps_for PassesOwn.never rfl (pi_range1 rfl T.m_range (pa_cons (pe_callB call_lenN (by rfl) T.m_len bt_len (pa_cons (pv 1) pa_nil)) pa_nil)) (pg_name (i := 2) sc__divisor_chain.nd rfl (Or.inl rfl)) (pss_one (ps_for PassesOwn.never rfl (pi_range2 rfl T.m_range (pa_cons (pe_op op_add (pv 2) pe_int) (pa_cons (pe_callB call_lenN (by rfl) T.m_len bt_len (pa_cons (pv 1) pa_nil)) pa_nil))) (pg_name (i := 3) sc__divisor_chain.nd rfl (Or.inl rfl)) pss_never)))
      (pss_one (ps_ret (pv 1))))), ?_⟩)
  · obtain ⟨l, z, rfl, _⟩ := h
    rfl
  obtain ⟨l, z, rfl, hl, k⟩ := h
  walk_at "go"
  intro p hp
  have k2 := k _ p (same_upd (o := .lst [.int z]) hp) upd_same
  have hp2 : upd H p (.lst [.int z]) p = some (.lst [.int z]) := upd_same
  generalize upd H p (.lst [.int z]) = H2 at k2 hp2 ⊢
  walk_at "go"
  refine loop_rng (fun i σ H' => H' = H2 ∧ ∃ u v, σ = [some (.ref l), some (.ref p), u, v, none]) ⟨rfl, _, _, rfl⟩ (fun σ H' ⟨e1, u, v, e2⟩ => by subst e1 e2; walk_at "go"; exact k2) (fun i σ H' hi ⟨e1, u, v, e2⟩ => ?_)
  subst e1 e2
  obtain rfl : i = 0 := by omega
  walk_at "go"
  exact loop_rng (fun i σ H'' => H'' = H' ∧ ∃ u v, σ = [some (.ref l), some (.ref p), u, v, none]) ⟨rfl, _, _, rfl⟩ (fun σ H'' ⟨e1, u, v, e2⟩ => ⟨e1, u, v, e2⟩) (fun i _ _ hi _ => absurd hi (by omega))
def sp_frows : Sp := fun vs H Q _ => ∃ (t : Addr) (z m : Int), vs = [.ref t] ∧ TabAt H t [[z]] ∧ isTable (tabDa [[z]]) = true ∧ rankMinor [[z]] 1 = some (1, m) ∧ m ≠ 0 ∧ B 100 m ∧ ∀ H' v, Same H H' → Q v H'
theorem ok_factors_of_rows (T : Txt K mg) : FnOk P w K mg base CX0 3 T.a_factors_of_rows T.d_factors_of_rows ["rows"] sp_frows := by
  have G_rank_and_minor := ok_rank_and_minor (P := P) (w := w) (base := base) T
  have G__with_clear_cross := ok__with_clear_cross (P := P) (w := w) (base := base) T
  have G__divisor_chain := ok__divisor_chain (P := P) (w := w) (base := base) T
  refine T.F_factors_of_rows.ok sc_factors_of_rows (fun vs H Q E h => ?_) (fun cdv A outer s H vs Q E hr h => ⟨_, (pss_cons (ps_asg (pe_call (G_rank_and_minor.mono (by decide)) hr (by rfl) T.g_rank_and_minor T.k_rank_and_minor T.b_rank_and_minor .nil pass0 (pa_cons (pv 0) pa_nil)) (pg_tup rfl (pgs_cons (pg_name (i := 1) sc_factors_of_rows.nd rfl (Or.inl rfl)) (pgs_cons (pg_name (i := 2) sc_factors_of_rows.nd rfl (Or.inl rfl)) pgs_nil))))
      (pss_cons (ps_if (pt_cmpR op_eq (pv 1) pe_int (nomark _)) (pss_one (ps_ret (pe_tup pa_nil))) pss_nil)
      (pss_cons (ps_set (i := 3) sc_factors_of_rows.nd rfl (Or.inr rfl) (pe_callB call_abs (by rfl) T.m_abs bt_abs (pa_cons (pv 2) pa_nil)))
      (pss_cons (ps_setLc (i := 4) (own := [("row", 7)]) (g := gName 7) (tt := tYes) rfl sc_factors_of_rows.nd rfl rfl (sw_true rfl rfl rfl (by decide +kernel)) (pi_tup (pv 0)) (blkOk_by (N := ["rows", "rank", "minor", "modulus", "left", "found", "at", "row", "entry"]) (sc := defScope s_factors_of_rows) (by decide +kernel)) (fun _ _ _ _ _ => (pg_name (i := 7) sc_factors_of_rows.nd rfl (Or.inl rfl))) (fun _ _ _ _ _ => pts_nil) (fun _ _ _ _ _ => (pe_lc (own := [("entry", 8)]) (g := gName 8) (tt := tYes) rfl sc_factors_of_rows.nd (show PI _ _ _ (iTup K _) from pi_tup (pv 7)) (blkOk_by (N := ["rows", "rank", "minor", "modulus", "left", "found", "at", "row", "entry"]) (sc := { kind := .function, names := [((".0" : Str), .local), (("row" : Str), .local), (("modulus" : Str), .cell)], isGenerator := false, isCoroutine := false }) (by decide +kernel)) (fun _ _ _ _ _ => (pg_name (i := 8) sc_factors_of_rows.nd rfl (Or.inl rfl))) (fun _ _ _ _ _ => pts_nil) (fun _ _ _ _ _ => (pe_op op_mod (pv 8) (pv 3))))))
      (pss_cons (ps_set (i := 5) sc_factors_of_rows.nd rfl (Or.inl rfl) (pe_lst pa_nil))
      (pss_cons (ps_for PassesOwn.never rfl (pi_range1 rfl T.m_range (pa_cons (pe_callB (call_min2 rfl) (by rfl) T.m_min bt_min (pa_cons (pe_callB call_lenN (by rfl) T.m_len bt_len (pa_cons (pv 0) pa_nil)) (pa_cons (pe_callB call_lenN (by rfl) T.m_len bt_len (pa_cons (pe_ix ix_tup (pv 0) pe_int (fun _ _ => rfl)) pa_nil)) pa_nil))) pa_nil)) (pg_name (i := 6) sc_factors_of_rows.nd rfl (Or.inl rfl)) (pss_cons (ps_set (i := 4) sc_factors_of_rows.nd rfl (Or.inl rfl) (pe_call (G__with_clear_cross.mono (by decide)) hr (by rfl) T.g__with_clear_cross T.k__with_clear_cross T.b__with_clear_cross .nil pass0 (pa_cons (pv 4) (pa_cons (pv 6) (pa_cons (pv 3) pa_nil)))))
      (pss_one (ps_expr (pe_bm PySem.F.plainAttrs_list PySem.F.slot_list_append PySem.F.type_list_append mt_append (pv 5) (pa_cons (pe_callBfun cr_gcd (by rfl) T.g_gcd (pa_cons (pe_ix ix_list (pe_ix ix_list (pv 4) (pv 6) (fun _ _ => rfl)) (pv 6) (fun _ _ => rfl)) (pa_cons (pv 3) pa_nil))) pa_nil))))))
      (pss_one (ps_ret (pe_callTy call_tupleN (by rfl) T.m_tuple bt_tuple (pa_cons (pe_slice sl_list (pe_call (G__divisor_chain.mono (by decide)) hr (by rfl) T.g__divisor_chain T.k__divisor_chain T.b__divisor_chain .nil pass0 (pa_cons (pv 5) pa_nil)) po_none (po_some (pv 1))) pa_nil)))))))))), ?_⟩)
  · obtain ⟨t, z, m, rfl, _⟩ := h
    rfl
  obtain ⟨t, z, m, rfl, hT, hG, hR, m0, mb, k⟩ := h
  have tl := tab_len hG
  walk_at "go"
  refine ⟨t, _, [[z]], 1, m, rfl, hT, tl.1, tl.2.1, tl.2.2.1, tl.2.2.2.1, tl.2.2.2.2, hR, fun H1 p S1 hp => ?_⟩
  refine gtup_of hp rfl ?_
  obtain ⟨vs, q, hv, hl, ev, hq⟩ := tab_row0 (hT.same S1) tl.1
  obtain rfl : vs = [.ref q] := by
    match vs, hl, ev with
    | [v], _, ev => simpa using ev
  have hq : H1 q = some (.tup [.int z]) := hq
  walk_at "go"
  have mm : 0 < (if m < 0 then -m else m) := by split <;> omega
  generalize (if m < 0 then -m else m) = M at mm ⊢
  refine ⟨⟨_, .inl (.inl hv)⟩, ?_⟩
  refine lc_tupP hv (fun _ H v => ∃ q2 y, v = .ref q2 ∧ H q2 = some (.lst [V.int y])) (by simp) (fun x => by simp [wipe]) (fun i D H H' v _ b n ⟨q2, y, e, h⟩ => ⟨q2, y, e, b _ _ (fun z => n (by rw [e, z])) h⟩) (fun i D H2 x hx hD hd S K' k' => ?_) (fun D H2 acc hD S ha al hP => ?_)
  · have hi : i = 0 := by
      rcases Nat.lt_or_ge i 1 with z | z
      · omega
      · rw [List.getElem?_eq_none (by simpa using z)] at hx; cases hx
    subst hi
    obtain rfl : V.ref q = x := by simpa using hx
    have hq2 := S _ _ hq
    walk_at "go"
    refine ⟨⟨_, .inl (.inl hq2)⟩, ?_⟩
    refine lc_tupP hq2 (fun _ _ v => ∃ y, v = .int y) (by simp) (fun x => by simp [wipe]) (fun _ _ _ _ _ _ _ _ h => h) (fun j D2 H3 x hx hD2 hd2 S3 K3 k3 => ?_) (fun D2 H3 acc3 hD2 S3 ha3 al3 hP3 => ?_)
    · have hj : j = 0 := by
        rcases Nat.lt_or_ge j 1 with z | z
        · omega
        · rw [List.getElem?_eq_none (by simpa using z)] at hx; cases hx
      subst hj
      obtain rfl : V.int z = x := by simpa using hx
      walk_at "go"
      refine ⟨mm, ?_⟩
      exact k3 _ _ (Same.refl _) (by simp) ⟨_, rfl⟩
    · obtain ⟨v3, rfl⟩ : ∃ v3, acc3 = [v3] := by
        match acc3, al3 with
        | [v], _ => exact ⟨v, rfl⟩
      obtain ⟨y, rfl⟩ := hP3 0 v3 rfl
      exact k' _ _ S3 (fun z => by cases z; exact hd hD2) ⟨D2, y, rfl, ha3⟩
  obtain ⟨v, rfl⟩ : ∃ v, acc = [v] := by
    match acc, al with
    | [v], _ => exact ⟨v, rfl⟩
  obtain ⟨q2, y, rfl, hq2⟩ := hP 0 v rfl
  have S2 := S1.trans S
  have hv2 := S _ _ hv
  have hqq := S _ _ hq
  walk_at "go"
  intro f hf
  have Sf := same_upd (o := .lst []) hf
  have S3 := S2.trans Sf
  have h1 := Sf _ _ ha
  have h2 := Sf _ _ hq2
  have h3 := Sf _ _ hv2
  have h4 := Sf _ _ hqq
  have h5 : upd H2 f (.lst []) f = some (.lst []) := upd_same
  generalize upd H2 f (.lst []) = H3 at S3 h1 h2 h3 h4 h5 ⊢
  walk_at "go"
  have hHf : H f = none := by
    cases e : H f with
    | none => rfl
    | some o => rw [S2 _ _ e] at hf; cases hf
  refine loop_rng (fun i σ H' => Same H H' ∧ ((i = 0 ∧ H' = H3 ∧ ∃ u, σ = [some (.ref t), some (.int 1), some (.int m), some (.int M), some (.ref D), some (.ref f), u, none, none]) ∨
      (i = 1 ∧ ∃ z' D' u, σ = [some (.ref t), some (.int 1), some (.int m), some (.int M), some (.ref D'), some (.ref f), u, none, none] ∧ H' f = some (.lst [V.int z'])))) ⟨S3, .inl ⟨rfl, rfl, _, rfl⟩⟩ ?_ ?_
  · rintro σ H4 ⟨S4, ⟨h, _⟩ | ⟨_, z', D', u, rfl, hf4⟩⟩
    · cases h
    walk_at "go"
    refine ⟨f, z', rfl, hf4, fun H5 p5 S5 h5' => ?_⟩
    refine ⟨p5, _, rfl, .inl (.inl h5'), fun p6 hp6 => ?_⟩
    refine tupL_of upd_same fun p7 hp7 => ?_
    exact k _ _ (S4.trans (S5.trans ((same_upd hp6).trans (same_upd hp7))))
  · rintro i σ H4 hi ⟨S4, ⟨rfl, rfl, u, rfl⟩ | ⟨rfl, _⟩⟩
    · walk_at "go"
      refine ⟨D, q2, M, y, rfl, h1, h2, fun H5 p5 S5 h5' => ?_⟩
      have hq5 := S5 _ _ h2
      have hf5 := S5 _ _ h5
      walk_at "go"
      refine ⟨.inl ⟨rfl, _, .inl (.inl hf5)⟩, ?_⟩
      walk_at "go"
      refine ⟨f, [], _, rfl, rfl, hf5, (by rw [sizeLine_eq]; decide), ?_⟩
      refine ⟨fun b o hb => ?_, _, upd_same⟩
      have nb : b ≠ f := fun z => by subst z; rw [hHf] at hb; cases hb
      rw [upd_ne nb]
      exact S5 _ _ (S4 _ _ hb)
    · omega
def sp_fac (C : Addr) : Sp := fun vs H Q E => ∃ x, vs = [x] ∧ ((∃ d, Td H d x ∧ isTable d = false ∧ ∀ H', Same H H' → E (.ref C) none H') ∨ ∃ t z m, x = .ref t ∧ TabAt H t [[z]] ∧ isTable (tabDa [[z]]) = true ∧ rankMinor [[z]] 1 = some (1, m) ∧ m ≠ 0 ∧ B 100 m ∧ ∀ H' v, Same H H' → Q v H')
theorem ok_factors (T : Txt K mg) : FnOk P w K mg base (L2.CX P w) 6 T.a_factors T.d_factors ["table"] (sp_fac T.c_InvalidTable) := by
  have G__check_table := ok__check_table (P := P) (w := w) (base := base) T
  have G_factors_of_rows := ok_factors_of_rows (P := P) (w := w) (base := base) T
  refine T.F_factors.okX sc_factors (fun vs H Q E h => ?_) (fun cdv A outer s H vs Q E hr h => ⟨_, (pss_cons (ps_expr (pe_callS (G__check_table.mono (by decide)) hr (by rfl) T.g__check_table T.k__check_table T.b__check_table (fun σ => passAt (takes_of rfl rfl rfl rfl) σ) (pa_cons (pv 0) pa_nil)))
      (pss_one (ps_ret (pe_call (G_factors_of_rows.mono (by decide)) hr (by rfl) T.g_factors_of_rows T.k_factors_of_rows T.b_factors_of_rows .nil pass0 (pa_cons (pv 0) pa_nil))))), ?_⟩)
  · obtain ⟨x, rfl, _⟩ := h
    rfl
  obtain ⟨x, rfl, ⟨d, td, hd, k⟩ | ⟨t, z, m, rfl, hT, hG, hR, m0, mb, k⟩⟩ := h
  · walk_at "go"
    exact ⟨x, d, rfl, td, .inl ⟨hd, k⟩⟩
  · walk_at "go"
    refine ⟨_, _, rfl, tab_td hT, .inr ⟨hG, fun H1 S1 => ?_⟩⟩
    walk_at "go"
    exact ⟨t, z, m, rfl, hT.same S1, hG, hR, m0, mb, fun H2 v S2 => k H2 v (S1.trans S2)⟩
end
end K02

set_option Elab.async false
set_option linter.all false
set_option maxRecDepth 100000
set_option maxHeartbeats 4000000
namespace K02
open PySem PySem.Spec PyProof.Rows L2 TT
local macro_rules | `(tactic| walk_at "ev") => `(tactic| simp only [L2.start, tRet, tRetN, tSeq, tNext, tNever, tDrop, tIfS, tAsg, tPar, gName, tVar, tC, tOp, tUn, tTest, tB, tAnd, tOr, tNot, tAndV, tOrV, tNotV, tIf, tChain, tCons, tNil, tTup, tLst, wipe, tBM, tSl, tPart, tNoPart, tCB, tCall, tCallS, tRaiseK, tKept, WE, rI0, rI, rU, rEq, rNe, rGcd, scal, gNil, gCons, gSub, Int.zero_sub,
  List.length_cons, List.length_nil, List.map_cons, List.map_nil, List.replicate, List.cons_append, List.nil_append, List.append_nil, List.set_cons_zero, List.set_cons_succ, List.set_nil, List.getElem?_cons_zero, List.getElem?_cons_succ, List.getElem?_nil, List.drop_zero, List.drop_succ_cons, List.drop_nil, List.length_drop,
  Option.some.injEq, V.int.injEq, V.bl.injEq, V.ref.injEq, List.cons.injEq, and_true, true_and, and_assoc, exists_and_left, exists_and_right, exists_eq_left, exists_eq_left', exists_eq', exists_eq, if_true, if_false, Bool.false_eq_true, ite_true, ite_false, eq_self, reduceCtorEq, szle0, szle1, szle2, szle3, szle4, szle5, szle6, szle8, szle13, false_and, and_false, exists_false, exists_const, or_false, false_or, Bool.true_and, Bool.false_and, Bool.and_true, Bool.and_false, decide_eq_true_eq, Bool.not_true, Bool.not_false, Bool.not_not, Nat.reduceAdd, Int.reduceNeg, Int.reduceToNat, Int.reducePow, Int.cast_ofNat_Int, Int.reduceEq, Int.reduceLT, Int.reduceLE, Int.reduceAdd, Int.reduceMul, Int.reduceSub, decide_true, decide_false, Bool.not_eq_true', decide_eq_false_iff_not, not_false_eq_true, not_true_eq_false])
local macro_rules | `(tactic| walk_at "go") => `(tactic| repeat (first | walk_at "ev" | (refine isi_int (by assumption) ?_) | (refine isi_bool (by assumption) ?_) | (refine isi_tup (by assumption) ?_) | (refine use_J (by assumption) ?_) | (refine use_J td_int ?_) | (refine tFor_rng ?_) | (refine tFor_list ?_) | (refine tFor_tup ?_) | (refine tLc_rng ?_) | (refine tLc_zip ?_) | (refine tLc_enum ?_) | (refine tLc_rng2 ?_) | (refine tFor_rng2 ?_) | (refine tupL_of (by assumption) ?_) | (refine lstL_of (by assumption) ?_) | (refine lstT_of (by assumption) ?_) | (refine tLc_list ?_) | (refine tLc_tup ?_) | (refine ixT_of (by assumption) rfl ?_) | (refine ixL_of (by assumption) rfl ?_) | (refine lenT_of (by assumption) ?_) | (refine lenL_of (by assumption) ?_) | (refine gtup_of (by assumption) rfl ?_) | (refine ⟨cmul (by assumption) (by assumption) (by decide), ?_⟩) | (refine ⟨Or.inl (by decide), ?_⟩) | (refine ⟨Or.inr (by decide), ?_⟩) | (refine ixL_of upd_same rfl ?_) | (refine setL_of (by assumption) (by rfl) ?_) | (refine ⟨(show CPow _ _ from ⟨by decide, by decide, by decide⟩), ?_⟩) | (refine ⟨(show _ ≤ sizeLine by decide), ?_⟩)))

def lessAll (W : List (List Int)) (a : Nat) (last : Int) : List (List Int) := (List.range W.length).map fun p => if p = a then W.getD p [] else lessen (W.getD p []) (W.getD a []) a last
def undoLoop (n : Nat) : Nat → Nat → List (List Int) → Int → Option Bool
  | 0, _, _, _ => some true
  | f + 1, a, W, last => match spotRow W a a (n - a) with
    | none => some false
    | some r => if okG (exch W a r) last = true then undoLoop n f (a + 1) (lessAll (exch W a r) a last) (((exch W a r).getD a []).getD a 0) else none
def wideOf (G : List (List Int)) : List (List Int) := (List.range G.length).map fun p => G.getD p [] ++ unit p G.length
def undoM (G : List (List Int)) : Option Bool := undoLoop G.length G.length 0 (wideOf G) 1
theorem spotRow_find {G : List (List Int)} {c : Nat} : ∀ {n s : Nat}, spotRow G c s n = ((List.range n).find? fun k => decide (¬ (G.getD (s + k) []).getD c 0 = 0)).map (s + ·)
  | 0, s => rfl
  | n + 1, s => by
    rw [spotRow_succ, List.range_succ_eq_map, List.find?_cons, List.find?_map]
    by_cases h0 : (G.getD s []).getD c 0 = 0
    · rw [if_pos h0, spotRow_find (n := n) (s := s + 1)]
      have e : (decide (¬ (G.getD (s + 0) []).getD c 0 = 0)) = false := by simpa using h0
      rw [e]
      simp only [Option.map_map]
      have e2 : ((fun k => decide (¬ (G.getD (s + k) []).getD c 0 = 0)) ∘ Nat.succ) = fun k => decide (¬ (G.getD (s + 1 + k) []).getD c 0 = 0) := by
        funext k
        show decide (¬ (G.getD (s + (k + 1)) []).getD c 0 = 0) = _
        rw [show s + (k + 1) = s + 1 + k by omega]
      rw [e2]
      congr 1
      funext k
      show s + 1 + k = s + (k + 1)
      omega
    · rw [if_neg h0]
      have e : (decide (¬ (G.getD (s + 0) []).getD c 0 = 0)) = true := by simpa using h0
      rw [e]
      rfl
theorem spotRow_some {G : List (List Int)} {c r : Nat} : ∀ {n s : Nat}, spotRow G c s n = some r → (G.getD r []).getD c 0 ≠ 0
  | 0, s, h => by cases h
  | n + 1, s, h => by
    rw [spotRow_succ] at h
    by_cases h0 : (G.getD s []).getD c 0 = 0
    · rw [if_pos h0] at h
      exact spotRow_some h
    · rw [if_neg h0] at h
      cases h
      exact h0
section
variable {P : Program} {w : World} {K : PySem.W.Frag} {mg : Str → Option Value} {base : Heap}
def sp_urows : Sp := fun vs H Q _ => ∃ t G, vs = [.ref t] ∧ TabAt H t G ∧ isTable (tabDa G) = true ∧ G.length = (G.getD 0 []).length ∧ ((undoM G = some false ∧ ∀ H', Same H H' → Q .non H') ∨ (undoM G = some true ∧ ∀ H' p, Same H H' → Q (.ref p) H'))
theorem ok_undone_rows (T : Txt K mg) : FnOk P w K mg base CX0 3 T.a_undone_rows T.d_undone_rows ["rows"] sp_urows := by
  have G__unit_row := ok__unit_row (P := P) (w := w) (base := base) T
  have G__exchanged := ok__exchanged (P := P) (w := w) (base := base) T
  have G__lessened := ok__lessened (P := P) (w := w) (base := base) T
  have G_ratio := ok_ratio (P := P) (w := w) (base := base) T
  refine T.F_undone_rows.ok sc_undone_rows (fun vs H Q E h => ?_) (fun cdv A outer s H vs Q E hr h => ⟨_, (pss_cons (ps_set (i := 1) sc_undone_rows.nd rfl (Or.inr rfl) (pe_callB call_lenN (by rfl) T.m_len bt_len (pa_cons (pv 0) pa_nil)))
      (pss_cons (ps_set (i := 2) sc_undone_rows.nd rfl (Or.inr rfl) (pe_lc (own := [("place", 7), ("row", 8)]) (g := gTup K 2 (gCons (gName 7) (gCons (gName 8) gNil))) (tt := tYes) rfl sc_undone_rows.nd (TTE.pi_enumT (by rfl) T.m_enumerate (pa_cons (pv 0) pa_nil)) (blkOk_by (N := ["rows", "size", "wide", "last", "at", "spots", "top", "place", "row", "entry"]) (sc := defScope s_undone_rows) (by decide +kernel)) (fun _ _ _ _ _ => (pg_tup rfl (pgs_cons (pg_name (i := 7) sc_undone_rows.nd rfl (Or.inl rfl)) (pgs_cons (pg_name (i := 8) sc_undone_rows.nd rfl (Or.inl rfl)) pgs_nil)))) (fun _ _ _ _ _ => pts_nil) (fun _ _ _ _ _ => (pe_op op_cat (pe_callTy (show CallR _ (.type "list") (rLstOf K) from call_listN) (by rfl) T.m_list bt_list (pa_cons (pv 8) pa_nil)) (pe_call (G__unit_row.mono (by decide)) hr (by rfl) T.g__unit_row T.k__unit_row T.b__unit_row .nil pass0 (pa_cons (pv 7) (pa_cons (pv 1) pa_nil)))))))
      (pss_cons (ps_set (i := 3) sc_undone_rows.nd rfl (Or.inr rfl) pe_int)
      (pss_cons (ps_for PassesOwn.never rfl (pi_range1 rfl T.m_range (pa_cons (pv 1) pa_nil)) (pg_name (i := 4) sc_undone_rows.nd rfl (Or.inr rfl)) (pss_cons (ps_setLc (i := 5) (own := [("row", 8)]) (g := gName 8) rfl sc_undone_rows.nd rfl rfl (sw_true rfl rfl rfl (by decide +kernel)) (pi_range2 rfl T.m_range (pa_cons (pv 4) (pa_cons (pv 1) pa_nil))) (blkOk_by (N := ["rows", "size", "wide", "last", "at", "spots", "top", "place", "row", "entry"]) (sc := defScope s_undone_rows) (by decide +kernel)) (fun _ _ _ _ _ => (pg_name (i := 8) sc_undone_rows.nd rfl (Or.inl rfl))) (fun _ _ _ _ _ => (pts_one (pt_cmpR op_ne (pe_ix (show IxR _ (rIxL K) from ix_list) (pe_ix (show IxR _ (rIxL K) from ix_list) (pv 2) (pv 8) (fun _ _ => rfl)) (pv 4) (fun _ _ => rfl)) pe_int (nomark _)))) (fun _ _ _ _ _ => (pv 8)))
      (pss_cons (ps_if (pt_cmpR op_eq (pe_callB call_lenN (by rfl) T.m_len bt_len (pa_cons (pv 5) pa_nil)) pe_int (nomark _)) (pss_one (ps_ret pe_non)) pss_nil)
      (pss_cons (ps_set (i := 2) sc_undone_rows.nd rfl (Or.inr rfl) (pe_call (G__exchanged.mono (by decide)) hr (by rfl) T.g__exchanged T.k__exchanged T.b__exchanged .nil pass0 (pa_cons (pv 2) (pa_cons (pv 4) (pa_cons (pe_ix ix_list (pv 5) pe_int (fun _ _ => rfl)) pa_nil)))))
      (pss_cons (ps_set (i := 6) sc_undone_rows.nd rfl (Or.inr rfl) (pe_ix ix_list (pv 2) (pv 4) (fun _ _ => rfl)))
      (pss_cons (ps_set (i := 2) sc_undone_rows.nd rfl (Or.inr rfl) (pe_lc (own := [("place", 7), ("row", 8)]) (g := gTup K 2 (gCons (gName 7) (gCons (gName 8) gNil))) (tt := tYes) rfl sc_undone_rows.nd (pi_enum (by rfl) T.m_enumerate (pa_cons (pv 2) pa_nil)) (blkOk_by (N := ["rows", "size", "wide", "last", "at", "spots", "top", "place", "row", "entry"]) (sc := defScope s_undone_rows) (by decide +kernel)) (fun _ _ _ _ _ => (pg_tup rfl (pgs_cons (pg_name (i := 7) sc_undone_rows.nd rfl (Or.inl rfl)) (pgs_cons (pg_name (i := 8) sc_undone_rows.nd rfl (Or.inl rfl)) pgs_nil)))) (fun _ _ _ _ _ => pts_nil) (fun _ _ _ _ _ => (pe_ifExp (pt_cmpR op_eq (pv 7) (pv 4) (nomark _)) (pv 8) (pe_call (G__lessened.mono (by decide)) hr (by rfl) T.g__lessened T.k__lessened T.b__lessened .nil pass0 (pa_cons (pv 8) (pa_cons (pv 6) (pa_cons (pv 4) (pa_cons (pv 3) pa_nil)))))))))
      (pss_one (ps_set (i := 3) sc_undone_rows.nd rfl (Or.inr rfl) (pe_ix ix_list (pv 6) (pv 4) (fun _ _ => rfl))))))))))
      (pss_one (ps_ret (pe_callTy call_tupleN (by rfl) T.m_tuple bt_tuple (pa_cons (pe_lc (own := [("row", 8)]) (g := gName 8) (tt := tYes) rfl sc_undone_rows.nd (pi_list (pv 2)) (blkOk_by (N := ["rows", "size", "wide", "last", "at", "spots", "top", "place", "row", "entry"]) (sc := defScope s_undone_rows) (by decide +kernel)) (fun _ _ _ _ _ => (pg_name (i := 8) sc_undone_rows.nd rfl (Or.inl rfl))) (fun _ _ _ _ _ => pts_nil) (fun _ _ _ _ _ => (pe_callTy (show CallR _ (.type "tuple") (rTupOf K) from call_tupleN) (by rfl) T.m_tuple bt_tuple (pa_cons (pe_lc (own := [("entry", 9)]) (g := gName 9) (tt := tYes) rfl sc_undone_rows.nd (show PI _ _ _ (iList K _) from (pi_list (pe_slice (show SlR _ (rSlL K) from sl_list) (pv 8) (po_some (pv 1)) po_none))) (blkOk_by (N := ["rows", "size", "wide", "last", "at", "spots", "top", "place", "row", "entry"]) (sc := { kind := .function, names := [((".0" : Str), .local), (("row" : Str), .local), (("tuple" : Str), .globalImplicit), (("last" : Str), .cell), (("size" : Str), .cell)], isGenerator := false, isCoroutine := false }) (by decide +kernel)) (fun _ _ _ _ _ => (pg_name (i := 9) sc_undone_rows.nd rfl (Or.inl rfl))) (fun _ _ _ _ _ => pts_nil) (fun _ _ _ _ _ => (pe_call (G_ratio.mono (by decide)) hr (by rfl) T.g_ratio T.k_ratio T.b_ratio .nil pass0 (pa_cons (pv 9) (pa_cons (pv 3) pa_nil))))) pa_nil)))) pa_nil)))))))), ?_⟩)
  · obtain ⟨t, G, rfl, _⟩ := h
    rfl
  obtain ⟨t, G, rfl, ⟨ts, ht, tl, hT⟩, hG, hsq, k⟩ := h
  have tlen := tab_len hG
  have n20 : G.length ≤ 20 := by
    unfold tabDa isTable at hG
    simp only [Bool.and_eq_true, decide_eq_true_eq, List.length_map] at hG
    exact hG.1.1.2
  have rowT : ∀ i, i < G.length → (G.getD i []).length = G.length := fun i hi => by rw [tlen.2.2.2.2 i hi, ← hsq]
  walk_at "go"
  refine tLc_enumT ?_
  walk_at "go"
  refine ⟨⟨_, .inl (.inl ht)⟩, ?_⟩
  have wlen : (wideOf G).length = G.length := by unfold wideOf; rw [List.length_map, List.length_range]
  have wat : ∀ i, i < G.length → (wideOf G).getD i [] = G.getD i [] ++ unit i G.length := fun i hi => by
    unfold wideOf
    rw [List.getD_eq_getElem?_getD, List.getElem?_map, List.getElem?_range hi]
    rfl
  have wwide : Wide (wideOf G) (2 * G.length) := fun i hi => by
    rw [wlen] at hi
    rw [wat i hi, List.length_append, rowT i hi]
    unfold unit
    rw [List.length_map, List.length_range]
    omega
  refine lc_enumTP ht (PRow fun p => (wideOf G).getD p []) (by omega) (fun x y => by simp [wipe]) pRow_but (fun i D H' x hx hD hd S K' k' => ?_) (fun D H0 acc hD S0 ha al hP => ?_)
  · have hi : i < G.length := by
      rcases Nat.lt_or_ge i ts.length with z | z
      · omega
      · rw [List.getElem?_eq_none z] at hx; cases hx
    obtain ⟨q, rfl, hq⟩ := hT i x hx
    have hq' := S _ _ hq
    walk_at "go"
    intro l hl
    refine ⟨i, G.length, by rw [tl], by omega, fun H4 q4 S4 n4 h4 => ?_⟩
    have hl4 := S4 _ _ (upd_same (H := H') (a := l) (o := .lst ((G.getD i []).map V.int)))
    have S5 := (same_upd (o := .lst ((G.getD i []).map V.int)) hl).trans S4
    refine ⟨l, q4, _, _, rfl, rfl, hl4, h4, ?_, fun p hp => ?_⟩
    · rw [List.length_map, List.length_map, rowT i hi]
      unfold unit
      rw [List.length_map, List.length_range, sizeLine_eq]
      omega
    · refine k' _ _ (S5.trans (same_upd hp)) (fun z => ?_) ⟨p, rfl, ?_⟩
      · cases z
        obtain ⟨o, ho⟩ := Option.ne_none_iff_exists'.mp hd
        rw [S5 _ _ ho] at hp
        cases hp
      · dsimp only
        rw [wat i hi, List.map_append]
        exact upd_same
  have hg0 : GridAt H0 D (wideOf G) := ⟨acc, ha, by omega, hP⟩
  walk_at "go"
  refine ⟨by omega, by omega, ?_⟩
  rw [Int.toNat_natCast, tl]
  refine loop_rng (fun i σ H' => ∃ (wp : Addr) (W : List (List Int)) (last : Int) (v4 v5 v6 v7 v8 v9 : Option V), σ = [some (.ref t), some (.int (G.length : Nat)), some (.ref wp), some (.int last), v4, v5, v6, v7, v8, v9] ∧ Same H H' ∧ GridAt H' wp W ∧ W.length = G.length ∧ Wide W (2 * G.length) ∧ last ≠ 0 ∧ B 100 last ∧
      undoLoop G.length (G.length - i) i W last = undoM G) ⟨D, wideOf G, 1, none, none, none, none, none, none, rfl, S0, hg0, wlen, wwide, by decide, (by unfold B; decide), rfl⟩ ?_ ?_
  · rintro σ H1 ⟨wp, W, last, v4, v5, v6, v7, v8, v9, rfl, S1, ⟨gs, hgs, gsl, hgr⟩, wl, ww, l0, lb, hU⟩
    rw [Nat.sub_self] at hU
    have hU' : some true = undoM G := hU
    rcases k with ⟨k, _⟩ | ⟨_, k⟩
    · rw [k] at hU'; cases hU'
    walk_at "go"
    refine ⟨⟨_, .inl (.inl hgs)⟩, ?_⟩
    refine lc_lstL hgs (fun _ _ _ => True) (by omega) (fun x => by simp [wipe]) (fun _ _ _ _ _ _ _ _ _ => trivial) (fun j D1 H2 x hx hD1 hd1 S2 K2 k2 => ?_) (fun D1 H2 acc1 hD1 S2 ha1 al1 hP1 => ?_)
    · obtain ⟨q, rfl, hq⟩ := hgr j x hx
      have hq2 := S2 _ _ hq
      walk_at "go"
      refine ⟨q, _, rfl, .inl (.inl hq2), fun p2 hp2 => ?_⟩
      have hn := upd_same (H := H2) (a := p2) (o := .lst (cutV ((W.getD j []).map V.int) (some (G.length : Nat)) none))
      have S3 := same_upd (o := .lst (cutV ((W.getD j []).map V.int) (some (G.length : Nat)) none)) hp2
      generalize upd H2 p2 (.lst (cutV ((W.getD j []).map V.int) (some (G.length : Nat)) none)) = H3 at hn S3 ⊢
      refine ⟨p2, rfl, ⟨_, .inl (.inl hn)⟩, ?_⟩
      have cl := cutV_length ((W.getD j []).map V.int) (some (G.length : Nat)) none
      have wj : (W.getD j []).length ≤ 2 * G.length := by
        rcases Nat.lt_or_ge j W.length with z | z
        · rw [ww j z]; exact Nat.le_refl _
        · have e : W.getD j [] = [] := by simp [z]
          rw [e]; exact Nat.zero_le _
      rw [List.length_map] at cl
      refine lc_lstL hn (fun _ _ _ => True) (by omega) (fun x => by simp [wipe]) (fun _ _ _ _ _ _ _ _ _ => trivial) (fun j2 D2 H4 x hx2 hD2 hd2 S4 K4 k4 => ?_) (fun D2 H4 acc2 hD2 S4 ha2 al2 hP2 => ?_)
      · obtain ⟨z, rfl⟩ : ∃ z, x = V.int z := by
          have m := List.mem_of_getElem? hx2
          unfold cutV at m
          have m2 := List.mem_of_mem_drop (List.mem_of_mem_take m)
          obtain ⟨z, _, e⟩ := List.mem_map.mp m2
          exact ⟨z, e.symm⟩
        walk_at "go"
        refine ⟨z, last, rfl, l0, lb.mono (by decide), fun H5 v S5 f5 => ?_⟩
        obtain ⟨pz, rfl, hz⟩ := f5
        refine k4 _ _ S5 (fun e => ?_) trivial
        cases e
        obtain ⟨a2, h2⟩ := hd2
        rw [S5 _ _ h2] at hz
        cases hz
      · walk_at "go"
        intro l hl
        refine k2 _ _ ((S3.trans S4).trans (same_upd hl)) (fun e => ?_) trivial
        cases e
        obtain ⟨a1, h1⟩ := hd1
        rw [S4 _ _ (S3 _ _ h1)] at hl
        cases hl
    · walk_at "go"
      intro l hl
      exact k _ l ((S1.trans S2).trans (same_upd hl))
  · rintro i σ H1 hi ⟨wp, W, last, v4, v5, v6, v7, v8, v9, rfl, S1, hg1, wl, ww, l0, lb, hU⟩
    have en : G.length - i = (G.length - (i + 1)) + 1 := by omega
    rw [en] at hU
    rw [show (0 : Int) + (i : Nat) = ((i : Nat) : Int) by omega]
    have hU2 : (match spotRow W i i (G.length - i) with
      | none => some false
      | some r => if okG (exch W i r) last = true then undoLoop G.length (G.length - (i + 1)) (i + 1) (lessAll (exch W i r) i last) (((exch W i r).getD i []).getD i 0) else none) = undoM G := hU
    obtain ⟨gs, hgs, gsl, hgr⟩ := hg1
    have rowW : ∀ j, j < G.length → ∃ q, gs[j]? = some (.ref q) ∧ H1 q = some (.lst ((W.getD j []).map V.int)) ∧ (W.getD j []).length = 2 * G.length := fun j hj => by
      have e := List.getElem?_eq_getElem (l := gs) (i := j) (by omega)
      obtain ⟨q, e1, e2⟩ := hgr j _ e
      exact ⟨q, by rw [e, e1], e2, ww j (by omega)⟩
    walk_at "go"
    refine ⟨by omega, by omega, by omega, by omega, ?_⟩
    rw [show ((G.length : Int) - (i : Nat)).toNat = G.length - i by omega]
    rw [spotRow_find] at hU2
    refine lc_pick (fun k => decide (¬ (W.getD (i + k) []).getD i 0 = 0)) (by omega) (fun x => by simp [wipe]) (fun j H2 K2 hj S2 kk => ?_) (fun j H2 K2 hj S2 kk => ?_) (fun D2 H2 hD2 S2 h2 => ?_)
    · obtain ⟨q, eg, hq, lq⟩ := rowW (i + j) (by omega)
      have hgs2 := S2 _ _ hgs
      have hq2 := S2 _ _ hq
      walk_at "go"
      refine ixL_of hgs2 (by rw [show ((i : Int) + (j : Nat)) = ((i + j : Nat) : Int) by omega]; exact atI_nat (α := Unit) eg) ?_
      walk_at "go"
      refine ixL_of hq2 (atI_int (by omega)) ?_
      walk_at "go"
      by_cases h0 : (W.getD (i + j) []).getD i 0 = 0
      · simpa [h0] using kk
      · simpa [h0] using kk
    · walk_at "go"
      exact kk
    · have S12 := S1.trans S2
      have hgs2 := S2 _ _ hgs
      cases hf : (List.range (G.length - i)).find? (fun k => decide (¬ (W.getD (i + k) []).getD i 0 = 0)) with
      | none =>
        have hn : (List.range (G.length - i)).filter (fun k => decide (¬ (W.getD (i + k) []).getD i 0 = 0)) = [] := by
          rw [List.filter_eq_nil_iff]
          exact List.find?_eq_none.mp hf
        rw [hn] at h2
        rw [hf] at hU2
        have hU3 : some false = undoM G := hU2
        rcases k with ⟨_, k⟩ | ⟨k, _⟩
        · walk_at "go"
          exact k H2 S12
        · rw [k] at hU3; cases hU3
      | some kx =>
        obtain ⟨rest, hr2⟩ : ∃ rest, (List.range (G.length - i)).filter (fun k => decide (¬ (W.getD (i + k) []).getD i 0 = 0)) = kx :: rest := by
          have hh := List.head?_filter (p := fun k => decide (¬ (W.getD (i + k) []).getD i 0 = 0)) (l := List.range (G.length - i))
          rw [hf] at hh
          cases e : (List.range (G.length - i)).filter (fun k => decide (¬ (W.getD (i + k) []).getD i 0 = 0)) with
          | nil => rw [e] at hh; cases hh
          | cons a r => rw [e] at hh; cases hh; exact ⟨r, rfl⟩
        have kxl : kx < G.length - i := by
          have := List.mem_of_find?_eq_some hf
          simpa using this
        have kx0 : (W.getD (i + kx) []).getD i 0 ≠ 0 := by
          have := List.find?_some hf
          simpa using this
        rw [hr2] at h2
        rw [hf] at hU2
        have hU3 : (if okG (exch W i (i + kx)) last = true then undoLoop G.length (G.length - (i + 1)) (i + 1) (lessAll (exch W i (i + kx)) i last) (((exch W i (i + kx)).getD i []).getD i 0) else none) = undoM G := hU2
        clear hU2 hU
        have hok : okG (exch W i (i + kx)) last = true := by
          cases e : okG (exch W i (i + kx)) last with
          | true => rfl
          | false =>
            rw [e, if_neg (by decide)] at hU3
            rcases k with ⟨k, _⟩ | ⟨k, _⟩ <;> · rw [k] at hU3; cases hU3
        rw [if_pos hok] at hU3
        have h2' : H2 D2 = some (.lst (V.int ((i : Int) + (kx : Nat)) :: rest.map fun k => V.int ((i : Int) + (k : Nat)))) := h2
        walk_at "go"
        rw [if_neg (by omega)]
        refine ixL_of h2' (atI_nat (α := Unit) (i := 0) rfl) ?_
        have ir : i < W.length := by omega
        have rr : i + kx < W.length := by omega
        refine ⟨wp, i, i + kx, gs, by rw [show ((i + kx : Nat) : Int) = (i : Int) + (kx : Nat) by omega], hgs2, by omega, by omega, fun H3 p3 S3 n3 h3 => ?_⟩
        have hr3 := exch_rows gsl ir rr hgr
        have xl : (exch gs i (i + kx)).length = W.length := by rw [exch_length, gsl]
        have cl : (exch W i (i + kx)).length = W.length := exch_length _ _ _
        have wc : Wide (exch W i (i + kx)) (2 * G.length) := fun j hj => by
          rw [cl] at hj
          have e2 := exch_get (l := W) (j := j) ir rr
          by_cases z1 : j = i + kx
          · rw [if_pos z1] at e2
            rw [getD_of_get e2]
            exact ww i ir
          · rw [if_neg z1] at e2
            by_cases z2 : j = i
            · rw [if_pos z2] at e2
              rw [getD_of_get e2]
              exact ww _ rr
            · rw [if_neg z2] at e2
              rw [getD_of_get e2]
              exact ww j hj
        have piv : ((exch W i (i + kx)).getD i []).getD i 0 ≠ 0 := by
          have e2 := exch_get (l := W) (j := i) ir rr
          by_cases z1 : i = i + kx
          · rw [if_pos z1] at e2
            rw [getD_of_get e2]
            rw [← z1] at kx0
            exact kx0
          · rw [if_neg z1, if_pos rfl] at e2
            rw [getD_of_get e2]
            exact kx0
        have S13 := S12.trans S3
        have hP4 : ∀ j v, (exch gs i (i + kx))[j]? = some v → PRow (fun j => (exch W i (i + kx)).getD j []) j H3 v := fun j v hv => by
          obtain ⟨q, e, hq⟩ := hr3 j v hv
          exact ⟨q, e, S3 _ _ (S2 _ _ hq)⟩
        generalize exch gs i (i + kx) = cs at *
        generalize exch W i (i + kx) = C at *
        have lx : ∀ j, j < C.length → (lessAll C i last).getD j [] = if j = i then C.getD j [] else lessen (C.getD j []) (C.getD i []) i last := fun j hj => by
          unfold lessAll
          rw [List.getD_eq_getElem?_getD, List.getElem?_map, List.getElem?_range hj]
          rfl
        have ll : (lessAll C i last).length = C.length := by unfold lessAll; rw [List.length_map, List.length_range]
        have wl2 : Wide (lessAll C i last) (2 * G.length) := fun j hj => by
          rw [ll] at hj
          rw [lx j hj]
          split
          · exact wc j hj
          · unfold lessen
            rw [List.length_map, List.length_range]
            exact wc j hj
        have lt := okG_last hok
        have ei := List.getElem?_eq_getElem (l := cs) (i := i) (by omega)
        obtain ⟨qi, eqi, hqi0⟩ := hP4 i _ ei
        rw [eqi] at ei
        have hqi : H3 qi = some (.lst ((C.getD i []).map V.int)) := hqi0
        refine ixL_of h3 (atI_nat (α := Unit) ei) ?_
        walk_at "go"
        refine ⟨⟨_, .inl (.inl h3)⟩, ?_⟩
        refine lc_enumP h3 (PRow fun p => (lessAll C i last).getD p []) (by omega) (fun x y => by simp [wipe]) pRow_but (fun j D6 H6 x hx hD6 hd6 S6 K6 k6 => ?_) (fun D6 H6 acc6 hD6 S6 ha6 al6 hP6 => ?_)
        · have hj : j < C.length := by
            rcases Nat.lt_or_ge j cs.length with z | z
            · omega
            · rw [List.getElem?_eq_none z] at hx; cases hx
          obtain ⟨q, rfl, hq0⟩ := hP4 j x hx
          have hq : H3 q = some (.lst ((C.getD j []).map V.int)) := hq0
          have hq6 := S6 _ _ hq
          have hqi6 := S6 _ _ hqi
          have wj := wc j hj
          have wi := wc i (by omega)
          walk_at "go"
          by_cases hij : j = i
          · rw [if_pos (by omega)]
            refine k6 _ _ (Same.refl _) (fun z => by cases z; rw [hD6] at hq; cases hq) ⟨q, rfl, ?_⟩
            dsimp only
            rw [lx j hj, if_pos hij]
            exact hq6
          · rw [if_neg (by omega)]
            refine ⟨q, qi, i, last, C.getD j [], C.getD i [], rfl, hq6, hqi6, by omega, by omega, by omega, okG_row hok j, okG_row hok i, lt.1, lt.2, fun H7 p7 S7 n7 h7 => ?_⟩
            refine k6 _ _ S7 (fun z => by cases z; exact hd6 n7) ⟨p7, rfl, ?_⟩
            dsimp only
            rw [lx j hj, if_neg hij]
            exact h7
        · have hqi6 := S6 _ _ hqi
          have wi := wc i (by omega)
          walk_at "go"
          refine ixL_of hqi6 (atI_int (by omega)) ?_
          walk_at "go"
          exact ⟨S13.trans S6, _, ⟨acc6, ha6, by omega, hP6⟩, by omega, wl2, piv, okG_row hok i i, hU3⟩
def sp_und (C D R : Addr) : Sp := fun vs H Q E => ∃ x, vs = [x] ∧ ((∃ d, Td H d x ∧ isTable d = false ∧ ∀ H', Same H H' → E (.ref C) none H') ∨ ∃ t G, x = .ref t ∧ TabAt H t G ∧ isTable (tabDa G) = true ∧
  ((G.length ≠ (G.getD 0 []).length ∧ ∀ H', Same H H' → E (.ref D) none H') ∨ (G.length = (G.getD 0 []).length ∧ ((undoM G = some false ∧ ∀ H' p, Same H H' → H' p = some (.tup [.str "singular"]) → Keeps R "reason" (.ref p) H' E) ∨ (undoM G = some true ∧ ∀ H' p, Same H H' → Q (.ref p) H')))))
theorem ok_undone (T : Txt K mg) : FnOk P w K mg base (L2.CX P w) 7 T.a_undone T.d_undone ["table"] (sp_und T.c_InvalidTable T.c_InvalidOperation T.c_Refused) := by
  have G__check_square := ok__check_square (P := P) (w := w) (base := base) T
  have G_undone_rows := ok_undone_rows (P := P) (w := w) (base := base) T
  refine T.F_undone.okX sc_undone (fun vs H Q E h => ?_) (fun cdv A outer s H vs Q E hr h => ⟨_, (pss_cons (ps_expr (pe_callS (G__check_square.mono (by decide)) hr (by rfl) T.g__check_square T.k__check_square T.b__check_square (fun σ => passAt (takes_of rfl rfl rfl rfl) σ) (pa_cons (pv 0) pa_nil)))
      (pss_cons (ps_set (i := 1) sc_undone.nd rfl (Or.inl rfl) (pe_call (G_undone_rows.mono (by decide)) hr (by rfl) T.g_undone_rows T.k_undone_rows T.b_undone_rows .nil pass0 (pa_cons (pv 0) pa_nil)))
      (pss_cons (ps_if (pt_cmpR op_isN (pv 1) pe_non (nomark _)) (pss_one (ps_raiseK rfl kb_ArithmeticError kn_reason T.E_Refused.x hr (by decide) (takes_of rfl rfl rfl rfl) (pa_cons (pe_tup (pa_cons pe_str pa_nil)) pa_nil) (by rfl))) pss_nil)
      (pss_one (ps_ret (pv 1)))))), ?_⟩)
  · obtain ⟨x, rfl, _⟩ := h
    rfl
  obtain ⟨x, rfl, ⟨d, td, hd, k⟩ | ⟨t, G, rfl, hT, hG, ⟨hn, k⟩ | ⟨hn, k⟩⟩⟩ := h
  · walk_at "go"
    exact ⟨x, rfl, .inl ⟨d, td, hd, k⟩⟩
  · walk_at "go"
    exact ⟨_, rfl, .inr ⟨t, G, rfl, hT, hG, .inl ⟨hn, k⟩⟩⟩
  · walk_at "go"
    refine ⟨_, rfl, .inr ⟨t, G, rfl, hT, hG, .inr ⟨hn, fun H1 S1 => ?_⟩⟩⟩
    walk_at "go"
    refine ⟨t, G, rfl, hT.same S1, hG, hn, ?_⟩
    rcases k with ⟨hU, k⟩ | ⟨hU, k⟩
    · refine .inl ⟨hU, fun H2 S2 => ?_⟩
      walk_at "go"
      intro p hp
      exact k _ p ((S1.trans S2).trans (same_upd hp)) upd_same
    · refine .inr ⟨hU, fun H2 p S2 => ?_⟩
      walk_at "go"
      exact k H2 p (S1.trans S2)
end
end K02

set_option Elab.async false
set_option linter.all false
set_option maxRecDepth 100000
set_option maxHeartbeats 4000000
namespace K02
open PySem PySem.Spec PyProof.Rows L2 TT LamX
local macro_rules | `(tactic| walk_at "ev") => `(tactic| simp only [L2.start, tRet, tRetN, tSeq, tNext, tNever, tDrop, tIfS, tAsg, tPar, gName, tVar, tC, tOp, tUn, tTest, tB, tAnd, tOr, tNot, tAndV, tOrV, tNotV, tIf, tChain, tCons, tNil, tTup, tLst, wipe, tBM, tSl, tPart, tNoPart, tCB, tCall, tCallS, tRaiseK, tKept, WE, rI0, rI, rU, rEq, rNe, rGcd, scal, gNil, gCons, gSub, Int.zero_sub,
  List.length_cons, List.length_nil, List.map_cons, List.map_nil, List.replicate, List.cons_append, List.nil_append, List.append_nil, List.set_cons_zero, List.set_cons_succ, List.set_nil, List.getElem?_cons_zero, List.getElem?_cons_succ, List.getElem?_nil, List.drop_zero, List.drop_succ_cons, List.drop_nil, List.length_drop,
  Option.some.injEq, V.int.injEq, V.bl.injEq, V.ref.injEq, List.cons.injEq, and_true, true_and, and_assoc, exists_and_left, exists_and_right, exists_eq_left, exists_eq_left', exists_eq', exists_eq, if_true, if_false, Bool.false_eq_true, ite_true, ite_false, eq_self, reduceCtorEq, szle0, szle1, szle2, szle3, szle4, szle5, szle6, szle8, szle13, false_and, and_false, exists_false, exists_const, or_false, false_or, Bool.true_and, Bool.false_and, Bool.and_true, Bool.and_false, decide_eq_true_eq, Bool.not_true, Bool.not_false, Bool.not_not, Nat.reduceAdd, Int.reduceNeg, Int.reduceToNat, Int.reducePow, Int.cast_ofNat_Int, Int.reduceEq, Int.reduceLT, Int.reduceLE, Int.reduceAdd, Int.reduceMul, Int.reduceSub, decide_true, decide_false, Bool.not_eq_true', decide_eq_false_iff_not, not_false_eq_true, not_true_eq_false])
local macro_rules | `(tactic| walk_at "go") => `(tactic| repeat (first | walk_at "ev" | (refine isi_int (by assumption) ?_) | (refine isi_bool (by assumption) ?_) | (refine isi_tup (by assumption) ?_) | (refine use_J (by assumption) ?_) | (refine use_J td_int ?_) | (refine tFor_rng ?_) | (refine tFor_list ?_) | (refine tFor_tup ?_) | (refine tLc_rng ?_) | (refine tLc_zip ?_) | (refine tLc_enum ?_) | (refine tLc_rng2 ?_) | (refine tFor_rng2 ?_) | (refine tupL_of (by assumption) ?_) | (refine lstL_of (by assumption) ?_) | (refine lstT_of (by assumption) ?_) | (refine tLc_list ?_) | (refine tLc_tup ?_) | (refine ixT_of (by assumption) rfl ?_) | (refine ixL_of (by assumption) rfl ?_) | (refine lenT_of (by assumption) ?_) | (refine lenL_of (by assumption) ?_) | (refine gtup_of (by assumption) rfl ?_) | (refine ⟨cmul (by assumption) (by assumption) (by decide), ?_⟩) | (refine ⟨Or.inl (by decide), ?_⟩) | (refine ⟨Or.inr (by decide), ?_⟩) | (refine ixL_of upd_same rfl ?_) | (refine setL_of (by assumption) (by rfl) ?_) | (refine ⟨(show CPow _ _ from ⟨by decide, by decide, by decide⟩), ?_⟩) | (refine ⟨(show _ ≤ sizeLine by decide), ?_⟩)))

/-! ### what stays, tables aside -/
mutual
theorem td_ext {H H' : Hp} (s : ExtN H H') : ∀ (d : Da) (v : V), Td H d v → Td H' d v
  | .non, v, h => by simpa only [Td] using h
  | .bl b, v, h => by simpa only [Td] using h
  | .int i, v, h => by simpa only [Td] using h
  | .str x, v, h => by simpa only [Td] using h
  | .tup ds, v, h => by
    simp only [Td] at h ⊢
    obtain ⟨p, vs, e, h1, h2⟩ := h
    exact ⟨p, vs, e, s _ _ h1 (fun _ z => by cases z), tdl_ext s ds vs h2⟩
  | .lst ds, v, h => by
    simp only [Td] at h ⊢
    obtain ⟨p, vs, e, h1, h2⟩ := h
    exact ⟨p, vs, e, s _ _ h1 (fun _ z => by cases z), tdl_ext s ds vs h2⟩
  | .dic, v, h => by
    simp only [Td] at h ⊢
    obtain ⟨p, e, h1⟩ := h
    exact ⟨p, e, s _ _ h1 (fun _ z => by cases z)⟩
theorem tdl_ext {H H' : Hp} (s : ExtN H H') : ∀ (ds : List Da) (vs : List V), TdL H ds vs → TdL H' ds vs
  | [], vs, h => by simpa only [TdL] using h
  | d :: ds, vs, h => by
    simp only [TdL] at h ⊢
    obtain ⟨v, r, e, h1, h2⟩ := h
    exact ⟨v, r, e, td_ext s d v h1, tdl_ext s ds r h2⟩
end
/-- tables are still there when a list is written -/
theorem tabs_but {T : List (Addr × Str)} {H H' : Hp} {p : Addr} {l : List V} (t : Tabs T H) (hp : H p = some (.lst l)) (b : But p H H') : Tabs T H' := fun q hq => by
  obtain ⟨ps, h1, h2, h3⟩ := t q hq
  refine ⟨ps, b _ _ (fun z => by rw [z, hp] at h1; cases h1) h1, h2, fun pos cv hc => ?_⟩
  obtain ⟨c, e1, e2⟩ := h3 pos cv hc
  exact ⟨c, e1, b _ _ (fun z => by rw [z, hp] at e2; exact codeO_lst (Option.some.inj e2).symm) e2⟩
where
  codeO_lst {c : Addr} {q : Str} {l : List V} (h : CodeO c q = .lst l) : False := by
    unfold CodeO at h
    cases h
/-- a call of one of several defs -/
def tFam {ι : Type} (i : Nat) (f : ι → Addr) (sp : ι → Sp) (E : XK) (t : TA) : TE := fun σ H Q => ∃ j, σ[i]? = some (some (.ref (f j))) ∧ t σ H fun vs H1 => sp j vs H1 Q E
theorem pe_fam {ι : Type} {X : Cx} {CX : CXT} {k i : Nat} {f : ι → Addr} {fd : ι → FuncData} {ps : List Str} {sp : ι → Sp} {E : XK} {x : Str} {t : TA} {p pos : Pos} {e : Expr} {es : List Expr} (F : ∀ j, FnOk X.prog X.w X.K X.mg X.base CX k (f j) (fd j) ps (sp j)) (hr : Room k X.A) (hN : X.N[i]? = some x) (hv : Vis X.env.scope x)
    (hk : ∀ j, PySem.W.keepIn X.K (.ref (f j)) = true) (hb : ∀ j, Binds X.K (fd j) ps []) (hx : Passes CX X E) (ha : PA X (e :: es) t)
    (hdb : (x == ("__debug__" : Str)) = false := by decide) (hcd : (x == ("__classdict__" : Str)) = false := by decide)
    (he : starEach (e :: es) X.env = (false, eval e X.env) :: starEach es X.env := by rfl) (hpl : (backTo pos (starEach es X.env)).any (·.1) = false := by rfl) : PE X (.Call (.Name x p) (e :: es) [] pos) (tFam i f sp E t) := by
  refine ⟨fun pins s σ H Q I ⟨j, h1, h2⟩ => ?_⟩
  refine (pe_callL (F j) hr hN hv (hk j) (hb j) .nil hx ha hdb hcd he hpl).run pins s σ H Q I ⟨h1, ?_⟩
  simpa only [List.append_nil] using h2
/-- out of a lambda -/
theorem lam_pass {X : Cx} {A : Around} {outer : List Env} {s : Shared} {H : Hp} {E : XK} {scope : Scope} {f c' : Addr} : Passes (L2.CX X.prog X.w) (lamCx X A outer s H E scope f c') E :=
  passes_call (X := lamCx X A outer s H E scope f c') (W := fun cls d _ H => E cls d H) (takes_of (X := lamCx X A outer s H E scope f c') rfl rfl rfl rfl) fun _ _ _ _ h => h
theorem pe_famL {ι : Type} (X : Cx) {A : Around} {outer : List Env} {s : Shared} {H : Hp} {E : XK} {scope : Scope} {fl c' : Addr} {k : Nat} (i : Nat) {f : ι → Addr} {fd : ι → FuncData} {ps : List Str} {sp : ι → Sp} {x : Str} {t : TA} {p pos : Pos} {e : Expr} {es : List Expr}
    (F : ∀ j, FnOk X.prog X.w X.K X.mg X.base (L2.CX X.prog X.w) k (f j) (fd j) ps (sp j)) (hr : Room k (A.deeper (lamEnv X scope s.heap.objs.size fl c'))) (hN : X.N[i]? = some x) (hv : Vis scope x)
    (hk : ∀ j, PySem.W.keepIn X.K (.ref (f j)) = true) (hb : ∀ j, Binds X.K (fd j) ps []) (ha : PA (lamCx X A outer s H E scope fl c') (e :: es) t)
    (hdb : (x == ("__debug__" : Str)) = false := by decide) (hcd : (x == ("__classdict__" : Str)) = false := by decide)
    (he : starEach (e :: es) (lamEnv X scope s.heap.objs.size fl c') = (false, eval e (lamEnv X scope s.heap.objs.size fl c')) :: starEach es (lamEnv X scope s.heap.objs.size fl c') := by rfl) (hpl : (backTo pos (starEach es (lamEnv X scope s.heap.objs.size fl c'))).any (·.1) = false := by rfl) :
    PE (lamCx X A outer s H E scope fl c') (.Call (.Name x p) (e :: es) [] pos) (tFam i f sp E t) :=
  pe_fam (X := lamCx X A outer s H E scope fl c') (CX := L2.CX X.prog X.w) F hr hN hv hk hb lam_pass ha hdb hcd he hpl
theorem pe_fault {X : Cx} (T : Txt X.K X.mg) (hg : X.A.guards = some []) {c P : Addr} {Tb : List (Addr × Str)} {k : Nat} {params : Arguments} {body : Expr} {scope : Scope} {t : XK → TE} {p lpos pos : Pos} (hgl : Gl X "_law_fault")
    (TB : TabB X.base X.mg c P) (hcode : X.env.code = .ref c) (hmT : (P, X.env.qual ++ "<lambda>") ∈ Tb) (hu : ∀ p ∈ Tb, p.1 = P → p.2 = X.env.qual ++ "<lambda>") (hr : Room (k + 2) X.A) (L : lamSB X.env.scope scope = true)
    (hdef : defaultsOf params X.env = ([], []))
    (hbind : ∀ (q : Str) (cl : List (Str × Addr)) (pm cv ctv : Value), bindArgs (PySem.W.kla_fn "<lambda>" q params body scope cl pm cv ctv) ⟨[], []⟩ = pure [])
    (hbody : ∀ (A : Around) (outer : List Env) (s : Shared) (H : Hp) (E : XK) (f c' : Addr), Room k (A.deeper (lamEnv X scope s.heap.objs.size f c')) → PE (lamCx X A outer s H E scope f c') body (t E)) :
    PE X (.Call (.Name "_law_fault" p) [.Lambda params body scope lpos] [] pos) (tLam Tb (TFault T) t) := by
  obtain ⟨oc, od, kV, doc, pm, an, cdv, ct, osl, e, lk, hcd⟩ := T.F__law_fault.ex
  have hb := T.b__law_fault
  rw [e] at hb lk
  refine pe_lamcall (a := "call") (Ng := ["call", "error"]) hgl T.g__law_fault T.k__law_fault lk hcd hb sc__law_fault rfl (.inl rfl) (fault_gives T hg (by have := hr.un; omega)) TB hcode hmT hu hr (lamS_by L) hdef hbind hbody
end K02

set_option Elab.async false
set_option linter.all false
set_option maxRecDepth 100000
set_option maxHeartbeats 4000000
namespace K02
open PySem PySem.Spec PyProof.Rows L2 TT LamX
mutual
/-- no list of three in it -/
def noL3 : Da → Bool
  | .tup xs => noL3s xs
  | .lst xs => decide (xs.length ≠ 3) && noL3s xs
  | _ => true
def noL3s : List Da → Bool
  | [] => true
  | d :: r => noL3 d && noL3s r
end
mutual
theorem td_but {H H' : Hp} {p : Addr} {a b c : V} (hp : H p = some (.lst [a, b, c])) (s : But p H H') : ∀ (d : Da) (v : V), noL3 d = true → Td H d v → Td H' d v
  | .non, v, _, h => by simpa only [Td] using h
  | .bl b, v, _, h => by simpa only [Td] using h
  | .int i, v, _, h => by simpa only [Td] using h
  | .str x, v, _, h => by simpa only [Td] using h
  | .tup ds, v, n, h => by
    simp only [noL3] at n
    simp only [Td] at h ⊢
    obtain ⟨q, vs, e, h1, h2⟩ := h
    exact ⟨q, vs, e, s _ _ (fun z => by rw [z, hp] at h1; cases h1) h1, tdl_but hp s ds vs n h2⟩
  | .lst ds, v, n, h => by
    simp only [noL3, Bool.and_eq_true, decide_eq_true_eq] at n
    simp only [Td] at h ⊢
    obtain ⟨q, vs, e, h1, h2⟩ := h
    refine ⟨q, vs, e, s _ _ (fun z => ?_) h1, tdl_but hp s ds vs n.2 h2⟩
    rw [z, hp] at h1
    have e3 := h2.len
    cases h1
    exact n.1 e3.symm
  | .dic, v, _, h => by
    simp only [Td] at h ⊢
    obtain ⟨q, e, h1⟩ := h
    exact ⟨q, e, s _ _ (fun z => by rw [z, hp] at h1; cases h1) h1⟩
theorem tdl_but {H H' : Hp} {p : Addr} {a b c : V} (hp : H p = some (.lst [a, b, c])) (s : But p H H') : ∀ (ds : List Da) (vs : List V), noL3s ds = true → TdL H ds vs → TdL H' ds vs
  | [], vs, _, h => by simpa only [TdL] using h
  | d :: ds, vs, n, h => by
    simp only [noL3s, Bool.and_eq_true] at n
    simp only [TdL] at h ⊢
    obtain ⟨v, r, e, h1, h2⟩ := h
    exact ⟨v, r, e, td_but hp s d v n.1 h1, tdl_but hp s ds r n.2 h2⟩
end
/-- all but what stands at p and the tables stays -/
def ButN (p : Addr) (H H' : Hp) : Prop := ∀ b o, b ≠ p → H b = some o → (∀ ps, o ≠ .tbl ps) → H' b = some o
theorem ButN.refl {p : Addr} {H : Hp} : ButN p H H := fun _ _ _ h _ => h
theorem ButN.trans {p : Addr} {H H1 H2 : Hp} (a : ButN p H H1) (b : ButN p H1 H2) : ButN p H H2 := fun c o n h t => b c o n (a c o n h t) t
theorem ButN.same {p : Addr} {H H' : Hp} (s : Same H H') : ButN p H H' := fun c o _ h _ => s c o h
theorem ButN.but {p : Addr} {H H' : Hp} (s : But p H H') : ButN p H H' := fun c o n h _ => s c o n h
theorem ButN.ext {p : Addr} {H H' : Hp} (s : ExtN H H') : ButN p H H' := fun c o _ h t => s c o h t
/-- one of a literal list's items is picked -/
theorem pick_of {i : Nat} {te : TE} {ds : List Da} {σ : L2.St} {H : Hp} {Q : VK} {p : Addr} {Tb : List (Addr × Str)} (hσ : σ[i]? = some (some (.ref p))) (hd : Dice H p) (ht : Tabs Tb H) (h : RD te (.lst ds)) (h0 : ds ≠ []) (h1 : ds.length < 1000) (h3 : ds.length ≠ 3) (hn : noL3s ds = true)
    (k : ∀ H' x d, d ∈ ds → Td H' d x → But p H H' → Dice H' p → Tabs Tb H' → Q x H') : tCall sp_pick [] E0 (tCons (tVar i) (tCons te tNil)) σ H Q := by
  refine ⟨.ref p, hσ, h σ H _ fun H1 v S t => ?_⟩
  have hd1 := hd.same S
  simp only [Td] at t
  obtain ⟨l, vs, rfl, hl, tv⟩ := t
  have e := tv.len
  refine ⟨p, l, vs, rfl, hd1, hl, fun z => h0 (List.eq_nil_of_length_eq_zero (by rw [← e, z]; rfl)), by omega, fun z => ?_, fun H2 x hx b d2 => ?_⟩
  · obtain ⟨a, b, c, hp⟩ := hd1
    rw [z, hp] at hl
    cases hl
    exact h3 e.symm
  · obtain ⟨d, md, td⟩ := mem_td tv hx
    obtain ⟨a, b', c, hp⟩ := hd1
    have nd : ∀ {ds : List Da}, noL3s ds = true → ∀ d ∈ ds, noL3 d = true := by
      intro ds
      induction ds with
      | nil => intro _ d m; cases m
      | cons e r ih =>
        intro n d m
        simp only [noL3s, Bool.and_eq_true] at n
        rcases List.mem_cons.mp m with rfl | m
        · exact n.1
        · exact ih n.2 d m
    exact k H2 x d md (td_but hp b d x (nd hn d md) td) (fun c o n hc => b c o n (S c o hc)) d2 (tabs_but (ht.ext S) hp b)
theorem rd_big : RD (tOp (rI CPow fun i j => .int (i ^ j.toNat)) (tC (.int 10)) (tC (.int 60))) (.int (10 ^ 60)) := fun σ H Q k =>
  ⟨10, 60, rfl, rfl, ⟨by decide, by decide, by decide⟩, k H _ (Same.refl H) td_int⟩
def nones : List Da := [.non, .tup [.int 2, .int 4], .tup [.int 1, .int 0], .tup [.int 1, .int (-1)], .tup [.int 0, .int 2], .lst [.int 1, .int 2], .str "1", .tup [.int 1], .bl true, .tup [.bl true, .int 2], .tup [.int (10 ^ 60), .int 1], .int (10 ^ 60), .dic]
theorem nones_bad : ∀ d ∈ nones, isNumber d = false ∧ isFraction d = false := by decide +kernel
theorem nones_3 : noL3s nones = true := by decide +kernel
def bads : List Da := [.non, .bl true, .str "1", .int (10 ^ 60), .tup [.int 1, .int 1], .lst [.int 1]]
def lows : List Da := [.non, .bl false, .int 0, .str "2", .int (10 ^ 60), .tup [.int 2, .int 1]]
theorem bads_3 : noL3s bads = true := by decide +kernel
theorem lows_3 : noL3s lows = true := by decide +kernel
/-- what is asked of one of them -/
def shownOk (d : Da) : Bool := d.flat && d.py.showable && !d.py.hasDict && decide (d.py.depth ≤ 50) && decide (d.py.shown.length ≤ 1000) && PyData.canLay0 (.str ("number " ++ d.py.shown))
theorem bads_ok : ∀ d ∈ bads, isInteger d = false ∧ noL3 d = true ∧ shownOk d = true := by decide +kernel
theorem lows_ok : ∀ d ∈ lows, (isInteger d = false ∨ d = .int 0) ∧ noL3 d = true ∧ shownOk d = true := by
  intro d hd
  unfold lows at hd
  simp only [List.mem_cons, List.not_mem_nil, or_false] at hd
  rcases hd with rfl | rfl | rfl | rfl | rfl | rfl
  · exact ⟨.inl (by decide +kernel), by decide +kernel, by decide +kernel⟩
  · exact ⟨.inl (by decide +kernel), by decide +kernel, by decide +kernel⟩
  · exact ⟨.inr rfl, by decide +kernel, by decide +kernel⟩
  · exact ⟨.inl (by decide +kernel), by decide +kernel, by decide +kernel⟩
  · exact ⟨.inl (by decide +kernel), by decide +kernel, by decide +kernel⟩
  · exact ⟨.inl (by decide +kernel), by decide +kernel, by decide +kernel⟩
/-! ### data stay when a list of references is written -/
mutual
/-- each list in it begins with a number -/
def noRL : Da → Bool
  | .tup xs => noRLs xs
  | .lst (.int _ :: xs) => noRLs xs
  | .lst _ => false
  | _ => true
def noRLs : List Da → Bool
  | [] => true
  | d :: r => noRL d && noRLs r
end
mutual
theorem td_ref {H H' : Hp} {D : Addr} {acc : List V} (hD : H D = some (.lst acc)) (hr : ∀ x ∈ acc, ∃ q, x = V.ref q) (s : But D H H') : ∀ (d : Da) (v : V), noRL d = true → Td H d v → Td H' d v
  | .non, v, _, h => by simpa only [Td] using h
  | .bl b, v, _, h => by simpa only [Td] using h
  | .int i, v, _, h => by simpa only [Td] using h
  | .str x, v, _, h => by simpa only [Td] using h
  | .tup ds, v, n, h => by
    simp only [noRL] at n
    simp only [Td] at h ⊢
    obtain ⟨q, vs, e, h1, h2⟩ := h
    exact ⟨q, vs, e, s _ _ (fun z => by rw [z, hD] at h1; cases h1) h1, tdl_ref hD hr s ds vs n h2⟩
  | .lst [], v, n, h => by simp [noRL] at n
  | .lst (.int i :: ds), v, n, h => by
    simp only [noRL] at n
    simp only [Td, TdL] at h ⊢
    obtain ⟨q, vs, e, h1, v0, r, e2, e3, h2⟩ := h
    refine ⟨q, vs, e, s _ _ (fun z => ?_) h1, v0, r, e2, e3, tdl_ref hD hr s ds r n h2⟩
    rw [z, hD] at h1
    cases h1
    obtain ⟨q2, e4⟩ := hr v0 (by rw [e2]; exact List.mem_cons_self)
    rw [e3] at e4
    cases e4
  | .lst (.non :: _), v, n, h => by simp [noRL] at n
  | .lst (.bl _ :: _), v, n, h => by simp [noRL] at n
  | .lst (.str _ :: _), v, n, h => by simp [noRL] at n
  | .lst (.tup _ :: _), v, n, h => by simp [noRL] at n
  | .lst (.lst _ :: _), v, n, h => by simp [noRL] at n
  | .lst (.dic :: _), v, n, h => by simp [noRL] at n
  | .dic, v, _, h => by
    simp only [Td] at h ⊢
    obtain ⟨q, e, h1⟩ := h
    exact ⟨q, e, s _ _ (fun z => by rw [z, hD] at h1; cases h1) h1⟩
theorem tdl_ref {H H' : Hp} {D : Addr} {acc : List V} (hD : H D = some (.lst acc)) (hr : ∀ x ∈ acc, ∃ q, x = V.ref q) (s : But D H H') : ∀ (ds : List Da) (vs : List V), noRLs ds = true → TdL H ds vs → TdL H' ds vs
  | [], vs, _, h => by simpa only [TdL] using h
  | d :: ds, vs, n, h => by
    simp only [noRLs, Bool.and_eq_true] at n
    simp only [TdL] at h ⊢
    obtain ⟨v, r, e, h1, h2⟩ := h
    exact ⟨v, r, e, td_ref hD hr s d v n.1 h1, tdl_ref hD hr s ds r n.2 h2⟩
end
/-- what the law has been told so far: pairs of two texts, in a list at D -/
def Told (H : Hp) (D : Addr) (ps : List (Str × Str)) : Prop := ∃ acc, H D = some (.lst acc) ∧ TdL H (ps.map fun p => .tup [.str p.1, .str p.2]) acc
theorem told_refs {H : Hp} : ∀ {ps : List (Str × Str)} {acc : List V}, TdL H (ps.map fun p => Da.tup [.str p.1, .str p.2]) acc → ∀ x ∈ acc, ∃ q, x = V.ref q
  | [], acc, h, x, m => by simp only [List.map_nil, TdL] at h; subst h; cases m
  | p :: ps, acc, h, x, m => by
    simp only [List.map_cons, TdL, Td] at h
    obtain ⟨v, r, rfl, ⟨q, ws, e, _⟩, h2⟩ := h
    rcases List.mem_cons.mp m with rfl | m
    · exact ⟨q, e⟩
    · exact told_refs h2 x m
theorem told_norl : ∀ ps : List (Str × Str), noRLs (ps.map fun p => Da.tup [.str p.1, .str p.2]) = true
  | [] => rfl
  | p :: ps => by simp [noRLs, noRL, told_norl ps]
/-- one more is told: a new pair at v -/
theorem told_more {H : Hp} {D : Addr} {ps : List (Str × Str)} {a b : Str} {v : V} (h : Told H D ps) (hl : ps.length < 1000) (hv : Td H (.tup [.str a, .str b]) v) :
    ∃ acc, H D = some (.lst acc) ∧ acc.length < sizeLine ∧ Told (upd H D (.lst (acc ++ [v]))) D (ps ++ [(a, b)]) ∧ ∀ d x, noRL d = true → Td H d x → Td (upd H D (.lst (acc ++ [v]))) d x := by
  obtain ⟨acc, hD, t⟩ := h
  have al := t.len
  rw [List.length_map] at al
  have stay := td_ref hD (told_refs t) (But.upd (p := D) (H := H) (o := .lst (acc ++ [v])))
  refine ⟨acc, hD, by rw [sizeLine_eq]; omega, ⟨_, upd_same, ?_⟩, fun d x n hx => stay d x n hx⟩
  rw [List.map_append]
  have key : ∀ {ds : List Da} {vs : List V} {d : Da} {u : V} {G : Hp}, TdL G ds vs → Td G d u → TdL G (ds ++ [d]) (vs ++ [u]) := by
    intro ds
    induction ds with
    | nil => intro vs d u G h1 h2; simp only [TdL] at h1; subst h1; exact tdl_cons h2 tdl_nil
    | cons e r ih =>
      intro vs d u G h1 h2
      simp only [TdL] at h1
      obtain ⟨w, r', rfl, a1, a2⟩ := h1
      exact tdl_cons a1 (ih a2 h2)
  exact key (tdl_ref hD (told_refs t) But.upd _ _ (told_norl ps) t) (stay _ _ (by simp [noRL, noRLs]) hv)
end K02

set_option Elab.async false
set_option linter.all false
set_option maxRecDepth 100000
set_option maxHeartbeats 4000000
namespace K02
open PySem PySem.Spec PyProof.Rows L2 TT LamX
theorem extN_of {H H' : Hp} (s : Same H H') : ExtN H H' := fun b o h _ => s b o h
theorem Told.ext {H H' : Hp} {D : Addr} {ps : List (Str × Str)} (s : ExtN H H') (h : Told H D ps) : Told H' D ps := by
  obtain ⟨acc, hD, t⟩ := h
  exact ⟨acc, s _ _ hD (fun _ z => by cases z), tdl_ext s _ _ t⟩
/-- what the law is told of a call: a pair of texts, all else as it was -/
def Tells {K : PySem.W.Frag} {mg : Str → Option Value} (T : Txt K mg) (tl : XK → Hp → VK → Prop) (H1 : Hp) (a b : Str) : Prop := ∀ Q1 : VK, (∀ H2 v, Same H1 H2 → Td H2 (.tup [.str a, .str b]) v → Q1 v H2) → TFault T tl H1 Q1
/-- told.append(_law_fault(lambda: ..)) -/
theorem app_of {K : PySem.W.Frag} {mg : Str → Option Value} {T : Txt K mg} {Tb : List (Addr × Str)} {t : XK → TE} {D : Ends} {σ : L2.St} {H : Hp} {Dl : Addr} {ps : List (Str × Str)} {i : Nat} (a b : Str) (hσ : σ[i]? = some (some (.ref Dl))) (hT : Told H Dl ps) (ht : Tabs Tb H) (hl : ps.length < 1000)
    (hc : ∀ H1, ExtN H H1 → Tells T (fun E H' Q' => t E σ H' Q') H1 a b)
    (k : ∀ H', Told H' Dl (ps ++ [(a, b)]) → Tabs Tb H' → (∀ d x, noRL d = true → Td H d x → Td H' d x) → ButN Dl H H' → D.nx σ H') :
    tDrop (tBM K "list" rAppend (tVar i) (tCons (tLam Tb (TFault T) t) tNil)) D σ H := by
  obtain ⟨acc0, hD0, _⟩ := id hT
  refine ⟨.ref Dl, hσ, .inl ⟨rfl, _, .inl (.inl hD0)⟩, ht, fun H1 e1 t1 => ?_⟩
  refine hc H1 e1 _ (fun H2 v S2 tv => ?_)
  have hT2 := (hT.ext e1).ext (extN_of S2)
  obtain ⟨acc, hD, al, tm, stay⟩ := told_more hT2 hl tv
  refine ⟨Dl, acc, v, rfl, rfl, hD, al, k _ tm (tabs_but (t1.ext S2) hD But.upd) (fun d x n hx => stay d x n (td_ext (extN_of S2) d x (td_ext e1 d x hx))) (fun c o n h z => ?_)⟩
  rw [upd_ne n]
  exact S2 _ _ (e1 _ _ h z)
/-- told by a pair that is made -/
theorem pair_of {H1 H : Hp} {a b : Str} {Q1 : VK} (S : Same H1 H) (k : ∀ H2 v, Same H1 H2 → Td H2 (.tup [.str a, .str b]) v → Q1 v H2) : Pair2 a b Q1 H := fun p hp =>
  k _ _ (S.trans (same_upd hp)) (td_tup upd_same (tdl_cons td_str (tdl_cons td_str tdl_nil)))
section
variable {P : Program} {w : World} {K : PySem.W.Frag} {mg : Str → Option Value} {base : Heap}
inductive Fam5 | m_plus | m_minus | m_times | m_over | m_compare
def fam5_f (T : Txt K mg) : Fam5 → Addr
  | .m_plus => T.a_plus
  | .m_minus => T.a_minus
  | .m_times => T.a_times
  | .m_over => T.a_over
  | .m_compare => T.a_compare
def fam5_d (T : Txt K mg) : Fam5 → FuncData
  | .m_plus => T.d_plus
  | .m_minus => T.d_minus
  | .m_times => T.d_times
  | .m_over => T.d_over
  | .m_compare => T.d_compare
def fam5_s (T : Txt K mg) : Fam5 → Sp
  | .m_plus => sp_two T.c_InvalidFraction
  | .m_minus => sp_two T.c_InvalidFraction
  | .m_times => sp_two T.c_InvalidFraction
  | .m_over => sp_over T.c_InvalidFraction T.c_InvalidOperation
  | .m_compare => sp_two T.c_InvalidFraction
theorem fam5_F (T : Txt K mg) : ∀ j, FnOk P w K mg base (L2.CX P w) 6 (fam5_f T j) (fam5_d T j) ["one", "other"] (fam5_s T j)
  | .m_plus => (ok_plus (P := P) (w := w) (base := base) T).mono (by decide)
  | .m_minus => (ok_minus (P := P) (w := w) (base := base) T).mono (by decide)
  | .m_times => (ok_times (P := P) (w := w) (base := base) T).mono (by decide)
  | .m_over => (ok_over (P := P) (w := w) (base := base) T).mono (by decide)
  | .m_compare => (ok_compare (P := P) (w := w) (base := base) T).mono (by decide)
theorem fam5_k (T : Txt K mg) : ∀ j, PySem.W.keepIn K (.ref (fam5_f T j)) = true
  | .m_plus => T.k_plus
  | .m_minus => T.k_minus
  | .m_times => T.k_times
  | .m_over => T.k_over
  | .m_compare => T.k_compare
theorem fam5_b (T : Txt K mg) : ∀ j, Binds K (fam5_d T j) ["one", "other"] []
  | .m_plus => by exact T.b_plus
  | .m_minus => by exact T.b_minus
  | .m_times => by exact T.b_times
  | .m_over => by exact T.b_over
  | .m_compare => by exact T.b_compare
inductive Fam2 | m_floor_of | m_rest_of
def fam2_f (T : Txt K mg) : Fam2 → Addr
  | .m_floor_of => T.a_floor_of
  | .m_rest_of => T.a_rest_of
def fam2_d (T : Txt K mg) : Fam2 → FuncData
  | .m_floor_of => T.d_floor_of
  | .m_rest_of => T.d_rest_of
def fam2_s (T : Txt K mg) : Fam2 → Sp
  | .m_floor_of => sp_one T.c_InvalidFraction
  | .m_rest_of => sp_one T.c_InvalidFraction
theorem fam2_F (T : Txt K mg) : ∀ j, FnOk P w K mg base (L2.CX P w) 6 (fam2_f T j) (fam2_d T j) ["number"] (fam2_s T j)
  | .m_floor_of => (ok_floor_of (P := P) (w := w) (base := base) T).mono (by decide)
  | .m_rest_of => (ok_rest_of (P := P) (w := w) (base := base) T).mono (by decide)
theorem fam2_k (T : Txt K mg) : ∀ j, PySem.W.keepIn K (.ref (fam2_f T j)) = true
  | .m_floor_of => T.k_floor_of
  | .m_rest_of => T.k_rest_of
theorem fam2_b (T : Txt K mg) : ∀ j, Binds K (fam2_d T j) ["number"] []
  | .m_floor_of => by exact T.b_floor_of
  | .m_rest_of => by exact T.b_rest_of
inductive Fam4 | m_rank | m_factors | m_determinant | m_undone
def fam4_f (T : Txt K mg) : Fam4 → Addr
  | .m_rank => T.a_rank
  | .m_factors => T.a_factors
  | .m_determinant => T.a_determinant
  | .m_undone => T.a_undone
def fam4_d (T : Txt K mg) : Fam4 → FuncData
  | .m_rank => T.d_rank
  | .m_factors => T.d_factors
  | .m_determinant => T.d_determinant
  | .m_undone => T.d_undone
def fam4_s (T : Txt K mg) : Fam4 → Sp
  | .m_rank => sp_rk T.c_InvalidTable
  | .m_factors => sp_fac T.c_InvalidTable
  | .m_determinant => sp_det T.c_InvalidTable T.c_InvalidOperation
  | .m_undone => sp_und T.c_InvalidTable T.c_InvalidOperation T.c_Refused
theorem fam4_F (T : Txt K mg) : ∀ j, FnOk P w K mg base (L2.CX P w) 7 (fam4_f T j) (fam4_d T j) ["table"] (fam4_s T j)
  | .m_rank => (ok_rank (P := P) (w := w) (base := base) T).mono (by decide)
  | .m_factors => (ok_factors (P := P) (w := w) (base := base) T).mono (by decide)
  | .m_determinant => (ok_determinant (P := P) (w := w) (base := base) T).mono (by decide)
  | .m_undone => (ok_undone (P := P) (w := w) (base := base) T).mono (by decide)
theorem fam4_k (T : Txt K mg) : ∀ j, PySem.W.keepIn K (.ref (fam4_f T j)) = true
  | .m_rank => T.k_rank
  | .m_factors => T.k_factors
  | .m_determinant => T.k_determinant
  | .m_undone => T.k_undone
theorem fam4_b (T : Txt K mg) : ∀ j, Binds K (fam4_d T j) ["table"] []
  | .m_rank => by exact T.b_rank
  | .m_factors => by exact T.b_factors
  | .m_determinant => by exact T.b_determinant
  | .m_undone => by exact T.b_undone
inductive FamS | m_determinant | m_undone
def famS_f (T : Txt K mg) : FamS → Addr
  | .m_determinant => T.a_determinant
  | .m_undone => T.a_undone
def famS_d (T : Txt K mg) : FamS → FuncData
  | .m_determinant => T.d_determinant
  | .m_undone => T.d_undone
def famS_s (T : Txt K mg) : FamS → Sp
  | .m_determinant => sp_det T.c_InvalidTable T.c_InvalidOperation
  | .m_undone => sp_und T.c_InvalidTable T.c_InvalidOperation T.c_Refused
theorem famS_F (T : Txt K mg) : ∀ j, FnOk P w K mg base (L2.CX P w) 7 (famS_f T j) (famS_d T j) ["table"] (famS_s T j)
  | .m_determinant => (ok_determinant (P := P) (w := w) (base := base) T).mono (by decide)
  | .m_undone => (ok_undone (P := P) (w := w) (base := base) T).mono (by decide)
theorem famS_k (T : Txt K mg) : ∀ j, PySem.W.keepIn K (.ref (famS_f T j)) = true
  | .m_determinant => T.k_determinant
  | .m_undone => T.k_undone
theorem famS_b (T : Txt K mg) : ∀ j, Binds K (famS_d T j) ["table"] []
  | .m_determinant => by exact T.b_determinant
  | .m_undone => by exact T.b_undone
end
section
variable {K : PySem.W.Frag} {mg : Str → Option Value} {T : Txt K mg}
/-- two numbers, one of them none: whichever of the five is called -/
theorem five_tells {σ : L2.St} {H1 : Hp} {ta : TA} {j : Fam5} {i : Nat} (hσ : σ[i]? = some (some (.ref (fam5_f T j)))) (ha : ∀ Q : List V → Hp → Prop, (∀ H2 x y, Same H1 H2 → BadFst H2 x y → Q [x, y] H2) → ta σ H1 Q) :
    Tells T (fun E H' Q' => tFam i (fam5_f T) (fam5_s T) E ta σ H' Q') H1 "refused" "fraction" := fun Q1 k => by
  refine ⟨j, hσ, ha _ fun H2 x y S2 hb => ?_⟩
  have e : ∀ H3, Same H2 H3 → faultE T Q1 (.ref T.c_InvalidFraction) none H3 := fun H3 S3 => .inl ⟨rfl, pair_of (S2.trans S3) k⟩
  cases j with
  | m_over => exact ⟨x, y, rfl, .inl ⟨hb, e⟩⟩
  | _ => exact ⟨x, y, rfl, hb, e⟩
theorem two_tells {σ : L2.St} {H1 : Hp} {ta : TA} {j : Fam2} {i : Nat} {x : V} {d : Da} (hσ : σ[i]? = some (some (.ref (fam2_f T j)))) (ha : ∀ Q : List V → Hp → Prop, Q [x] H1 → ta σ H1 Q) (td : Td H1 d x) (hd : isNumber d = false) :
    Tells T (fun E H' Q' => tFam i (fam2_f T) (fam2_s T) E ta σ H' Q') H1 "refused" "fraction" := fun Q1 k => by
  refine ⟨j, hσ, ha _ ?_⟩
  have e : faultE T Q1 (.ref T.c_InvalidFraction) none H1 := .inl ⟨rfl, pair_of (Same.refl _) k⟩
  cases j with
  | _ => exact ⟨x, d, rfl, td, hd, e⟩
theorem keeps_num {Q1 : VK} {H1 H2 : Hp} {d : Da} {x : V} (S : Same H1 H2) (td : Td H2 d x) (ok : shownOk d = true) (k : ∀ H2 v, Same H1 H2 → Td H2 (.tup [.str "refused", .str ("number " ++ d.py.shown)]) v → Q1 v H2) : Keeps T.c_InvalidNumber "given" x H2 (faultE T Q1) := fun dd hdd => by
  unfold shownOk at ok
  simp only [Bool.and_eq_true, Bool.not_eq_true', decide_eq_true_eq] at ok
  obtain ⟨⟨⟨⟨⟨o1, o2⟩, o3⟩, o4⟩, o5⟩, _⟩ := ok
  exact .inr (.inr (.inr (.inl ⟨rfl, dd, x, d.py, rfl, upd_same, Td.dp d x o1 (td.same (same_upd hdd) _ _), o2, o3, o4, by omega, pair_of (S.trans (same_upd hdd)) k⟩)))
/-- lowest: the first one that is no integer -/
theorem low_tells {σ : L2.St} {H1 : Hp} {ta : TA} {x y : V} {d e g : Da} (ha : ∀ Q : List V → Hp → Prop, Q [x, y] H1 → ta σ H1 Q) (td : Td H1 d x) (te : Td H1 e y)
    (h : (isInteger d = false ∧ g = d) ∨ (isInteger d = true ∧ (isInteger e = false ∨ e = .int 0) ∧ g = e)) (ok : shownOk g = true) :
    Tells T (fun E H' Q' => tCallS (sp_lowest T.c_InvalidNumber) (WE fun cls d _ H => E cls d H) ta σ H' Q') H1 "refused" ("number " ++ g.py.shown) := fun Q1 k => by
  refine ha _ ⟨x, y, d, e, rfl, td, te, ?_⟩
  rcases h with ⟨h, rfl⟩ | ⟨h, h2, rfl⟩
  · exact .inl ⟨h, keeps_num (Same.refl _) td ok k⟩
  · exact .inr (.inl ⟨h, h2, keeps_num (Same.refl _) te ok k⟩)
/-- over: by nought -/
theorem over_tells {σ : L2.St} {H1 : Hp} {ta : TA} (ha : ∀ Q : List V → Hp → Prop, (∀ H2 x y p q, Same H1 H2 → Nu H2 x p → Nu H2 y q → B 60 p.num → B 60 p.den → B 60 q.num → B 60 q.den → q = 0 → Q [x, y] H2) → ta σ H1 Q) :
    Tells T (fun E H' Q' => tCallS (sp_over T.c_InvalidFraction T.c_InvalidOperation) (WE fun cls d _ H => E cls d H) ta σ H' Q') H1 "refused" "operation" := fun Q1 k =>
  ha _ fun H2 x y p q S2 hx hy b1 b2 b3 b4 q0 => ⟨x, y, rfl, .inr ⟨p, q, hx, hy, b1, b2, b3, b4, .inl ⟨q0, fun H3 S3 => .inr (.inr (.inl ⟨rfl, pair_of (S2.trans S3) k⟩))⟩⟩⟩
theorem over_lets {σ : L2.St} {H1 : Hp} {ta : TA} (ha : ∀ Q : List V → Hp → Prop, (∀ H2 x y p q, Same H1 H2 → Nu H2 x p → Nu H2 y q → B 60 p.num → B 60 p.den → B 60 q.num → B 60 q.den → q ≠ 0 → Q [x, y] H2) → ta σ H1 Q) :
    Tells T (fun E H' Q' => tCallS (sp_over T.c_InvalidFraction T.c_InvalidOperation) (WE fun cls d _ H => E cls d H) ta σ H' Q') H1 "let" "" := fun Q1 k =>
  ha _ fun H2 x y p q S2 hx hy b1 b2 b3 b4 q0 => ⟨x, y, rfl, .inr ⟨p, q, hx, hy, b1, b2, b3, b4, .inr ⟨q0, fun H3 v S3 _ => pair_of (S2.trans S3) k⟩⟩⟩
end
/-- what the law goes on with -/
structure Wd (Tb : List (Addr × Str)) (p : Addr) (H0 : Hp) (ds : List (Da × V)) (H : Hp) : Prop where
  bn : ButN p H0 H
  di : Dice H p
  tb : Tabs Tb H
  td : ∀ q ∈ ds, noRL q.1 = true ∧ Td H q.1 q.2
theorem Wd.same {Tb : List (Addr × Str)} {p : Addr} {H0 H H' : Hp} {ds : List (Da × V)} (w : Wd Tb p H0 ds H) (s : Same H H') : Wd Tb p H0 ds H' :=
  ⟨w.bn.trans (ButN.same s), w.di.same s, w.tb.ext s, fun q m => ⟨(w.td q m).1, (w.td q m).2.same s _ _⟩⟩
theorem Wd.app {Tb : List (Addr × Str)} {p Dl : Addr} {H0 H H' : Hp} {ds : List (Da × V)} (w : Wd Tb p H0 ds H) (nD : ∀ o, H0 Dl = some o → (∀ ps, o ≠ .tbl ps) → False) (pD : p ≠ Dl) (t : Tabs Tb H') (stay : ∀ d x, noRL d = true → Td H d x → Td H' d x) (b : ButN Dl H H') : Wd Tb p H0 ds H' := by
  refine ⟨fun c o n h z => b c o (fun e => nD o (by rw [← e]; exact h) z) (w.bn c o n h z) z, ?_, t, fun q m => ⟨(w.td q m).1, stay _ _ (w.td q m).1 (w.td q m).2⟩⟩
  obtain ⟨x, y, z, h⟩ := w.di
  exact ⟨x, y, z, b _ _ pD h (fun _ e => by cases e)⟩
theorem half_num : ((1 : Rat) / 2).num = 1 := by decide +kernel
theorem half_den : ((1 : Rat) / 2).den = 2 := by decide +kernel
/-- the pair (1, 2) -/
theorem half_nu {H : Hp} {q : Addr} (h : H q = some (.tup [.int 1, .int 2])) : Nu H (.ref q) (1 / 2) := .inr ⟨q, rfl, by rw [half_num, half_den]; exact h⟩
theorem half_B : B 60 ((1 : Rat) / 2).num ∧ B 60 (((1 : Rat) / 2).den : Int) := by
  rw [half_num, half_den]
  exact ⟨by unfold B; decide +kernel, by unfold B; decide +kernel⟩
theorem five_at {K : PySem.W.Frag} {mg : Str → Option Value} (T : Txt K mg) {i : Nat} {x : V} (h : [V.ref T.a_plus, V.ref T.a_minus, V.ref T.a_times, V.ref T.a_over, V.ref T.a_compare][i]? = some x) : i < 5 ∧ ∃ j, x = .ref (fam5_f T j) := by
  match i, h with
  | 0, h => exact ⟨by omega, .m_plus, (Option.some.inj h).symm⟩
  | 1, h => exact ⟨by omega, .m_minus, (Option.some.inj h).symm⟩
  | 2, h => exact ⟨by omega, .m_times, (Option.some.inj h).symm⟩
  | 3, h => exact ⟨by omega, .m_over, (Option.some.inj h).symm⟩
  | 4, h => exact ⟨by omega, .m_compare, (Option.some.inj h).symm⟩
  | n + 5, h => simp at h
theorem rep_more {α : Type} {x : α} {i : Nat} : List.replicate (2 * i) x ++ [x] ++ [x] = List.replicate (2 * (i + 1)) x := by
  rw [show 2 * (i + 1) = 2 * i + 1 + 1 by omega, List.replicate_succ', List.replicate_succ']
theorem two_at {K : PySem.W.Frag} {mg : Str → Option Value} (T : Txt K mg) {i : Nat} {x : V} (h : [V.ref T.a_floor_of, V.ref T.a_rest_of][i]? = some x) : i < 2 ∧ ∃ j, x = .ref (fam2_f T j) := by
  match i, h with
  | 0, h => exact ⟨by omega, .m_floor_of, (Option.some.inj h).symm⟩
  | 1, h => exact ⟨by omega, .m_rest_of, (Option.some.inj h).symm⟩
  | n + 2, h => simp at h
theorem rep_one {α : Type} {x : α} {n i : Nat} : List.replicate (n + i) x ++ [x] = List.replicate (n + (i + 1)) x := by
  rw [show n + (i + 1) = n + i + 1 by omega, List.replicate_succ']
/-- the list that was told, as data -/
theorem told_td {H : Hp} {D : Addr} {ps : List (Str × Str)} (h : Told H D ps) : Td H (.lst (ps.map fun p => .tup [.str p.1, .str p.2])) (.ref D) := by
  obtain ⟨acc, h1, h2⟩ := h
  exact td_lst h1 h2
/-- [x] * n of data -/
theorem rep_rd {te : TE} {d : Da} {n : Nat} (h : RD te (.lst [d])) (hn : n < 1000) : RD (tOp rRep te (tC (.int (n : Nat)))) (.lst (List.replicate n d)) := fun σ H Q k => by
  refine h σ H _ fun H1 v S t => ?_
  simp only [Td, TdL] at t
  obtain ⟨l, vs, rfl, hl, v0, r, rfl, t0, rfl⟩ := t
  refine ⟨l, n, [v0], rfl, rfl, hl, by omega, by omega, ?_, fun q hq => ?_⟩
  · rw [sizeLine_eq]
    simp
    omega
  · refine k _ _ (S.trans (same_upd hq)) (td_lst upd_same ?_)
    have key : ∀ {m : Nat} {G : Hp}, Td G d v0 → TdL G (List.replicate m d) ((List.replicate m [v0]).flatten) := by
      intro m
      induction m with
      | zero => intro G _; exact tdl_nil
      | succ m ih => intro G t; rw [List.replicate_succ, List.replicate_succ, List.flatten_cons]; exact tdl_cons t (ih t)
    have t2 := key (m := n) (t0.same (same_upd (o := .lst ((List.replicate n [v0]).flatten)) hq) _ _)
    simpa using t2
theorem Wd.ext {Tb : List (Addr × Str)} {p : Addr} {H0 H H' : Hp} {ds : List (Da × V)} (w : Wd Tb p H0 ds H) (s : ExtN H H') (t : Tabs Tb H') : Wd Tb p H0 ds H' := by
  refine ⟨w.bn.trans (ButN.ext s), ?_, t, fun q m => ⟨(w.td q m).1, td_ext s _ _ (w.td q m).2⟩⟩
  obtain ⟨x, y, z, h⟩ := w.di
  exact ⟨x, y, z, s _ _ h (fun _ e => by cases e)⟩
theorem Wd.fresh {Tb : List (Addr × Str)} {p D : Addr} {H0 H : Hp} {ds : List (Da × V)} (w : Wd Tb p H0 ds H) (h : H D = none) : p ≠ D ∧ ∀ o, H0 D = some o → (∀ ps, o ≠ .tbl ps) → False := by
  have pD : p ≠ D := fun z => by
    obtain ⟨x, y, u, e⟩ := w.di
    rw [z, h] at e
    cases e
  exact ⟨pD, fun o e z => by
    have := w.bn _ _ (Ne.symm pD) e z
    rw [h] at this
    cases this⟩
/-- a whole number of one word -/
theorem nu_int {H : Hp} {i : Int} : Nu H (.int i) (i : Rat) := .inl ⟨by simp, by simp⟩
theorem pair_nu {H : Hp} {q : Addr} {a b : Int} {r : Rat} (h : H q = some (.tup [.int a, .int b])) (h1 : r.num = a) (h2 : (r.den : Int) = b) : Nu H (.ref q) r := .inr ⟨q, rfl, by rw [h1, h2]; exact h⟩
theorem B60s {x : Int} (h : x.natAbs ≤ 5) : B 60 x := Nat.lt_of_le_of_lt h (by decide +kernel)
theorem told_one {H : Hp} {D : Addr} {a b : Str} {v : V} (h : H D = none) (t : Td H (.tup [.str a, .str b]) v) : Told (upd H D (.lst [v])) D [(a, b)] :=
  ⟨[v], upd_same, tdl_cons (t.same (same_upd h) _ _) tdl_nil⟩
theorem shown_of {K : PySem.W.Frag} {σ : L2.St} {H : Hp} {Q : VK} {i : Nat} {x : V} {d : Da} (hσ : σ[i]? = some (some x)) (td : Td H d x) (ok : shownOk d = true) (k : ∀ H' v, Same H H' → Td H' (.tup [.str "refused", .str ("number " ++ d.py.shown)]) v → Q v H') :
    tTup (tCons (tC (.str "refused")) (tCons (tOp (fun x y H Q => ∃ i j, x = V.str i ∧ y = V.str j ∧ i.length + j.length ≤ sizeLine ∧ Q (.str (i ++ j)) H) (tC (.str "number ")) (tCB (rRepr K) (tCons (tVar i) tNil))) tNil)) σ H Q := by
  unfold shownOk at ok
  simp only [Bool.and_eq_true, Bool.not_eq_true', decide_eq_true_eq] at ok
  obtain ⟨⟨⟨⟨⟨o1, o2⟩, o3⟩, o4⟩, o5⟩, _⟩ := ok
  have e : Str.length "number " = 7 := by decide +kernel
  have e2 : sizeLine = 16777216 := sizeLine_eq
  exact ⟨x, hσ, x, d.py, rfl, Td.dp d x o1 td, o2, o3, o4, by omega, "number ", d.py.shown, rfl, rfl, by omega, (by show 2 ≤ sizeLine; omega), fun p hp => k _ _ (same_upd hp) (td_tup upd_same (tdl_cons td_str (tdl_cons td_str tdl_nil)))⟩
theorem tdl_app {H : Hp} : ∀ {ds es : List Da} {vs us : List V}, TdL H ds vs → TdL H es us → TdL H (ds ++ es) (vs ++ us)
  | [], es, vs, us, h, h2 => by simp only [TdL] at h; subst h; exact h2
  | d :: ds, es, vs, us, h, h2 => by
    simp only [TdL] at h
    obtain ⟨v, r, rfl, a1, a2⟩ := h
    exact tdl_cons a1 (tdl_app a2 h2)
theorem cat_td {H : Hp} {x y : V} {ds es : List Da} {Q : VK} (hx : Td H (.lst ds) x) (hy : Td H (.lst es) y) (hl : ds.length + es.length < 1000) (k : ∀ H' v, Same H H' → Td H' (.lst (ds ++ es)) v → Q v H') : rCat x y H Q := by
  simp only [Td] at hx hy
  obtain ⟨p, vs, rfl, h1, t1⟩ := hx
  obtain ⟨q, us, rfl, h2, t2⟩ := hy
  have e1 := t1.len
  have e2 := t2.len
  exact ⟨p, q, vs, us, rfl, rfl, h1, h2, by rw [sizeLine_eq]; omega, fun c hc => k _ _ (same_upd hc) (td_lst upd_same (TdL.same (same_upd hc) _ _ (tdl_app t1 t2)))⟩
theorem shown_lay {d : Da} (ok : shownOk d = true) : PyData.canLay0 (.str ("number " ++ d.py.shown)) = true := by
  unfold shownOk at ok
  exact (Bool.and_eq_true_iff.mp ok).2
end K02

set_option Elab.async false
set_option linter.all false
set_option maxRecDepth 100000
set_option maxHeartbeats 4000000
namespace K02
open PySem PySem.Spec PyProof.Rows L2 TT LamX
local macro_rules | `(tactic| walk_at "ev") => `(tactic| simp only [L2.start, tRet, tRetN, tSeq, tNext, tNever, tDrop, tIfS, tAsg, tPar, gName, tVar, tC, tOp, tUn, tTest, tB, tAnd, tOr, tNot, tAndV, tOrV, tNotV, tIf, tChain, tCons, tNil, tTup, tLst, wipe, tBM, tSl, tPart, tNoPart, tCB, tCall, tCallS, tRaiseK, tKept, WE, rI0, rI, rU, rEq, rNe, rGcd, scal, gNil, gCons, gSub, Int.zero_sub,
  List.length_cons, List.length_nil, List.map_cons, List.map_nil, List.replicate, List.cons_append, List.nil_append, List.append_nil, List.set_cons_zero, List.set_cons_succ, List.set_nil, List.getElem?_cons_zero, List.getElem?_cons_succ, List.getElem?_nil, List.drop_zero, List.drop_succ_cons, List.drop_nil, List.length_drop,
  Option.some.injEq, V.int.injEq, V.bl.injEq, V.ref.injEq, List.cons.injEq, and_true, true_and, and_assoc, exists_and_left, exists_and_right, exists_eq_left, exists_eq_left', exists_eq', exists_eq, if_true, if_false, Bool.false_eq_true, ite_true, ite_false, eq_self, reduceCtorEq, szle0, szle1, szle2, szle3, szle4, szle5, szle6, szle8, szle13, false_and, and_false, exists_false, exists_const, or_false, false_or, Bool.true_and, Bool.false_and, Bool.and_true, Bool.and_false, decide_eq_true_eq, Bool.not_true, Bool.not_false, Bool.not_not, Nat.reduceAdd, Int.reduceNeg, Int.reduceToNat, Int.reducePow, Int.cast_ofNat_Int, Int.reduceEq, Int.reduceLT, Int.reduceLE, Int.reduceAdd, Int.reduceMul, Int.reduceSub, decide_true, decide_false, Bool.not_eq_true', decide_eq_false_iff_not, not_false_eq_true, not_true_eq_false])
local macro_rules | `(tactic| walk_at "go") => `(tactic| repeat (first | walk_at "ev" | (refine isi_int (by assumption) ?_) | (refine isi_bool (by assumption) ?_) | (refine isi_tup (by assumption) ?_) | (refine use_J (by assumption) ?_) | (refine use_J td_int ?_) | (refine tFor_rng ?_) | (refine tFor_list ?_) | (refine tFor_tup ?_) | (refine tLc_rng ?_) | (refine tLc_zip ?_) | (refine tLc_enum ?_) | (refine tLc_rng2 ?_) | (refine tFor_rng2 ?_) | (refine tupL_of (by assumption) ?_) | (refine lstL_of (by assumption) ?_) | (refine lstT_of (by assumption) ?_) | (refine tLc_list ?_) | (refine tLc_tup ?_) | (refine ixT_of (by assumption) rfl ?_) | (refine ixL_of (by assumption) rfl ?_) | (refine lenT_of (by assumption) ?_) | (refine lenL_of (by assumption) ?_) | (refine gtup_of (by assumption) rfl ?_) | (refine ⟨cmul (by assumption) (by assumption) (by decide), ?_⟩) | (refine ⟨Or.inl (by decide), ?_⟩) | (refine ⟨Or.inr (by decide), ?_⟩) | (refine ixL_of upd_same rfl ?_) | (refine setL_of (by assumption) (by rfl) ?_) | (refine ⟨(show CPow _ _ from ⟨by decide, by decide, by decide⟩), ?_⟩) | (refine ⟨(show _ ≤ sizeLine by decide), ?_⟩)))

/-- the table of a def's code objects -/
structure LTab (K : PySem.W.Frag) (mg : Str → Option Value) (base : Heap) (Tb : List (Addr × Str)) (x : Str) (st : Stmt) (a : Addr) where
  c : Addr
  P : Addr
  TB : TabB base mg c P
  code : ∀ (oc : Value) (od : Option Addr) (kV doc pm : Value) (an : Option Addr) (cdv ct : Value) (osl : Array (Option Value)), K.lookup a = some ⟨oc, od, .func (PySem.W.fnOf x x (defArgs st) (defBody st) (defScope st) .none kV doc pm an cdv ct), osl⟩ → cdv = .ref c
  mem : (P, (envOfC x (defScope st) 0 0 .none).qual ++ "<lambda>") ∈ Tb
  uniq : ∀ p ∈ Tb, p.1 = P → p.2 = (envOfC x (defScope st) 0 0 .none).qual ++ "<lambda>"
section
variable {P : Program} {w : World} {K : PySem.W.Frag} {mg : Str → Option Value} {base : Heap}
end
def qN : Str := (envOfC "_law_numbers_right" (defScope s__law_numbers_right) 0 0 .none).qual ++ "<lambda>"
section
variable {P : Program} {w : World} {K : PySem.W.Frag} {mg : Str → Option Value} {base : Heap}
theorem seq_of {a b : TS} {D : Ends} {σ : L2.St} {H : Hp} (h : a { D with nx := b D } σ H) : tSeq a b D σ H := h
theorem asg_of {te : TE} {g : TG} {D : Ends} {σ : L2.St} {H : Hp} (h : te σ H fun x H1 => g x σ H1 D.nx) : tAsg te g D σ H := h
theorem seqN_of {te : TE} {i : Nat} {b : TS} {D : Ends} {σ : L2.St} {H : Hp} (h : te σ H fun x H1 => b D (σ.set i (some x)) H1) : tSeq (tAsg te (gName i)) b D σ H := h
theorem tup2_of {te1 te2 : TE} {σ : L2.St} {H : Hp} {Q : VK} (h : te1 σ H fun x H1 => te2 σ H1 fun y H2 => [x, y].length ≤ sizeLine ∧ ∀ p, H2 p = none → Q (.ref p) (upd H2 p (.tup [x, y]))) : tTup (tCons te1 (tCons te2 tNil)) σ H Q := h
theorem lst2_of {te1 te2 : TE} {σ : L2.St} {H : Hp} {Q : VK} (h : te1 σ H fun x H1 => te2 σ H1 fun y H2 => [x, y].length ≤ sizeLine ∧ ∀ p, H2 p = none → Q (.ref p) (upd H2 p (.lst [x, y]))) : tLst (tCons te1 (tCons te2 tNil)) σ H Q := h
theorem len2 {x y : V} : [x, y].length ≤ sizeLine := by rw [sizeLine_eq]; exact (by decide : 2 ≤ 16777216)
def sp_num (Tb : List (Addr × Str)) : Sp := fun vs H Q _ => ∃ p, vs = [.ref p] ∧ Dice H p ∧ Tabs Tb H ∧ ∀ H', ButN p H H' → Dice H' p → Tabs Tb H' → Q (.bl true) H'
theorem ok__law_numbers_right (T : Txt K mg) {Tb : List (Addr × Str)} (LT : LTab K mg base Tb "_law_numbers_right" s__law_numbers_right T.a__law_numbers_right) : FnG P w K mg base CX0 10 T.a__law_numbers_right T.d__law_numbers_right ["dice"] (sp_num Tb) := by
  have G__law_pick := ok__law_pick (P := P) (w := w) (base := base) T
  have G_is_number := ok_is_number (P := P) (w := w) (base := base) T
  have G_is_fraction := ok_is_fraction (P := P) (w := w) (base := base) T
  have G_lowest := ok_lowest (P := P) (w := w) (base := base) T
  have G_over := ok_over (P := P) (w := w) (base := base) T
  refine TT.okG T.F__law_numbers_right sc__law_numbers_right (fun vs H Q E h => ?_) (fun cdv A0 outer0 s0 H0 vs Q E0 hcd lk hg hr h => ?_)
  · obtain ⟨p, rfl, _⟩ := h
    rfl
  have hcode : cdv = .ref LT.c := by
    obtain ⟨oc, od, kV, doc, pm, an, ct, osl, lk⟩ := lk
    exact LT.code _ _ _ _ _ _ _ _ _ lk

  refine ⟨_, (pss_cons (ps_set (i := 6) sc__law_numbers_right.nd rfl (Or.inr rfl) (pe_call (G__law_pick.mono (by decide)) hr (by rfl) T.g__law_pick T.k__law_pick T.b__law_pick .nil pass0 (pa_cons (pv 0) (pa_cons (pe_lst (pa_cons pe_non (pa_cons (pe_tup (pa_cons pe_int (pa_cons pe_int pa_nil))) (pa_cons (pe_tup (pa_cons pe_int (pa_cons pe_int pa_nil))) (pa_cons (pe_tup (pa_cons pe_int (pa_cons (pe_un un_neg pe_int) pa_nil))) (pa_cons (pe_tup (pa_cons pe_int (pa_cons pe_int pa_nil))) (pa_cons (pe_lst (pa_cons pe_int (pa_cons pe_int pa_nil))) (pa_cons pe_str (pa_cons (pe_tup (pa_cons pe_int pa_nil)) (pa_cons pe_bl (pa_cons (pe_tup (pa_cons pe_bl (pa_cons pe_int pa_nil))) (pa_cons (pe_tup (pa_cons (pe_op op_pow pe_int pe_int) (pa_cons pe_int pa_nil))) (pa_cons (pe_op op_pow pe_int pe_int) (pa_cons pe_dnewK pa_nil)))))))))))))) pa_nil))))
      (pss_cons (ps_asg (pe_tup (pa_cons (pe_call (G__law_pick.mono (by decide)) hr (by rfl) T.g__law_pick T.k__law_pick T.b__law_pick .nil pass0 (pa_cons (pv 0) (pa_cons (pe_lst (pa_cons pe_non (pa_cons pe_bl (pa_cons pe_str (pa_cons (pe_op op_pow pe_int pe_int) (pa_cons (pe_tup (pa_cons pe_int (pa_cons pe_int pa_nil))) (pa_cons (pe_lst (pa_cons pe_int pa_nil)) pa_nil))))))) pa_nil))) (pa_cons (pe_call (G__law_pick.mono (by decide)) hr (by rfl) T.g__law_pick T.k__law_pick T.b__law_pick .nil pass0 (pa_cons (pv 0) (pa_cons (pe_lst (pa_cons pe_non (pa_cons pe_bl (pa_cons pe_int (pa_cons pe_str (pa_cons (pe_op op_pow pe_int pe_int) (pa_cons (pe_tup (pa_cons pe_int (pa_cons pe_int pa_nil))) pa_nil))))))) pa_nil))) pa_nil))) (pg_tup rfl (pgs_cons (pg_name (i := 3) sc__law_numbers_right.nd rfl (Or.inr rfl)) (pgs_cons (pg_name (i := 5) sc__law_numbers_right.nd rfl (Or.inr rfl)) pgs_nil))))
      (pss_cons (ps_set (i := 1) sc__law_numbers_right.nd rfl (Or.inl rfl) (pe_lst pa_nil))
      (pss_cons (ps_for PassesOwn.never rfl (pi_tup (pe_tup (pa_cons (pe_glob (v := V.ref T.a_plus) rfl T.g_plus rfl) (pa_cons (pe_glob (v := V.ref T.a_minus) rfl T.g_minus rfl) (pa_cons (pe_glob (v := V.ref T.a_times) rfl T.g_times rfl) (pa_cons (pe_glob (v := V.ref T.a_over) rfl T.g_over rfl) (pa_cons (pe_glob (v := V.ref T.a_compare) rfl T.g_compare rfl) pa_nil))))))) (pg_name (i := 4) sc__law_numbers_right.nd rfl (Or.inr rfl)) (pss_cons (ps_expr (pe_bm PySem.F.plainAttrs_list PySem.F.slot_list_append PySem.F.type_list_append mt_append (pv 1) (pa_cons (pe_fault (X := (cxOf CX0 P w K mg base ["dice", "told", "due", "bad", "call", "low", "none"] "_law_numbers_right" (defScope s__law_numbers_right) T.a__law_numbers_right cdv A0 outer0 s0 H0 E0).nox) T hg (by rfl) LT.TB hcode LT.mem LT.uniq hr (by show lamSB (defScope s__law_numbers_right) _ = true; decide +kernel) (by rfl) (fun _ _ _ _ _ => by rfl) (fun A outer s H E f c' hr => (pe_famL (cxOf CX0 P w K mg base ["dice", "told", "due", "bad", "call", "low", "none"] "_law_numbers_right" (defScope s__law_numbers_right) T.a__law_numbers_right cdv A0 outer0 s0 H0 E0).nox 4 (f := fam5_f T) (fd := fam5_d T) (sp := fam5_s T) (fam5_F T) (hr.mono (by decide)) (by rfl) (.inr (.inr rfl)) (fam5_k T) (fam5_b T) (pa_cons (pv 6) (pa_cons (pv 6) pa_nil))))) pa_nil)))
      (pss_one (ps_expr (pe_bm PySem.F.plainAttrs_list PySem.F.slot_list_append PySem.F.type_list_append mt_append (pv 1) (pa_cons (pe_fault (X := (cxOf CX0 P w K mg base ["dice", "told", "due", "bad", "call", "low", "none"] "_law_numbers_right" (defScope s__law_numbers_right) T.a__law_numbers_right cdv A0 outer0 s0 H0 E0).nox) T hg (by rfl) LT.TB hcode LT.mem LT.uniq hr (by show lamSB (defScope s__law_numbers_right) _ = true; decide +kernel) (by rfl) (fun _ _ _ _ _ => by rfl) (fun A outer s H E f c' hr => (pe_famL (cxOf CX0 P w K mg base ["dice", "told", "due", "bad", "call", "low", "none"] "_law_numbers_right" (defScope s__law_numbers_right) T.a__law_numbers_right cdv A0 outer0 s0 H0 E0).nox 4 (f := fam5_f T) (fd := fam5_d T) (sp := fam5_s T) (fam5_F T) (hr.mono (by decide)) (by rfl) (.inr (.inr rfl)) (fam5_k T) (fam5_b T) (pa_cons (pe_tup (pa_cons pe_int (pa_cons pe_int pa_nil))) (pa_cons (pv 6) pa_nil))))) pa_nil))))))
      (pss_cons (ps_for PassesOwn.never rfl (pi_tup (pe_tup (pa_cons (pe_glob (v := V.ref T.a_floor_of) rfl T.g_floor_of rfl) (pa_cons (pe_glob (v := V.ref T.a_rest_of) rfl T.g_rest_of rfl) pa_nil)))) (pg_name (i := 4) sc__law_numbers_right.nd rfl (Or.inr rfl)) (pss_one (ps_expr (pe_bm PySem.F.plainAttrs_list PySem.F.slot_list_append PySem.F.type_list_append mt_append (pv 1) (pa_cons (pe_fault (X := (cxOf CX0 P w K mg base ["dice", "told", "due", "bad", "call", "low", "none"] "_law_numbers_right" (defScope s__law_numbers_right) T.a__law_numbers_right cdv A0 outer0 s0 H0 E0).nox) T hg (by rfl) LT.TB hcode LT.mem LT.uniq hr (by show lamSB (defScope s__law_numbers_right) _ = true; decide +kernel) (by rfl) (fun _ _ _ _ _ => by rfl) (fun A outer s H E f c' hr => (pe_famL (cxOf CX0 P w K mg base ["dice", "told", "due", "bad", "call", "low", "none"] "_law_numbers_right" (defScope s__law_numbers_right) T.a__law_numbers_right cdv A0 outer0 s0 H0 E0).nox 4 (f := fam2_f T) (fd := fam2_d T) (sp := fam2_s T) (fam2_F T) (hr.mono (by decide)) (by rfl) (.inr (.inr rfl)) (fam2_k T) (fam2_b T) (pa_cons (pv 6) pa_nil)))) pa_nil)))))
      (pss_cons (ps_if (PW.pt (pw_or (pt_cmpR (op_neD (hu64 hr)) (pv 1) (pe_op op_rep (pe_lst (pa_cons (pe_tup (pa_cons pe_str (pa_cons pe_str pa_nil))) pa_nil)) pe_int) (nomark _)) (pw_or (pt_val (pe_call (G_is_number.mono (by decide)) hr (by rfl) T.g_is_number T.k_is_number T.b_is_number .nil pass0 (pa_cons (pv 6) pa_nil))) (pw_or1 (pt_val (pe_call (G_is_fraction.mono (by decide)) hr (by rfl) T.g_is_fraction T.k_is_fraction T.b_is_fraction .nil pass0 (pa_cons (pv 6) pa_nil))))))) (pss_one (ps_ret pe_bl)) pss_nil)
      (pss_cons (ps_set (i := 1) sc__law_numbers_right.nd rfl (Or.inl rfl) (pe_lst (pa_cons (pe_fault (X := (cxOf CX0 P w K mg base ["dice", "told", "due", "bad", "call", "low", "none"] "_law_numbers_right" (defScope s__law_numbers_right) T.a__law_numbers_right cdv A0 outer0 s0 H0 E0).nox) T hg (by rfl) LT.TB hcode LT.mem LT.uniq hr (by show lamSB (defScope s__law_numbers_right) _ = true; decide +kernel) (by rfl) (fun _ _ _ _ _ => by rfl) (fun A outer s H E f c' hr => (pe_callS (G_lowest.mono (by decide)) hr (by rfl) T.g_lowest T.k_lowest T.b_lowest (fun σ => passAt (takes_of rfl rfl rfl rfl) σ) (pa_cons (pv 3) (pa_cons (pv 5) pa_nil))))) pa_nil)))
      (pss_cons (ps_expr (pe_bm PySem.F.plainAttrs_list PySem.F.slot_list_append PySem.F.type_list_append mt_append (pv 1) (pa_cons (pe_fault (X := (cxOf CX0 P w K mg base ["dice", "told", "due", "bad", "call", "low", "none"] "_law_numbers_right" (defScope s__law_numbers_right) T.a__law_numbers_right cdv A0 outer0 s0 H0 E0).nox) T hg (by rfl) LT.TB hcode LT.mem LT.uniq hr (by show lamSB (defScope s__law_numbers_right) _ = true; decide +kernel) (by rfl) (fun _ _ _ _ _ => by rfl) (fun A outer s H E f c' hr => (pe_callS (G_lowest.mono (by decide)) hr (by rfl) T.g_lowest T.k_lowest T.b_lowest (fun σ => passAt (takes_of rfl rfl rfl rfl) σ) (pa_cons pe_int (pa_cons (pv 5) pa_nil))))) pa_nil)))
      (pss_cons (ps_expr (pe_bm PySem.F.plainAttrs_list PySem.F.slot_list_append PySem.F.type_list_append mt_append (pv 1) (pa_cons (pe_fault (X := (cxOf CX0 P w K mg base ["dice", "told", "due", "bad", "call", "low", "none"] "_law_numbers_right" (defScope s__law_numbers_right) T.a__law_numbers_right cdv A0 outer0 s0 H0 E0).nox) T hg (by rfl) LT.TB hcode LT.mem LT.uniq hr (by show lamSB (defScope s__law_numbers_right) _ = true; decide +kernel) (by rfl) (fun _ _ _ _ _ => by rfl) (fun A outer s H E f c' hr => (pe_callS (G_over.mono (by decide)) hr (by rfl) T.g_over T.k_over T.b_over (fun σ => passAt (takes_of rfl rfl rfl rfl) σ) (pa_cons pe_int (pa_cons (pe_tup (pa_cons pe_int (pa_cons pe_int pa_nil))) pa_nil))))) pa_nil)))
      (pss_cons (ps_expr (pe_bm PySem.F.plainAttrs_list PySem.F.slot_list_append PySem.F.type_list_append mt_append (pv 1) (pa_cons (pe_fault (X := (cxOf CX0 P w K mg base ["dice", "told", "due", "bad", "call", "low", "none"] "_law_numbers_right" (defScope s__law_numbers_right) T.a__law_numbers_right cdv A0 outer0 s0 H0 E0).nox) T hg (by rfl) LT.TB hcode LT.mem LT.uniq hr (by show lamSB (defScope s__law_numbers_right) _ = true; decide +kernel) (by rfl) (fun _ _ _ _ _ => by rfl) (fun A outer s H E f c' hr => (pe_callS (G_over.mono (by decide)) hr (by rfl) T.g_over T.k_over T.b_over (fun σ => passAt (takes_of rfl rfl rfl rfl) σ) (pa_cons (pe_tup (pa_cons pe_int (pa_cons pe_int pa_nil))) (pa_cons pe_int pa_nil))))) pa_nil)))
      (pss_cons (ps_expr (pe_bm PySem.F.plainAttrs_list PySem.F.slot_list_append PySem.F.type_list_append mt_append (pv 1) (pa_cons (pe_fault (X := (cxOf CX0 P w K mg base ["dice", "told", "due", "bad", "call", "low", "none"] "_law_numbers_right" (defScope s__law_numbers_right) T.a__law_numbers_right cdv A0 outer0 s0 H0 E0).nox) T hg (by rfl) LT.TB hcode LT.mem LT.uniq hr (by show lamSB (defScope s__law_numbers_right) _ = true; decide +kernel) (by rfl) (fun _ _ _ _ _ => by rfl) (fun A outer s H E f c' hr => (pe_callS (G_over.mono (by decide)) hr (by rfl) T.g_over T.k_over T.b_over (fun σ => passAt (takes_of rfl rfl rfl rfl) σ) (pa_cons pe_int (pa_cons (pe_tup (pa_cons pe_int (pa_cons pe_int pa_nil))) pa_nil))))) pa_nil)))
      (pss_cons (ps_set (i := 2) sc__law_numbers_right.nd rfl (Or.inl rfl) (pe_lst (pa_cons (pe_tup (pa_cons pe_str (pa_cons (pe_op op_add_str pe_str (pe_callB (call_reprD hg (hu64 hr)) (by rfl) T.m_repr bt_repr (pa_cons (pv 3) pa_nil))) pa_nil))) (pa_cons (pe_tup (pa_cons pe_str (pa_cons (pe_op op_add_str pe_str (pe_callB (call_reprD hg (hu64 hr)) (by rfl) T.m_repr bt_repr (pa_cons (pv 5) pa_nil))) pa_nil))) pa_nil))))
      (pss_one (ps_ret (pe_cmpR (op_eqD (hu64 hr)) (pv 1) (pe_op op_cat (pe_op op_cat (pv 2) (pe_op op_rep (pe_lst (pa_cons (pe_tup (pa_cons pe_str (pa_cons pe_str pa_nil))) pa_nil)) pe_int)) (pe_lst (pa_cons (pe_tup (pa_cons pe_str (pa_cons pe_str pa_nil))) pa_nil))) (nomark _)))))))))))))))), ?_⟩
  obtain ⟨p, rfl, hp, ht, k⟩ := h
  refine seqN_of (pick_of (ds := nones) rfl hp ht (rd_lst (rds_cons rd_non (rds_cons (rd_tup (rds_cons rd_int (rds_cons rd_int rds_nil)) (by decide)) (rds_cons (rd_tup (rds_cons rd_int (rds_cons rd_int rds_nil)) (by decide)) (rds_cons (rd_tup (rds_cons rd_int (rds_cons rd_neg rds_nil)) (by decide)) (rds_cons (rd_tup (rds_cons rd_int (rds_cons rd_int rds_nil)) (by decide)) (rds_cons (rd_lst (rds_cons rd_int (rds_cons rd_int rds_nil)) (by decide)) (rds_cons rd_str (rds_cons (rd_tup (rds_cons rd_int rds_nil) (by decide)) (rds_cons rd_bl (rds_cons (rd_tup (rds_cons rd_bl (rds_cons rd_int rds_nil)) (by decide)) (rds_cons (rd_tup (rds_cons rd_big (rds_cons rd_int rds_nil)) (by decide)) (rds_cons rd_big (rds_cons rd_dic rds_nil))))))))))))) (by decide)) (by decide +kernel) (by decide +kernel) (by decide +kernel) nones_3 fun H1 none dn mn tn b1 hp1 ht1 => ?_)
  obtain ⟨nn, nf⟩ := nones_bad dn mn
  refine seq_of (asg_of (tup2_of ?_))
  refine pick_of (ds := bads) rfl hp1 ht1 (rd_lst (rds_cons rd_non (rds_cons rd_bl (rds_cons rd_str (rds_cons rd_big (rds_cons (rd_tup (rds_cons rd_int (rds_cons rd_int rds_nil)) (by decide)) (rds_cons (rd_lst (rds_cons rd_int rds_nil) (by decide)) rds_nil)))))) (by decide)) (by decide +kernel) (by decide +kernel) (by decide +kernel) bads_3 fun H2 bad db mb tb b2 hp2 ht2 => ?_
  refine pick_of (ds := lows) rfl hp2 ht2 (rd_lst (rds_cons rd_non (rds_cons rd_bl (rds_cons rd_int (rds_cons rd_str (rds_cons rd_big (rds_cons (rd_tup (rds_cons rd_int (rds_cons rd_int rds_nil)) (by decide)) rds_nil)))))) (by decide)) (by decide +kernel) (by decide +kernel) (by decide +kernel) lows_3 fun H3 low dl ml tl b3 hp3 ht3 => ⟨len2, fun q hq => ?_⟩
  refine gtup_of upd_same rfl ?_
  refine ⟨bad, [low], rfl, low, [], rfl, rfl, ?_⟩
  obtain ⟨hbi, hb3, hbo⟩ := bads_ok db mb
  obtain ⟨hli, hl3, hlo⟩ := lows_ok dl ml
  obtain ⟨a2, b2', c2, hl2⟩ := hp1
  obtain ⟨a3, b3', c3, hl3'⟩ := hp2
  have n3 : noL3 dn = true := (by decide +kernel : ∀ d ∈ nones, noL3 d = true) dn mn
  have rn : noRL dn = true := (by decide +kernel : ∀ d ∈ nones, noRL d = true) dn mn
  have rb : noRL db = true := (by decide +kernel : ∀ d ∈ bads, noRL d = true) db mb
  have rl : noRL dl = true := (by decide +kernel : ∀ d ∈ lows, noRL d = true) dl ml
  have tn3 : Td H3 dn none := td_but hl3' b3 dn none n3 (td_but hl2 b2 dn none n3 tn)
  have tb3 : Td H3 db bad := td_but hl3' b3 db bad hb3 tb
  have W3 : Wd Tb p H0 [(dn, none), (db, bad), (dl, low)] H3 := ⟨((ButN.but b1).trans (ButN.but b2)).trans (ButN.but b3), hp3, ht3, fun q m => by
    simp only [List.mem_cons, List.not_mem_nil, or_false] at m
    rcases m with rfl | rfl | rfl
    · exact ⟨rn, tn3⟩
    · exact ⟨rb, tb3⟩
    · exact ⟨rl, tl⟩⟩
  have W4 := W3.same (same_upd (o := .tup [bad, low]) hq)
  generalize upd H3 q (.tup [bad, low]) = H4 at W4 ⊢
  clear W3 tn3 tb3 tl hl3' hl2 b1 b2 b3 hp3 ht3 ht2 ht1 tn tb hq
  dsimp only
  show tSeq (tAsg _ _) _ _ [some (.ref p), Option.none, Option.none, some bad, Option.none, some low, some none] H4
  refine seqN_of ?_
  refine ⟨by simp, fun Dl hDl => ?_⟩
  have pD : p ≠ Dl := fun z => by
    obtain ⟨x, y, u, h⟩ := W4.di
    rw [z, hDl] at h
    cases h
  have nD : ∀ o, H0 Dl = some o → (∀ ps, o ≠ .tbl ps) → False := fun o h z => by
    have := W4.bn _ _ (Ne.symm pD) h z
    rw [hDl] at this
    cases this
  have W5 := W4.same (same_upd (o := .lst []) hDl)
  have T5 : Told (upd H4 Dl (.lst [])) Dl [] := ⟨[], upd_same, tdl_nil⟩
  generalize upd H4 Dl (.lst []) = H5 at W5 T5 ⊢
  dsimp only
  show tSeq (tFor _ _ _) _ _ [some (.ref p), some (.ref Dl), Option.none, some bad, Option.none, some low, some none] H5
  refine seq_of (tFor_tup ?_)
  refine ⟨(by rw [sizeLine_eq]; exact (by decide : 5 ≤ 16777216)), fun a ha => ⟨a, rfl, ⟨_, .inl (.inl upd_same)⟩, ?_⟩⟩
  have W6 := W5.same (same_upd (o := .tup [V.ref T.a_plus, V.ref T.a_minus, V.ref T.a_times, V.ref T.a_over, V.ref T.a_compare]) ha)
  have T6 := T5.ext (extN_of (same_upd (o := .tup [V.ref T.a_plus, V.ref T.a_minus, V.ref T.a_times, V.ref T.a_over, V.ref T.a_compare]) ha))
  refine loop_tup (xs := [V.ref T.a_plus, V.ref T.a_minus, V.ref T.a_times, V.ref T.a_over, V.ref T.a_compare]) (fun i σ H' => (∃ cv, σ = [some (.ref p), some (.ref Dl), Option.none, some bad, cv, some low, some none]) ∧ H' a = some (.tup [V.ref T.a_plus, V.ref T.a_minus, V.ref T.a_times, V.ref T.a_over, V.ref T.a_compare]) ∧
      Told H' Dl (List.replicate (2 * i) ("refused", "fraction")) ∧ Wd Tb p H0 [(dn, none), (db, bad), (dl, low)] H') (fun i σ H' h => h.2.1) ⟨⟨_, rfl⟩, upd_same, T6, W6⟩ ?_ ?_
  · rintro σ H7 ⟨⟨cv, rfl⟩, _, T7, W7⟩
    dsimp only
    show tSeq (tFor _ _ _) _ _ [some (.ref p), some (.ref Dl), Option.none, some bad, cv, some low, some none] H7
    refine seq_of (tFor_tup ?_)
    refine ⟨len2, fun c hc => ⟨c, rfl, ⟨_, .inl (.inl upd_same)⟩, ?_⟩⟩
    have W8 := W7.same (same_upd (o := .tup [V.ref T.a_floor_of, V.ref T.a_rest_of]) hc)
    have T8 := T7.ext (extN_of (same_upd (o := .tup [V.ref T.a_floor_of, V.ref T.a_rest_of]) hc))
    refine loop_tup (xs := [V.ref T.a_floor_of, V.ref T.a_rest_of]) (fun i σ H' => (∃ cv, σ = [some (.ref p), some (.ref Dl), Option.none, some bad, cv, some low, some none]) ∧ H' c = some (.tup [V.ref T.a_floor_of, V.ref T.a_rest_of]) ∧
        Told H' Dl (List.replicate (10 + i) ("refused", "fraction")) ∧ Wd Tb p H0 [(dn, none), (db, bad), (dl, low)] H') (fun i σ H' h => h.2.1) ⟨⟨_, rfl⟩, upd_same, T8, W8⟩ ?_ ?_
    · rintro σ H9 ⟨⟨cv, rfl⟩, _, T9, W9⟩
      dsimp only
      show tSeq (tIfS _ _ _) _ _ [some (.ref p), some (.ref Dl), Option.none, some bad, cv, some low, some none] H9
      refine seq_of ?_
      refine ⟨.ref Dl, rfl, rd_of (rep_rd (n := 12) (rd_lst (rds_cons (rd_tup (rds_cons rd_str (rds_cons rd_str rds_nil)) (by decide)) rds_nil) (by decide)) (by decide)) fun H10 v S10 t10 => ?_⟩
      have W10 := W9.same S10
      have T10 : Told H10 Dl (List.replicate 12 ("refused", "fraction")) := T9.ext (extN_of S10)
      refine neD_of (told_td T10) t10 (by decide +kernel) (by decide +kernel) (by decide +kernel) (by decide +kernel) ?_
      rw [show (PyData.eqv (Da.py (.lst ((List.replicate 12 (("refused", "fraction") : Str × Str)).map fun p => .tup [.str p.1, .str p.2]))) (Da.py (.lst (List.replicate 12 (.tup [.str "refused", .str "fraction"]))))) = true by decide +kernel]
      refine ⟨_, rfl, ?_⟩
      rw [Bool.not_true]
      dsimp only
      rw [if_neg (by decide)]
      have td10 := (W10.td (dn, none) (by simp)).2
      refine ⟨none, rfl, none, dn, rfl, td10, ?_⟩
      rw [nn]
      refine ⟨_, rfl, ?_⟩
      dsimp only
      rw [if_neg (by decide)]
      refine ⟨none, rfl, none, dn, rfl, td10, ?_⟩
      rw [nf]
      refine ⟨_, rfl, ?_⟩
      dsimp only
      rw [if_neg (by decide)]
      unfold tNext
      dsimp only
      show tSeq (tAsg _ _) _ _ [some (.ref p), some (.ref Dl), Option.none, some bad, cv, some low, some none] H10
      refine seqN_of ?_
      refine ⟨W10.tb, fun H11 e11 t11 => ?_⟩
      have W11 := W10.ext e11 t11
      refine low_tells (d := db) (e := dl) (g := db) (x := bad) (y := low) (fun Q1 k1 => ⟨bad, rfl, low, rfl, k1⟩) (W11.td (db, bad) (by simp)).2 (W11.td (dl, low) (by simp)).2 (.inl ⟨hbi, rfl⟩) hbo _ (fun H12 v2 S12 tv2 => ⟨(by rw [sizeLine_eq]; exact (by decide : 1 ≤ 16777216)), fun D2 hD2 => ?_⟩)
      have W12 := W11.same S12
      obtain ⟨pD2, nD2⟩ := W12.fresh hD2
      have W13 := W12.same (same_upd (o := .lst [v2]) hD2)
      have T13 := told_one hD2 tv2
      generalize upd H12 D2 (.lst [v2]) = H13 at W13 T13 ⊢
      dsimp only
      show tSeq (tDrop _) _ _ [some (.ref p), some (.ref D2), Option.none, some bad, cv, some low, some none] H13
      refine seq_of (app_of (i := 1) "refused" ("number " ++ dl.py.shown) rfl T13 W13.tb (by simp) (fun H1 e1 => low_tells (d := .int 5) (e := dl) (g := dl) (x := .int 5) (y := low) (fun Q1 k1 => ⟨low, rfl, k1⟩) td_int (td_ext e1 _ _ (W13.td (dl, low) (by simp)).2) (.inr ⟨by decide, hli, rfl⟩) hlo) fun H14 T14 t14 st14 b14 => ?_)
      have W14 := W13.app nD2 pD2 t14 st14 b14
      dsimp only
      show tSeq (tDrop _) _ _ [some (.ref p), some (.ref D2), Option.none, some bad, cv, some low, some none] H14
      refine seq_of (app_of (i := 1) "refused" "operation" rfl T14 W14.tb (by simp) (fun H1 e1 => over_tells fun Q1 k1 => ⟨len2, fun p2 hp2 => k1 _ (.int 3) (.ref p2) (3 : Int) 0 (same_upd hp2) nu_int (pair_nu upd_same rfl rfl) (B60s (by decide)) (B60s (by decide)) (B60s (by decide)) (B60s (by decide)) rfl⟩) fun H15 T15 t15 st15 b15 => ?_)
      have W15 := W14.app nD2 pD2 t15 st15 b15
      dsimp only
      show tSeq (tDrop _) _ _ [some (.ref p), some (.ref D2), Option.none, some bad, cv, some low, some none] H15
      refine seq_of (app_of (i := 1) "refused" "operation" rfl T15 W15.tb (by simp) (fun H1 e1 => over_tells fun Q1 k1 => ⟨len2, fun p2 hp2 => k1 _ (.ref p2) (.int 0) (1 / 2) (0 : Int) (same_upd hp2) (half_nu upd_same) nu_int half_B.1 half_B.2 (B60s (by decide)) (B60s (by decide)) rfl⟩) fun H16 T16 t16 st16 b16 => ?_)
      have W16 := W15.app nD2 pD2 t16 st16 b16
      dsimp only
      show tSeq (tDrop _) _ _ [some (.ref p), some (.ref D2), Option.none, some bad, cv, some low, some none] H16
      refine seq_of (app_of (i := 1) "let" "" rfl T16 W16.tb (by simp) (fun H1 e1 => over_lets fun Q1 k1 => ⟨len2, fun p2 hp2 => k1 _ (.int 0) (.ref p2) (0 : Int) (1 / 2) (same_upd hp2) nu_int (half_nu upd_same) (B60s (by decide)) (B60s (by decide)) half_B.1 half_B.2 (by decide +kernel)⟩) fun H17 T17 t17 st17 b17 => ?_)
      have W17 := W16.app nD2 pD2 t17 st17 b17
      dsimp only
      show tSeq (tAsg _ _) _ _ [some (.ref p), some (.ref D2), Option.none, some bad, cv, some low, some none] H17
      refine seqN_of ?_
      refine lst2_of ?_
      refine shown_of (i := 3) (x := bad) (d := db) (by rfl) (W17.td (db, bad) (by simp)).2 hbo fun H18 v3 S18 t18 => ?_
      have W18 := W17.same S18
      refine shown_of (i := 5) (x := low) (d := dl) (by rfl) (W18.td (dl, low) (by simp)).2 hlo fun H19 v4 S19 t19 => ⟨len2, fun Du hDu => ?_⟩
      have SU := same_upd (o := .lst [v3, v4]) hDu
      have W20 := (W18.same S19).same SU
      have T20 := ((T17.ext (extN_of S18)).ext (extN_of S19)).ext (extN_of SU)
      have due : Td (upd H19 Du (.lst [v3, v4])) (.lst [.tup [.str "refused", .str ("number " ++ db.py.shown)], .tup [.str "refused", .str ("number " ++ dl.py.shown)]]) (.ref Du) :=
        td_lst upd_same (tdl_cons ((t18.same S19 _ _).same SU _ _) (tdl_cons (t19.same SU _ _) tdl_nil))
      generalize upd H19 Du (.lst [v3, v4]) = H20 at W20 T20 due ⊢
      show tRet _ _ [some (.ref p), some (.ref D2), some (.ref Du), some bad, cv, some low, some none] H20
      refine ⟨.ref D2, rfl, .ref Du, rfl, rd_of (rep_rd (n := 2) (rd_lst (rds_cons (rd_tup (rds_cons rd_str (rds_cons rd_str rds_nil)) (by decide)) rds_nil) (by decide)) (by decide)) fun H21 v5 S21 t21 => ?_⟩
      refine cat_td (due.same S21 _ _) t21 (by simp) fun H22 v6 S22 t22 => ?_
      refine rd_of (rd_lst (rds_cons (rd_tup (rds_cons rd_str (rds_cons rd_str rds_nil)) (by decide)) rds_nil) (by decide)) fun H23 v7 S23 t23 => ?_
      refine cat_td (t22.same S23 _ _) t23 (by simp) fun H24 v8 S24 t24 => ?_
      have SS := ((S21.trans S22).trans S23).trans S24
      have W24 := W20.same SS
      have T24 := told_td (T20.ext (extN_of SS))
      have T25 : Td H24 (.lst [.tup [.str "refused", .str ("number " ++ db.py.shown)], .tup [.str "refused", .str ("number " ++ dl.py.shown)], .tup [.str "refused", .str "operation"], .tup [.str "refused", .str "operation"], .tup [.str "let", .str ""]]) (.ref D2) := T24
      have t25 : Td H24 (.lst [.tup [.str "refused", .str ("number " ++ db.py.shown)], .tup [.str "refused", .str ("number " ++ dl.py.shown)], .tup [.str "refused", .str "operation"], .tup [.str "refused", .str "operation"], .tup [.str "let", .str ""]]) v8 := t24
      have sh : ∀ a b : Str, PyData.canLay0 (.str a) = true → PyData.canLay0 (.str b) = true → SeqAt.shaped (Da.py (.lst [.tup [.str "refused", .str a], .tup [.str "refused", .str b], .tup [.str "refused", .str "operation"], .tup [.str "refused", .str "operation"], .tup [.str "let", .str ""]])) = true := fun a b ha hb => by
        have h1 : PyData.canLay0 (.str "refused") = true := by decide +kernel
        have h2 : PyData.canLay0 (.str "operation") = true := by decide +kernel
        have h3 : PyData.canLay0 (.str "let") = true := by decide +kernel
        have h4 : PyData.canLay0 (.str "") = true := by decide +kernel
        unfold SeqAt.shaped
        rw [Bool.and_eq_true]
        refine ⟨?_, ?_⟩
        · simp only [Da.py, Da.pys]
          unfold PyData.canLay0
          simp only [PyData.canLayAll0]
          unfold PyData.canLay0
          simp only [PyData.canLayAll0, ha, hb, h1, h2, h3, h4, Bool.and_self]
        · simp [Da.py, Da.pys, PyData.depth, PyData.depthAll]
      refine eqD_of T25 t25 rfl rfl (sh _ _ (shown_lay hbo) (shown_lay hlo)) (sh _ _ (shown_lay hbo) (shown_lay hlo)) ?_
      have e : ∀ a b : Str, PyData.eqv (Da.py (.lst [.tup [.str "refused", .str a], .tup [.str "refused", .str b], .tup [.str "refused", .str "operation"], .tup [.str "refused", .str "operation"], .tup [.str "let", .str ""]])) (Da.py (.lst [.tup [.str "refused", .str a], .tup [.str "refused", .str b], .tup [.str "refused", .str "operation"], .tup [.str "refused", .str "operation"], .tup [.str "let", .str ""]])) = true := fun a b => by
        simp [Da.py, Da.pys, PyData.eqv, PyData.eqvAll]
      refine (?_ : Q (.bl _) H24)
      have e2 := e ("number " ++ db.py.shown) ("number " ++ dl.py.shown)
      exact (congrArg (fun z => Q (.bl z) H24) e2).mpr (k H24 W24.bn W24.di W24.tb)
    · rintro i x σ H9 hx ⟨⟨cv, rfl⟩, hc9, T9, W9⟩
      obtain ⟨hi, j, rfl⟩ := two_at T hx
      have cD : c ≠ Dl := fun z => by
        obtain ⟨acc, h, _⟩ := T9
        rw [← z, hc9] at h
        cases h
      refine app_of (i := 1) "refused" "fraction" rfl T9 W9.tb (by rw [List.length_replicate]; omega) (fun H1 e1 => two_tells (j := j) (x := none) (d := dn) rfl (fun Q1 k1 => ⟨none, rfl, k1⟩) (td_ext e1 _ _ (W9.td (dn, none) (by simp)).2) nn) fun H10 T10 t10 st10 b10 => ?_
      refine ⟨⟨_, rfl⟩, b10 _ _ cD hc9 (fun _ z => by cases z), ?_, W9.app nD pD t10 st10 b10⟩
      rw [← rep_one]
      exact T10
  · rintro i x σ H7 hx ⟨⟨cv, rfl⟩, ha7, T7, W7⟩
    obtain ⟨hi, j, rfl⟩ := five_at T hx
    have aD : a ≠ Dl := fun z => by
      obtain ⟨acc, h, _⟩ := T7
      rw [← z, ha7] at h
      cases h
    refine seq_of (app_of (i := 1) "refused" "fraction" rfl T7 W7.tb (by rw [List.length_replicate]; omega) (fun H1 e1 => five_tells (j := j) rfl fun Q1 k1 => ?_) fun H8 T8 t8 st8 b8 => ?_)
    · have td := td_ext e1 _ _ (W7.td (dn, none) (by simp)).2
      exact ⟨none, rfl, none, rfl, k1 H1 none none (Same.refl _) ⟨dn, dn, td, td, .inl nn⟩⟩
    have W8 := W7.app nD pD t8 st8 b8
    refine app_of (i := 1) "refused" "fraction" rfl T8 W8.tb (by rw [List.length_append, List.length_replicate]; exact (by omega : 2 * i + 1 < 1000)) (fun H1 e1 => five_tells (j := j) rfl fun Q1 k1 => ?_) fun H9 T9 t9 st9 b9 => ?_
    · have td := td_ext e1 _ _ (W8.td (dn, none) (by simp)).2
      refine ⟨len2, fun p2 hp2 => ⟨none, rfl, k1 _ _ _ (same_upd hp2) ⟨.tup [.int 1, .int 2], dn, td_tup upd_same (tdl_cons td_int (tdl_cons td_int tdl_nil)), td.same (same_upd hp2) _ _, .inr ⟨⟨1 / 2, half_nu upd_same, half_B.1, half_B.2⟩, nn⟩⟩⟩⟩
    refine ⟨⟨_, rfl⟩, b9 _ _ aD (b8 _ _ aD ha7 (fun _ z => by cases z)) (fun _ z => by cases z), ?_, W8.app nD pD t9 st9 b9⟩
    rw [← rep_more]
    exact T9
end
end K02

set_option Elab.async false
set_option linter.all false
set_option maxRecDepth 100000
set_option maxHeartbeats 4000000
namespace K02
open PySem PySem.Spec PyProof.Rows L2 TT LamX
/-! ### what the law of tables wants -/
theorem rd_rep {K : PySem.W.Frag} {te : TE} {d : Da} {n : Nat} (h : RD te (.tup [d])) (h2 : 2 ≤ n) (hn : n < 1000) : RD (tOp (rRepA K) te (tC (.int (n : Nat)))) (.tup (List.replicate n d)) := fun σ H Q k => by
  refine h σ H _ fun H1 v S t => ?_
  simp only [Td, TdL] at t
  obtain ⟨l, vs, rfl, hl, v0, r, rfl, t0, rfl⟩ := t
  refine ⟨l, n, [v0], rfl, rfl, .inl (.inl hl), by simp, by omega, by omega, by simp, fun z => by omega, fun _ q hq => ?_⟩
  refine k _ _ (S.trans (same_upd hq)) (td_tup upd_same ?_)
  have key : ∀ {m : Nat} {G : Hp}, Td G d v0 → TdL G (List.replicate m d) ((List.replicate m [v0]).flatten) := by
    intro m
    induction m with
    | zero => intro G _; exact tdl_nil
    | succ m ih => intro G t; rw [List.replicate_succ, List.replicate_succ, List.flatten_cons]; exact tdl_cons t (ih t)
  have t2 := key (m := n) (t0.same (same_upd (o := .tup ((List.replicate n [v0]).flatten)) hq) _ _)
  simpa using t2
def wrongA : List Da := [.non, .tup [], .tup [.tup []], .lst [.tup [.int 1]], .tup [.tup [.int 1], .tup [.int 1, .int 2]], .tup [.lst [.int 1]], .tup [.tup [.bl true]], .tup [.tup [.non]], .tup [.tup [.int (10 ^ 60)]], .tup (List.replicate 21 (.tup [.int 1])), .tup [.tup (List.replicate 21 (.int 1))], .int 5]
def wrongB : List Da := [.tup [.int 1, .int 2], .str "1", .dic, .tup [.tup [.tup [.int 1, .int 1]]]]
theorem wrong_bad : ∀ d ∈ wrongA ++ wrongB, isTable d = false := by decide +kernel
theorem wrong_3 : noL3s (wrongA ++ wrongB) = true := by decide +kernel
/-- pick out of a list that is told where it stands -/
theorem pick_at {i : Nat} {te : TE} {ds : List Da} {σ : L2.St} {H : Hp} {Q : VK} {p : Addr} {Tb : List (Addr × Str)} (hσ : σ[i]? = some (some (.ref p))) (hd : Dice H p) (ht : Tabs Tb H) (h : ∀ Q : VK, (∀ H' v, Same H H' → Td H' (.lst ds) v → Q v H') → te σ H Q) (h0 : ds ≠ []) (h1 : ds.length < 1000) (h3 : ds.length ≠ 3) (hn : noL3s ds = true)
    (k : ∀ H' x d, d ∈ ds → Td H' d x → But p H H' → Dice H' p → Tabs Tb H' → Q x H') : tCall sp_pick [] E0 (tCons (tVar i) (tCons te tNil)) σ H Q := by
  refine ⟨.ref p, hσ, h _ fun H1 v S t => ?_⟩
  have hd1 := hd.same S
  simp only [Td] at t
  obtain ⟨l, vs, rfl, hl, tv⟩ := t
  have e := tv.len
  refine ⟨p, l, vs, rfl, hd1, hl, fun z => h0 (List.eq_nil_of_length_eq_zero (by rw [← e, z]; rfl)), by omega, fun z => ?_, fun H2 x hx b d2 => ?_⟩
  · obtain ⟨a, b, c, hp⟩ := hd1
    rw [z, hp] at hl
    cases hl
    exact h3 e.symm
  · obtain ⟨d, md, td⟩ := mem_td tv hx
    obtain ⟨a, b', c, hp⟩ := hd1
    have nd : ∀ {ds : List Da}, noL3s ds = true → ∀ d ∈ ds, noL3 d = true := by
      intro ds
      induction ds with
      | nil => intro _ d m; cases m
      | cons e r ih =>
        intro n d m
        simp only [noL3s, Bool.and_eq_true] at n
        rcases List.mem_cons.mp m with rfl | m
        · exact n.1
        · exact ih n.2 d m
    exact k H2 x d md (td_but hp b d x (nd hn d md) td) (fun c o n hc => b c o n (S c o hc)) d2 (tabs_but (ht.ext S) hp b)
/-- an expression's answer told -/
theorem via {te : TE} {σ : L2.St} {H : Hp} {Q : VK} (R : VK) (h : ∀ Q : VK, (∀ x H', R x H' → Q x H') → te σ H Q) (k : ∀ x H', R x H' → Q x H') : te σ H Q := h Q k
theorem told_off {H H' : Hp} {D1 D2 : Addr} {acc : List V} {qs : List (Str × Str)} (h1 : H D1 = some (.lst acc)) (n : D2 ≠ D1) (b : ButN D1 H H') (h : Told H D2 qs) : Told H' D2 qs := by
  obtain ⟨as, h2, t⟩ := h
  refine ⟨as, b _ _ n h2 (fun _ z => by cases z), ?_⟩
  clear h2
  induction qs generalizing as with
  | nil => simpa only [List.map_nil, TdL] using t
  | cons p r ih =>
    simp only [List.map_cons, TdL] at t ⊢
    obtain ⟨v, us, rfl, tv, tr⟩ := t
    refine ⟨v, us, rfl, ?_, ih us tr⟩
    simp only [Td, TdL] at tv ⊢
    obtain ⟨q, vs, e, hq, rest⟩ := tv
    exact ⟨q, vs, e, b _ _ (fun z => by rw [z, h1] at hq; cases hq) hq (fun _ z => by cases z), rest⟩
/-- a pair of texts is put to the list -/
theorem app_pair {K : PySem.W.Frag} {D : Ends} {σ : L2.St} {H : Hp} {Dl : Addr} {ps : List (Str × Str)} {i : Nat} (a b : Str) (hσ : σ[i]? = some (some (.ref Dl))) (hT : Told H Dl ps) (hl : ps.length < 1000)
    (k : ∀ H', Told H' Dl (ps ++ [(a, b)]) → But Dl H H' → D.nx σ H') : tDrop (tBM K "list" rAppend (tVar i) (tCons (tTup (tCons (tC (.str a)) (tCons (tC (.str b)) tNil))) tNil)) D σ H := by
  obtain ⟨acc0, hD0, _⟩ := id hT
  refine ⟨.ref Dl, hσ, .inl ⟨rfl, _, .inl (.inl hD0)⟩, len2, fun q hq => ?_⟩
  have hT2 := hT.ext (extN_of (same_upd (o := .tup [V.str a, V.str b]) hq))
  obtain ⟨acc, hD, al, tm, stay⟩ := told_more hT2 hl (td_tup (H := upd H q (.tup [V.str a, V.str b])) upd_same (tdl_cons td_str (tdl_cons td_str tdl_nil)))
  refine ⟨Dl, acc, _, rfl, rfl, hD, al, k _ tm fun c o n h => ?_⟩
  rw [upd_ne n]
  exact same_upd hq _ _ h
/-- over range(n), what is being built told as a list -/
theorem lc_rngL {te : TE} {vs : List Nat} {j : Nat} {Q : VK} {σ : L2.St} {H1 : Hp} {n : Nat} (P : Nat → Hp → V → Prop) (hn : n < 100000) (hw : ∀ x, wipe ((wipe σ vs).set j x) vs = wipe σ vs)
    (hP : ∀ i D H H' v, (∃ acc, H D = some (.lst acc)) → But D H H' → v ≠ .ref D → P i H v → P i H' v)
    (hstep : ∀ i D H, i < n → H1 D = none → (∃ acc, H D = some (.lst acc)) → Same H1 H → ∀ K : VK, (∀ y H'', Same H H'' → y ≠ .ref D → P i H'' y → K y H'') → te ((wipe σ vs).set j (some (.int i))) H K)
    (hdone : ∀ D H' acc, H1 D = none → Same H1 H' → H' D = some (.lst acc) → acc.length = n → (∀ i v, acc[i]? = some v → P i H' v) → Q (.ref D) H') : LoopC (Itr 0 n) (gName j) tYes te vs Q σ H1 := by
  refine lc_mapL n P hn (fun i H h _ => h) (fun H _ => Nat.le_refl n) hP (fun i D H x H' hi hD hd S hy => ?_) hdone
  obtain ⟨rfl, rfl⟩ := hy
  refine ⟨Same.refl _, fun K k => ⟨hw _, ?_⟩⟩
  have e : (0 : Int) + (i : Int) = (i : Int) := Int.zero_add _
  rw [e]
  exact hstep i D H' hi hD hd S K k
section
variable {K : PySem.W.Frag} {mg : Str → Option Value} {T : Txt K mg}
theorem four_tells {σ : L2.St} {H1 : Hp} {ta : TA} {j : Fam4} {i : Nat} {x : V} {d : Da} (hσ : σ[i]? = some (some (.ref (fam4_f T j)))) (ha : ∀ Q : List V → Hp → Prop, Q [x] H1 → ta σ H1 Q) (td : Td H1 d x) (hd : isTable d = false) :
    Tells T (fun E H' Q' => tFam i (fam4_f T) (fam4_s T) E ta σ H' Q') H1 "refused" "table" := fun Q1 k => by
  refine ⟨j, hσ, ha _ ?_⟩
  have e : ∀ H3, Same H1 H3 → faultE T Q1 (.ref T.c_InvalidTable) none H3 := fun H3 S3 => .inr (.inl ⟨rfl, pair_of S3 k⟩)
  cases j with
  | _ => exact ⟨x, rfl, .inl ⟨d, td, hd, e⟩⟩
theorem sq_tells {σ : L2.St} {H1 : Hp} {ta : TA} {j : FamS} {i : Nat} {t : Addr} {G : List (List Int)} (hσ : σ[i]? = some (some (.ref (famS_f T j)))) (ha : ∀ Q : List V → Hp → Prop, Q [.ref t] H1 → ta σ H1 Q) (tt : TabAt H1 t G) (hG : isTable (tabDa G) = true) (hn : G.length ≠ (G.getD 0 []).length) :
    Tells T (fun E H' Q' => tFam i (famS_f T) (famS_s T) E ta σ H' Q') H1 "refused" "operation" := fun Q1 k => by
  refine ⟨j, hσ, ha _ ?_⟩
  have e : ∀ H3, Same H1 H3 → faultE T Q1 (.ref T.c_InvalidOperation) none H3 := fun H3 S3 => .inr (.inr (.inl ⟨rfl, pair_of S3 k⟩))
  cases j with
  | _ => exact ⟨_, rfl, .inr ⟨t, G, rfl, tt, hG, .inl ⟨hn, e⟩⟩⟩
/-- undone of a table with the determinant 0 -/
theorem sing_tells {σ : L2.St} {H1 : Hp} {ta : TA} {t : Addr} {G : List (List Int)} (ha : ∀ Q : List V → Hp → Prop, Q [.ref t] H1 → ta σ H1 Q) (tt : TabAt H1 t G) (hG : isTable (tabDa G) = true) (hn : G.length = (G.getD 0 []).length) (hu : undoM G = some false) :
    Tells T (fun E H' Q' => tCallS (sp_und T.c_InvalidTable T.c_InvalidOperation T.c_Refused) (WE fun cls d _ H => E cls d H) ta σ H' Q') H1 "refused" "('singular',)" := fun Q1 k => by
  refine ha _ ⟨_, rfl, .inr ⟨t, G, rfl, tt, hG, .inr ⟨hn, .inl ⟨hu, fun H2 p S2 hp dd hdd => ?_⟩⟩⟩⟩
  have td : Td H2 (.tup [.str "singular"]) (.ref p) := td_tup hp (tdl_cons td_str tdl_nil)
  have hsh : (Da.tup [.str "singular"]).py.shown = "('singular',)" := by decide +kernel
  refine .inr (.inr (.inr (.inr ⟨rfl, dd, .ref p, (Da.tup [.str "singular"]).py, rfl, upd_same, Td.dp _ _ (by decide +kernel) (td.same (same_upd hdd) _ _), by decide +kernel, by decide +kernel, by decide +kernel, by decide +kernel, ?_⟩)))
  rw [hsh]
  exact pair_of (S2.trans (same_upd hdd)) k
theorem und_lets {σ : L2.St} {H1 : Hp} {ta : TA} {t : Addr} {G : List (List Int)} (ha : ∀ Q : List V → Hp → Prop, Q [.ref t] H1 → ta σ H1 Q) (tt : TabAt H1 t G) (hG : isTable (tabDa G) = true) (hn : G.length = (G.getD 0 []).length) (hu : undoM G = some true) :
    Tells T (fun E H' Q' => tCallS (sp_und T.c_InvalidTable T.c_InvalidOperation T.c_Refused) (WE fun cls d _ H => E cls d H) ta σ H' Q') H1 "let" "" := fun Q1 k =>
  ha _ ⟨_, rfl, .inr ⟨t, G, rfl, tt, hG, .inr ⟨hn, .inr ⟨hu, fun H2 p S2 => pair_of S2 k⟩⟩⟩⟩
theorem det_lets {σ : L2.St} {H1 : Hp} {ta : TA} {t : Addr} {G : List (List Int)} {r : Nat} {m : Int} (ha : ∀ Q : List V → Hp → Prop, Q [.ref t] H1 → ta σ H1 Q) (tt : TabAt H1 t G) (hG : isTable (tabDa G) = true) (hn : G.length = (G.getD 0 []).length) (hr : rankMinor G (G.getD 0 []).length = some (r, m)) :
    Tells T (fun E H' Q' => tCallS (sp_det T.c_InvalidTable T.c_InvalidOperation) (WE fun cls d _ H => E cls d H) ta σ H' Q') H1 "let" "" := fun Q1 k =>
  ha _ ⟨_, rfl, .inr ⟨t, G, rfl, tt, hG, .inr ⟨hn, r, m, hr, fun H2 S2 => pair_of S2 k⟩⟩⟩
theorem rank_lets {σ : L2.St} {H1 : Hp} {ta : TA} {t : Addr} {G : List (List Int)} {r : Nat} {m : Int} (ha : ∀ Q : List V → Hp → Prop, Q [.ref t] H1 → ta σ H1 Q) (tt : TabAt H1 t G) (hG : isTable (tabDa G) = true) (hr : rankMinor G (G.getD 0 []).length = some (r, m)) :
    Tells T (fun E H' Q' => tCallS (sp_rk T.c_InvalidTable) (WE fun cls d _ H => E cls d H) ta σ H' Q') H1 "let" "" := fun Q1 k =>
  ha _ ⟨_, rfl, .inr ⟨t, G, r, m, rfl, tt, hG, hr, fun H2 S2 => pair_of S2 k⟩⟩
theorem fac_lets {σ : L2.St} {H1 : Hp} {ta : TA} {z m : Int} (ha : ∀ Q : List V → Hp → Prop, (∀ H2 t, Same H1 H2 → TabAt H2 t [[z]] → Q [.ref t] H2) → ta σ H1 Q) (hG : isTable (tabDa [[z]]) = true) (hr : rankMinor [[z]] 1 = some (1, m)) (m0 : m ≠ 0) (mb : B 100 m) :
    Tells T (fun E H' Q' => tCallS (sp_fac T.c_InvalidTable) (WE fun cls d _ H => E cls d H) ta σ H' Q') H1 "let" "" := fun Q1 k =>
  ha _ fun H2 t S2 tt => ⟨_, rfl, .inr ⟨t, z, m, rfl, tt, hG, hr, m0, mb, fun H3 v S3 => pair_of (S2.trans S3) k⟩⟩
theorem low_lets {σ : L2.St} {H1 : Hp} {ta : TA} {t b : Int} (ha : ∀ Q : List V → Hp → Prop, Q [.int t, .int b] H1 → ta σ H1 Q) (h0 : b ≠ 0) (h1 : B 60 t) (h2 : B 60 b) :
    Tells T (fun E H' Q' => tCallS (sp_lowest T.c_InvalidNumber) (WE fun cls d _ H => E cls d H) ta σ H' Q') H1 "let" "" := fun Q1 k =>
  ha _ ⟨_, _, .int t, .int b, rfl, td_int, td_int, .inr (.inr ⟨t, b, rfl, rfl, h0, h1, h2, fun H2 v S2 _ => pair_of S2 k⟩)⟩
end
/-! ### the tables of the law -/
def wideG (s w : Nat) : List (List Int) := (List.range s).map fun (i : Nat) => single w i
def flatG (s : Nat) : List (List Int) := if 1 < s then (List.range s).map (fun _ => 1 :: List.replicate (s - 1) 0) else [[0]]
theorem wideG_at {s w i : Nat} (h : i < s) : (wideG s w).getD i [] = single w i := by
  unfold wideG
  rw [List.getD_eq_getElem?_getD, List.getElem?_map, List.getElem?_range h]
  rfl
theorem flatG_at {s i : Nat} (h1 : 1 < s) (h : i < s) : (flatG s).getD i [] = 1 :: List.replicate (s - 1) 0 := by
  unfold flatG
  rw [if_pos h1, List.getD_eq_getElem?_getD, List.getElem?_map, List.getElem?_range h]
  rfl
/-- the tables' rows, one by one -/
theorem tab_of {H : Hp} {D : Addr} {acc : List V} {G : List (List Int)} (h : H D = some (.tup acc)) (hl : acc.length = G.length) (hP : ∀ i v, acc[i]? = some v → i < G.length → ∃ q, v = .ref q ∧ H q = some (.tup ((G.getD i []).map V.int))) : TabAt H D G :=
  ⟨acc, h, hl, fun i v e => hP i v e (by
    rcases Nat.lt_or_ge i acc.length with z | z
    · omega
    · rw [List.getElem?_eq_none z] at e; cases e)⟩
theorem wide_ok : ∀ s ∈ [1, 2, 3], ∀ w ∈ [4, 5, 6], isTable (tabDa (wideG s w)) = true ∧ (wideG s w).length ≠ ((wideG s w).getD 0 []).length ∧ (rankMinor (wideG s w) ((wideG s w).getD 0 []).length).isSome = true := by decide +kernel
theorem flat_ok : ∀ s ∈ [1, 2, 3], isTable (tabDa (flatG s)) = true ∧ (flatG s).length = ((flatG s).getD 0 []).length ∧ undoM (flatG s) = some false ∧ (rankMinor (flatG s) ((flatG s).getD 0 []).length).isSome = true := by decide +kernel
theorem tab_ext {H H' : Hp} {p : Addr} {G : List (List Int)} (s : ExtN H H') (h : TabAt H p G) : TabAt H' p G := by
  obtain ⟨vs, h1, h2, h3⟩ := h
  refine ⟨vs, s _ _ h1 (fun _ z => by cases z), h2, fun i v e => ?_⟩
  obtain ⟨q, e1, e2⟩ := h3 i v e
  exact ⟨q, e1, s _ _ e2 (fun _ z => by cases z)⟩
/-- what is told in the end -/
def toldT (n : Nat) : List (Str × Str) := List.replicate 4 (("refused", "table") : Str × Str) ++ List.replicate n (("refused", "operation") : Str × Str)
theorem toldT_len (n : Nat) : (toldT n).length = 4 + n := by unfold toldT; rw [List.length_append, List.length_replicate, List.length_replicate]
theorem toldT_succ (n : Nat) : toldT n ++ [(("refused", "operation") : Str × Str)] = toldT (n + 1) := by unfold toldT; rw [List.append_assoc, ← List.replicate_succ']
/-- two lists that are being told, all that stood as before -/
structure Two (Tb : List (Addr × Str)) (H7 : Hp) (Dl Du : Addr) (ps qs : List (Str × Str)) (H : Hp) : Prop where
  ex : ExtN H7 H
  tb : Tabs Tb H
  fl : H7 Dl = none
  fu : H7 Du = none
  ne : Du ≠ Dl
  tl : Told H Dl ps
  du : Told H Du qs
theorem Two.same {Tb : List (Addr × Str)} {H7 : Hp} {Dl Du : Addr} {ps qs : List (Str × Str)} {H H' : Hp} (t : Two Tb H7 Dl Du ps qs H) (s : Same H H') : Two Tb H7 Dl Du ps qs H' :=
  ⟨t.ex.trans (extN_of s), t.tb.ext s, t.fl, t.fu, t.ne, t.tl.ext (extN_of s), t.du.ext (extN_of s)⟩
theorem tell_step {K : PySem.W.Frag} {mg : Str → Option Value} {T : Txt K mg} {Tb : List (Addr × Str)} {t : XK → TE} {D : Ends} {σ : L2.St} {H H7 : Hp} {Dl Du : Addr} {ps qs : List (Str × Str)} {i : Nat} (a b : Str) (hσ : σ[i]? = some (some (.ref Dl))) (w : Two Tb H7 Dl Du ps qs H) (hl : ps.length < 1000)
    (hc : ∀ H1, ExtN H7 H1 → Tells T (fun E H' Q' => t E σ H' Q') H1 a b) (k : ∀ H', Two Tb H7 Dl Du (ps ++ [(a, b)]) qs H' → ButN Dl H H' → D.nx σ H') :
    tDrop (tBM K "list" rAppend (tVar i) (tCons (tLam Tb (TFault T) t) tNil)) D σ H :=
  app_of a b hσ w.tl w.tb hl (fun H1 e1 => hc H1 (w.ex.trans e1)) fun H' T' t' _ b' => by
    obtain ⟨acc, hD, _⟩ := w.tl
    exact k H' ⟨fun c o h z => b' c o (fun e => by rw [e, w.fl] at h; cases h) (w.ex c o h z) z, t', w.fl, w.fu, w.ne, T', told_off hD w.ne b' w.du⟩ b'
theorem due_step {K : PySem.W.Frag} {Tb : List (Addr × Str)} {D : Ends} {σ : L2.St} {H H7 : Hp} {Dl Du : Addr} {ps qs : List (Str × Str)} {i : Nat} (a b : Str) (hσ : σ[i]? = some (some (.ref Du))) (w : Two Tb H7 Dl Du ps qs H) (hl : qs.length < 1000)
    (k : ∀ H', Two Tb H7 Dl Du ps (qs ++ [(a, b)]) H' → But Du H H' → D.nx σ H') :
    tDrop (tBM K "list" rAppend (tVar i) (tCons (tTup (tCons (tC (.str a)) (tCons (tC (.str b)) tNil))) tNil)) D σ H :=
  app_pair a b hσ w.du hl fun H' T' b' => by
    obtain ⟨acc, hD, _⟩ := w.du
    exact k H' ⟨fun c o h z => b' c o (fun e => by rw [e, w.fu] at h; cases h) (w.ex c o h z), tabs_but w.tb hD b', w.fl, w.fu, w.ne, told_off hD (Ne.symm w.ne) (ButN.but b') w.tl, T'⟩ b'
theorem Two.tup {Tb : List (Addr × Str)} {H7 : Hp} {Dl Du : Addr} {ps qs : List (Str × Str)} {H : Hp} {a : Addr} {xs : List V} (w : Two Tb H7 Dl Du ps qs H) (h : H a = some (.tup xs)) : a ≠ Dl ∧ a ≠ Du := by
  obtain ⟨l1, h1, _⟩ := w.tl
  obtain ⟨l2, h2, _⟩ := w.du
  refine ⟨fun z => ?_, fun z => ?_⟩
  · rw [z, h1] at h; cases h
  · rw [z, h2] at h; cases h
theorem four_at {K : PySem.W.Frag} {mg : Str → Option Value} (T : Txt K mg) {i : Nat} {x : V} (h : [V.ref T.a_rank, V.ref T.a_factors, V.ref T.a_determinant, V.ref T.a_undone][i]? = some x) : i < 4 ∧ ∃ j, x = .ref (fam4_f T j) := by
  match i, h with
  | 0, h => exact ⟨by omega, .m_rank, (Option.some.inj h).symm⟩
  | 1, h => exact ⟨by omega, .m_factors, (Option.some.inj h).symm⟩
  | 2, h => exact ⟨by omega, .m_determinant, (Option.some.inj h).symm⟩
  | 3, h => exact ⟨by omega, .m_undone, (Option.some.inj h).symm⟩
  | n + 4, h => simp at h
theorem sq_at {K : PySem.W.Frag} {mg : Str → Option Value} (T : Txt K mg) {i : Nat} {x : V} (h : [V.ref T.a_determinant, V.ref T.a_undone][i]? = some x) : i < 2 ∧ ∃ j, x = .ref (famS_f T j) := by
  match i, h with
  | 0, h => exact ⟨by omega, .m_determinant, (Option.some.inj h).symm⟩
  | 1, h => exact ⟨by omega, .m_undone, (Option.some.inj h).symm⟩
  | n + 2, h => simp at h
theorem rep_succ1 {α : Type} {x : α} {i : Nat} : List.replicate i x ++ [x] = List.replicate (i + 1) x := (List.replicate_succ' ..).symm
end K02

set_option Elab.async false
set_option linter.all false
set_option maxRecDepth 100000
set_option maxHeartbeats 4000000
namespace K02
open PySem PySem.Spec PyProof.Rows L2 TT LamX
local macro_rules | `(tactic| walk_at "ev") => `(tactic| simp only [L2.start, tRet, tRetN, tSeq, tNext, tNever, tDrop, tIfS, tAsg, tPar, gName, tVar, tC, tOp, tUn, tTest, tB, tAnd, tOr, tNot, tAndV, tOrV, tNotV, tIf, tChain, tCons, tNil, tTup, tLst, wipe, tBM, tSl, tPart, tNoPart, tCB, tCall, tCallS, tRaiseK, tKept, WE, rI0, rI, rU, rEq, rNe, rGcd, scal, gNil, gCons, gSub, Int.zero_sub,
  List.length_cons, List.length_nil, List.map_cons, List.map_nil, List.replicate, List.cons_append, List.nil_append, List.append_nil, List.set_cons_zero, List.set_cons_succ, List.set_nil, List.getElem?_cons_zero, List.getElem?_cons_succ, List.getElem?_nil, List.drop_zero, List.drop_succ_cons, List.drop_nil, List.length_drop,
  Option.some.injEq, V.int.injEq, V.bl.injEq, V.ref.injEq, List.cons.injEq, and_true, true_and, and_assoc, exists_and_left, exists_and_right, exists_eq_left, exists_eq_left', exists_eq', exists_eq, if_true, if_false, Bool.false_eq_true, ite_true, ite_false, eq_self, reduceCtorEq, szle0, szle1, szle2, szle3, szle4, szle5, szle6, szle8, szle13, false_and, and_false, exists_false, exists_const, or_false, false_or, Bool.true_and, Bool.false_and, Bool.and_true, Bool.and_false, decide_eq_true_eq, Bool.not_true, Bool.not_false, Bool.not_not, Nat.reduceAdd, Int.reduceNeg, Int.reduceToNat, Int.reducePow, Int.cast_ofNat_Int, Int.reduceEq, Int.reduceLT, Int.reduceLE, Int.reduceAdd, Int.reduceMul, Int.reduceSub, decide_true, decide_false, Bool.not_eq_true', decide_eq_false_iff_not, not_false_eq_true, not_true_eq_false])
local macro_rules | `(tactic| walk_at "go") => `(tactic| repeat (first | walk_at "ev" | (refine isi_int (by assumption) ?_) | (refine isi_bool (by assumption) ?_) | (refine isi_tup (by assumption) ?_) | (refine use_J (by assumption) ?_) | (refine use_J td_int ?_) | (refine tFor_rng ?_) | (refine tFor_list ?_) | (refine tFor_tup ?_) | (refine tLc_rng ?_) | (refine tLc_zip ?_) | (refine tLc_enum ?_) | (refine tLc_rng2 ?_) | (refine tFor_rng2 ?_) | (refine tupL_of (by assumption) ?_) | (refine lstL_of (by assumption) ?_) | (refine lstT_of (by assumption) ?_) | (refine tLc_list ?_) | (refine tLc_tup ?_) | (refine ixT_of (by assumption) rfl ?_) | (refine ixL_of (by assumption) rfl ?_) | (refine lenT_of (by assumption) ?_) | (refine lenL_of (by assumption) ?_) | (refine gtup_of (by assumption) rfl ?_) | (refine ⟨cmul (by assumption) (by assumption) (by decide), ?_⟩) | (refine ⟨Or.inl (by decide), ?_⟩) | (refine ⟨Or.inr (by decide), ?_⟩) | (refine ixL_of upd_same rfl ?_) | (refine setL_of (by assumption) (by rfl) ?_) | (refine ⟨(show CPow _ _ from ⟨by decide, by decide, by decide⟩), ?_⟩) | (refine ⟨(show _ ≤ sizeLine by decide), ?_⟩)))

section
variable {P : Program} {w : World} {K : PySem.W.Frag} {mg : Str → Option Value} {base : Heap}
theorem ok__law_tables_right (T : Txt K mg) {Tb : List (Addr × Str)} (LT : LTab K mg base Tb "_law_tables_right" s__law_tables_right T.a__law_tables_right) : FnG P w K mg base CX0 10 T.a__law_tables_right T.d__law_tables_right ["dice"] (sp_num Tb) := by
  have G__law_pick := ok__law_pick (P := P) (w := w) (base := base) T
  have G__law_roll := ok__law_roll (P := P) (w := w) (base := base) T
  have G__law_tr_single := ok__law_tr_single (P := P) (w := w) (base := base) T
  have G_is_table := ok_is_table (P := P) (w := w) (base := base) T
  have G_rank := ok_rank (P := P) (w := w) (base := base) T
  have G_determinant := ok_determinant (P := P) (w := w) (base := base) T
  have G_undone := ok_undone (P := P) (w := w) (base := base) T
  refine TT.okG T.F__law_tables_right sc__law_tables_right (fun vs H Q E h => ?_) (fun cdv A0 outer0 s0 H0 vs Q E0 hcd lk hg hr h => ?_)
  · obtain ⟨p, rfl, _⟩ := h
    rfl
  have hcode : cdv = .ref LT.c := by
    obtain ⟨oc, od, kV, doc, pm, an, ct, osl, lk⟩ := lk
    exact LT.code _ _ _ _ _ _ _ _ _ lk
  refine ⟨_, (pss_cons (ps_set (i := 1) sc__law_tables_right.nd rfl (Or.inl rfl) (pe_lst (pa_cons pe_non (pa_cons (pe_tup pa_nil) (pa_cons (pe_tup (pa_cons (pe_tup pa_nil) pa_nil)) (pa_cons (pe_lst (pa_cons (pe_tup (pa_cons pe_int pa_nil)) pa_nil)) (pa_cons (pe_tup (pa_cons (pe_tup (pa_cons pe_int pa_nil)) (pa_cons (pe_tup (pa_cons pe_int (pa_cons pe_int pa_nil))) pa_nil))) (pa_cons (pe_tup (pa_cons (pe_lst (pa_cons pe_int pa_nil)) pa_nil)) (pa_cons (pe_tup (pa_cons (pe_tup (pa_cons pe_bl pa_nil)) pa_nil)) (pa_cons (pe_tup (pa_cons (pe_tup (pa_cons pe_non pa_nil)) pa_nil)) (pa_cons (pe_tup (pa_cons (pe_tup (pa_cons (pe_op op_pow pe_int pe_int) pa_nil)) pa_nil)) (pa_cons (pe_op (show OpR _ _ (rRepA K) from op_repA) (pe_tup (pa_cons (pe_tup (pa_cons pe_int pa_nil)) pa_nil)) pe_int) (pa_cons (pe_tup (pa_cons (pe_op (show OpR _ _ (rRepA K) from op_repA) (pe_tup (pa_cons pe_int pa_nil)) pe_int) pa_nil)) (pa_cons pe_int pa_nil))))))))))))))
      (pss_cons (ps_set (i := 8) sc__law_tables_right.nd rfl (Or.inr rfl) (pe_call (G__law_pick.mono (by decide)) hr (by rfl) T.g__law_pick T.k__law_pick T.b__law_pick .nil pass0 (pa_cons (pv 0) (pa_cons (pe_op op_cat (pv 1) (pe_lst (pa_cons (pe_tup (pa_cons pe_int (pa_cons pe_int pa_nil))) (pa_cons pe_str (pa_cons pe_dnewK (pa_cons (pe_tup (pa_cons (pe_tup (pa_cons (pe_tup (pa_cons pe_int (pa_cons pe_int pa_nil))) pa_nil)) pa_nil)) pa_nil)))))) pa_nil))))
      (pss_cons (ps_asg (pe_tup (pa_cons (pe_op op_add pe_int (pe_call (G__law_roll.mono (by decide)) hr (by rfl) T.g__law_roll T.k__law_roll T.b__law_roll .nil pass0 (pa_cons (pv 0) (pa_cons pe_int pa_nil)))) (pa_cons (pe_op op_add pe_int (pe_call (G__law_roll.mono (by decide)) hr (by rfl) T.g__law_roll T.k__law_roll T.b__law_roll .nil pass0 (pa_cons (pv 0) (pa_cons pe_int pa_nil)))) pa_nil))) (pg_tup rfl (pgs_cons (pg_name (i := 2) sc__law_tables_right.nd rfl (Or.inr rfl)) (pgs_cons (pg_name (i := 3) sc__law_tables_right.nd rfl (Or.inr rfl)) pgs_nil))))
      (pss_cons (ps_set (i := 9) sc__law_tables_right.nd rfl (Or.inr rfl) (pe_callTy call_tupleN (by rfl) T.m_tuple bt_tuple (pa_cons (pe_lc (own := [("at", 10)]) (g := gName 10) (tt := tYes) rfl sc__law_tables_right.nd (pi_range1 rfl T.m_range (pa_cons (pv 2) pa_nil)) (blkOk_by (N := ["dice", "wrong", "size", "width", "told", "due", "call", "flat", "none", "wide", "at"]) (sc := defScope s__law_tables_right) (by decide +kernel)) (fun _ _ _ _ _ => (pg_name (i := 10) sc__law_tables_right.nd rfl (Or.inl rfl))) (fun _ _ _ _ _ => pts_nil) (fun _ _ _ _ _ => (pe_call (G__law_tr_single.mono (by decide)) hr (by rfl) T.g__law_tr_single T.k__law_tr_single T.b__law_tr_single .nil pass0 (pa_cons (pv 3) (pa_cons (pv 10) pa_nil))))) pa_nil)))
      (pss_cons (ps_set (i := 7) sc__law_tables_right.nd rfl (Or.inr rfl) (pe_ifExp (pt_cmpR op_gt (pv 2) pe_int (nomark _)) (pe_callTy call_tupleN (by rfl) T.m_tuple bt_tuple (pa_cons (pe_lc (own := [("at", 10)]) (g := gName 10) (tt := tYes) rfl sc__law_tables_right.nd (pi_range1 rfl T.m_range (pa_cons (pv 2) pa_nil)) (blkOk_by (N := ["dice", "wrong", "size", "width", "told", "due", "call", "flat", "none", "wide", "at"]) (sc := defScope s__law_tables_right) (by decide +kernel)) (fun _ _ _ _ _ => (pg_name (i := 10) sc__law_tables_right.nd rfl (Or.inl rfl))) (fun _ _ _ _ _ => pts_nil) (fun _ _ _ _ _ => (pe_op (show OpR _ _ (rCatA K) from op_catA) (pe_tup (pa_cons pe_int pa_nil)) (pe_op (show OpR _ _ (rRepA K) from op_repA) (pe_tup (pa_cons pe_int pa_nil)) (pe_op op_sub (pv 2) pe_int))))) pa_nil)) (pe_tup (pa_cons (pe_tup (pa_cons pe_int pa_nil)) pa_nil))))
      (pss_cons (ps_par (i := 4) (j := 5) rfl sc__law_tables_right.nd rfl rfl (by decide) rfl rfl (pa_cons (pe_lst pa_nil) (pa_cons (pe_lst pa_nil) pa_nil)) (by rfl))
      (pss_cons (ps_for PassesOwn.never rfl (pi_tup (pe_tup (pa_cons (pe_glob (v := V.ref T.a_rank) rfl T.g_rank rfl) (pa_cons (pe_glob (v := V.ref T.a_factors) rfl T.g_factors rfl) (pa_cons (pe_glob (v := V.ref T.a_determinant) rfl T.g_determinant rfl) (pa_cons (pe_glob (v := V.ref T.a_undone) rfl T.g_undone rfl) pa_nil)))))) (pg_name (i := 6) sc__law_tables_right.nd rfl (Or.inr rfl)) (pss_cons (ps_expr (pe_bm PySem.F.plainAttrs_list PySem.F.slot_list_append PySem.F.type_list_append mt_append (pv 4) (pa_cons (pe_fault (X := (cxOf CX0 P w K mg base ["dice", "wrong", "size", "width", "told", "due", "call", "flat", "none", "wide", "at"] "_law_tables_right" (defScope s__law_tables_right) T.a__law_tables_right cdv A0 outer0 s0 H0 E0).nox) T hg (by rfl) LT.TB hcode LT.mem LT.uniq hr (by show lamSB (defScope s__law_tables_right) _ = true; decide +kernel) (by rfl) (fun _ _ _ _ _ => by rfl) (fun A outer s H E f c' hr => (pe_famL (cxOf CX0 P w K mg base ["dice", "wrong", "size", "width", "told", "due", "call", "flat", "none", "wide", "at"] "_law_tables_right" (defScope s__law_tables_right) T.a__law_tables_right cdv A0 outer0 s0 H0 E0).nox 6 (f := fam4_f T) (fd := fam4_d T) (sp := fam4_s T) (fam4_F T) (hr.mono (by decide)) (by rfl) (.inr (.inr rfl)) (fam4_k T) (fam4_b T) (pa_cons (pv 8) pa_nil)))) pa_nil)))
      (pss_one (ps_expr (pe_bm PySem.F.plainAttrs_list PySem.F.slot_list_append PySem.F.type_list_append mt_append (pv 5) (pa_cons (pe_tup (pa_cons pe_str (pa_cons pe_str pa_nil))) pa_nil))))))
      (pss_cons (ps_for PassesOwn.never rfl (pi_tup (pe_tup (pa_cons (pe_glob (v := V.ref T.a_determinant) rfl T.g_determinant rfl) (pa_cons (pe_glob (v := V.ref T.a_undone) rfl T.g_undone rfl) pa_nil)))) (pg_name (i := 6) sc__law_tables_right.nd rfl (Or.inr rfl)) (pss_cons (ps_expr (pe_bm PySem.F.plainAttrs_list PySem.F.slot_list_append PySem.F.type_list_append mt_append (pv 4) (pa_cons (pe_fault (X := (cxOf CX0 P w K mg base ["dice", "wrong", "size", "width", "told", "due", "call", "flat", "none", "wide", "at"] "_law_tables_right" (defScope s__law_tables_right) T.a__law_tables_right cdv A0 outer0 s0 H0 E0).nox) T hg (by rfl) LT.TB hcode LT.mem LT.uniq hr (by show lamSB (defScope s__law_tables_right) _ = true; decide +kernel) (by rfl) (fun _ _ _ _ _ => by rfl) (fun A outer s H E f c' hr => (pe_famL (cxOf CX0 P w K mg base ["dice", "wrong", "size", "width", "told", "due", "call", "flat", "none", "wide", "at"] "_law_tables_right" (defScope s__law_tables_right) T.a__law_tables_right cdv A0 outer0 s0 H0 E0).nox 6 (f := famS_f T) (fd := famS_d T) (sp := famS_s T) (famS_F T) (hr.mono (by decide)) (by rfl) (.inr (.inr rfl)) (famS_k T) (famS_b T) (pa_cons (pv 9) pa_nil)))) pa_nil)))
      (pss_one (ps_expr (pe_bm PySem.F.plainAttrs_list PySem.F.slot_list_append PySem.F.type_list_append mt_append (pv 5) (pa_cons (pe_tup (pa_cons pe_str (pa_cons pe_str pa_nil))) pa_nil))))))
      (pss_cons (ps_expr (pe_bm PySem.F.plainAttrs_list PySem.F.slot_list_append PySem.F.type_list_append mt_append (pv 4) (pa_cons (pe_fault (X := (cxOf CX0 P w K mg base ["dice", "wrong", "size", "width", "told", "due", "call", "flat", "none", "wide", "at"] "_law_tables_right" (defScope s__law_tables_right) T.a__law_tables_right cdv A0 outer0 s0 H0 E0).nox) T hg (by rfl) LT.TB hcode LT.mem LT.uniq hr (by show lamSB (defScope s__law_tables_right) _ = true; decide +kernel) (by rfl) (fun _ _ _ _ _ => by rfl) (fun A outer s H E f c' hr => (pe_callS (G_undone.mono (by decide)) hr (by rfl) T.g_undone T.k_undone T.b_undone (fun σ => passAt (takes_of rfl rfl rfl rfl) σ) (pa_cons (pv 7) pa_nil)))) pa_nil)))
      (pss_cons (ps_expr (pe_bm PySem.F.plainAttrs_list PySem.F.slot_list_append PySem.F.type_list_append mt_append (pv 4) (pa_cons (pe_fault (X := (cxOf CX0 P w K mg base ["dice", "wrong", "size", "width", "told", "due", "call", "flat", "none", "wide", "at"] "_law_tables_right" (defScope s__law_tables_right) T.a__law_tables_right cdv A0 outer0 s0 H0 E0).nox) T hg (by rfl) LT.TB hcode LT.mem LT.uniq hr (by show lamSB (defScope s__law_tables_right) _ = true; decide +kernel) (by rfl) (fun _ _ _ _ _ => by rfl) (fun A outer s H E f c' hr => (pe_callS (G_determinant.mono (by decide)) hr (by rfl) T.g_determinant T.k_determinant T.b_determinant (fun σ => passAt (takes_of rfl rfl rfl rfl) σ) (pa_cons (pv 7) pa_nil)))) pa_nil)))
      (pss_cons (ps_expr (pe_bm PySem.F.plainAttrs_list PySem.F.slot_list_append PySem.F.type_list_append mt_append (pv 4) (pa_cons (pe_fault (X := (cxOf CX0 P w K mg base ["dice", "wrong", "size", "width", "told", "due", "call", "flat", "none", "wide", "at"] "_law_tables_right" (defScope s__law_tables_right) T.a__law_tables_right cdv A0 outer0 s0 H0 E0).nox) T hg (by rfl) LT.TB hcode LT.mem LT.uniq hr (by show lamSB (defScope s__law_tables_right) _ = true; decide +kernel) (by rfl) (fun _ _ _ _ _ => by rfl) (fun A outer s H E f c' hr => (pe_callS (G_rank.mono (by decide)) hr (by rfl) T.g_rank T.k_rank T.b_rank (fun σ => passAt (takes_of rfl rfl rfl rfl) σ) (pa_cons (pv 9) pa_nil)))) pa_nil)))
      (pss_cons (ps_set (i := 5) sc__law_tables_right.nd rfl (Or.inl rfl) (pe_op op_cat (pv 5) (pe_lst (pa_cons (pe_tup (pa_cons pe_str (pa_cons pe_str pa_nil))) (pa_cons (pe_tup (pa_cons pe_str (pa_cons pe_str pa_nil))) (pa_cons (pe_tup (pa_cons pe_str (pa_cons pe_str pa_nil))) pa_nil))))))
      (pss_one (ps_ret (pe_and (pe_cmpR (op_eqD (hu64 hr)) (pv 4) (pv 5) (nomark _)) (pe_and (pe_not (pe_call (G_is_table.mono (by decide)) hr (by rfl) T.g_is_table T.k_is_table T.b_is_table .nil pass0 (pa_cons (pv 8) pa_nil))) (pe_one (pe_call (G_is_table.mono (by decide)) hr (by rfl) T.g_is_table T.k_is_table T.b_is_table .nil pass0 (pa_cons (pv 9) pa_nil))))))))))))))))))), ?_⟩
  obtain ⟨p, rfl, hp, ht, k⟩ := h
  refine seqN_of (rd_of (rd_lst (rds_cons rd_non (rds_cons (rd_tup rds_nil (by decide)) (rds_cons (rd_tup (rds_cons (rd_tup rds_nil (by decide)) rds_nil) (by decide)) (rds_cons (rd_lst (rds_cons (rd_tup (rds_cons rd_int rds_nil) (by decide)) rds_nil) (by decide)) (rds_cons (rd_tup (rds_cons (rd_tup (rds_cons rd_int rds_nil) (by decide)) (rds_cons (rd_tup (rds_cons rd_int (rds_cons rd_int rds_nil)) (by decide)) rds_nil)) (by decide)) (rds_cons (rd_tup (rds_cons (rd_lst (rds_cons rd_int rds_nil) (by decide)) rds_nil) (by decide)) (rds_cons (rd_tup (rds_cons (rd_tup (rds_cons rd_bl rds_nil) (by decide)) rds_nil) (by decide)) (rds_cons (rd_tup (rds_cons (rd_tup (rds_cons rd_non rds_nil) (by decide)) rds_nil) (by decide)) (rds_cons (rd_tup (rds_cons (rd_tup (rds_cons rd_big rds_nil) (by decide)) rds_nil) (by decide)) (rds_cons (rd_rep (rd_tup (rds_cons (rd_tup (rds_cons rd_int rds_nil) (by decide)) rds_nil) (by decide)) (by decide) (by decide)) (rds_cons (rd_tup (rds_cons (rd_rep (rd_tup (rds_cons rd_int rds_nil) (by decide)) (by decide) (by decide)) rds_nil) (by decide)) (rds_cons rd_int rds_nil)))))))))))) (by decide)) fun H1 wv S1 tw => ?_)
  try dsimp only
  show tSeq (tAsg _ _) _ _ [some (.ref p), some wv, Option.none, Option.none, Option.none, Option.none, Option.none, Option.none, Option.none, Option.none, Option.none] H1
  refine seqN_of (pick_at (ds := wrongA ++ wrongB) rfl (hp.same S1) (ht.ext S1) (fun Q1 k1 => ?_) (by decide +kernel) (by decide +kernel) (by decide +kernel) wrong_3 fun H2 none dn mn tn b2 hp2 ht2 => ?_)
  · refine ⟨wv, rfl, rd_of (rd_lst (rds_cons (rd_tup (rds_cons rd_int (rds_cons rd_int rds_nil)) (by decide)) (rds_cons rd_str (rds_cons rd_dic (rds_cons (rd_tup (rds_cons (rd_tup (rds_cons (rd_tup (rds_cons rd_int (rds_cons rd_int rds_nil)) (by decide)) rds_nil) (by decide)) rds_nil) (by decide)) rds_nil)))) (by decide)) fun H2 v2 S2 t2 => ?_⟩
    exact cat_td (tw.same S2 _ _) t2 (by decide) fun H3 v3 S3 t3 => k1 _ _ (S2.trans S3) t3
  have bad := wrong_bad dn mn
  try dsimp only
  show tSeq (tAsg _ _) _ _ [some (.ref p), some wv, Option.none, Option.none, Option.none, Option.none, Option.none, Option.none, some none, Option.none, Option.none] H2
  refine seq_of (asg_of (tup2_of ?_))
  walk_at "go"
  refine ⟨p, 3, rfl, hp2, by decide, by unfold B; decide, fun H3 r h0 h1 b3 hp3 => ⟨r, rfl, p, 3, rfl, hp3, by decide, by unfold B; decide, fun H4 r2 h2 h3 b4 hp4 => ⟨r2, rfl, fun q hq => ?_⟩⟩⟩
  obtain ⟨sz, hsz, es⟩ : ∃ sz : Nat, sz ∈ [1, 2, 3] ∧ 1 + r = (sz : Int) := by
    refine ⟨(1 + r).toNat, ?_, by omega⟩
    have : (1 + r).toNat = 1 ∨ (1 + r).toNat = 2 ∨ (1 + r).toNat = 3 := by omega
    rcases this with e | e | e <;> rw [e] <;> decide
  obtain ⟨wd, hwd, ew⟩ : ∃ wd : Nat, wd ∈ [4, 5, 6] ∧ 4 + r2 = (wd : Int) := by
    refine ⟨(4 + r2).toNat, ?_, by omega⟩
    have : (4 + r2).toNat = 4 ∨ (4 + r2).toNat = 5 ∨ (4 + r2).toNat = 6 := by omega
    rcases this with e | e | e <;> rw [e] <;> decide
  rw [es, ew]
  obtain ⟨wG, wN, wR⟩ := wide_ok sz hsz wd hwd
  obtain ⟨fG, fN, fU, fR⟩ := flat_ok sz hsz
  have sz3 : 1 ≤ sz ∧ sz ≤ 3 := by
    simp only [List.mem_cons, List.not_mem_nil, or_false] at hsz
    omega
  have wd6 : wd ≤ 6 := by
    simp only [List.mem_cons, List.not_mem_nil, or_false] at hwd
    omega
  have n3 : noL3 dn = true := (by decide +kernel : ∀ d ∈ wrongA ++ wrongB, noL3 d = true) dn mn
  have tn4 : Td H4 dn none := by
    obtain ⟨a2, a3, a4, e2⟩ := hp2
    obtain ⟨c2, c3, c4, e3⟩ := hp3
    exact td_but e3 b4 dn none n3 (td_but e2 b3 dn none n3 tn)
  have ht4 : Tabs Tb H4 := by
    obtain ⟨a2, a3, a4, e2⟩ := hp2
    obtain ⟨c2, c3, c4, e3⟩ := hp3
    exact tabs_but (tabs_but ht2 e2 b3) e3 b4
  have B4 : ButN p H0 H4 := (((ButN.same S1).trans (ButN.but b2)).trans (ButN.but b3)).trans (ButN.but b4)
  have S5 := same_upd (o := .tup [V.int sz, V.int wd]) hq
  refine gtup_of upd_same rfl ?_
  have B5 := B4.trans (ButN.same S5)
  have ht5 := ht4.ext S5
  have hp5 := hp4.same S5
  have tn5 : Td (upd H4 q (.tup [V.int sz, V.int wd])) dn none := tn4.same S5 _ _
  generalize upd H4 q (.tup [V.int sz, V.int wd]) = H5 at B5 ht5 hp5 tn5 ⊢
  clear S5 B4 ht4 tn4 b2 b3 b4 hp2 hp3 hp4 ht2 tn S1 tw hq
  refine ⟨.int sz, [.int wd], rfl, .int wd, [], rfl, rfl, ?_⟩
  try dsimp only
  show tSeq (tAsg _ _) _ _ [some (.ref p), some wv, some (.int sz), some (.int wd), Option.none, Option.none, Option.none, Option.none, some none, Option.none, Option.none] H5
  refine seqN_of (via (fun x H' => ∃ wp, x = .ref wp ∧ Same H5 H' ∧ TabAt H' wp (wideG sz wd)) (fun Q2 k2 => ?_) (fun x H6 ⟨wp, e6, S6, t6⟩ => ?_))
  · walk_at "go"
    refine ⟨by omega, by omega, ?_⟩
    rw [Int.toNat_natCast]
    refine lc_rngL (fun i H v => ∃ q, v = .ref q ∧ H q = some (.tup ((single wd i).map V.int))) (by omega) (fun x => by simp [wipe]) (fun i D H H' v ⟨acc, ha⟩ b n ⟨q, e, h⟩ => ⟨q, e, b _ _ (fun z => n (by rw [e, z])) h⟩) (fun i D H' hi hD hd S K' k' => ?_) (fun D H' acc hD S ha hl hP => ?_)
    · walk_at "go"
      refine ⟨wd, i, rfl, by omega, fun H6 q S6 h6 => k' _ _ S6 (fun z => ?_) ⟨q, rfl, h6⟩⟩
      cases z
      obtain ⟨o, ho⟩ := hd
      rw [S6 _ _ ho] at h6
      cases h6
    · walk_at "go"
      refine fun q hq => k2 _ _ ⟨q, rfl, S.trans (same_upd hq), tab_of upd_same (by rw [hl]; unfold wideG; simp) fun i v e hi => ?_⟩
      obtain ⟨q2, e2, h2⟩ := hP i v e
      rw [wideG_at (by unfold wideG at hi; simpa using hi)]
      exact ⟨q2, e2, same_upd hq _ _ h2⟩
  subst e6
  have tn6 := tn5.same S6 _ _
  have hp6 := hp5.same S6
  have ht6 := ht5.ext S6
  have B6 := B5.trans (ButN.same S6)
  clear tn5 hp5 ht5 B5 S6
  try dsimp only
  show tSeq (tAsg _ _) _ _ [some (.ref p), some wv, some (.int sz), some (.int wd), Option.none, Option.none, Option.none, Option.none, some none, some (.ref wp), Option.none] H6
  refine seqN_of (via (fun x H' => ∃ fp, x = .ref fp ∧ Same H6 H' ∧ TabAt H' fp (flatG sz)) (fun Q2 k2 => ?_) (fun x H7 ⟨fp, e7, S7, t7⟩ => ?_))
  · walk_at "go"
    split
    · rename_i h1
      have h1 : 1 < sz := by omega
      walk_at "go"
      refine ⟨by omega, by omega, ?_⟩
      rw [Int.toNat_natCast]
      refine lc_rngL (fun i H v => ∃ q, v = .ref q ∧ H q = some (.tup ((1 :: List.replicate (sz - 1) 0 : List Int).map V.int))) (by omega) (fun x => by simp [wipe]) (fun i D H H' v ⟨acc, ha⟩ b n ⟨q, e, h⟩ => ⟨q, e, b _ _ (fun z => n (by rw [e, z])) h⟩) (fun i D H' hi hD hd S K' k' => ?_) (fun D H' acc hD S ha hl hP => ?_)
      · walk_at "go"
        intro p1 hp1 p2 hp2
        have S1 := (same_upd (o := .tup [V.int 1]) hp1).trans (same_upd (o := .tup [V.int 0]) hp2)
        have hq1 := same_upd (o := .tup [V.int 0]) hp2 _ _ (upd_same (H := H') (a := p1) (o := .tup [V.int 1]))
        have hq2 := upd_same (H := upd H' p1 (.tup [V.int 1])) (a := p2) (o := .tup [V.int 0])
        generalize upd (upd H' p1 (.tup [V.int 1])) p2 (.tup [V.int 0]) = H8 at S1 hq1 hq2 ⊢
        have fin : ∀ H9 z, Same H8 H9 → H9 z = some (.tup (List.replicate (sz - 1) (V.int 0))) → rCatA K (.ref p1) (.ref z) H9 K' := fun H9 z S9 hz => by
          refine ⟨p1, z, _, _, rfl, rfl, .inl (.inl (S9 _ _ hq1)), .inl (.inl hz), by rw [sizeLine_eq, List.length_replicate]; simp; omega, (fun e => absurd e (by simp)), fun _ e => ?_, fun _ _ p5 hp5 => ?_⟩
          · have := congrArg List.length e
            rw [List.length_replicate] at this
            exact absurd this (by simp; omega)
          · refine k' _ _ ((S1.trans S9).trans (same_upd hp5)) (fun e => ?_) ⟨p5, rfl, ?_⟩
            · cases e
              obtain ⟨o, ho⟩ := hd
              rw [S9 _ _ (S1 _ _ ho)] at hp5
              cases hp5
            · rw [List.map_cons, List.map_replicate]
              exact upd_same
        refine ⟨p2, (sz : Int) - 1, [V.int 0], rfl, rfl, .inl (.inl hq2), by simp, by omega, by omega, by simp, fun e => fin _ _ (Same.refl _) ?_, fun e p3 hp3 => fin _ _ (same_upd hp3) ?_⟩
        · rw [show sz - 1 = 1 by omega]
          exact hq2
        · rw [show ((sz : Int) - 1).toNat = sz - 1 by omega]
          have : (List.replicate (sz - 1) [V.int 0]).flatten = List.replicate (sz - 1) (V.int 0) := by simp
          rw [this]
          exact upd_same
      · walk_at "go"
        refine fun q hq => k2 _ _ ⟨q, rfl, S.trans (same_upd hq), tab_of upd_same (by rw [hl]; unfold flatG; rw [if_pos h1]; simp) fun i v e hi => ?_⟩
        obtain ⟨q2, e2, h2⟩ := hP i v e
        rw [flatG_at h1 (by unfold flatG at hi; rw [if_pos h1] at hi; simpa using hi)]
        exact ⟨q2, e2, same_upd hq _ _ h2⟩
    · rename_i h1
      obtain rfl : sz = 1 := by omega
      refine fun p1 hp1 p2 hp2 => k2 _ _ ⟨p2, rfl, (same_upd hp1).trans (same_upd hp2), tab_of upd_same rfl fun i v e hi => ?_⟩
      obtain rfl : i = 0 := by have : (flatG 1).length = 1 := rfl; omega
      obtain rfl : V.ref p1 = v := by simpa using e
      exact ⟨p1, rfl, same_upd hp2 _ _ upd_same⟩
  subst e7
  have tn7 := tn6.same S7 _ _
  have hp7 := hp6.same S7
  have ht7 := ht6.ext S7
  have B7 := B6.trans (ButN.same S7)
  have w7 := t6.same S7
  clear tn6 hp6 ht6 B6 S7 t6
  try dsimp only
  show tSeq (tPar _ _ _) _ _ [some (.ref p), some wv, some (.int sz), some (.int wd), Option.none, Option.none, Option.none, some (.ref fp), some none, some (.ref wp), Option.none] H7
  refine seq_of ?_
  refine ⟨by simp, fun Dl hDl => ⟨by simp, fun Du hDu => ⟨_, _, rfl, ?_⟩⟩⟩
  have hDu7 : H7 Du = Option.none ∧ Du ≠ Dl := by
    by_cases z : Du = Dl
    · rw [z, upd_same] at hDu; cases hDu
    · rw [upd_ne z] at hDu; exact ⟨hDu, z⟩
  have W0 : Two Tb H7 Dl Du [] [] (upd (upd H7 Dl (.lst [])) Du (.lst [])) :=
    ⟨extN_of ((same_upd hDl).trans (same_upd hDu)), (ht7.ext (same_upd hDl)).ext (same_upd hDu), hDl, hDu7.1, hDu7.2, ⟨[], same_upd hDu _ _ upd_same, tdl_nil⟩, ⟨[], upd_same, tdl_nil⟩⟩
  generalize upd (upd H7 Dl (.lst [])) Du (.lst []) = H8 at W0 ⊢
  clear hDu hDl hDu7
  try dsimp only
  show tSeq (tFor _ _ _) _ _ [some (.ref p), some wv, some (.int sz), some (.int wd), some (.ref Dl), some (.ref Du), Option.none, some (.ref fp), some none, some (.ref wp), Option.none] H8
  refine seq_of (tFor_tup ?_)
  refine ⟨(by rw [sizeLine_eq]; exact (by decide : 4 ≤ 16777216)), fun a ha => ⟨a, rfl, ⟨_, .inl (.inl upd_same)⟩, ?_⟩⟩
  refine loop_tup (xs := [V.ref T.a_rank, V.ref T.a_factors, V.ref T.a_determinant, V.ref T.a_undone]) (fun i σ H' => (∃ cv, σ = [some (.ref p), some wv, some (.int sz), some (.int wd), some (.ref Dl), some (.ref Du), cv, some (.ref fp), some none, some (.ref wp), Option.none]) ∧ H' a = some (.tup [V.ref T.a_rank, V.ref T.a_factors, V.ref T.a_determinant, V.ref T.a_undone]) ∧
      Two Tb H7 Dl Du (List.replicate i ("refused", "table")) (List.replicate i ("refused", "table")) H') (fun i σ H' h => h.2.1) ⟨⟨_, rfl⟩, upd_same, W0.same (same_upd ha)⟩ ?_ ?_
  · rintro σ H9 ⟨⟨cv, rfl⟩, _, W9⟩
    try dsimp only
    show tSeq (tFor _ _ _) _ _ [some (.ref p), some wv, some (.int sz), some (.int wd), some (.ref Dl), some (.ref Du), cv, some (.ref fp), some none, some (.ref wp), Option.none] H9
    refine seq_of (tFor_tup ?_)
    refine ⟨len2, fun c hc => ⟨c, rfl, ⟨_, .inl (.inl upd_same)⟩, ?_⟩⟩
    refine loop_tup (xs := [V.ref T.a_determinant, V.ref T.a_undone]) (fun i σ H' => (∃ cv, σ = [some (.ref p), some wv, some (.int sz), some (.int wd), some (.ref Dl), some (.ref Du), cv, some (.ref fp), some none, some (.ref wp), Option.none]) ∧ H' c = some (.tup [V.ref T.a_determinant, V.ref T.a_undone]) ∧
        Two Tb H7 Dl Du (toldT i) (toldT i) H') (fun i σ H' h => h.2.1) ⟨⟨_, rfl⟩, upd_same, W9.same (same_upd hc)⟩ ?_ ?_
    · rintro σ H10 ⟨⟨cv, rfl⟩, _, W10⟩
      replace W10 : Two Tb H7 Dl Du (toldT 2) (toldT 2) H10 := W10
      try dsimp only
      show tSeq (tDrop _) _ _ [some (.ref p), some wv, some (.int sz), some (.int wd), some (.ref Dl), some (.ref Du), cv, some (.ref fp), some none, some (.ref wp), Option.none] H10
      refine seq_of (tell_step (i := 4) "refused" "('singular',)" rfl W10 (by decide) (fun H1 e1 => sing_tells (fun Q1 k1 => ⟨_, rfl, k1⟩) (tab_ext e1 t7) fG fN fU) fun H11 W11 _ => ?_)
      obtain ⟨⟨fr, fm⟩, fR⟩ := Option.isSome_iff_exists.mp fR
      obtain ⟨⟨wr, wm⟩, wR⟩ := Option.isSome_iff_exists.mp wR
      try dsimp only
      show tSeq (tDrop _) _ _ [some (.ref p), some wv, some (.int sz), some (.int wd), some (.ref Dl), some (.ref Du), cv, some (.ref fp), some none, some (.ref wp), Option.none] H11
      refine seq_of (tell_step (i := 4) "let" "" rfl W11 (by decide) (fun H1 e1 => det_lets (fun Q1 k1 => ⟨_, rfl, k1⟩) (tab_ext e1 t7) fG fN fR) fun H12 W12 _ => ?_)
      try dsimp only
      show tSeq (tDrop _) _ _ [some (.ref p), some wv, some (.int sz), some (.int wd), some (.ref Dl), some (.ref Du), cv, some (.ref fp), some none, some (.ref wp), Option.none] H12
      refine seq_of (tell_step (i := 4) "let" "" rfl W12 (by decide) (fun H1 e1 => rank_lets (fun Q1 k1 => ⟨_, rfl, k1⟩) (tab_ext e1 w7) wG wR) fun H13 W13 _ => ?_)
      try dsimp only
      show tSeq (tAsg _ _) _ _ [some (.ref p), some wv, some (.int sz), some (.int wd), some (.ref Dl), some (.ref Du), cv, some (.ref fp), some none, some (.ref wp), Option.none] H13
      refine seqN_of ⟨.ref Du, rfl, rd_of (rd_lst (rds_cons (rd_tup (rds_cons rd_str (rds_cons rd_str rds_nil)) (by decide)) (rds_cons (rd_tup (rds_cons rd_str (rds_cons rd_str rds_nil)) (by decide)) (rds_cons (rd_tup (rds_cons rd_str (rds_cons rd_str rds_nil)) (by decide)) rds_nil))) (by decide)) fun H14 v14 S14 t14 => ?_⟩
      have W14 := W13.same S14
      refine cat_td (told_td W14.du) t14 (by decide) fun H15 v15 S15 t15 => ?_
      have W15 := W14.same S15
      try dsimp only
      show tRet _ _ [some (.ref p), some wv, some (.int sz), some (.int wd), some (.ref Dl), some v15, cv, some (.ref fp), some none, some (.ref wp), Option.none] H15
      refine ⟨.ref Dl, rfl, v15, rfl, ?_⟩
      refine eqD_of (told_td W15.tl) t15 (by decide +kernel) (by decide +kernel) (by decide +kernel) (by decide +kernel) ?_
      refine ⟨true, congrArg V.bl (by decide +kernel), ?_⟩
      rw [if_pos rfl]
      refine ⟨none, rfl, none, dn, rfl, td_ext W15.ex _ _ tn7, fun H16 S16 => ?_⟩
      rw [bad]
      refine ⟨false, rfl, true, rfl, ?_⟩
      rw [if_pos rfl]
      have W16 := W15.same S16
      refine ⟨.ref wp, rfl, .ref wp, _, rfl, tab_td (tab_ext W16.ex w7), fun H17 S17 => ?_⟩
      rw [wG]
      have W17 := W16.same S17
      refine k H17 (B7.trans (ButN.ext W17.ex)) ?_ W17.tb
      obtain ⟨x, y, z, h⟩ := hp7
      exact ⟨x, y, z, W17.ex _ _ h (fun _ e => by cases e)⟩
    · rintro i x σ H10 hx ⟨⟨cv, rfl⟩, hc10, W10⟩
      obtain ⟨hi, j, rfl⟩ := sq_at T hx
      obtain ⟨n1, n2⟩ := W10.tup hc10
      refine seq_of (tell_step (i := 4) "refused" "operation" rfl W10 (by rw [toldT_len]; omega) (fun H1 e1 => sq_tells (j := j) rfl (fun Q1 k1 => ⟨_, rfl, k1⟩) (tab_ext e1 w7) wG wN) fun H11 W11 b11 => ?_)
      refine due_step (i := 5) "refused" "operation" rfl W11 (by rw [toldT_len]; omega) fun H12 W12 b12 => ⟨⟨_, rfl⟩, b12 _ _ n2 (b11 _ _ n1 hc10 (fun _ z => by cases z)), ?_⟩
      rw [← toldT_succ]
      exact W12
  · rintro i x σ H9 hx ⟨⟨cv, rfl⟩, ha9, W9⟩
    obtain ⟨hi, j, rfl⟩ := four_at T hx
    obtain ⟨n1, n2⟩ := W9.tup ha9
    refine seq_of (tell_step (i := 4) "refused" "table" rfl W9 (by rw [List.length_replicate]; omega) (fun H1 e1 => four_tells (j := j) rfl (fun Q1 k1 => ⟨none, rfl, k1⟩) (td_ext e1 _ _ tn7) bad) fun H10 W10 b10 => ?_)
    refine due_step (i := 5) "refused" "table" rfl W10 (by rw [List.length_replicate]; omega) fun H11 W11 b11 => ⟨⟨_, rfl⟩, b11 _ _ n2 (b10 _ _ n1 ha9 (fun _ z => by cases z)), by rw [← rep_succ1]; exact W11⟩
end
end K02

set_option Elab.async false
set_option linter.all false
set_option maxRecDepth 100000
set_option maxHeartbeats 4000000
namespace K02
open PySem PySem.Spec PyProof.Rows L2 TT LamX
def greatG : List (List Int) := wideG 20 20
theorem great_ok : isTable (tabDa greatG) = true ∧ greatG.length = (greatG.getD 0 []).length ∧ undoM greatG = some true ∧ rankMinor greatG (greatG.getD 0 []).length = some (20, 1) := by decide +kernel
end K02

set_option Elab.async false
set_option linter.all false
set_option maxRecDepth 100000
set_option maxHeartbeats 4000000
namespace K02
open PySem PySem.Spec PyProof.Rows L2 TT LamX
local macro_rules | `(tactic| walk_at "ev") => `(tactic| simp only [L2.start, tRet, tRetN, tSeq, tNext, tNever, tDrop, tIfS, tAsg, tPar, gName, tVar, tC, tOp, tUn, tTest, tB, tAnd, tOr, tNot, tAndV, tOrV, tNotV, tIf, tChain, tCons, tNil, tTup, tLst, wipe, tBM, tSl, tPart, tNoPart, tCB, tCall, tCallS, tRaiseK, tKept, WE, rI0, rI, rU, rEq, rNe, rGcd, scal, gNil, gCons, gSub, Int.zero_sub,
  List.length_cons, List.length_nil, List.map_cons, List.map_nil, List.replicate, List.cons_append, List.nil_append, List.append_nil, List.set_cons_zero, List.set_cons_succ, List.set_nil, List.getElem?_cons_zero, List.getElem?_cons_succ, List.getElem?_nil, List.drop_zero, List.drop_succ_cons, List.drop_nil, List.length_drop,
  Option.some.injEq, V.int.injEq, V.bl.injEq, V.ref.injEq, List.cons.injEq, and_true, true_and, and_assoc, exists_and_left, exists_and_right, exists_eq_left, exists_eq_left', exists_eq', exists_eq, if_true, if_false, Bool.false_eq_true, ite_true, ite_false, eq_self, reduceCtorEq, szle0, szle1, szle2, szle3, szle4, szle5, szle6, szle8, szle13, false_and, and_false, exists_false, exists_const, or_false, false_or, Bool.true_and, Bool.false_and, Bool.and_true, Bool.and_false, decide_eq_true_eq, Bool.not_true, Bool.not_false, Bool.not_not, Nat.reduceAdd, Int.reduceNeg, Int.reduceToNat, Int.reducePow, Int.cast_ofNat_Int, Int.reduceEq, Int.reduceLT, Int.reduceLE, Int.reduceAdd, Int.reduceMul, Int.reduceSub, decide_true, decide_false, Bool.not_eq_true', decide_eq_false_iff_not, not_false_eq_true, not_true_eq_false])
local macro_rules | `(tactic| walk_at "go") => `(tactic| repeat (first | walk_at "ev" | (refine isi_int (by assumption) ?_) | (refine isi_bool (by assumption) ?_) | (refine isi_tup (by assumption) ?_) | (refine use_J (by assumption) ?_) | (refine use_J td_int ?_) | (refine tFor_rng ?_) | (refine tFor_list ?_) | (refine tFor_tup ?_) | (refine tLc_rng ?_) | (refine tLc_zip ?_) | (refine tLc_enum ?_) | (refine tLc_rng2 ?_) | (refine tFor_rng2 ?_) | (refine tupL_of (by assumption) ?_) | (refine lstL_of (by assumption) ?_) | (refine lstT_of (by assumption) ?_) | (refine tLc_list ?_) | (refine tLc_tup ?_) | (refine ixT_of (by assumption) rfl ?_) | (refine ixL_of (by assumption) rfl ?_) | (refine lenT_of (by assumption) ?_) | (refine lenL_of (by assumption) ?_) | (refine gtup_of (by assumption) rfl ?_) | (refine ⟨cmul (by assumption) (by assumption) (by decide), ?_⟩) | (refine ⟨Or.inl (by decide), ?_⟩) | (refine ⟨Or.inr (by decide), ?_⟩) | (refine ixL_of upd_same rfl ?_) | (refine setL_of (by assumption) (by rfl) ?_) | (refine ⟨(show CPow _ _ from ⟨by decide, by decide, by decide⟩), ?_⟩) | (refine ⟨(show _ ≤ sizeLine by decide), ?_⟩)))

theorem one_ok : isTable (tabDa [[999999999999999999999999999999999999999999999999999999999999]]) = true ∧ rankMinor [[999999999999999999999999999999999999999999999999999999999999]] 1 = some (1, 999999999999999999999999999999999999999999999999999999999999) := by decide +kernel
theorem nine_B : B 60 999999999999999999999999999999999999999999999999999999999999 ∧ B 100 999999999999999999999999999999999999999999999999999999999999 ∧ B 60 (-999999999999999999999999999999999999999999999999999999999999) := by unfold B; decide +kernel
theorem nine_0 : (999999999999999999999999999999999999999999999999999999999999 : Int) ≠ 0 ∧ (-999999999999999999999999999999999999999999999999999999999999 : Int) ≠ 0 := by decide +kernel
def told3 : List (Str × Str) := [(("let", "") : Str × Str)] ++ [(("let", "") : Str × Str)] ++ [(("let", "") : Str × Str)]
theorem told3_ok : (Da.lst (told3.map fun p => .tup [.str p.1, .str p.2])).flat = true ∧ (Da.lst (List.replicate 3 (.tup [.str "let", .str ""]))).flat = true ∧ SeqAt.shaped (Da.py (.lst (told3.map fun p => .tup [.str p.1, .str p.2]))) = true ∧ SeqAt.shaped (Da.py (.lst (List.replicate 3 (.tup [.str "let", .str ""])))) = true ∧
  PyData.eqv (Da.py (.lst (told3.map fun p => .tup [.str p.1, .str p.2]))) (Da.py (.lst (List.replicate 3 (.tup [.str "let", .str ""])))) = true := by decide +kernel
theorem great_len : greatG.length = 20 := by decide +kernel
theorem sql_ext {K : PySem.W.Frag} {H H' : Hp} {a : Addr} {xs : List V} (e : ExtN H H') (h : SqL K H a xs) : SqL K H' a xs := by
  rcases h with (h | ⟨o, h⟩) | h
  · exact .inl (.inl (e _ _ h (fun _ z => by cases z)))
  · exact .inl (.inr ⟨o, e _ _ h (fun _ z => by cases z)⟩)
  · exact .inr h
/-- one list that is being told, all that stood as before -/
structure One (Tb : List (Addr × Str)) (H7 : Hp) (Dl : Addr) (ps : List (Str × Str)) (H : Hp) : Prop where
  ex : ExtN H7 H
  tb : Tabs Tb H
  fl : H7 Dl = none
  tl : Told H Dl ps
theorem One.same {Tb : List (Addr × Str)} {H7 : Hp} {Dl : Addr} {ps : List (Str × Str)} {H H' : Hp} (t : One Tb H7 Dl ps H) (s : Same H H') : One Tb H7 Dl ps H' :=
  ⟨t.ex.trans (extN_of s), t.tb.ext s, t.fl, t.tl.ext (extN_of s)⟩
theorem tell1_step {K : PySem.W.Frag} {mg : Str → Option Value} {T : Txt K mg} {Tb : List (Addr × Str)} {t : XK → TE} {D : Ends} {σ : L2.St} {H H7 : Hp} {Dl : Addr} {ps : List (Str × Str)} {i : Nat} (a b : Str) (hσ : σ[i]? = some (some (.ref Dl))) (w : One Tb H7 Dl ps H) (hl : ps.length < 1000)
    (hc : ∀ H1, ExtN H7 H1 → Tells T (fun E H' Q' => t E σ H' Q') H1 a b) (k : ∀ H', One Tb H7 Dl (ps ++ [(a, b)]) H' → D.nx σ H') :
    tDrop (tBM K "list" rAppend (tVar i) (tCons (tLam Tb (TFault T) t) tNil)) D σ H :=
  app_of a b hσ w.tl w.tb hl (fun H1 e1 => hc H1 (w.ex.trans e1)) fun H' T' t' _ b' =>
    k H' ⟨fun c o h z => b' c o (fun e => by rw [e, w.fl] at h; cases h) (w.ex c o h z) z, t', w.fl, T'⟩
section
variable {P : Program} {w : World} {K : PySem.W.Frag} {mg : Str → Option Value} {base : Heap}
def sp_law (K : PySem.W.Frag) (Tb : List (Addr × Str)) : Sp := fun vs H Q _ => ∃ (a : Addr) (ns : List Int), vs = [.ref a] ∧ SqL K H a (ns.map V.int) ∧ ns.length ≤ 63 ∧ Tabs Tb H ∧ ∀ H', Q (.bl true) H'
theorem ok_law (T : Txt K mg) {Tb : List (Addr × Str)} (LTn : LTab K mg base Tb "_law_numbers_right" s__law_numbers_right T.a__law_numbers_right) (LTt : LTab K mg base Tb "_law_tables_right" s__law_tables_right T.a__law_tables_right) (LT : LTab K mg base Tb "law" s_law T.a_law) :
    FnG P w K mg base CX0 11 T.a_law T.d_law ["script"] (sp_law K Tb) := by
  have G__law_dice := ok__law_dice (P := P) (w := w) (base := base) T
  have G__law_tr_single := ok__law_tr_single (P := P) (w := w) (base := base) T
  have G__law_numbers_right := ok__law_numbers_right (P := P) (w := w) (base := base) T LTn
  have G__law_tables_right := ok__law_tables_right (P := P) (w := w) (base := base) T LTt
  have G_lowest := ok_lowest (P := P) (w := w) (base := base) T
  have G_undone := ok_undone (P := P) (w := w) (base := base) T
  have G_factors := ok_factors (P := P) (w := w) (base := base) T
  have G_determinant := ok_determinant (P := P) (w := w) (base := base) T
  refine TT.okG T.F_law sc_law (fun vs H Q E h => ?_) (fun cdv A0 outer0 s0 H0 vs Q E0 hcd lk hg hr h => ?_)
  · obtain ⟨a, ns, rfl, _⟩ := h
    rfl
  have hcode : cdv = .ref LT.c := by
    obtain ⟨oc, od, kV, doc, pm, an, ct, osl, lk⟩ := lk
    exact LT.code _ _ _ _ _ _ _ _ _ lk
  refine ⟨_, (pss_cons (ps_for PassesOwn.never rfl (pi_range1 rfl T.m_range (pa_cons (pe_callB (call_max2 rfl) (by rfl) T.m_max bt_max (pa_cons pe_int (pa_cons (pe_callB (call_min2 rfl) (by rfl) T.m_min bt_min (pa_cons pe_int (pa_cons (pe_callB call_lenN (by rfl) T.m_len bt_len (pa_cons (pv 0) pa_nil)) pa_nil))) pa_nil))) pa_nil)) (pg_name (i := 1) sc_law.nd rfl (Or.inl rfl)) (pss_cons (ps_set (i := 2) sc_law.nd rfl (Or.inl rfl) (pe_call (G__law_dice.mono (by decide)) hr (by rfl) T.g__law_dice T.k__law_dice T.b__law_dice .nil pass0 (pa_cons (pv 0) (pa_cons (pv 1) pa_nil))))
      (pss_one (ps_if (PW.pt (pw_or (pt_not (pt_val (pe_callG (G__law_numbers_right.mono (by decide)) hg hr (by rfl) T.g__law_numbers_right T.k__law_numbers_right T.b__law_numbers_right pass0 (pa_cons (pv 2) pa_nil)))) (pw_or1 (pt_not (pt_val (pe_callG (G__law_tables_right.mono (by decide)) hg hr (by rfl) T.g__law_tables_right T.k__law_tables_right T.b__law_tables_right pass0 (pa_cons (pv 2) pa_nil))))))) (pss_one (ps_ret pe_bl)) pss_nil))))
      (pss_cons (ps_set (i := 4) sc_law.nd rfl (Or.inr rfl) (pe_callTy call_tupleN (by rfl) T.m_tuple bt_tuple (pa_cons (pe_lc (own := [("at", 5)]) (g := gName 5) (tt := tYes) rfl sc_law.nd (pi_range1 rfl T.m_range (pa_cons pe_int pa_nil)) (blkOk_by (N := ["script", "spot", "dice", "told", "great", "at"]) (sc := defScope s_law) (by decide +kernel)) (fun _ _ _ _ _ => (pg_name (i := 5) sc_law.nd rfl (Or.inl rfl))) (fun _ _ _ _ _ => pts_nil) (fun _ _ _ _ _ => (pe_call (G__law_tr_single.mono (by decide)) hr (by rfl) T.g__law_tr_single T.k__law_tr_single T.b__law_tr_single .nil pass0 (pa_cons pe_int (pa_cons (pv 5) pa_nil))))) pa_nil)))
      (pss_cons (ps_set (i := 3) sc_law.nd rfl (Or.inl rfl) (pe_lst (pa_cons (pe_fault (X := (cxOf CX0 P w K mg base ["script", "spot", "dice", "told", "great", "at"] "law" (defScope s_law) T.a_law cdv A0 outer0 s0 H0 E0).nox) T hg (by rfl) LT.TB hcode LT.mem LT.uniq hr (by show lamSB (defScope s_law) _ = true; decide +kernel) (by rfl) (fun _ _ _ _ _ => by rfl) (fun A outer s H E f c' hr => (pe_callS (G_undone.mono (by decide)) hr (by rfl) T.g_undone T.k_undone T.b_undone (fun σ => passAt (takes_of rfl rfl rfl rfl) σ) (pa_cons (pv 4) pa_nil)))) pa_nil)))
      (pss_cons (ps_expr (pe_bm PySem.F.plainAttrs_list PySem.F.slot_list_append PySem.F.type_list_append mt_append (pv 3) (pa_cons (pe_fault (X := (cxOf CX0 P w K mg base ["script", "spot", "dice", "told", "great", "at"] "law" (defScope s_law) T.a_law cdv A0 outer0 s0 H0 E0).nox) T hg (by rfl) LT.TB hcode LT.mem LT.uniq hr (by show lamSB (defScope s_law) _ = true; decide +kernel) (by rfl) (fun _ _ _ _ _ => by rfl) (fun A outer s H E f c' hr => (pe_callS (G_factors.mono (by decide)) hr (by rfl) T.g_factors T.k_factors T.b_factors (fun σ => passAt (takes_of rfl rfl rfl rfl) σ) (pa_cons (pe_tup (pa_cons (pe_tup (pa_cons (pe_op op_sub (pe_op op_pow pe_int pe_int) pe_int) pa_nil)) pa_nil)) pa_nil)))) pa_nil)))
      (pss_cons (ps_expr (pe_bm PySem.F.plainAttrs_list PySem.F.slot_list_append PySem.F.type_list_append mt_append (pv 3) (pa_cons (pe_fault (X := (cxOf CX0 P w K mg base ["script", "spot", "dice", "told", "great", "at"] "law" (defScope s_law) T.a_law cdv A0 outer0 s0 H0 E0).nox) T hg (by rfl) LT.TB hcode LT.mem LT.uniq hr (by show lamSB (defScope s_law) _ = true; decide +kernel) (by rfl) (fun _ _ _ _ _ => by rfl) (fun A outer s H E f c' hr => (pe_callS (G_lowest.mono (by decide)) hr (by rfl) T.g_lowest T.k_lowest T.b_lowest (fun σ => passAt (takes_of rfl rfl rfl rfl) σ) (pa_cons pe_int (pa_cons (pe_op op_sub pe_int (pe_op op_pow pe_int pe_int)) pa_nil))))) pa_nil)))
      (pss_one (ps_ret (pe_and (pe_cmpR (op_eqD (hu64 hr)) (pv 3) (pe_op op_rep (pe_lst (pa_cons (pe_tup (pa_cons pe_str (pa_cons pe_str pa_nil))) pa_nil)) pe_int) (nomark _)) (pe_and (pe_cmpR op_eq (pe_glob (v := V.int (20)) rfl T.m_MAX_SIDE ⟨_, rfl⟩) pe_int (nomark _)) (pe_one (pe_cmpR op_eq (pe_call (G_determinant.mono (by decide)) hr (by rfl) T.g_determinant T.k_determinant T.b_determinant .nil TT.passNo (pa_cons (pv 4) pa_nil)) pe_int (nomark _)))))))))))), ?_⟩
  obtain ⟨a, ns, rfl, hS, hn, ht, k⟩ := h
  walk_at "go"
  refine lenS_of hS ?_
  rw [List.length_map]
  have hM : 1 ≤ (if (if ((ns.length : Nat) : Int) < 4 then ((ns.length : Nat) : Int) else 4) > 1 then (if ((ns.length : Nat) : Int) < 4 then ((ns.length : Nat) : Int) else 4) else 1) ∧ (if (if ((ns.length : Nat) : Int) < 4 then ((ns.length : Nat) : Int) else 4) > 1 then (if ((ns.length : Nat) : Int) < 4 then ((ns.length : Nat) : Int) else 4) else 1) ≤ 4 := by
    split <;> split <;> omega
  refine ⟨_, rfl, ?_, ?_, ?_⟩
  · exact Int.le_trans (by decide) hM.1
  · exact Int.lt_of_le_of_lt hM.2 (by decide)
  generalize (if (if ((ns.length : Nat) : Int) < 4 then ((ns.length : Nat) : Int) else 4) > 1 then (if ((ns.length : Nat) : Int) < 4 then ((ns.length : Nat) : Int) else 4) else 1) = M
  clear hM
  refine loop_rng (fun _ σ H' => (∃ y z, σ = [some (.ref a), y, z, none, none, none]) ∧ SqL K H' a (ns.map V.int) ∧ Tabs Tb H') ⟨⟨_, _, rfl⟩, hS, ht⟩ ?_ ?_
  · rintro σ H1 ⟨⟨y, z, rfl⟩, hS1, ht1⟩
    clear hS ht
    try dsimp only
    show tSeq (tAsg _ _) _ _ [some (.ref a), y, z, Option.none, Option.none, Option.none] H1
    refine seqN_of (via (fun x H' => ∃ gp, x = .ref gp ∧ Same H1 H' ∧ TabAt H' gp greatG) (fun Q2 k2 => ?_) (fun x H6 ⟨gp, e6, S6, t6⟩ => ?_))
    · walk_at "go"
      refine lc_rngL (n := 20) (fun i H v => ∃ q, v = .ref q ∧ H q = some (.tup ((single 20 i).map V.int))) (by decide) (fun x => by simp [wipe]) (fun i D H H' v ⟨acc, ha⟩ b n ⟨q, e, h⟩ => ⟨q, e, b _ _ (fun z => n (by rw [e, z])) h⟩) (fun i D H' hi hD hd S K' k' => ?_) (fun D H' acc hD S ha hl hP => ?_)
      · walk_at "go"
        refine ⟨20, i, rfl, by decide, fun H6 q S6 h6 => k' _ _ S6 (fun z => ?_) ⟨q, rfl, h6⟩⟩
        cases z
        obtain ⟨o, ho⟩ := hd
        rw [S6 _ _ ho] at h6
        cases h6
      · walk_at "go"
        refine fun q hq => k2 _ _ ⟨q, rfl, S.trans (same_upd hq), tab_of upd_same (by rw [hl]; rfl) fun i v e hi => ?_⟩
        obtain ⟨q2, e2, h2⟩ := hP i v e
        have hi : i < 20 := hi
        unfold greatG
        rw [wideG_at hi]
        exact ⟨q2, e2, same_upd hq _ _ h2⟩
    subst e6
    have ht6 := ht1.ext S6
    try dsimp only
    show tSeq (tAsg _ _) _ _ [some (.ref a), y, z, Option.none, some (.ref gp), Option.none] H6
    refine seqN_of ⟨ht6, fun H7 e7 t7 => ?_⟩
    refine und_lets (fun Q1 k1 => ⟨_, rfl, k1⟩) (tab_ext e7 t6) great_ok.1 great_ok.2.1 great_ok.2.2.1 _ fun H8 v8 S8 t8 => ⟨(by rw [sizeLine_eq]; exact (by decide : 1 ≤ 16777216)), fun Dl hDl => ?_⟩
    have W9 : One Tb H8 Dl [("let", "")] (upd H8 Dl (.lst [v8])) := ⟨extN_of (same_upd hDl), (t7.ext S8).ext (same_upd hDl), hDl, told_one hDl t8⟩
    have t68 := (tab_ext e7 t6).same S8
    generalize upd H8 Dl (.lst [v8]) = H9 at W9 ⊢
    try dsimp only
    show tSeq (tDrop _) _ _ [some (.ref a), y, z, some (.ref Dl), some (.ref gp), Option.none] H9
    refine seq_of (tell1_step (i := 3) "let" "" rfl W9 (by simp) (fun H1 e1 => fac_lets (z := 999999999999999999999999999999999999999999999999999999999999) (m := 999999999999999999999999999999999999999999999999999999999999) (fun Q1 k1 => ?_) one_ok.1 one_ok.2 nine_0.1 nine_B.2.1) fun H10 W10 => ?_)
    · walk_at "go"
      exact fun p1 h1 p2 h2 => k1 _ _ ((same_upd h1).trans (same_upd h2)) (tab_of upd_same rfl fun i v e hi => by
        obtain rfl : i = 0 := by simpa using hi
        obtain rfl : V.ref p1 = v := by simpa using e
        exact ⟨p1, rfl, same_upd h2 _ _ upd_same⟩)
    try dsimp only
    show tSeq (tDrop _) _ _ [some (.ref a), y, z, some (.ref Dl), some (.ref gp), Option.none] H10
    refine seq_of (tell1_step (i := 3) "let" "" rfl W10 (by simp) (fun H1 e1 => low_lets (t := 0) (b := -999999999999999999999999999999999999999999999999999999999999) (fun Q1 k1 => ?_) nine_0.2 (B60s (by decide)) nine_B.2.2) fun H11 W11 => ?_)
    · walk_at "go"
      exact k1
    try dsimp only
    show tRet _ _ [some (.ref a), y, z, some (.ref Dl), some (.ref gp), Option.none] H11
    refine ⟨.ref Dl, rfl, rd_of (rep_rd (n := 3) (rd_lst (rds_cons (rd_tup (rds_cons rd_str (rds_cons rd_str rds_nil)) (by decide)) rds_nil) (by decide)) (by decide)) fun H12 v12 S12 t12 => ?_⟩
    have W12 := W11.same S12
    replace W12 : One Tb H8 Dl told3 H12 := W12
    refine eqD_of (told_td W12.tl) t12 told3_ok.1 told3_ok.2.1 told3_ok.2.2.1 told3_ok.2.2.2.1 ?_
    refine ⟨true, congrArg V.bl told3_ok.2.2.2.2, ?_⟩
    rw [if_pos rfl]
    refine ⟨rfl, true, congrArg V.bl (decide_eq_true rfl), ?_⟩
    rw [if_pos rfl]
    refine ⟨.ref gp, rfl, _, rfl, .inr ⟨gp, greatG, rfl, tab_ext W12.ex t68, great_ok.1, .inr ⟨great_ok.2.1, 20, 1, great_ok.2.2.2, fun H13 S13 => ?_⟩⟩⟩
    refine ⟨rfl, ?_⟩
    have e : (if ((20 : Nat) : Int) = ((greatG.length : Nat) : Int) then (1 : Int) else 0) = 1 := by rw [great_len, if_pos rfl]
    exact (congrArg (fun z : Int => Q (.bl (decide (V.int z = V.int 1))) H13) e).mpr (k H13)
  · rintro i σ H1 _ ⟨⟨y, z, rfl⟩, hS1, ht1⟩
    walk_at "go"
    refine ⟨a, ns, _, rfl, hS1, by omega, fun p H2 np S2 d2 => ?_⟩
    refine ⟨p, rfl, d2, ht1.ext S2, fun H3 b3 d3 t3 => ?_⟩
    walk_at "go"
    refine ⟨p, rfl, d3, t3, fun H4 b4 d4 t4 => ?_⟩
    walk_at "go"
    have e : ExtN H1 H4 := fun c o h z => (b3.trans b4) c o (fun e => by rw [e, np] at h; cases h) (S2 _ _ h) z
    exact ⟨sql_ext e hS1, t4⟩
end
end K02

set_option Elab.async false
set_option linter.all false
set_option maxRecDepth 100000
set_option maxHeartbeats 0
namespace K02
open PySem PySem.Spec PyProof.Rows L2 TT LamX
def initS (i : Nat) : Stmt := match topS i with
  | .ClassDef (body := b) .. => b.getD 0 (.Pass ⟨0, 0, 0, 0⟩)
  | s => s
def fnL : List He.DefD := ([dD "is_whole" s_is_whole, dD "ratio" s_ratio, dD "is_ratio" s_is_ratio, dD "pair_of" s_pair_of, dD "ratio_sum" s_ratio_sum, dD "ratio_difference" s_ratio_difference, dD "ratio_product" s_ratio_product, dD "ratio_quotient" s_ratio_quotient, dD "is_integer" s_is_integer, dD "is_fraction" s_is_fraction, dD "is_number" s_is_number, dD "lowest" s_lowest, dD "plus" s_plus, dD "minus" s_minus, dD "times" s_times, dD "over" s_over, dD "compare" s_compare, dD "floor_of" s_floor_of, dD "rest_of" s_rest_of, dD "_pair" s__pair, dD "rank_and_minor" s_rank_and_minor, dD "_first_spot" s__first_spot, dD "_exchanged" s__exchanged, dD "_lessened" s__lessened, dD "determinant_of_rows" s_determinant_of_rows, dD "_unit_row" s__unit_row, dD "undone_rows" s_undone_rows, dD "factors_of_rows" s_factors_of_rows, dD "_with_clear_cross" s__with_clear_cross, dD "_with_clear_column" s__with_clear_column] : List He.DefD) ++ ([dD "_mixed" s__mixed, dD "_shared_divisor" s__shared_divisor, dD "_divisor_chain" s__divisor_chain, dD "is_table" s_is_table, dD "_is_table_row" s__is_table_row, dD "rank" s_rank, dD "factors" s_factors, dD "determinant" s_determinant, dD "undone" s_undone, dD "_check_table" s__check_table, dD "_check_square" s__check_square, dD "_law_dice" s__law_dice, dD "_law_roll" s__law_roll, dD "_law_pick" s__law_pick, dD "_law_tr_single" s__law_tr_single, dD "_law_fault" s__law_fault, dD "_law_numbers_right" s__law_numbers_right, dD "_law_tables_right" s__law_tables_right, dD "law" s_law, dI "InvalidNumber" (initS 16), dI "Refused" (initS 17)] : List He.DefD)
def faL : List He.Fa := ([.glo "is_whole", .glo "ratio", .glo "is_ratio", .glo "pair_of", .glo "ratio_sum", .glo "ratio_difference", .glo "ratio_product", .glo "ratio_quotient", .glo "is_integer", .glo "is_fraction", .glo "is_number", .glo "lowest", .glo "plus", .glo "minus", .glo "times", .glo "over", .glo "compare", .glo "floor_of", .glo "rest_of", .glo "_pair", .glo "rank_and_minor", .glo "_first_spot", .glo "_exchanged", .glo "_lessened", .glo "determinant_of_rows", .glo "_unit_row", .glo "undone_rows", .glo "factors_of_rows", .glo "_with_clear_cross", .glo "_with_clear_column"] : List He.Fa) ++ ([.glo "_mixed", .glo "_shared_divisor", .glo "_divisor_chain", .glo "is_table", .glo "_is_table_row", .glo "rank", .glo "factors", .glo "determinant", .glo "undone", .glo "_check_table", .glo "_check_square", .glo "_law_dice", .glo "_law_roll", .glo "_law_pick", .glo "_law_tr_single", .glo "_law_fault", .glo "_law_numbers_right", .glo "_law_tables_right", .glo "law", .glo "InvalidTable", .glo "InvalidFraction", .glo "InvalidOperation", .glo "InvalidNumber", .glo "Refused", .free "abs", .free "all", .free "any", .free "bool", .free "enumerate", .free "int"] : List He.Fa) ++ ([.free "isinstance", .free "len", .free "list", .free "max", .free "min", .free "range", .free "repr", .free "tuple", .free "zip", .int "_TOO_LONG" (1000000000000000000000000000000000000000000000000000000000000), .int "MAX_SIDE" (20)] : List He.Fa)
def lamL : List LamD := [("_law_numbers_right", s__law_numbers_right), ("_law_tables_right", s__law_tables_right), ("law", s_law)]
def tfL : List He.Defn := lamL.map fun d => (d.1, none)
def exL (K : PySem.W.Frag) : Bool := [He.eqO (PySem.W.nsIn K mainGlobals "gcd") (some (some (.builtin "math.gcd"))),
  excB "InvalidTable" [.type "ValueError", .type "Exception", .type "BaseException", .type "object"] "ValueError.__new__" K,
  excB "InvalidFraction" [.type "ValueError", .type "Exception", .type "BaseException", .type "object"] "ValueError.__new__" K,
  excB "InvalidOperation" [.type "ValueError", .type "Exception", .type "BaseException", .type "object"] "ValueError.__new__" K,
  keepB "InvalidNumber" "given" [.type "IndexError", .type "LookupError", .type "Exception", .type "BaseException", .type "object"] "IndexError.__new__" K,
  keepB "Refused" "reason" [.type "ArithmeticError", .type "Exception", .type "BaseException", .type "object"] "ArithmeticError.__new__" K,
  exmB ["InvalidFraction", "InvalidTable", "InvalidOperation", "InvalidNumber", "Refused"] K,
  apartB lamL K].all id
def looseL : List Str := (["is_whole", "ratio", "is_ratio", "pair_of", "ratio_sum", "ratio_difference", "ratio_product", "ratio_quotient", "TreeError", "InvalidTable", "InvalidFraction", "InvalidOperation", "InvalidNumber", "Refused", "_TOO_LONG", "is_integer", "is_fraction", "is_number", "lowest", "plus", "minus", "times", "over", "compare", "floor_of", "rest_of", "_pair", "rank_and_minor", "_first_spot", "_exchanged"] : List Str) ++ (["_lessened", "determinant_of_rows", "_unit_row", "undone_rows", "factors_of_rows", "_with_clear_cross", "_with_clear_column", "_mixed", "_shared_divisor", "_divisor_chain", "MAX_SIDE", "is_table", "_is_table_row", "rank", "factors", "determinant", "undone", "_check_table", "_check_square", "_law_dice", "_law_roll", "_law_pick", "_law_tr_single", "_law_fault", "_law_numbers_right", "_law_tables_right"] : List Str)
abbrev R : PySem.W.OpenRow := PySem.W.OpenLaw.row PySem.Challenge.rw_tametrees_k02_errors_of_fractions_and_ta
abbrev hk : PySem.W.Hook := He.hookX 6 faL fnL [] tfL exL
def ob (s : PySem.W.SharedT) : He.AlX := He.obsX 6 faL fnL [] tfL exL (HandSHeadRun.getT s)
theorem ob_eq (s : PySem.W.SharedT) : ob s = hk.obs s.abs := He.obsX_eq (fun a => HandSHeadRun.getT_eq s a)
theorem run (w : World) : HandSHeadRun.RunEqI R (PySem.W.view R.prog [0, 64]) hk ob 20000 looseL w := by
  unfold HandSHeadRun.RunEqI
  kernel_rfl
end K02

set_option Elab.async false
set_option linter.all false
set_option maxRecDepth 100000
set_option maxHeartbeats 0
namespace K02
open PySem PySem.Spec PyProof.Rows L2 TT LamX
theorem facts {l : PySem.W.OpenLaw} {w : World} {K : PySem.W.Frag} {h : Heap} {mg : Str → Option Value} {f : Addr} (X : K.In h) (G : h.Ns mainGlobals mg) (hfa : mg ("law" : Str) = some (.ref f)) (c : He.SaysX faL fnL [] tfL exL w h K) :
    LawG l w K CX0 11 63 "script" mg f h := by
  have d := c.t.d
  have ex := List.all_eq_true.mp c.more
  have exi : ∀ i : Nat, ∀ b, (([He.eqO (PySem.W.nsIn K mainGlobals "gcd") (some (some (.builtin "math.gcd"))),
    excB "InvalidTable" [.type "ValueError", .type "Exception", .type "BaseException", .type "object"] "ValueError.__new__" K,
    excB "InvalidFraction" [.type "ValueError", .type "Exception", .type "BaseException", .type "object"] "ValueError.__new__" K,
    excB "InvalidOperation" [.type "ValueError", .type "Exception", .type "BaseException", .type "object"] "ValueError.__new__" K,
    keepB "InvalidNumber" "given" [.type "IndexError", .type "LookupError", .type "Exception", .type "BaseException", .type "object"] "IndexError.__new__" K,
    keepB "Refused" "reason" [.type "ArithmeticError", .type "Exception", .type "BaseException", .type "object"] "ArithmeticError.__new__" K,
    exmB ["InvalidFraction", "InvalidTable", "InvalidOperation", "InvalidNumber", "Refused"] K,
    apartB lamL K] : List Bool)[i]? = some b) → b = true := fun i b hb => ex b (List.mem_of_getElem? hb)
  obtain ⟨E_InvalidTable, e_InvalidTable⟩ := ExcT.of (x := "InvalidTable") (bmB := [.type "ValueError", .type "Exception", .type "BaseException", .type "object"]) (newId := "ValueError.__new__") X G d 49 (exi 1 _ rfl)
  obtain ⟨E_InvalidFraction, e_InvalidFraction⟩ := ExcT.of (x := "InvalidFraction") (bmB := [.type "ValueError", .type "Exception", .type "BaseException", .type "object"]) (newId := "ValueError.__new__") X G d 50 (exi 2 _ rfl)
  obtain ⟨E_InvalidOperation, e_InvalidOperation⟩ := ExcT.of (x := "InvalidOperation") (bmB := [.type "ValueError", .type "Exception", .type "BaseException", .type "object"]) (newId := "ValueError.__new__") X G d 51 (exi 3 _ rfl)
  obtain ⟨E_InvalidNumber, e_InvalidNumber⟩ := KeepT.of (cn := "InvalidNumber") (x := "given") (st := initS 16) (bmB := [.type "IndexError", .type "LookupError", .type "Exception", .type "BaseException", .type "object"]) (newId := "IndexError.__new__") X G d 49 52 (exi 4 _ rfl) ⟨_, _, _, _, _, _, rfl, rfl, rfl⟩
  obtain ⟨E_Refused, e_Refused⟩ := KeepT.of (cn := "Refused") (x := "reason") (st := initS 17) (bmB := [.type "ArithmeticError", .type "Exception", .type "BaseException", .type "object"]) (newId := "ArithmeticError.__new__") X G d 50 53 (exi 5 _ rfl) ⟨_, _, _, _, _, _, rfl, rfl, rfl⟩
  have exm : ExmAll K [E_InvalidFraction.c, E_InvalidTable.c, E_InvalidOperation.c, E_InvalidNumber.c, E_Refused.c] := by
    rw [e_InvalidFraction, e_InvalidTable, e_InvalidOperation, e_InvalidNumber, e_Refused]
    exact ExmAll.of (xs := ["InvalidFraction", "InvalidTable", "InvalidOperation", "InvalidNumber", "Refused"]) (exi 6 _ rfl)
  obtain ⟨t__TOO_LONG, m__TOO_LONG⟩ := He.int_ok X G (d.fact 69 (f := .int "_TOO_LONG" (1000000000000000000000000000000000000000000000000000000000000)) rfl)
  obtain ⟨t_MAX_SIDE, m_MAX_SIDE⟩ := He.int_ok X G (d.fact 70 (f := .int "MAX_SIDE" (20)) rfl)
  have B_is_whole := fun (kV doc pm : Value) (an : Option Addr) (cdv ct : Value) (us : List Value) (hl : us.length = (["value"] : List Str).length) => (match us, hl with | [_], _ => rfl : bindArgs (PySem.W.fnOf "is_whole" "is_whole" (defArgs s_is_whole) (defBody s_is_whole) (defScope s_is_whole) .none kV doc pm an cdv ct) ⟨us, []⟩ = pure ((["value"] : List Str).zip us))
  have B_ratio := fun (kV doc pm : Value) (an : Option Addr) (cdv ct : Value) (us : List Value) (hl : us.length = (["top", "bottom"] : List Str).length) => (match us, hl with | [_, _], _ => rfl : bindArgs (PySem.W.fnOf "ratio" "ratio" (defArgs s_ratio) (defBody s_ratio) (defScope s_ratio) .none kV doc pm an cdv ct) ⟨us, []⟩ = pure ((["top", "bottom"] : List Str).zip us))
  have B_is_ratio := fun (kV doc pm : Value) (an : Option Addr) (cdv ct : Value) (us : List Value) (hl : us.length = (["value"] : List Str).length) => (match us, hl with | [_], _ => rfl : bindArgs (PySem.W.fnOf "is_ratio" "is_ratio" (defArgs s_is_ratio) (defBody s_is_ratio) (defScope s_is_ratio) .none kV doc pm an cdv ct) ⟨us, []⟩ = pure ((["value"] : List Str).zip us))
  have B_pair_of := fun (kV doc pm : Value) (an : Option Addr) (cdv ct : Value) (us : List Value) (hl : us.length = (["number"] : List Str).length) => (match us, hl with | [_], _ => rfl : bindArgs (PySem.W.fnOf "pair_of" "pair_of" (defArgs s_pair_of) (defBody s_pair_of) (defScope s_pair_of) .none kV doc pm an cdv ct) ⟨us, []⟩ = pure ((["number"] : List Str).zip us))
  have B_ratio_sum := fun (kV doc pm : Value) (an : Option Addr) (cdv ct : Value) (us : List Value) (hl : us.length = (["one", "other"] : List Str).length) => (match us, hl with | [_, _], _ => rfl : bindArgs (PySem.W.fnOf "ratio_sum" "ratio_sum" (defArgs s_ratio_sum) (defBody s_ratio_sum) (defScope s_ratio_sum) .none kV doc pm an cdv ct) ⟨us, []⟩ = pure ((["one", "other"] : List Str).zip us))
  have B_ratio_difference := fun (kV doc pm : Value) (an : Option Addr) (cdv ct : Value) (us : List Value) (hl : us.length = (["one", "other"] : List Str).length) => (match us, hl with | [_, _], _ => rfl : bindArgs (PySem.W.fnOf "ratio_difference" "ratio_difference" (defArgs s_ratio_difference) (defBody s_ratio_difference) (defScope s_ratio_difference) .none kV doc pm an cdv ct) ⟨us, []⟩ = pure ((["one", "other"] : List Str).zip us))
  have B_ratio_product := fun (kV doc pm : Value) (an : Option Addr) (cdv ct : Value) (us : List Value) (hl : us.length = (["one", "other"] : List Str).length) => (match us, hl with | [_, _], _ => rfl : bindArgs (PySem.W.fnOf "ratio_product" "ratio_product" (defArgs s_ratio_product) (defBody s_ratio_product) (defScope s_ratio_product) .none kV doc pm an cdv ct) ⟨us, []⟩ = pure ((["one", "other"] : List Str).zip us))
  have B_ratio_quotient := fun (kV doc pm : Value) (an : Option Addr) (cdv ct : Value) (us : List Value) (hl : us.length = (["one", "other"] : List Str).length) => (match us, hl with | [_, _], _ => rfl : bindArgs (PySem.W.fnOf "ratio_quotient" "ratio_quotient" (defArgs s_ratio_quotient) (defBody s_ratio_quotient) (defScope s_ratio_quotient) .none kV doc pm an cdv ct) ⟨us, []⟩ = pure ((["one", "other"] : List Str).zip us))
  have B_is_integer := fun (kV doc pm : Value) (an : Option Addr) (cdv ct : Value) (us : List Value) (hl : us.length = (["value"] : List Str).length) => (match us, hl with | [_], _ => rfl : bindArgs (PySem.W.fnOf "is_integer" "is_integer" (defArgs s_is_integer) (defBody s_is_integer) (defScope s_is_integer) .none kV doc pm an cdv ct) ⟨us, []⟩ = pure ((["value"] : List Str).zip us))
  have B_is_fraction := fun (kV doc pm : Value) (an : Option Addr) (cdv ct : Value) (us : List Value) (hl : us.length = (["value"] : List Str).length) => (match us, hl with | [_], _ => rfl : bindArgs (PySem.W.fnOf "is_fraction" "is_fraction" (defArgs s_is_fraction) (defBody s_is_fraction) (defScope s_is_fraction) .none kV doc pm an cdv ct) ⟨us, []⟩ = pure ((["value"] : List Str).zip us))
  have B_is_number := fun (kV doc pm : Value) (an : Option Addr) (cdv ct : Value) (us : List Value) (hl : us.length = (["value"] : List Str).length) => (match us, hl with | [_], _ => rfl : bindArgs (PySem.W.fnOf "is_number" "is_number" (defArgs s_is_number) (defBody s_is_number) (defScope s_is_number) .none kV doc pm an cdv ct) ⟨us, []⟩ = pure ((["value"] : List Str).zip us))
  have B_lowest := fun (kV doc pm : Value) (an : Option Addr) (cdv ct : Value) (us : List Value) (hl : us.length = (["top", "bottom"] : List Str).length) => (match us, hl with | [_, _], _ => rfl : bindArgs (PySem.W.fnOf "lowest" "lowest" (defArgs s_lowest) (defBody s_lowest) (defScope s_lowest) .none kV doc pm an cdv ct) ⟨us, []⟩ = pure ((["top", "bottom"] : List Str).zip us))
  have B_plus := fun (kV doc pm : Value) (an : Option Addr) (cdv ct : Value) (us : List Value) (hl : us.length = (["one", "other"] : List Str).length) => (match us, hl with | [_, _], _ => rfl : bindArgs (PySem.W.fnOf "plus" "plus" (defArgs s_plus) (defBody s_plus) (defScope s_plus) .none kV doc pm an cdv ct) ⟨us, []⟩ = pure ((["one", "other"] : List Str).zip us))
  have B_minus := fun (kV doc pm : Value) (an : Option Addr) (cdv ct : Value) (us : List Value) (hl : us.length = (["one", "other"] : List Str).length) => (match us, hl with | [_, _], _ => rfl : bindArgs (PySem.W.fnOf "minus" "minus" (defArgs s_minus) (defBody s_minus) (defScope s_minus) .none kV doc pm an cdv ct) ⟨us, []⟩ = pure ((["one", "other"] : List Str).zip us))
  have B_times := fun (kV doc pm : Value) (an : Option Addr) (cdv ct : Value) (us : List Value) (hl : us.length = (["one", "other"] : List Str).length) => (match us, hl with | [_, _], _ => rfl : bindArgs (PySem.W.fnOf "times" "times" (defArgs s_times) (defBody s_times) (defScope s_times) .none kV doc pm an cdv ct) ⟨us, []⟩ = pure ((["one", "other"] : List Str).zip us))
  have B_over := fun (kV doc pm : Value) (an : Option Addr) (cdv ct : Value) (us : List Value) (hl : us.length = (["one", "other"] : List Str).length) => (match us, hl with | [_, _], _ => rfl : bindArgs (PySem.W.fnOf "over" "over" (defArgs s_over) (defBody s_over) (defScope s_over) .none kV doc pm an cdv ct) ⟨us, []⟩ = pure ((["one", "other"] : List Str).zip us))
  have B_compare := fun (kV doc pm : Value) (an : Option Addr) (cdv ct : Value) (us : List Value) (hl : us.length = (["one", "other"] : List Str).length) => (match us, hl with | [_, _], _ => rfl : bindArgs (PySem.W.fnOf "compare" "compare" (defArgs s_compare) (defBody s_compare) (defScope s_compare) .none kV doc pm an cdv ct) ⟨us, []⟩ = pure ((["one", "other"] : List Str).zip us))
  have B_floor_of := fun (kV doc pm : Value) (an : Option Addr) (cdv ct : Value) (us : List Value) (hl : us.length = (["number"] : List Str).length) => (match us, hl with | [_], _ => rfl : bindArgs (PySem.W.fnOf "floor_of" "floor_of" (defArgs s_floor_of) (defBody s_floor_of) (defScope s_floor_of) .none kV doc pm an cdv ct) ⟨us, []⟩ = pure ((["number"] : List Str).zip us))
  have B_rest_of := fun (kV doc pm : Value) (an : Option Addr) (cdv ct : Value) (us : List Value) (hl : us.length = (["number"] : List Str).length) => (match us, hl with | [_], _ => rfl : bindArgs (PySem.W.fnOf "rest_of" "rest_of" (defArgs s_rest_of) (defBody s_rest_of) (defScope s_rest_of) .none kV doc pm an cdv ct) ⟨us, []⟩ = pure ((["number"] : List Str).zip us))
  have B__pair := fun (kV doc pm : Value) (an : Option Addr) (cdv ct : Value) (us : List Value) (hl : us.length = (["value"] : List Str).length) => (match us, hl with | [_], _ => rfl : bindArgs (PySem.W.fnOf "_pair" "_pair" (defArgs s__pair) (defBody s__pair) (defScope s__pair) .none kV doc pm an cdv ct) ⟨us, []⟩ = pure ((["value"] : List Str).zip us))
  have B_rank_and_minor := fun (kV doc pm : Value) (an : Option Addr) (cdv ct : Value) (us : List Value) (hl : us.length = (["rows"] : List Str).length) => (match us, hl with | [_], _ => rfl : bindArgs (PySem.W.fnOf "rank_and_minor" "rank_and_minor" (defArgs s_rank_and_minor) (defBody s_rank_and_minor) (defScope s_rank_and_minor) .none kV doc pm an cdv ct) ⟨us, []⟩ = pure ((["rows"] : List Str).zip us))
  have B__first_spot := fun (kV doc pm : Value) (an : Option Addr) (cdv ct : Value) (us : List Value) (hl : us.length = (["rows", "at"] : List Str).length) => (match us, hl with | [_, _], _ => rfl : bindArgs (PySem.W.fnOf "_first_spot" "_first_spot" (defArgs s__first_spot) (defBody s__first_spot) (defScope s__first_spot) .none kV doc pm an cdv ct) ⟨us, []⟩ = pure ((["rows", "at"] : List Str).zip us))
  have B__exchanged := fun (kV doc pm : Value) (an : Option Addr) (cdv ct : Value) (us : List Value) (hl : us.length = (["values", "one", "other"] : List Str).length) => (match us, hl with | [_, _, _], _ => rfl : bindArgs (PySem.W.fnOf "_exchanged" "_exchanged" (defArgs s__exchanged) (defBody s__exchanged) (defScope s__exchanged) .none kV doc pm an cdv ct) ⟨us, []⟩ = pure ((["values", "one", "other"] : List Str).zip us))
  have B__lessened := fun (kV doc pm : Value) (an : Option Addr) (cdv ct : Value) (us : List Value) (hl : us.length = (["row", "top", "at", "last"] : List Str).length) => (match us, hl with | [_, _, _, _], _ => rfl : bindArgs (PySem.W.fnOf "_lessened" "_lessened" (defArgs s__lessened) (defBody s__lessened) (defScope s__lessened) .none kV doc pm an cdv ct) ⟨us, []⟩ = pure ((["row", "top", "at", "last"] : List Str).zip us))
  have B_determinant_of_rows := fun (kV doc pm : Value) (an : Option Addr) (cdv ct : Value) (us : List Value) (hl : us.length = (["rows"] : List Str).length) => (match us, hl with | [_], _ => rfl : bindArgs (PySem.W.fnOf "determinant_of_rows" "determinant_of_rows" (defArgs s_determinant_of_rows) (defBody s_determinant_of_rows) (defScope s_determinant_of_rows) .none kV doc pm an cdv ct) ⟨us, []⟩ = pure ((["rows"] : List Str).zip us))
  have B__unit_row := fun (kV doc pm : Value) (an : Option Addr) (cdv ct : Value) (us : List Value) (hl : us.length = (["place", "size"] : List Str).length) => (match us, hl with | [_, _], _ => rfl : bindArgs (PySem.W.fnOf "_unit_row" "_unit_row" (defArgs s__unit_row) (defBody s__unit_row) (defScope s__unit_row) .none kV doc pm an cdv ct) ⟨us, []⟩ = pure ((["place", "size"] : List Str).zip us))
  have B_undone_rows := fun (kV doc pm : Value) (an : Option Addr) (cdv ct : Value) (us : List Value) (hl : us.length = (["rows"] : List Str).length) => (match us, hl with | [_], _ => rfl : bindArgs (PySem.W.fnOf "undone_rows" "undone_rows" (defArgs s_undone_rows) (defBody s_undone_rows) (defScope s_undone_rows) .none kV doc pm an cdv ct) ⟨us, []⟩ = pure ((["rows"] : List Str).zip us))
  have B_factors_of_rows := fun (kV doc pm : Value) (an : Option Addr) (cdv ct : Value) (us : List Value) (hl : us.length = (["rows"] : List Str).length) => (match us, hl with | [_], _ => rfl : bindArgs (PySem.W.fnOf "factors_of_rows" "factors_of_rows" (defArgs s_factors_of_rows) (defBody s_factors_of_rows) (defScope s_factors_of_rows) .none kV doc pm an cdv ct) ⟨us, []⟩ = pure ((["rows"] : List Str).zip us))
  have B__with_clear_cross := fun (kV doc pm : Value) (an : Option Addr) (cdv ct : Value) (us : List Value) (hl : us.length = (["rows", "at", "modulus"] : List Str).length) => (match us, hl with | [_, _, _], _ => rfl : bindArgs (PySem.W.fnOf "_with_clear_cross" "_with_clear_cross" (defArgs s__with_clear_cross) (defBody s__with_clear_cross) (defScope s__with_clear_cross) .none kV doc pm an cdv ct) ⟨us, []⟩ = pure ((["rows", "at", "modulus"] : List Str).zip us))
  have B__with_clear_column := fun (kV doc pm : Value) (an : Option Addr) (cdv ct : Value) (us : List Value) (hl : us.length = (["rows", "at", "modulus"] : List Str).length) => (match us, hl with | [_, _, _], _ => rfl : bindArgs (PySem.W.fnOf "_with_clear_column" "_with_clear_column" (defArgs s__with_clear_column) (defBody s__with_clear_column) (defScope s__with_clear_column) .none kV doc pm an cdv ct) ⟨us, []⟩ = pure ((["rows", "at", "modulus"] : List Str).zip us))
  have B__mixed := fun (kV doc pm : Value) (an : Option Addr) (cdv ct : Value) (us : List Value) (hl : us.length = (["row", "other", "shares", "modulus"] : List Str).length) => (match us, hl with | [_, _, _, _], _ => rfl : bindArgs (PySem.W.fnOf "_mixed" "_mixed" (defArgs s__mixed) (defBody s__mixed) (defScope s__mixed) .none kV doc pm an cdv ct) ⟨us, []⟩ = pure ((["row", "other", "shares", "modulus"] : List Str).zip us))
  have B__shared_divisor := fun (kV doc pm : Value) (an : Option Addr) (cdv ct : Value) (us : List Value) (hl : us.length = (["one", "other"] : List Str).length) => (match us, hl with | [_, _], _ => rfl : bindArgs (PySem.W.fnOf "_shared_divisor" "_shared_divisor" (defArgs s__shared_divisor) (defBody s__shared_divisor) (defScope s__shared_divisor) .none kV doc pm an cdv ct) ⟨us, []⟩ = pure ((["one", "other"] : List Str).zip us))
  have B__divisor_chain := fun (kV doc pm : Value) (an : Option Addr) (cdv ct : Value) (us : List Value) (hl : us.length = (["values"] : List Str).length) => (match us, hl with | [_], _ => rfl : bindArgs (PySem.W.fnOf "_divisor_chain" "_divisor_chain" (defArgs s__divisor_chain) (defBody s__divisor_chain) (defScope s__divisor_chain) .none kV doc pm an cdv ct) ⟨us, []⟩ = pure ((["values"] : List Str).zip us))
  have B_is_table := fun (kV doc pm : Value) (an : Option Addr) (cdv ct : Value) (us : List Value) (hl : us.length = (["value"] : List Str).length) => (match us, hl with | [_], _ => rfl : bindArgs (PySem.W.fnOf "is_table" "is_table" (defArgs s_is_table) (defBody s_is_table) (defScope s_is_table) .none kV doc pm an cdv ct) ⟨us, []⟩ = pure ((["value"] : List Str).zip us))
  have B__is_table_row := fun (kV doc pm : Value) (an : Option Addr) (cdv ct : Value) (us : List Value) (hl : us.length = (["value"] : List Str).length) => (match us, hl with | [_], _ => rfl : bindArgs (PySem.W.fnOf "_is_table_row" "_is_table_row" (defArgs s__is_table_row) (defBody s__is_table_row) (defScope s__is_table_row) .none kV doc pm an cdv ct) ⟨us, []⟩ = pure ((["value"] : List Str).zip us))
  have B_rank := fun (kV doc pm : Value) (an : Option Addr) (cdv ct : Value) (us : List Value) (hl : us.length = (["table"] : List Str).length) => (match us, hl with | [_], _ => rfl : bindArgs (PySem.W.fnOf "rank" "rank" (defArgs s_rank) (defBody s_rank) (defScope s_rank) .none kV doc pm an cdv ct) ⟨us, []⟩ = pure ((["table"] : List Str).zip us))
  have B_factors := fun (kV doc pm : Value) (an : Option Addr) (cdv ct : Value) (us : List Value) (hl : us.length = (["table"] : List Str).length) => (match us, hl with | [_], _ => rfl : bindArgs (PySem.W.fnOf "factors" "factors" (defArgs s_factors) (defBody s_factors) (defScope s_factors) .none kV doc pm an cdv ct) ⟨us, []⟩ = pure ((["table"] : List Str).zip us))
  have B_determinant := fun (kV doc pm : Value) (an : Option Addr) (cdv ct : Value) (us : List Value) (hl : us.length = (["table"] : List Str).length) => (match us, hl with | [_], _ => rfl : bindArgs (PySem.W.fnOf "determinant" "determinant" (defArgs s_determinant) (defBody s_determinant) (defScope s_determinant) .none kV doc pm an cdv ct) ⟨us, []⟩ = pure ((["table"] : List Str).zip us))
  have B_undone := fun (kV doc pm : Value) (an : Option Addr) (cdv ct : Value) (us : List Value) (hl : us.length = (["table"] : List Str).length) => (match us, hl with | [_], _ => rfl : bindArgs (PySem.W.fnOf "undone" "undone" (defArgs s_undone) (defBody s_undone) (defScope s_undone) .none kV doc pm an cdv ct) ⟨us, []⟩ = pure ((["table"] : List Str).zip us))
  have B__check_table := fun (kV doc pm : Value) (an : Option Addr) (cdv ct : Value) (us : List Value) (hl : us.length = (["value"] : List Str).length) => (match us, hl with | [_], _ => rfl : bindArgs (PySem.W.fnOf "_check_table" "_check_table" (defArgs s__check_table) (defBody s__check_table) (defScope s__check_table) .none kV doc pm an cdv ct) ⟨us, []⟩ = pure ((["value"] : List Str).zip us))
  have B__check_square := fun (kV doc pm : Value) (an : Option Addr) (cdv ct : Value) (us : List Value) (hl : us.length = (["value"] : List Str).length) => (match us, hl with | [_], _ => rfl : bindArgs (PySem.W.fnOf "_check_square" "_check_square" (defArgs s__check_square) (defBody s__check_square) (defScope s__check_square) .none kV doc pm an cdv ct) ⟨us, []⟩ = pure ((["value"] : List Str).zip us))
  have B__law_dice := fun (kV doc pm : Value) (an : Option Addr) (cdv ct : Value) (us : List Value) (hl : us.length = (["script", "spot"] : List Str).length) => (match us, hl with | [_, _], _ => rfl : bindArgs (PySem.W.fnOf "_law_dice" "_law_dice" (defArgs s__law_dice) (defBody s__law_dice) (defScope s__law_dice) .none kV doc pm an cdv ct) ⟨us, []⟩ = pure ((["script", "spot"] : List Str).zip us))
  have B__law_roll := fun (kV doc pm : Value) (an : Option Addr) (cdv ct : Value) (us : List Value) (hl : us.length = (["dice", "total"] : List Str).length) => (match us, hl with | [_, _], _ => rfl : bindArgs (PySem.W.fnOf "_law_roll" "_law_roll" (defArgs s__law_roll) (defBody s__law_roll) (defScope s__law_roll) .none kV doc pm an cdv ct) ⟨us, []⟩ = pure ((["dice", "total"] : List Str).zip us))
  have B__law_pick := fun (kV doc pm : Value) (an : Option Addr) (cdv ct : Value) (us : List Value) (hl : us.length = (["dice", "items"] : List Str).length) => (match us, hl with | [_, _], _ => rfl : bindArgs (PySem.W.fnOf "_law_pick" "_law_pick" (defArgs s__law_pick) (defBody s__law_pick) (defScope s__law_pick) .none kV doc pm an cdv ct) ⟨us, []⟩ = pure ((["dice", "items"] : List Str).zip us))
  have B__law_tr_single := fun (kV doc pm : Value) (an : Option Addr) (cdv ct : Value) (us : List Value) (hl : us.length = (["size", "place"] : List Str).length) => (match us, hl with | [_, _], _ => rfl : bindArgs (PySem.W.fnOf "_law_tr_single" "_law_tr_single" (defArgs s__law_tr_single) (defBody s__law_tr_single) (defScope s__law_tr_single) .none kV doc pm an cdv ct) ⟨us, []⟩ = pure ((["size", "place"] : List Str).zip us))
  have B__law_fault := fun (kV doc pm : Value) (an : Option Addr) (cdv ct : Value) (us : List Value) (hl : us.length = (["call"] : List Str).length) => (match us, hl with | [_], _ => rfl : bindArgs (PySem.W.fnOf "_law_fault" "_law_fault" (defArgs s__law_fault) (defBody s__law_fault) (defScope s__law_fault) .none kV doc pm an cdv ct) ⟨us, []⟩ = pure ((["call"] : List Str).zip us))
  have B__law_numbers_right := fun (kV doc pm : Value) (an : Option Addr) (cdv ct : Value) (us : List Value) (hl : us.length = (["dice"] : List Str).length) => (match us, hl with | [_], _ => rfl : bindArgs (PySem.W.fnOf "_law_numbers_right" "_law_numbers_right" (defArgs s__law_numbers_right) (defBody s__law_numbers_right) (defScope s__law_numbers_right) .none kV doc pm an cdv ct) ⟨us, []⟩ = pure ((["dice"] : List Str).zip us))
  have B__law_tables_right := fun (kV doc pm : Value) (an : Option Addr) (cdv ct : Value) (us : List Value) (hl : us.length = (["dice"] : List Str).length) => (match us, hl with | [_], _ => rfl : bindArgs (PySem.W.fnOf "_law_tables_right" "_law_tables_right" (defArgs s__law_tables_right) (defBody s__law_tables_right) (defScope s__law_tables_right) .none kV doc pm an cdv ct) ⟨us, []⟩ = pure ((["dice"] : List Str).zip us))
  have B_law := fun (kV doc pm : Value) (an : Option Addr) (cdv ct : Value) (us : List Value) (hl : us.length = (["script"] : List Str).length) => (match us, hl with | [_], _ => rfl : bindArgs (PySem.W.fnOf "law" "law" (defArgs s_law) (defBody s_law) (defScope s_law) .none kV doc pm an cdv ct) ⟨us, []⟩ = pure ((["script"] : List Str).zip us))
  let T : Txt K mg := {
    D_is_whole := DefT.of X G d 0 0 B_is_whole,
    D_ratio := DefT.of X G d 1 1 B_ratio,
    D_is_ratio := DefT.of X G d 2 2 B_is_ratio,
    D_pair_of := DefT.of X G d 3 3 B_pair_of,
    D_ratio_sum := DefT.of X G d 4 4 B_ratio_sum,
    D_ratio_difference := DefT.of X G d 5 5 B_ratio_difference,
    D_ratio_product := DefT.of X G d 6 6 B_ratio_product,
    D_ratio_quotient := DefT.of X G d 7 7 B_ratio_quotient,
    D_is_integer := DefT.of X G d 8 8 B_is_integer,
    D_is_fraction := DefT.of X G d 9 9 B_is_fraction,
    D_is_number := DefT.of X G d 10 10 B_is_number,
    D_lowest := DefT.of X G d 11 11 B_lowest,
    D_plus := DefT.of X G d 12 12 B_plus,
    D_minus := DefT.of X G d 13 13 B_minus,
    D_times := DefT.of X G d 14 14 B_times,
    D_over := DefT.of X G d 15 15 B_over,
    D_compare := DefT.of X G d 16 16 B_compare,
    D_floor_of := DefT.of X G d 17 17 B_floor_of,
    D_rest_of := DefT.of X G d 18 18 B_rest_of,
    D__pair := DefT.of X G d 19 19 B__pair,
    D_rank_and_minor := DefT.of X G d 20 20 B_rank_and_minor,
    D__first_spot := DefT.of X G d 21 21 B__first_spot,
    D__exchanged := DefT.of X G d 22 22 B__exchanged,
    D__lessened := DefT.of X G d 23 23 B__lessened,
    D_determinant_of_rows := DefT.of X G d 24 24 B_determinant_of_rows,
    D__unit_row := DefT.of X G d 25 25 B__unit_row,
    D_undone_rows := DefT.of X G d 26 26 B_undone_rows,
    D_factors_of_rows := DefT.of X G d 27 27 B_factors_of_rows,
    D__with_clear_cross := DefT.of X G d 28 28 B__with_clear_cross,
    D__with_clear_column := DefT.of X G d 29 29 B__with_clear_column,
    D__mixed := DefT.of X G d 30 30 B__mixed,
    D__shared_divisor := DefT.of X G d 31 31 B__shared_divisor,
    D__divisor_chain := DefT.of X G d 32 32 B__divisor_chain,
    D_is_table := DefT.of X G d 33 33 B_is_table,
    D__is_table_row := DefT.of X G d 34 34 B__is_table_row,
    D_rank := DefT.of X G d 35 35 B_rank,
    D_factors := DefT.of X G d 36 36 B_factors,
    D_determinant := DefT.of X G d 37 37 B_determinant,
    D_undone := DefT.of X G d 38 38 B_undone,
    D__check_table := DefT.of X G d 39 39 B__check_table,
    D__check_square := DefT.of X G d 40 40 B__check_square,
    D__law_dice := DefT.of X G d 41 41 B__law_dice,
    D__law_roll := DefT.of X G d 42 42 B__law_roll,
    D__law_pick := DefT.of X G d 43 43 B__law_pick,
    D__law_tr_single := DefT.of X G d 44 44 B__law_tr_single,
    D__law_fault := DefT.of X G d 45 45 B__law_fault,
    D__law_numbers_right := DefT.of X G d 46 46 B__law_numbers_right,
    D__law_tables_right := DefT.of X G d 47 47 B__law_tables_right,
    D_law := DefT.of X G d 48 48 B_law,
    m_abs := He.free_ok X G (d.fact 54 (f := .free "abs") rfl),
    m_all := He.free_ok X G (d.fact 55 (f := .free "all") rfl),
    m_any := He.free_ok X G (d.fact 56 (f := .free "any") rfl),
    m_bool := He.free_ok X G (d.fact 57 (f := .free "bool") rfl),
    m_enumerate := He.free_ok X G (d.fact 58 (f := .free "enumerate") rfl),
    m_int := He.free_ok X G (d.fact 59 (f := .free "int") rfl),
    m_isinstance := He.free_ok X G (d.fact 60 (f := .free "isinstance") rfl),
    m_len := He.free_ok X G (d.fact 61 (f := .free "len") rfl),
    m_list := He.free_ok X G (d.fact 62 (f := .free "list") rfl),
    m_max := He.free_ok X G (d.fact 63 (f := .free "max") rfl),
    m_min := He.free_ok X G (d.fact 64 (f := .free "min") rfl),
    m_range := He.free_ok X G (d.fact 65 (f := .free "range") rfl),
    m_repr := He.free_ok X G (d.fact 66 (f := .free "repr") rfl),
    m_tuple := He.free_ok X G (d.fact 67 (f := .free "tuple") rfl),
    m_zip := He.free_ok X G (d.fact 68 (f := .free "zip") rfl),
    t__TOO_LONG := t__TOO_LONG, m__TOO_LONG := m__TOO_LONG,
    t_MAX_SIDE := t_MAX_SIDE, m_MAX_SIDE := m_MAX_SIDE,
    g_gcd := PySem.W.mg_of X G (He.eqO_ok (exi 0 _ rfl)),
    E_InvalidTable := E_InvalidTable,
    E_InvalidFraction := E_InvalidFraction,
    E_InvalidOperation := E_InvalidOperation,
    E_InvalidNumber := E_InvalidNumber,
    E_Refused := E_Refused,
    exm := exm }
  have ap := exi 7 _ rfl
  have inj : ∀ a ∈ lamL, ∀ b ∈ lamL, a.1 = b.1 → a = b := by
    intro a ha b hb z
    simp only [lamL, List.mem_cons, List.not_mem_nil, or_false] at ha hb
    rcases ha with rfl | rfl | rfl <;> rcases hb with rfl | rfl | rfl <;> first | rfl | exact absurd z (by decide +kernel)
  have ef := hfa.symm.trans (He.glo_ok X G (d.fact 48 (f := .glo "law") rfl))
  cases ef
  refine ⟨T.d_law, lamC K lamL, sp_law K (lamT K lamL), ⟨?_, ?_, ?_⟩, fun s u => ?_, fun G a ms hl hT hS => ⟨a, ms, rfl, hS, hl, lam_tabs hT, fun _ => rfl⟩, fun base hK hns hTB => ?_⟩
  · intro p hp
    obtain ⟨b, hb, rfl⟩ := List.mem_map.mp hp
    exact c.empty _ (List.mem_map.mpr ⟨b, hb, rfl⟩)
  · intro p hp
    obtain ⟨b, hb, rfl⟩ := List.mem_map.mp hp
    exact c.out _ (List.mem_map.mpr ⟨b, hb, rfl⟩)
  · intro p hp
    obtain ⟨b, hb, rfl⟩ := List.mem_map.mp hp
    exact PySem.W.codeHd_of_K X (c.hd _ (List.mem_map.mpr ⟨b, hb, rfl⟩))
  · exact (d.def_ 48 (d := dD "law" s_law) rfl).choose_spec.bindsA (ps := ["script"]) B_law s [u] rfl
  · exact ok_law T ⟨_, _, hTB _ (List.mem_map.mpr ⟨("_law_numbers_right", s__law_numbers_right), by simp [lamL], rfl⟩), codeT_of T.F__law_numbers_right, lam_mem (d := ("_law_numbers_right", s__law_numbers_right)) (by simp [lamL]), lam_uniq (d := ("_law_numbers_right", s__law_numbers_right)) (by simp [lamL]) inj ap⟩ ⟨_, _, hTB _ (List.mem_map.mpr ⟨("_law_tables_right", s__law_tables_right), by simp [lamL], rfl⟩), codeT_of T.F__law_tables_right, lam_mem (d := ("_law_tables_right", s__law_tables_right)) (by simp [lamL]), lam_uniq (d := ("_law_tables_right", s__law_tables_right)) (by simp [lamL]) inj ap⟩ ⟨_, _, hTB _ (List.mem_map.mpr ⟨("law", s_law), by simp [lamL], rfl⟩), codeT_of T.F_law, lam_mem (d := ("law", s_law)) (by simp [lamL]), lam_uniq (d := ("law", s_law)) (by simp [lamL]) inj ap⟩
end K02
open PySem PySem.W PySem.Calls PyProof.Rows
set_option maxRecDepth 100000 in
set_option maxHeartbeats 0 in
theorem PySem.Challenge.cw_tametrees_k02_errors_of_fractions_and_ta_holds : PySem.Challenge.rw_tametrees_k02_errors_of_fractions_and_ta.Holds := by
  w_on; o_law
  refine HandSHeadRun.head_imp (r := OpenLaw.row PySem.Challenge.rw_tametrees_k02_errors_of_fractions_and_ta) (q := view (OpenLaw.row PySem.Challenge.rw_tametrees_k02_errors_of_fractions_and_ta).prog [0, 64]) (H := K02.hk) (ob := K02.ob) (M := 20000) (loose := K02.looseL) (d := HandSHeadRun.topDef (OpenLaw.row PySem.Challenge.rw_tametrees_k02_errors_of_fractions_and_ta).prog 64) (kwd := []) K02.ob_eq
    K02.run (by kernel_rfl) (by kernel_rfl) (by kernel_rfl) (by rfl) (by first | assumption | decide +kernel) (by decide +kernel) ⟨rfl, rfl, rfl, rfl, rfl, by decide +kernel⟩ ?hw ?hc
  case hw => w_witness2
  case hc =>
    refine TT.walk_ofGE (l := PySem.Challenge.rw_tametrees_k02_errors_of_fractions_and_ta) (n := 63) (k := 11) (x := "script") (CX := fun _ => L2.CX0) rfl (by decide) (by kernel_rfl) ⟨rfl, by decide, by decide⟩ ?F (fun _ _ _ _ _ z => z)
    intro w mg fa h Y G hmg0
    obtain ⟨K, KX, c⟩ := Y
    have hmg : mg ("law" : PySem.Str) = some (.ref fa) := by
      have e : (HandSHeadRun.topDef (OpenLaw.row PySem.Challenge.rw_tametrees_k02_errors_of_fractions_and_ta).prog 64).name = ("law" : PySem.Str) := by kernel_rfl
      rw [← e]
      exact hmg0
    exact ⟨K, KX, K02.facts KX G hmg c⟩
