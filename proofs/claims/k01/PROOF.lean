import PyProof.Rows.All
import Wide.All
import OpenK.AllK
import Wide.FinOn
import PyProof.InstNe
import HandS.ForMost
import HandS.ForExc
import HandS.Wide
import HandS.WideBits
import HandS.Gcd
import HandS.IsInst
import HandS.NoneIn
import HandS.Zip
import HandS.Defaults
import HandS.MakeKw
import HandS.MakeKwOnly
import HandS.OwnEq
import HandS.ExcInit
import HandS.ExcField
import HandS.ExcIs
import HandS.HotCalls
import KE.KExcIs
import PySem.Challenge.RW_marktruly_k01_shares
set_option Elab.async false
set_option linter.all false
set_option maxRecDepth 100000
set_option maxHeartbeats 4000000
namespace R9M
/-! ### Euclid's steps -/
/-- how often (a, b) is followed by (b, a % b) until b is 0 -/
def euc (a b : Nat) : Nat := if h : b = 0 then 0 else euc b (a % b) + 1
termination_by b
decreasing_by exact Nat.mod_lt _ (Nat.pos_of_ne_zero h)
theorem euc_zero (a : Nat) : euc a 0 = 0 := by rw [euc]; exact dif_pos rfl
theorem euc_step {a b : Nat} (h : b ≠ 0) : euc a b = euc b (a % b) + 1 := by
  rw [euc]; exact dif_neg h
/-- the number of binary digits -/
def bits (n : Nat) : Nat := if n = 0 then 0 else n.log2 + 1
theorem bits_half {m n : Nat} (h : 2 * m < n) : bits m + 1 ≤ bits n := by
  have hn : n ≠ 0 := by omega
  by_cases hm : m = 0
  · subst hm
    unfold bits
    rw [if_pos rfl, if_neg hn]; omega
  · unfold bits
    rw [if_neg hm, if_neg hn]
    have h1 : 2 ^ m.log2 ≤ m := Nat.log2_self_le hm
    have h2 : m.log2 + 1 ≤ n.log2 := (Nat.le_log2 hn).mpr (by rw [Nat.pow_succ]; omega)
    omega
theorem half_mod {b r : Nat} (hr : r ≠ 0) (h : r < b) : 2 * (b % r) < b := by
  have h0 : b % r < r := Nat.mod_lt _ (Nat.pos_of_ne_zero hr)
  by_cases c : 2 * r ≤ b
  · omega
  · have e : b % r = b - r := by
      rw [Nat.mod_eq_sub_mod (Nat.le_of_lt h)]
      exact Nat.mod_eq_of_lt (by omega)
    omega
theorem euc_le : ∀ (n a b : Nat), b ≤ n → euc a b ≤ 2 * bits b + 1 := by
  intro n
  induction n using Nat.strongRecOn with
  | ind n ih =>
    intro a b hb
    by_cases h : b = 0
    · rw [h, euc_zero]; omega
    · rw [euc_step h]
      by_cases h1 : a % b = 0
      · rw [h1, euc_zero]; omega
      · rw [euc_step h1]
        have l1 : a % b < b := Nat.mod_lt _ (Nat.pos_of_ne_zero h)
        have l2 := half_mod h1 l1
        have l3 := bits_half l2
        have l4 := ih (b % (a % b)) (by omega) (a % b) (b % (a % b)) (Nat.le_refl _)
        omega
theorem euc_turns (a b : Nat) : euc a b < 2 * (bits a + bits b) + 4 := by
  have := euc_le b a b (Nat.le_refl _)
  omega
theorem gcd_step (a b : Nat) : Nat.gcd b (a % b) = Nat.gcd a b := by
  rw [Nat.gcd_comm b, ← Nat.gcd_rec, Nat.gcd_comm]
/-! ### lowest terms -/
/-- n / d in lowest terms -/
def Low (n d : Int) : Prop := 0 < d ∧ Nat.gcd n.natAbs d.natAbs = 1
theorem low_of {n d o u : Int} (l : Low n d) (hu : 0 < u) (h : n * u = o * d) : n * (Nat.gcd o.natAbs u.natAbs : Nat) = o ∧ d * (Nat.gcd o.natAbs u.natAbs : Nat) = u := by
  obtain ⟨hd, g⟩ := l
  have e : n.natAbs * u.natAbs = o.natAbs * d.natAbs := by
    rw [← Int.natAbs_mul, ← Int.natAbs_mul, h]
  have dv : d.natAbs ∣ u.natAbs := by
    have c : Nat.Coprime d.natAbs n.natAbs := by
      show Nat.gcd _ _ = 1
      rw [Nat.gcd_comm]; exact g
    exact c.dvd_of_dvd_mul_left ⟨o.natAbs, by rw [e, Nat.mul_comm]⟩
  obtain ⟨k, hk⟩ := dv
  have dp : 0 < d.natAbs := by omega
  have ho : o.natAbs = n.natAbs * k := by
    have : o.natAbs * d.natAbs = (n.natAbs * k) * d.natAbs := by
      rw [← e, hk, Nat.mul_comm d.natAbs k, Nat.mul_assoc]
    exact Nat.eq_of_mul_eq_mul_right dp this
  have gk : Nat.gcd o.natAbs u.natAbs = k := by
    rw [ho, hk, Nat.gcd_mul_right, g, Nat.one_mul]
  rw [gk]
  have hku : u = d * (k : Int) := by
    have h1 : (u.natAbs : Int) = u := Int.natAbs_of_nonneg (Int.le_of_lt hu)
    have h2 : (d.natAbs : Int) = d := Int.natAbs_of_nonneg (Int.le_of_lt hd)
    rw [← h1, hk, Int.natCast_mul, h2]
  refine ⟨?_, hku.symm⟩
  have : (n * (k : Int)) * d = o * d := by
    rw [← h, hku, Int.mul_assoc, Int.mul_comm (k : Int) d]
  exact Int.eq_of_mul_eq_mul_right (by omega) this
/-- what Share's __init__ makes -/
def red (o u : Int) : Int × Int :=
  let g : Int := (Nat.gcd o.natAbs u.natAbs : Nat)
  let d := if u < 0 then -g else g
  (o.fdiv d, u.fdiv d)
theorem red_ok {o u : Int} (hu : u ≠ 0) : Low (red o u).1 (red o u).2 ∧ (red o u).1 * u = o * (red o u).2 ∧ (red o u).1.natAbs ≤ o.natAbs ∧ (red o u).2.natAbs ≤ u.natAbs := by
  have gp : 0 < Nat.gcd o.natAbs u.natAbs := Nat.gcd_pos_of_pos_right _ (by omega)
  obtain ⟨g, hg⟩ : ∃ g, Nat.gcd o.natAbs u.natAbs = g := ⟨_, rfl⟩
  have d1 : g ∣ o.natAbs := hg ▸ Nat.gcd_dvd_left _ _
  have d2 : g ∣ u.natAbs := hg ▸ Nat.gcd_dvd_right _ _
  rw [hg] at gp
  have z1 : (g : Int) ∣ o := Int.ofNat_dvd_left.mpr d1
  have z2 : (g : Int) ∣ u := Int.ofNat_dvd_left.mpr d2
  obtain ⟨a, ha⟩ := z1
  obtain ⟨b, hb⟩ := z2
  have gne : (g : Int) ≠ 0 := by omega
  have cop : Nat.gcd a.natAbs b.natAbs = 1 := by
    have : Nat.gcd o.natAbs u.natAbs = g * Nat.gcd a.natAbs b.natAbs := by
      rw [ha, hb, Int.natAbs_mul, Int.natAbs_mul, Int.natAbs_natCast, Nat.gcd_mul_left]
    rw [hg] at this
    have h2 : g * 1 = g * Nat.gcd a.natAbs b.natAbs := by rw [Nat.mul_one]; exact this
    exact (Nat.eq_of_mul_eq_mul_left gp h2).symm
  have bne : b ≠ 0 := fun z => hu (by rw [hb, z, Int.mul_zero])
  have la : a.natAbs ≤ o.natAbs := by
    rw [ha, Int.natAbs_mul, Int.natAbs_natCast]
    exact Nat.le_mul_of_pos_left _ gp
  have lb : b.natAbs ≤ u.natAbs := by
    rw [hb, Int.natAbs_mul, Int.natAbs_natCast]
    exact Nat.le_mul_of_pos_left _ gp
  by_cases c : u < 0
  · have e1 : red o u = (-a, -b) := by
      unfold red
      rw [hg]
      dsimp only
      rw [if_pos c]
      have x1 : o.fdiv (-(g : Int)) = -a := by
        rw [ha, show (g : Int) * a = (-(g : Int)) * (-a) by rw [Int.neg_mul_neg]]
        exact Int.mul_fdiv_cancel_left _ (by omega)
      have x2 : u.fdiv (-(g : Int)) = -b := by
        rw [hb, show (g : Int) * b = (-(g : Int)) * (-b) by rw [Int.neg_mul_neg]]
        exact Int.mul_fdiv_cancel_left _ (by omega)
      rw [x1, x2]
    rw [e1]
    have bneg : b < 0 := by
      apply Decidable.byContradiction
      intro z
      have z' : 0 ≤ (g : Int) * b := Int.mul_nonneg (by omega) (by omega)
      omega
    refine ⟨⟨by show 0 < -b; omega, by show Nat.gcd (-a).natAbs (-b).natAbs = 1; rw [Int.natAbs_neg, Int.natAbs_neg]; exact cop⟩, ?_, by show (-a).natAbs ≤ _; rw [Int.natAbs_neg]; exact la, by show (-b).natAbs ≤ _; rw [Int.natAbs_neg]; exact lb⟩
    show -a * u = o * -b
    rw [ha, hb, Int.neg_mul, Int.mul_neg, Int.mul_comm (g : Int) a, Int.mul_assoc]
  · have e1 : red o u = (a, b) := by
      unfold red
      rw [hg]
      dsimp only
      rw [if_neg c]
      have x1 : o.fdiv (g : Int) = a := by
        rw [ha]; exact Int.mul_fdiv_cancel_left _ (by omega)
      have x2 : u.fdiv (g : Int) = b := by
        rw [hb]; exact Int.mul_fdiv_cancel_left _ (by omega)
      rw [x1, x2]
    rw [e1]
    have bpos : 0 < b := by
      apply Decidable.byContradiction
      intro z
      have z' : (g : Int) * b ≤ 0 := Int.mul_nonpos_of_nonneg_of_nonpos (by omega) (by omega)
      omega
    refine ⟨⟨bpos, cop⟩, ?_, la, lb⟩
    show a * u = o * b
    rw [ha, hb, Int.mul_comm (g : Int) a, Int.mul_assoc]
end R9M
namespace R9M
/-! ### fractions: n / d stands for o / u -/
theorem can {k a b : Int} (hk : 0 < k) (h : k * a = k * b) : a = b := Int.eq_of_mul_eq_mul_left (by omega) h
theorem fr_add {n d m e o1 u1 o2 u2 n' d' : Int} (hd : 0 < d) (he : 0 < e) (h1 : n * u1 = o1 * d) (h2 : m * u2 = o2 * e) (h : n' * (d * e) = (n * e + m * d) * d') : n' * (u1 * u2) = (o1 * u2 + o2 * u1) * d' := by
  have : (d * e) * (n' * (u1 * u2)) = (d * e) * ((o1 * u2 + o2 * u1) * d') := by grind
  exact can (Int.mul_pos hd he) this
theorem fr_sub {n d m e o1 u1 o2 u2 n' d' : Int} (hd : 0 < d) (he : 0 < e) (h1 : n * u1 = o1 * d) (h2 : m * u2 = o2 * e) (h : n' * (d * e) = (n * e - m * d) * d') : n' * (u1 * u2) = (o1 * u2 - o2 * u1) * d' := by
  have : (d * e) * (n' * (u1 * u2)) = (d * e) * ((o1 * u2 - o2 * u1) * d') := by grind
  exact can (Int.mul_pos hd he) this
theorem fr_mul {n d m e o1 u1 o2 u2 n' d' : Int} (hd : 0 < d) (he : 0 < e) (h1 : n * u1 = o1 * d) (h2 : m * u2 = o2 * e) (h : n' * (d * e) = (n * m) * d') : n' * (u1 * u2) = (o1 * o2) * d' := by
  have : (d * e) * (n' * (u1 * u2)) = (d * e) * ((o1 * o2) * d') := by grind
  exact can (Int.mul_pos hd he) this
/-- the sign put above -/
def sgn (x y : Int) : Int × Int := if y < 0 then (0 - x, 0 - y) else (x, y)
theorem sgn_pos {x y : Int} (h : y ≠ 0) : 0 < (sgn x y).2 := by
  unfold sgn
  split
  · show 0 < 0 - y
    omega
  · show 0 < y
    omega
theorem sgn_eq {x y a b : Int} (h : a * y = x * b) : a * (sgn x y).2 = (sgn x y).1 * b := by
  unfold sgn
  split
  · show a * (0 - y) = (0 - x) * b
    grind
  · exact h
theorem sgn_abs (x y : Int) : (sgn x y).1.natAbs = x.natAbs ∧ (sgn x y).2.natAbs = y.natAbs := by
  unfold sgn
  split
  · exact ⟨by show (0 - x).natAbs = _; omega, by show (0 - y).natAbs = _; omega⟩
  · exact ⟨rfl, rfl⟩
theorem fr_by {n d m e o1 u1 o2 u2 n' d' : Int} (hd : 0 < d) (he : 0 < e) (h1 : n * u1 = o1 * d) (h2 : m * u2 = o2 * e) (h : n' * (d * m) = (n * e) * d') : n' * (sgn (o1 * u2) (u1 * o2)).2 = (sgn (o1 * u2) (u1 * o2)).1 * d' := by
  refine sgn_eq ?_
  have : (d * e) * (n' * (u1 * o2)) = (d * e) * ((o1 * u2) * d') := by grind
  exact can (Int.mul_pos hd he) this
theorem fr_zero {m e o2 u2 : Int} (he : 0 < e) (hu : 0 < u2) (h2 : m * u2 = o2 * e) : m = 0 ↔ o2 = 0 := by
  constructor
  · intro h
    rw [h, Int.zero_mul] at h2
    rcases Int.mul_eq_zero.mp h2.symm with z | z
    · exact z
    · omega
  · intro h
    rw [h, Int.zero_mul] at h2
    rcases Int.mul_eq_zero.mp h2 with z | z
    · exact z
    · omega
theorem fr_lt {n d m e o1 u1 o2 u2 : Int} (hd : 0 < d) (he : 0 < e) (p1 : 0 < u1) (p2 : 0 < u2) (h1 : n * u1 = o1 * d) (h2 : m * u2 = o2 * e) : n * e < m * d ↔ o1 * u2 < o2 * u1 := by
  have e1 : (u1 * u2) * (n * e) = (d * e) * (o1 * u2) := by grind
  have e2 : (u1 * u2) * (m * d) = (d * e) * (o2 * u1) := by grind
  have q1 : 0 < u1 * u2 := Int.mul_pos p1 p2
  have q2 : 0 < d * e := Int.mul_pos hd he
  constructor
  · intro h
    have := Int.mul_lt_mul_of_pos_left h q1
    rw [e1, e2] at this
    exact Int.lt_of_mul_lt_mul_left this (Int.le_of_lt q2)
  · intro h
    have := Int.mul_lt_mul_of_pos_left h q2
    rw [← e1, ← e2] at this
    exact Int.lt_of_mul_lt_mul_left this (Int.le_of_lt q1)
theorem fr_eq {n d m e o1 u1 o2 u2 : Int} (l1 : Low n d) (l2 : Low m e) (p1 : 0 < u1) (p2 : 0 < u2) (h1 : n * u1 = o1 * d) (h2 : m * u2 = o2 * e) : (n = m ∧ d = e) ↔ o1 * u2 = o2 * u1 := by
  have hd := l1.1
  have he := l2.1
  have e1 : (u1 * u2) * (n * e) = (d * e) * (o1 * u2) := by grind
  have e2 : (u1 * u2) * (m * d) = (d * e) * (o2 * u1) := by grind
  have q1 : 0 < u1 * u2 := Int.mul_pos p1 p2
  have q2 : 0 < d * e := Int.mul_pos hd he
  constructor
  · rintro ⟨a, b⟩
    refine can q2 ?_
    rw [← e1, ← e2, a, b]
  · intro h
    have x : n * e = m * d := by
      refine can q1 ?_
      rw [e1, e2, h]
    obtain ⟨y1, y2⟩ := low_of l1 he x
    rw [l2.2] at y1 y2
    omega
theorem low_le {n d o u : Int} (l : Low n d) (hu : 0 < u) (h : n * u = o * d) : n.natAbs ≤ o.natAbs ∧ d.natAbs ≤ u.natAbs := by
  obtain ⟨y1, y2⟩ := low_of l hu h
  have gp : 0 < Nat.gcd o.natAbs u.natAbs := Nat.gcd_pos_of_pos_right _ (by omega)
  generalize Nat.gcd o.natAbs u.natAbs = g at *
  constructor
  · rw [← y1, Int.natAbs_mul, Int.natAbs_natCast]
    exact Nat.le_mul_of_pos_right _ gp
  · rw [← y2, Int.natAbs_mul, Int.natAbs_natCast]
    exact Nat.le_mul_of_pos_right _ gp
end R9M
namespace R9
open PySem PySem.Spec PyProof.Rows L2
/-! ### whole numbers -/
def CDivX (_ j : Int) : Prop := j ≠ 0 ∧ j.natAbs.log2 < 9000
section
variable {X : Cx}
theorem op_fdivX : OpR X (binaryOp .FloorDiv) (rI CDivX fun i j => .int (i.fdiv j)) := opI fun _ _ _ _ _ _ _ hc q => floordiv_int hc.1 q (.inl (PyProof.noPylong_of_log2 hc.2))
end
/-! ### an own operator, an own == -/
section
variable {X : Cx} {CX : CXT} {C f : Addr} {fd : FuncData} {ps : List Str} {sp : Sp} {E : XK} {n : Nat}
def rOwn (C : Addr) (sp : Sp) (E : XK) : R2 := fun x y H Q => ∃ a b dx dy fs gs, x = .ref a ∧ y = .ref b ∧ H a = some (.ins C dx fs) ∧ H b = some (.ins C dy gs) ∧ sp [.ref a, .ref b] H Q E
theorem not_ni {v : V} {u : Value} (r : RelV v u) {P : Value → Shared → Prop} {s : Shared} (h : P u s) : PySem.W.CmpBack P u s := by
  cases v with
  | non => cases (show u = Value.none from r); exact h
  | bl b => cases (show u = Value.bool b from r); exact h
  | int i => obtain ⟨t, e⟩ := (show ∃ t, u = Value.int i t from r); cases e; exact h
  | str x => obtain ⟨t, e⟩ := (show ∃ t, u = Value.str x t from r); cases e; exact h
  | byt b => obtain ⟨t, e⟩ := (show ∃ t, u = Value.bytes b t from r); cases e; exact h
  | flt b => obtain ⟨t, e⟩ := (show ∃ t, u = Value.float b t from r); cases e; exact h
  | ref a => cases (show u = Value.ref a from r); exact h
  | ty m => cases (show u = Value.type m from r); exact h
theorem op_own {op : Operator} (F : FnOk X.prog X.w X.K X.mg X.base CX n f fd ps sp) (hr : Room n X.A) (sf : PySem.W.selfFirst X.K C = true)
    (hs : PySem.W.findIn X.K (.ref C) (PySem.dunder op.info.2) = some (some (.ref f))) (hf : PySem.W.isFn X.K (.ref f) = true) (hb : Binds X.K fd ps []) (hx : Passes CX X E) : OpR X (binaryOp op) (rOwn C sp E) := by
  intro pins s σ H x y u v Q I rx ry h
  obtain ⟨a, b, dx, dy, fs, gs, rfl, rfl, ha, hb', hq⟩ := h
  cases rx
  cases ry
  obtain ⟨mA, J, _⟩ := ins_get I.hok ha
  obtain ⟨mB, J', _⟩ := ins_get I.hok hb'
  obtain ⟨od, J, _⟩ := J.look
  obtain ⟨od', J', _⟩ := J'.look
  obtain ⟨m, hF⟩ := I.fr
  refine PySem.W.binop_K hF I.ok.mod.kin J J'.type sf hs hf ?_
  refine wpAny_mono (run_fn (us := [.ref a, .ref b]) (vs := [.ref a, .ref b]) F hr hb .nil hx I (.cons rfl (.cons rfl .nil)) hq) (fun r s' z => ?_) fun _ _ z => z
  obtain ⟨v, H', I', rv, q⟩ := z
  exact not_ni rv ⟨v, H', I', rv, q⟩
def rOwnEq (K : PySem.W.Frag) (C : Addr) (sp : Sp) (E : XK) : R2 := fun x y H Q => ∃ a dx fs t, x = .ref a ∧ H a = some (.ins C dx fs) ∧ TyX K H y t ∧ PySem.W.notFirst K C t = true ∧ sp [.ref a, y] H Q E
theorem op_ownEq (F : FnOk X.prog X.w X.K X.mg X.base CX n f fd ps sp) (hr : Room n X.A)
    (hs : PySem.W.findIn X.K (.ref C) "__eq__" = some (some (.ref f))) (hf : PySem.W.isFn X.K (.ref f) = true) (hb : Binds X.K fd ps []) (hx : Passes CX X E) : OpR X (compareOp .Eq) (rOwnEq X.K C sp E) := by
  intro pins s σ H x y u v Q I rx ry h
  obtain ⟨a, dx, fs, t, rfl, ha, ty, nf, hq⟩ := h
  cases rx
  obtain ⟨mA, J, _⟩ := ins_get I.hok ha
  obtain ⟨od, J, _⟩ := J.look
  obtain ⟨m, hF⟩ := I.fr
  obtain ⟨P, Z, p, _⟩ := kit_of I ry ty
  show wpAny (model X.prog X.w) X.A (richCompare .Eq (.ref a) v) (EP X pins σ Q) X.xe s
  refine PySem.W.cmp_K (op := .Eq) (tb := t) hr.units0 hF I.ok.mod.kin J (Z.ty _ _ I.kIn p) nf hs hf ?_
  refine wpAny_mono (run_fn (us := [.ref a, v]) (vs := [.ref a, y]) F hr hb .nil hx I (.cons rfl (.cons ry .nil)) hq) (fun r s' z => ?_) fun _ _ z => z
  obtain ⟨v, H', I', rv, q⟩ := z
  exact not_ni rv ⟨v, H', I', rv, q⟩
end
end R9
namespace R9
open PySem PySem.Spec PyProof.Rows L2
/-! ### != by an own ==, no own != -/
theorem ne_bind (self : Value) : bindSpecial (.builtin "object.__ne__") self = pure (.builtin "object.__ne__", [self]) := by first | rfl | kernel_rfl
section
open PySem.W
variable {prog : Program} {w : World} {A A₀ : Around} {E : Value → Shared → Prop} {s : Shared} {K : Frag} {x C L f : Addr} {h₀ : Heap} {m : Str → Option Value} {ox : Obj} {od : Option Obj} {name : Str} {b tb : Value}
theorem ifBound_B {M : Model} {args : List Value} {id : String} {Q : Option Value → Shared → Prop} (X : K.In s.heap) (I : InstAt s.heap x ox C od) (hs : findIn K (.ref C) name = some (some (.builtin id))) (hb : ∀ self, bindSpecial (.builtin id) self = pure (.builtin id, [self]))
    (h : wpAny M A (call (.builtin id) (.ref x :: args)) (fun v => Q (some v)) E s) : wpAny M A (callSpecialIfBound? (.ref x) name args) Q E s := by
  simp only [callSpecialIfBound?, bindSpecialIfBound?]
  refine wpAny_holding (wpAny_bind (wpAny_bind (wpAny_bind (I.type.here ((looks_findIn X hs).here ?_)))))
  refine wpAny_bind (wpAny_askSetting (wpAny_ite ?_))
  have fin : wpAny M A (call (.builtin id) ([.ref x] ++ args) >>= fun v => pure (some v)) Q E s := wpAny_bind (wpAny_mono h (fun v s' h' => wpAny_pure h') fun _ _ h' => h')
  have B : Looks M s.heap (bindSpecial (.builtin id) (.ref x)) (.builtin id, [.ref x]) := Looks.of_pure (hb _)
  split
  · exact wpAny_bind (B.here (wpAny_pure (by exact fin)))
  · exact wpAny_tryCatch (wpAny_bind (B.here (wpAny_pure (by exact fin))))
theorem ne_entry {Q : Fin → Shared → Prop} {v : Value} (hu : A.units < cLine) (X : K.In s.heap) (I : InstAt s.heap x ox C od) (hs : findIn K (.ref C) "__eq__" = some (some (.ref f))) (hf : isFn K (.ref f) = true)
    (h : wpAny (model prog w) A (call (.ref f) [.ref x, v]) (fun r s' => ∃ b, r = .bool b ∧ Q (.done (.ret (.bool (!b)))) s') E s) :
    wpAny (model prog w) A (Builtin.«object.__ne__» ⟨[.ref x, v], []⟩) Q E s := by
  unfold Builtin.«object.__ne__»
  refine wpAny_bind (wpAny_of_eq (a := ((Value.ref x : Value), [v])) (by first | rfl | (simp only [slotArgs]; rfl)) ?_)
  refine wpAny_bind (wpAny_cRoomFor hu ?_)
  refine wpAny_bind (ifBound_K X I hs hf (wpAny_mono h (fun r s' hr => ?_) fun _ _ e => e))
  obtain ⟨b, rfl, hq⟩ := hr
  exact wpAny_bind (wpAny_truthy_bool (wpAny_pure hq))
theorem ne_K {Q : Value → Shared → Prop} {v : Value} (hu : A.units + 1 < cLine) (X : K.In s.heap) (I : InstAt s.heap x ox C od) (hb : Looks (model prog w) s.heap (typeOf v) tb) (hn : notFirst K C tb = true)
    (hne : findIn K (.ref C) "__ne__" = some (some (.builtin "object.__ne__"))) (hs : findIn K (.ref C) "__eq__" = some (some (.ref f))) (hf : isFn K (.ref f) = true) (hob : subIn K (.ref C) (.type "object") = some true)
    (h : wpAny (model prog w) A.in1 (call (.ref f) [.ref x, v]) (fun r s' => ∃ b, r = .bool b ∧ Q (.bool (!b)) s') E s) : wpAny (model prog w) A (richCompare .NotEq (.ref x) v) Q E s := by
  have sub : Looks (model prog w) s.heap (isInstance (.ref x) (.type "object")) true := I.type.andThen (looks_subIn X hob)
  have one : wpAny (model prog w) A (tryCompare (.ref x) "__ne__" v) (fun r s' => ∃ v, r = some v ∧ Q v s') E s := by
    unfold tryCompare
    refine wpAny_bind (ifBound_B X I hne ne_bind (wpAny_call (codeAny_call_builtin (by decide +kernel) F.cmpEntry_ne (check_slot F.cmpKind_ne F.cmpSplit_ne sub (F.cmpArgs_ne _ _) (ne_entry (A := A.in1) (Nat.lt_of_le_of_lt (Nat.le_refl _) (show A.in1.units < cLine from hu)) X I hs hf (wpAny_mono h (fun r s' hr => ?_) fun _ _ e => e))))))
    obtain ⟨b, rfl, hq⟩ := hr
    exact ⟨b, rfl, wpAny_pure ⟨_, rfl, hq⟩⟩
  unfold richCompare
  simp only [oneThing_ref]
  refine wpAny_holding (wpAny_bind (wpAny_cRoomFor (Nat.lt_of_succ_lt hu) ?_))
  rw [cmpInfo_NotEq]
  dsimp only
  refine wpAny_bind (I.type.here (wpAny_bind (hb.here ?_)))
  split
  · rename_i q
    have e : subIn K tb (.ref C) = some false := by
      rcases Bool.or_eq_true_iff.mp hn with e | e
      · rw [beq_iff_eq.mp e] at q; simp at q
      · exact beq_iff_eq.mp e
    refine wpAny_bind ((looks_subIn X e).here ?_)
    simp only [Bool.false_eq_true, if_false]
    refine wpAny_bind (wpAny_mono one (fun r s' z => ?_) fun _ _ e => e)
    obtain ⟨v, rfl, hq⟩ := z
    exact wpAny_pure hq
  · refine wpAny_bind (wpAny_pure ?_)
    simp only [Bool.false_eq_true, if_false]
    refine wpAny_bind (wpAny_mono one (fun r s' z => ?_) fun _ _ e => e)
    obtain ⟨v, rfl, hq⟩ := z
    exact wpAny_pure hq
end
end R9
namespace R9
open PySem PySem.Spec PyProof.Rows L2
section
variable {X : Cx} {CX : CXT} {C f : Addr} {fd : FuncData} {ps : List Str} {sp : Sp} {E : XK} {n : Nat}
def rOwnNe (K : PySem.W.Frag) (C : Addr) (sp : Sp) (E : XK) : R2 := fun x y H Q => ∃ a dx fs t, x = .ref a ∧ H a = some (.ins C dx fs) ∧ TyX K H y t ∧ PySem.W.notFirst K C t = true ∧ sp [.ref a, y] H (fun v H' => ∃ b, v = .bl b ∧ Q (.bl (!b)) H') E
theorem op_ownNe (F : FnOk X.prog X.w X.K X.mg X.base CX n f fd ps sp) (hr : Room (n + 1) X.A)
    (hs : PySem.W.findIn X.K (.ref C) "__eq__" = some (some (.ref f))) (hf : PySem.W.isFn X.K (.ref f) = true) (hb : Binds X.K fd ps []) (hx : Passes CX X E)
    (hne : PySem.W.findIn X.K (.ref C) "__ne__" = some (some (.builtin "object.__ne__"))) (hob : PySem.W.subIn X.K (.ref C) (.type "object") = some true) : OpR X (compareOp .NotEq) (rOwnNe X.K C sp E) := by
  intro pins s σ H x y u v Q I rx ry h
  obtain ⟨a, dx, fs, t, rfl, ha, ty, nf, hsp⟩ := h
  cases rx
  obtain ⟨mA, J, _⟩ := ins_get I.hok ha
  obtain ⟨od, J, _⟩ := J.look
  obtain ⟨P, Z, p, _⟩ := kit_of I ry ty
  show wpAny (model X.prog X.w) X.A (richCompare .NotEq (.ref a) v) (EP X pins σ Q) X.xe s
  have hu : X.A.units + 1 < cLine := hu_of hr
  refine ne_K (tb := t) hu I.kIn J (Z.ty _ _ I.kIn p) nf hne hs hf hob ?_
  have e0 : Env0 X.prog X.w X.K X.mg X.base X.A.in1 X.stack s H := by
    have e := I.env0
    exact ⟨e.frames, e.mod, e.bs, e.bsz, e.funs, e.frf, e.hok, e.bare⟩
  have hl := F.len _ _ _ _ hsp
  have r2 : Vals [V.ref a, y] [Value.ref a, v] := .cons rfl (.cons ry .nil)
  refine wpAny_call (codeAny_mono (F.run X.A.in1 X.stack s H ⟨[.ref a, v], []⟩ [.ref a, v] [.ref a, y] _ E hr.in1 e0 (by
    have := hb s [.ref a, v] I.kIn (by simpa using hl)
    simpa using this) r2 hsp) fun r s' hq => ?_)
  cases r with
  | error e => exact hx pins σ H s e s' I hq
  | ok fl =>
    cases fl with
    | ret w =>
      obtain ⟨z, H', I', rz, b, ez, q⟩ := I.after hq
      subst ez
      cases rz
      exact ⟨b, rfl, ⟨.bl (!b), H', I', rfl, q⟩⟩
    | next => exact False.elim hq
    | brk => exact False.elim hq
    | cont => exact False.elim hq
end
/-! ### defs, methods, classes, packed -/
/-- how the arguments come to the parameters, for every way the text's own defs are called -/
abbrev fo (x qual : Str) (st : Stmt) (kV doc pm : Value) (an : Option Addr) (cdv ct : Value) : FuncData := PySem.W.fnOf x qual (defArgs st) (defBody st) (defScope st) .none kV doc pm an cdv ct
structure Df (P : Program) (w : World) (K : PySem.W.Frag) (mg : Str → Option Value) (base : Heap) (k : Nat) (x : Str) (st : Stmt) (ps : List Str) (sp : Sp) : Prop where
  ex : ∃ (f : Addr) (fd : FuncData), Fun K x x st f fd ∧ FnOk P w K mg base (L2.CX P w) k f fd ps sp ∧ mg x = some (.ref f) ∧ Binds K fd ps []
structure Dm (P : Program) (w : World) (K : PySem.W.Frag) (mg : Str → Option Value) (base : Heap) (k : Nat) (C : Addr) (m qual : Str) (st : Stmt) (ps : List Str) (sp : Sp) : Prop where
  ex : ∃ (f : Addr) (fd : FuncData), Fun K m qual st f fd ∧ FnOk P w K mg base (L2.CX P w) k f fd ps sp ∧ Cls K C ∧ Meth K C m f ∧ Binds K fd ps []
structure Dk (P : Program) (w : World) (K : PySem.W.Frag) (mg : Str → Option Value) (base : Heap) (k : Nat) (C : Addr) (x qual : Str) (st : Stmt) (ps : List Str) (sp : Sp) : Prop where
  ex : ∃ (f : Addr) (fd : FuncData), Fun K "__init__" qual st f fd ∧ FnOk P w K mg base (L2.CX P w) k f fd ps sp ∧ Mk K C f ∧ mg x = some (.ref C) ∧ Binds K fd ps []
section
variable {X : Cx} {j k : Nat} {x m qual : Str} {st : Stmt} {ps : List Str} {sp : Sp} {C : Addr} {p pos apos : Pos} {e o : Expr} {es : List Expr} {kws : List Keyword} {t tk : TA} {ta : TE} {ks : List Str} {E : XK}
theorem pe_d (D : Df X.prog X.w X.K X.mg X.base k x st ps sp) (hr : Room j X.A) (hk : k ≤ j) (hg : Gl X x) (hx : Passes (L2.CX X.prog X.w) X E) (ha : PA X (e :: es) t)
    (hdb : (x == ("__debug__" : Str)) = false := by decide) (he : starEach (e :: es) X.env = (false, eval e X.env) :: starEach es X.env := by rfl) (hpl : (backTo pos (starEach es X.env)).any (·.1) = false := by rfl) :
    PE X (.Call (.Name x p) (e :: es) [] pos) (tCall sp [] E t) := by
  obtain ⟨f, fd, F, G, hm, b⟩ := D.ex
  exact pe_call G (hr.mono hk) hg hm F.kp b .nil hx ha hdb he hpl
theorem pe_d0 (D : Df X.prog X.w X.K X.mg X.base k x st ps sp) (hr : Room j X.A) (hk : k ≤ j) (hg : Gl X x) (hx : Passes (L2.CX X.prog X.w) X E)
    (hdb : (x == ("__debug__" : Str)) = false := by decide) :
    PE X (.Call (.Name x p) [] [] pos) (tCall sp [] E tNil) := by
  obtain ⟨f, fd, F, G, hm, b⟩ := D.ex
  exact pe_call0 G (hr.mono hk) hg hm F.kp b .nil hx hdb
theorem pe_m {pl : Sem Bool} (D : Dm X.prog X.w X.K X.mg X.base k C m qual st ps sp) (hr : Room j X.A) (hk : k ≤ j) (hx : Passes (L2.CX X.prog X.w) X E) (he : PE X o ta) (ha : PA X (e :: es) t)
    (hst : starEach (e :: es) X.env = (false, eval e X.env) :: starEach es X.env := by rfl) (hpl : (backTo pos (starEach es X.env)).any (·.1) = false := by rfl)
    (ht : eval (.Call (.Attribute o m apos) (e :: es) [] pos) X.env = (do
      let ov ← eval o X.env
      standAt apos.atName
      let (f, first) ← holding [ov] (getMethod ov m pl)
      callWith pos f first (backTo pos (starEach (e :: es) X.env)) (backToKw pos (keywordEach [] X.env))) := by rfl) :
    PE X (.Call (.Attribute o m apos) (e :: es) [] pos) (tMeth C m sp [] E ta t) := by
  obtain ⟨f, fd, F, G, hc, hm, b⟩ := D.ex
  exact pe_meth (pl := pl) he hc hm G (hr.mono hk) b .nil hx ha hst hpl ht
theorem pe_m0 {pl : Sem Bool} (D : Dm X.prog X.w X.K X.mg X.base k C m qual st ps sp) (hr : Room j X.A) (hk : k ≤ j) (hx : Passes (L2.CX X.prog X.w) X E) (he : PE X o ta)
    (ht : eval (.Call (.Attribute o m apos) [] [] pos) X.env = (do
      let ov ← eval o X.env
      standAt apos.atName
      let (f, first) ← holding [ov] (getMethod ov m pl)
      callWith pos f first (backTo pos (starEach [] X.env)) (backToKw pos (keywordEach [] X.env))) := by rfl) :
    PE X (.Call (.Attribute o m apos) [] [] pos) (tMeth C m sp [] E ta tNil) := by
  obtain ⟨f, fd, F, G, hc, hm, b⟩ := D.ex
  exact pe_meth0 (pl := pl) he hc hm G (hr.mono hk) b .nil hx ht
theorem pe_k (D : Dk X.prog X.w X.K X.mg X.base k C x qual st ps sp) (hr : Room j X.A) (hk : k + 1 ≤ j) (hg : Gl X x) (hx : Passes (L2.CX X.prog X.w) X E) (ha : PA X (e :: es) t)
    (hdb : (x == ("__debug__" : Str)) = false := by decide) (he : starEach (e :: es) X.env = (false, eval e X.env) :: starEach es X.env := by rfl) (hpl : (backTo pos (starEach es X.env)).any (·.1) = false := by rfl) :
    PE X (.Call (.Name x p) (e :: es) [] pos) (tMake C sp [] E t) := by
  obtain ⟨f, fd, F, G, M, hm, b⟩ := D.ex
  exact pe_make M G (hr.mono hk) hg hm b .nil hx ha hdb he hpl
/-- keywords: the parameters' order of what the call gives -/
theorem kb_of {f : Addr} {fd : FuncData} {n : Nat} {g : {α : Type} → List α → List α → List α} (F : Fun X.K x qual st f fd)
    (hrel : ∀ {vs zs : List V} {us ws : List Value}, Vals vs us → Vals zs ws → Vals (g vs zs) (g us ws))
    (h : ∀ (kV doc pm : Value) (an : Option Addr) (cdv ct : Value) (us ws : List Value), us.length = n → ws.length = ks.length → bindArgs (fo x qual st kV doc pm an cdv ct) ⟨us, ks.zip ws⟩ = pure (ps.zip (g us ws))) : KBn X.K fd ps n ks (fun us ws => g us ws) (fun vs zs => g vs zs) := by
  obtain ⟨oc, od, kV, doc, pm, an, cdv, ct, osl, rfl, lk, hcd⟩ := F.ex
  exact ⟨fun s us ws _ l1 l2 => .of_eq (h kV doc pm an cdv ct us ws l1 l2), hrel⟩
theorem pe_dK0 {g : {α : Type} → List α → List α → List α} (D : Df X.prog X.w X.K X.mg X.base k x st ps sp) (hr : Room j X.A) (hk : k ≤ j) (hg : Gl X x) (hx : Passes (L2.CX X.prog X.w) X E)
    (hrel : ∀ {vs zs : List V} {us ws : List Value}, Vals vs us → Vals zs ws → Vals (g vs zs) (g us ws))
    (hb : ∀ (kV doc pm : Value) (an : Option Addr) (cdv ct : Value) (us ws : List Value), us.length = 0 → ws.length = ks.length → bindArgs (fo x x st kV doc pm an cdv ct) ⟨us, ks.zip ws⟩ = pure (ps.zip (g us ws)))
    (hkw : PK X kws tk) (hall : (backToKw pos (keywordEach kws X.env)).all (·.1.isSome) = true := by rfl) (hks : (backToKw pos (keywordEach kws X.env)).filterMap (·.1) = ks := by rfl)
    (hdb : (x == ("__debug__" : Str)) = false := by decide)
    (hpl : ((backTo pos (starEach [] X.env)).any (·.1) || (backToKw pos (keywordEach kws X.env)).any (·.1.isNone)) = false := by rfl) :
    PE X (.Call (.Name x p) [] kws pos) (tCallN 0 ks.length sp (fun vs zs => g vs zs) E tNil tk) := by
  obtain ⟨f, fd, F, G, hm, b⟩ := D.ex
  refine ⟨fun pins s σ H Q I h => ?_⟩
  refine wpAny_Call_Name_kw (ld_glob I hg hm ?_ hdb)
  refine PySem.W.callWith_KW0 (h₀ := X.base) I.ok.mod.kin F.kp hall ?_ hpl
  refine thn (hkw.run pos pins s σ H _ I h) fun ws s2 ⟨zs, H2, I2, rz, l1, l2, q2⟩ => ⟨I2.kIn, ?_⟩
  rw [hks]
  exact run_fnN (us := []) (vs := []) G (hr.mono hk) (kb_of F hrel hb) hx I2 .nil rz rfl l2 q2
theorem pe_dK {n : Nat} {g : {α : Type} → List α → List α → List α} (D : Df X.prog X.w X.K X.mg X.base k x st ps sp) (hr : Room j X.A) (hk : k ≤ j) (hg : Gl X x) (hx : Passes (L2.CX X.prog X.w) X E)
    (hrel : ∀ {vs zs : List V} {us ws : List Value}, Vals vs us → Vals zs ws → Vals (g vs zs) (g us ws))
    (hb : ∀ (kV doc pm : Value) (an : Option Addr) (cdv ct : Value) (us ws : List Value), us.length = n → ws.length = ks.length → bindArgs (fo x x st kV doc pm an cdv ct) ⟨us, ks.zip ws⟩ = pure (ps.zip (g us ws)))
    (ha : PA X (e :: es) t) (hkw : PK X kws tk) (hall : (backToKw pos (keywordEach kws X.env)).all (·.1.isSome) = true := by rfl) (hks : (backToKw pos (keywordEach kws X.env)).filterMap (·.1) = ks := by rfl)
    (hdb : (x == ("__debug__" : Str)) = false := by decide) (he : starEach (e :: es) X.env = (false, eval e X.env) :: starEach es X.env := by rfl)
    (hpl : ((backTo pos (starEach (e :: es) X.env)).any (·.1) || (backToKw pos (keywordEach kws X.env)).any (·.1.isNone)) = false := by rfl) :
    PE X (.Call (.Name x p) (e :: es) kws pos) (tCallN n ks.length sp (fun vs zs => g vs zs) E t tk) := by
  obtain ⟨f, fd, F, G, hm, b⟩ := D.ex
  exact pe_callN G (hr.mono hk) hg hm F.kp (kb_of F hrel hb) hx ha hkw hall hks hdb he hpl
theorem pe_kK0 {g : {α : Type} → List α → List α → List α} (D : Dk X.prog X.w X.K X.mg X.base k C x qual st ps sp) (hr : Room j X.A) (hk : k + 1 ≤ j) (hg : Gl X x) (hx : Passes (L2.CX X.prog X.w) X E)
    (hrel : ∀ {vs zs : List V} {us ws : List Value}, Vals vs us → Vals zs ws → Vals (g vs zs) (g us ws))
    (hb : ∀ (kV doc pm : Value) (an : Option Addr) (cdv ct : Value) (us ws : List Value), us.length = 1 → ws.length = ks.length → bindArgs (fo "__init__" qual st kV doc pm an cdv ct) ⟨us, ks.zip ws⟩ = pure (ps.zip (g us ws)))
    (hkw : PK X kws tk) (hall : (backToKw pos (keywordEach kws X.env)).all (·.1.isSome) = true := by rfl) (hks : (backToKw pos (keywordEach kws X.env)).filterMap (·.1) = ks := by rfl)
    (hdb : (x == ("__debug__" : Str)) = false := by decide)
    (hpl : ((backTo pos (starEach [] X.env)).any (·.1) || (backToKw pos (keywordEach kws X.env)).any (·.1.isNone)) = false := by rfl) :
    PE X (.Call (.Name x p) [] kws pos) (tMakeK C 0 ks.length sp (fun vs zs => g vs zs) E tNil tk) := by
  obtain ⟨f, fd, F, G, M, hm, b⟩ := D.ex
  exact pe_makeK0 M G (hr.mono hk) hg hm (kb_of F hrel hb) hx hkw hall hks hdb hpl
/-- o.m(k = v, ..) -/
def tMethK (C : Addr) (m : Str) (n : Nat) (sp : Sp) (gV : List V → List V → List V) (E : XK) (ta : TE) (tk : TA) : TE := fun σ H Q => ta σ H fun x H1 => ∃ a dx fs, x = .ref a ∧ H1 a = some (.ins C dx fs) ∧ fs.lookup m = none ∧
  tk σ H1 fun zs H2 => zs.length = n ∧ sp (gV [x] zs) H2 Q E
theorem pe_mK0 {pl : Sem Bool} {g : {α : Type} → List α → List α → List α} (D : Dm X.prog X.w X.K X.mg X.base k C m qual st ps sp) (hr : Room j X.A) (hk : k ≤ j) (hx : Passes (L2.CX X.prog X.w) X E) (he : PE X o ta)
    (hrel : ∀ {vs zs : List V} {us ws : List Value}, Vals vs us → Vals zs ws → Vals (g vs zs) (g us ws))
    (hb : ∀ (kV doc pm : Value) (an : Option Addr) (cdv ct : Value) (us ws : List Value), us.length = 1 → ws.length = ks.length → bindArgs (fo m qual st kV doc pm an cdv ct) ⟨us, ks.zip ws⟩ = pure (ps.zip (g us ws)))
    (hkw : PK X kws tk) (hall : (backToKw pos (keywordEach kws X.env)).all (·.1.isSome) = true := by rfl) (hks : (backToKw pos (keywordEach kws X.env)).filterMap (·.1) = ks := by rfl)
    (hpl : ((backTo pos (starEach [] X.env)).any (·.1) || (backToKw pos (keywordEach kws X.env)).any (·.1.isNone)) = false := by rfl)
    (ht : eval (.Call (.Attribute o m apos) [] kws pos) X.env = (do
      let ov ← eval o X.env
      standAt apos.atName
      let (f, first) ← holding [ov] (getMethod ov m pl)
      callWith pos f first (backTo pos (starEach [] X.env)) (backToKw pos (keywordEach kws X.env))) := by rfl) :
    PE X (.Call (.Attribute o m apos) [] kws pos) (tMethK C m ks.length sp (fun vs zs => g vs zs) E ta tk) := by
  obtain ⟨f, fd, F, G, hc, hm, b⟩ := D.ex
  refine ⟨fun pins s σ H Q I h => ?_⟩
  refine PySem.W.methodCall_KW (pl := pl) (thn (he.run pins s σ H _ I h) fun u s1 ⟨x, H1, I1, rx, a, dx, fs, ex, ea, l, q⟩ => ?_) ht
  subst ex
  obtain rfl : u = Value.ref a := rx
  refine getmeth_ok I1 ea hc hm l ?_
  refine PySem.W.callWith_KW0 (first := [.ref a]) (h₀ := X.base) I1.ok.mod.kin hm.kp hall ?_ hpl
  refine thn (hkw.run pos pins s1 σ H1 _ I1 q) fun ws s2 ⟨zs, H2, I2, rz, l2, q2⟩ => ⟨I2.kIn, ?_⟩
  rw [hks]
  exact run_fnN (us := [.ref a]) (vs := [.ref a]) G (hr.mono hk) (kb_of F hrel hb) hx I2 (.cons rfl .nil) rz rfl l2 q2
end
end R9
namespace R9
open PySem PySem.Spec PyProof.Rows L2
open L2H (RoomH PinOk cxH inv_startH)
/-! ### defs that run while an exception is handled, the exception among their arguments -/
/-- p: the handled exception's object, cls its class, d its own dict -/
def Exo (p : Addr × Obj) (cls : Value) (d : Option Addr) : Prop := Zc cls d p.2 ∧ ∃ fv, p.2.data = .fields fv
abbrev SpE := Addr → Value → Option Addr → Sp
structure FnE (P : Program) (w : World) (K : PySem.W.Frag) (mg : Str → Option Value) (base : Heap) (k : Nat) (f : Addr) (fd : FuncData) (ps : List Str) (sp : SpE) : Prop where
  len : ∀ a cls d vs H Q E, sp a cls d vs H Q E → vs.length = ps.length
  run : ∀ (A : Around) (outer : List Env) (s : Shared) (H : Hp) (args : Args) (us : List Value) (vs : List V) (Q : VK) (E : XK) (p : Addr × Obj) (cls : Value) (d : Option Addr),
    RoomH k A → PinOk outer H s p → Exo p cls d → Env0 P w K mg base A outer s H → BindsTo s fd args (ps.zip us) → Vals vs us → sp p.1 cls d vs H Q E → codeAny (model P w) A (.call (.ref f) args) (CR (L2.CX P w) outer P w H s Q E) s
section
variable {P : Program} {w : World} {K : PySem.W.Frag} {mg : Str → Option Value} {base : Heap}
theorem okE {x qual : Str} {st : Stmt} {f : Addr} {fd : FuncData} {N ps : List Str} {k : Nat} {sp : SpE} (F : Fun K x qual st f fd) (S : FnScope N ps (defScope st)) (len : ∀ a cls d vs H Q E, sp a cls d vs H Q E → vs.length = ps.length)
    (body : ∀ (cdv : Value) (A : Around) (outer : List Env) (s : Shared) (H : Hp) (vs : List V) (Q : VK) (E : XK) (p : Addr × Obj) (cls : Value) (d : Option Addr), Exo p cls d → RoomH k (A.deeper (envOfC qual (defScope st) s.heap.objs.size f cdv)) → sp p.1 cls d vs H Q E →
      ∃ t, PSs (cxH (L2.CX P w) P w K mg base N qual (defScope st) f cdv A outer s H E p) (defBody st) t ∧ t { nx := fun _ H' => Q .non H', rt := Q } (L2.start N vs) H) : FnE P w K mg base (k + 1) f fd ps sp := by
  obtain ⟨oc, od, kV, doc, pm, an, cdv, ct, osl, rfl, lk, hcd⟩ := F.ex
  refine ⟨len, fun A outer s H args us vs Q E p cls d room pin exo e0 bind rel want => ?_⟩
  have all : ∀ b o, base.get? b = some o → s.heap.get? b = some o := fun b o e => (e0.bs b o e).1
  have KX : K.In s.heap := e0.mod.kin.keeps all
  have par : ∀ y ∈ ps.zip us, (defScope st).names.lookup y.1 = some .local ∨ ((defScope st).names.lookup y.1 = some .cell ∧ ((cellsFrom (s.heap.objs.size + 1) (defScope st).names []).lookup y.1).isSome = true) := by
    rintro ⟨n, v⟩ hy
    exact (S.par n (List.of_mem_zip hy).1).imp id fun q => ⟨q, PySem.W.cellsFrom_some _ _ _ (.inl q)⟩
  refine codeAny_call_function room.depth (KX _ _ lk) rfl S.co S.gen rfl (PySem.W.codeRec_of KX hcd) (bind _ _ _ _ ?_)
  refine wpAny_newFunctionEnv_cells S.kind par fun env henv s1 inC => ?_
  cases henv
  refine ⟨(e0.mod.nolimit.keeps all).keeps inC.toInCall.keep, codeAny_func ?_⟩
  obtain ⟨t, ht, hq⟩ := body cdv A outer s H vs Q E p cls d exo (room.deeper _) want
  have I := inv_startH (CX := L2.CX P w) (E := E) S pin e0 (len _ _ _ _ _ _ _ want) rel inC
  refine wpAny_mono (ht.run [] s1 (L2.start N vs) H _ I hq) (fun fl s' z => ?_) fun _ _ z => z
  cases fl with
  | ret u =>
    obtain ⟨v, σ', H', J, rv, q⟩ := z
    exact ⟨v, H', J.os, J.bare, J.base, J.hok, rv, q⟩
  | next =>
    obtain ⟨σ', H', J, q⟩ := z
    exact ⟨.non, H', J.os, J.bare, J.base, J.hok, rfl, q⟩
  | brk =>
    obtain ⟨_, _, _, no⟩ := z
    exact no.elim
  | cont =>
    obtain ⟨_, _, _, no⟩ := z
    exact no.elim
end
/-- such a def, packed -/
structure De (P : Program) (w : World) (K : PySem.W.Frag) (mg : Str → Option Value) (base : Heap) (k : Nat) (x : Str) (ps : List Str) (sp : SpE) : Prop where
  ex : ∃ (f : Addr) (fd : FuncData), FnE P w K mg base k f fd ps sp ∧ mg x = some (.ref f) ∧ PySem.W.keepIn K (.ref f) = true ∧ Binds K fd ps []
/-- where a handled exception stands -/
structure HotX (X : Cx) (p : Addr × Obj) (cls : Value) (d : Option Addr) : Prop where
  pin : p ∈ X.pn
  exo : Exo p cls d
section
variable {X : Cx} {j k : Nat} {x m : Str} {ps : List Str} {sp : SpE} {p : Addr × Obj} {cls : Value} {d : Option Addr} {q pos : Pos} {e : Expr} {es : List Expr} {t : TA} {te : TE} {C : Addr}
theorem hot_suite {X : Cx} {a : Addr} {oe : Obj} {pn : List (Addr × Obj)} (hz : Zc cls d oe) (hf : ∃ fv, oe.data = .fields fv) : HotX (X.suite a ((a, oe) :: pn)) (a, oe) cls d := ⟨List.mem_cons_self, hz, hf⟩
theorem hot_def {CX : CXT} {P : Program} {w : World} {K : PySem.W.Frag} {mg : Str → Option Value} {base : Heap} {N : List Str} {qual : Str} {scope : Scope} {f : Addr} {cd : Value} {A : Around} {outer : List Env} {s : Shared} {H : Hp} {E : XK} (ex : Exo p cls d) :
    HotX (cxH CX P w K mg base N qual scope f cd A outer s H E p) p cls d := ⟨List.mem_cons_self, ex⟩
/-- a call, nothing let out -/
theorem pe_e {a : Addr} {oe : Obj} (D : De X.prog X.w X.K X.mg X.base k x ps sp) (hot : HotX X (a, oe) cls d) (hr : RoomH j X.A) (hk : k ≤ j) (hg : Gl X x) (ha : PA X (e :: es) t) (hdb : (x == ("__debug__" : Str)) = false := by decide)
    (he : starEach (e :: es) X.env = (false, eval e X.env) :: starEach es X.env := by rfl) (hpl : (backTo pos (starEach es X.env)).any (·.1) = false := by rfl) :
    PE X (.Call (.Name x q) (e :: es) [] pos) (fun σ H Q => t σ H fun vs H1 => sp a cls d vs H1 Q E0) := by
  obtain ⟨f, fd, F, hm, kp, b⟩ := D.ex
  refine ⟨fun pins s σ H Q I h => wpAny_Call_Name_kw (ld_glob I hg hm ?_ hdb)⟩
  refine PySem.W.callWith_K (h₀ := X.base) I.ok.mod.kin kp (thn (ha.run pos pins s σ H _ I h) fun us s1 ⟨vs, H1, I1, rel, want⟩ => ⟨I1.kIn, ?_⟩) he hpl
  have hl : us.length = ps.length := rel.length.symm.trans (F.len _ _ _ _ _ _ _ want)
  have bt := b s1 us I1.kIn (by rw [List.append_nil]; exact hl)
  rw [List.append_nil] at bt
  obtain ⟨g1, g2, g3, g4, g5⟩ := I1.pin (a, oe) (List.mem_append_left _ hot.pin)
  have pin : PinOk X.stack H1 s1 (a, oe) := ⟨g1, g2, fun z => (List.mem_cons.mp (I1.stkSub a z)).elim g3 g4, g5⟩
  refine wpAny_call (codeAny_mono (F.run X.A X.stack s1 H1 ⟨us, []⟩ us vs Q E0 (a, oe) cls d (hr.mono hk) pin hot.exo I1.env0 bt rel want) fun r s' z => ?_)
  cases r with
  | ok fl =>
    cases fl with
    | ret u => exact I1.after z
    | next => exact z.elim
    | brk => exact z.elim
    | cont => exact z.elim
  | error er =>
    obtain ⟨_, _, _, _, _, _, _, _, _, _, _, _, no⟩ := z
    exact no.elim
/-- e.f, e the handled exception -/
theorem pe_xfP {a : Addr} {oe : Obj} {n : Str} (hot : HotX X (a, oe) cls d) (T : XfC X.K C) (hno : PySem.W.findIn X.K (.ref C) n = some none) (he : PE X e te) (hb : attributeBase e n X.env (eval e X.env) = eval e X.env := by rfl) :
    PE X (.Attribute e n pos) (fun σ H Q => te σ H fun x H1 => x = .ref a ∧ cls = .ref C ∧ ∃ (dd : Addr) (fs : List (Str × V)) (v : V), d = some dd ∧ H1 dd = some (.xd fs) ∧ fs.lookup n = some v ∧ Q v H1) := by
  refine ⟨fun pins s σ H Q I h => attr_of hb (thn (he.run pins s σ H _ I h) ?_)⟩
  rintro u s1 ⟨x, H1, I1, rx, rfl, rfl, dd, fs, v, rfl, ea, l, q⟩
  obtain rfl : u = Value.ref a := rx
  obtain ⟨⟨hc, hd⟩, fv, hv⟩ := hot.exo
  have ha := (I1.pin (a, oe) (List.mem_append_left _ hot.pin)).1
  obtain ⟨mA, hns, hr⟩ := (show ObjOk X.prog X.w H1 s1.heap dd (.xd fs) from I1.hok dd _ ea)
  obtain ⟨od, ho, hl⟩ := lookIn_ns hns
  obtain ⟨u, hu, ru⟩ := RelO.some_of (v := v) (o := mA n) (by rw [← l]; exact hr n)
  have J : PySem.W.InstAt s1.heap a oe C (some od) := ⟨ha, hc, by unfold PySem.W.notCls; rw [hv] <;> rfl, by rw [hd]; exact ho⟩
  exact HandSPX.exc_get I1.kIn J T.ga T.gg T.exC (PySem.W.findObj_own T.hdC hno rfl (by rw [hl, hu])) (handed_of ru) ⟨v, H1, I1.tok _, ru, q⟩
end
end R9
namespace PySem.W
open PySem PySem.Spec PySem.Calls PyProof.Rows
/-- isinstance, asked of an own exception with or without a dict of its own -/
theorem r9_kit {K : Frag} {x D : Addr} {ox : Obj} (C : L2.ExcC K D) : KitX K (.ref x) (.ref D) (fun h => ∃ od, InstAt h x ox D od) := by
  obtain ⟨cd, hcd, _⟩ := any_some C.hd
  have cls : ∃ c' d' sl', K.lookup D = some ⟨c', d', .cls cd, sl'⟩ := by
    unfold clsIn at hcd
    split at hcd
    · rename_i c' d' cd' sl' ho
      cases hcd
      exact ⟨c', d', sl', ho⟩
    · cases hcd
  obtain ⟨c', d', sl', ho⟩ := cls
  refine ⟨fun _ _ _ ⟨_, I⟩ => I.type, fun _ h X _ => ?_, fun h tp dd its n sl X htp => ?_, fun X ⟨od, I⟩ k => ?_⟩
  · intro A' Q' E' s' k q
    unfold isType loadHead
    exact wpAny_bind (wpAny_loadPart (k _ _ (X _ _ ho)) (wpAny_pure q))
  · refine Bool.eq_false_iff.mpr fun q => ?_
    cases (Value.ref.inj (beq_iff_eq.mp q))
    cases (X _ _ ho).symm.trans htp
  · exact kx_classE X I C.hg C.hk C.hs (findObj_dataE (by rw [hcd] <;> rfl) C.ha C.hn C.ht) C.hm k
end PySem.W
namespace R9
open PySem PySem.Spec PyProof.Rows L2
/-- isinstance(e, c), e the handled exception -/
theorem call_isP {X : Cx} {a : Addr} {oe : Obj} {D : Addr} {d : Option Addr} (hot : HotX X (a, oe) (.ref D) d) (C : ExcC X.K D) :
    CallR X (.builtin "isinstance") (fun xs H Q => ∃ (c : V) (cv : Value) (b : Bool), xs = [.ref a, c] ∧ ClsV c cv ∧ PySem.W.kitOne X.K (.ref D) cv = some b ∧ (∀ dd, d = some dd → ∃ fs, H dd = some (.xd fs)) ∧ Q (.bl b) H) := by
  rintro pins s σ H xs us Q I r ⟨c, cv, b, rfl, hcv, e, hdd, q⟩
  obtain ⟨u1, u2, rfl, r1, r2⟩ := vals2 r
  cases (show u1 = Value.ref a from r1)
  cases hcv.eq r2
  obtain ⟨⟨hc, hd⟩, fv, hv⟩ := hot.exo
  have ha := (I.pin (a, oe) (List.mem_append_left _ hot.pin)).1
  have J : ∃ od, PySem.W.InstAt s.heap a oe D od := by
    cases d with
    | none => exact ⟨none, ha, hc, by unfold PySem.W.notCls; rw [hv] <;> rfl, by rw [hd]; trivial⟩
    | some dd =>
      obtain ⟨fs, hfs⟩ := hdd dd rfl
      obtain ⟨mA, hns, hr⟩ := (show ObjOk X.prog X.w H s.heap dd (.xd fs) from I.hok dd _ hfs)
      obtain ⟨od, ho, hl⟩ := lookIn_ns hns
      exact ⟨some od, ha, hc, by unfold PySem.W.notCls; rw [hv] <;> rfl, by rw [hd]; exact ho⟩
  exact PySem.W.kia_one (PySem.W.r9_kit C) I.kIn J e (fun z => nomatch z) fun tk => ⟨.bl b, H, I.kept (t' := tk) fun _ _ z => z, rfl, q⟩
end R9
namespace R9
open PySem PySem.Spec PyProof.Rows L2
open L2H (RoomH)
/-! ### promises by the number of arguments -/
def sp1 (R : V → Hp → VK → XK → Prop) : Sp := fun vs H Q E => ∃ a, vs = [a] ∧ R a H Q E
def sp2 (R : V → V → Hp → VK → XK → Prop) : Sp := fun vs H Q E => ∃ a b, vs = [a, b] ∧ R a b H Q E
def sp3 (R : V → V → V → Hp → VK → XK → Prop) : Sp := fun vs H Q E => ∃ a b c, vs = [a, b, c] ∧ R a b c H Q E
def sp4 (R : V → V → V → V → Hp → VK → XK → Prop) : Sp := fun vs H Q E => ∃ a b c d, vs = [a, b, c, d] ∧ R a b c d H Q E
def sp5 (R : V → V → V → V → V → Hp → VK → XK → Prop) : Sp := fun vs H Q E => ∃ a b c d e, vs = [a, b, c, d, e] ∧ R a b c d e H Q E
theorem vals_rev {vs : List V} {us : List Value} (r : Vals vs us) : Vals vs.reverse us.reverse := by
  induction r with
  | nil => exact .nil
  | cons h t ih =>
    rw [List.reverse_cons, List.reverse_cons]
    exact ih.append (.cons h .nil)
theorem roomH_mark {X : Cx} {k : Nat} {a : Addr} {pn : List (Addr × Obj)} (r : Room k X.A) : RoomH k (X.suite a pn).A := ⟨(L2H.roomH_of r).dp, (L2H.roomH_of r).un⟩
/-! ### what is kept -/
/-- all is kept but what stands at the addresses S -/
def But (S : List Addr) (H H' : Hp) : Prop := ∀ c o, H c = some o → c ∉ S → H' c = some o
theorem But.refl (S : List Addr) (H : Hp) : But S H H := fun _ _ e _ => e
theorem But.trans {S : List Addr} {H H1 H2 : Hp} (a : But S H H1) (b : But S H1 H2) : But S H H2 := fun c o e n => b c o (a c o e n) n
theorem But.mono {S T : List Addr} {H H' : Hp} (a : But S H H') (h : ∀ x ∈ S, x ∈ T) : But T H H' := fun c o e n => a c o e fun z => n (h c z)
theorem But.new {S : List Addr} {H : Hp} {p : Addr} {o : HO} (h : H p = none) : But S H (upd H p o) := fun c u e _ => by
  rw [upd_ne (ne_of_none e h)]
  exact e
theorem But.put {S : List Addr} {H : Hp} {p : Addr} {o : HO} (h : p ∈ S) : But S H (upd H p o) := fun c u e n => by
  rw [upd_ne fun z => n (by rw [z]; exact h)]
  exact e
/-- an address that was free at the start needs no mention -/
theorem But.drop {S : List Addr} {H H' : Hp} {r : Addr} (h : H r = none) (a : But (r :: S) H H') : But S H H' := fun c o e n => a c o e fun z => by
  rcases List.mem_cons.mp z with z | z
  · rw [z, h] at e
    cases e
  · exact n z
theorem But.of_same {S : List Addr} {H H' : Hp} (a : Same H H') : But S H H' := fun c o e _ => a c o e
theorem But.same {H H' : Hp} (a : But [] H H') : Same H H' := fun c o e => a c o e (fun z => by cases z)
theorem But.at {S : List Addr} {H H' : Hp} {c : Addr} {o : HO} (a : But S H H') (e : H c = some o) (n : c ∉ S) : H' c = some o := a c o e n
theorem But.nil_at {S : List Addr} {H H' : Hp} {c : Addr} (a : But S H H') (n : c ∉ S) (e : H' c = none) : H c = none := by
  cases h : H c with
  | none => rfl
  | some o => rw [a c o h n] at e; cases e
theorem Same.but {H H' : Hp} (a : Same H H') : But [] H H' := But.of_same a
/-! ### packed operators, packed exceptions -/
structure Dx (P : Program) (w : World) (K : PySem.W.Frag) (mg : Str → Option Value) (base : Heap) (k : Nat) (C : Addr) (x qual : Str) (st : Stmt) (ps : List Str) (sp : Sp) : Prop where
  ex : ∃ (f : Addr) (fd : FuncData), Fun K "__init__" qual st f fd ∧ FnOk P w K mg base (L2.CX P w) k f fd ps sp ∧ OexC K C ∧ PySem.W.findIn K (.ref C) "__init__" = some (some (.ref f)) ∧ PySem.W.typeIn K (.ref f) = some (.type "function") ∧ mg x = some (.ref C) ∧ Binds K fd ps []
section
variable {X : Cx} {j k : Nat} {x m qual : Str} {st : Stmt} {ps : List Str} {sp : Sp} {C : Addr} {p pos : Pos} {e : Expr} {es : List Expr} {t : TA}
theorem pmk_x (D : Dx X.prog X.w X.K X.mg X.base k C x qual st ps sp) (hr : Room j X.A) (hk : k + 1 ≤ j) (hg : Gl X x) (ha : PA X (e :: es) t) (hdb : (x == ("__debug__" : Str)) = false := by decide)
    (he : starEach (e :: es) X.env = (false, eval e X.env) :: starEach es X.env := by rfl) (hpl : (backTo pos (starEach es X.env)).any (·.1) = false := by rfl) :
    PMk X (.Call (.Name x p) (e :: es) [] pos) (tMkO C sp [] t) := by
  obtain ⟨f, fd, F, G, T, i1, i2, hm, b⟩ := D.ex
  exact pmk_oex T i1 i2 G (hr.mono hk) b .nil passL hg hm ha hdb he hpl
theorem op_d {op : Operator} (D : Dm X.prog X.w X.K X.mg X.base k C m qual st ps sp) (hr : Room j X.A) (hk : k ≤ j) (sf : PySem.W.selfFirst X.K C = true) (hm : PySem.dunder op.info.2 = m) : OpR X (binaryOp op) (rOwn C sp E0) := by
  obtain ⟨f, fd, F, G, hc, me, b⟩ := D.ex
  subst hm
  exact op_own G (hr.mono hk) sf me.at_ me.fn b passL
theorem op_dE (D : Dm X.prog X.w X.K X.mg X.base k C "__eq__" qual st ps sp) (hr : Room j X.A) (hk : k ≤ j) : OpR X (compareOp .Eq) (rOwnEq X.K C sp E0) := by
  obtain ⟨f, fd, F, G, hc, me, b⟩ := D.ex
  exact op_ownEq G (hr.mono hk) me.at_ me.fn b passL
theorem op_dN (D : Dm X.prog X.w X.K X.mg X.base k C "__eq__" qual st ps sp) (hr : Room j X.A) (hk : k + 1 ≤ j) (hne : PySem.W.findIn X.K (.ref C) "__ne__" = some (some (.builtin "object.__ne__"))) (hob : PySem.W.subIn X.K (.ref C) (.type "object") = some true) :
    OpR X (compareOp .NotEq) (rOwnNe X.K C sp E0) := by
  obtain ⟨f, fd, F, G, hc, me, b⟩ := D.ex
  exact op_ownNe G (hr.mono hk) me.at_ me.fn b passL hne hob
end
/-! ### a word between a statement and the rest -/
def tMid (t u : TS) : TS := fun D σ H => ∃ M : L2.St → Hp → Prop, t { D with nx := M } σ H ∧ ∀ σ' H', M σ' H' → u D σ' H'
theorem pss_mid {X : Cx} {st : Stmt} {rest : List Stmt} {t u : TS} (one : PS X st t) (more : PSs X rest u) : PSs X (st :: rest) (tMid t u) := by
  refine ⟨fun pins s σ H D I ⟨M, h1, h2⟩ => wpAny_execs_cons (wpAny_mono (one.run pins s σ H { D with nx := M } I h1) (fun fl s1 z => ?_) fun _ _ z => z)⟩
  cases fl with
  | next =>
    obtain ⟨σ', H', J, m⟩ := z
    exact more.run pins s1 σ' H' D J (h2 σ' H' m)
  | ret v => exact z
  | brk => exact z
  | cont => exact z
/-- what a callee lets out, told where the number of slots is known -/
theorem passes_len {X : Cx} {W : WX} {E : XK} (tk : Takes X W) (hW : ∀ cls d σ H, σ.length = X.N.length → E cls d H → W cls d σ H) : Passes (L2.CX X.prog X.w) X E :=
  fun _ σ _ _ e s' I c => tk e s' (XE.of_call I (fun cls d H' h => hW cls d σ H' I.len h) c)
end R9
namespace K01
open PySem PySem.Spec PyProof.Rows L2 R9 R9M
open L2H (RoomH)
def topS (i : Nat) : Stmt := PySem.Challenge.pw_marktruly_k01_shares.main.body.getD i (.Pass ⟨0, 0, 0, 0⟩)
abbrev s_wall : Stmt := topS 1
abbrev s_kept : Stmt := topS 3
abbrev s_InvalidNumber_init : Stmt := inClass (topS 5) 0
abbrev s_Share_init : Stmt := inClass (topS 7) 0
abbrev s_Share_add : Stmt := inClass (topS 7) 1
abbrev s_Share_sub : Stmt := inClass (topS 7) 2
abbrev s_Share_mul : Stmt := inClass (topS 7) 3
abbrev s_Share_eq : Stmt := inClass (topS 7) 4
abbrev s_Share_by : Stmt := inClass (topS 7) 5
abbrev s_Share_is_below : Stmt := inClass (topS 7) 6
abbrev s_Share_written : Stmt := inClass (topS 7) 7
abbrev s_lesser_of : Stmt := topS 8
abbrev s_sum_of : Stmt := topS 9
abbrev s_law_integer : Stmt := topS 11
abbrev s_law_flag : Stmt := topS 12
abbrev s_law_gcd : Stmt := topS 13
abbrev s_law_start : Stmt := topS 14
abbrev s_law_draw : Stmt := topS 15
abbrev s_law_wide : Stmt := topS 16
abbrev s_law_is : Stmt := topS 17
abbrev s_law_number : Stmt := topS 18
abbrev s_law_fraction : Stmt := topS 19
abbrev s_law_second : Stmt := topS 20
abbrev s_law_signed : Stmt := topS 21
abbrev s_law_zero : Stmt := topS 22
abbrev s_law_quotient : Stmt := topS 23
abbrev s_law_pair : Stmt := topS 24
abbrev s_law_unlike : Stmt := topS 25
abbrev s_law_no_under : Stmt := topS 26
abbrev s_law_row : Stmt := topS 27
abbrev s_law_body : Stmt := topS 28
abbrev s_law : Stmt := topS 29
abbrev s_sum_of_t : Stmt := topS 9
theorem sc_wall : FnScope ["k"] ["k"] (defScope s_wall) := ⟨rfl, rfl, rfl, by decide +kernel, rfl, by decide +kernel, by decide +kernel⟩
theorem sc_kept : FnScope ["value"] ["value"] (defScope s_kept) := ⟨rfl, rfl, rfl, by decide +kernel, rfl, by decide +kernel, by decide +kernel⟩
theorem sc_InvalidNumber_init : FnScope ["self", "number"] ["self", "number"] (defScope s_InvalidNumber_init) := ⟨rfl, rfl, rfl, by decide +kernel, rfl, by decide +kernel, by decide +kernel⟩
theorem sc_Share_init : FnScope ["self", "over", "under", "divisor"] ["self", "over", "under"] (defScope s_Share_init) := ⟨rfl, rfl, rfl, by decide +kernel, rfl, by decide +kernel, by decide +kernel⟩
theorem sc_Share_add : FnScope ["self", "other"] ["self", "other"] (defScope s_Share_add) := ⟨rfl, rfl, rfl, by decide +kernel, rfl, by decide +kernel, by decide +kernel⟩
theorem sc_Share_sub : FnScope ["self", "other"] ["self", "other"] (defScope s_Share_sub) := ⟨rfl, rfl, rfl, by decide +kernel, rfl, by decide +kernel, by decide +kernel⟩
theorem sc_Share_mul : FnScope ["self", "other"] ["self", "other"] (defScope s_Share_mul) := ⟨rfl, rfl, rfl, by decide +kernel, rfl, by decide +kernel, by decide +kernel⟩
theorem sc_Share_eq : FnScope ["self", "other"] ["self", "other"] (defScope s_Share_eq) := ⟨rfl, rfl, rfl, by decide +kernel, rfl, by decide +kernel, by decide +kernel⟩
theorem sc_Share_by : FnScope ["self", "other"] ["self", "other"] (defScope s_Share_by) := ⟨rfl, rfl, rfl, by decide +kernel, rfl, by decide +kernel, by decide +kernel⟩
theorem sc_Share_is_below : FnScope ["self", "other"] ["self", "other"] (defScope s_Share_is_below) := ⟨rfl, rfl, rfl, by decide +kernel, rfl, by decide +kernel, by decide +kernel⟩
theorem sc_Share_written : FnScope ["self"] ["self"] (defScope s_Share_written) := ⟨rfl, rfl, rfl, by decide +kernel, rfl, by decide +kernel, by decide +kernel⟩
theorem sc_lesser_of : FnScope ["share", "other"] ["share", "other"] (defScope s_lesser_of) := ⟨rfl, rfl, rfl, by decide +kernel, rfl, by decide +kernel, by decide +kernel⟩
theorem sc_sum_of : FnScope ["shares", "total", "share"] ["shares"] (defScope s_sum_of) := ⟨rfl, rfl, rfl, by decide +kernel, rfl, by decide +kernel, by decide +kernel⟩
theorem sc_law_integer : FnScope ["value"] ["value"] (defScope s_law_integer) := ⟨rfl, rfl, rfl, by decide +kernel, rfl, by decide +kernel, by decide +kernel⟩
theorem sc_law_flag : FnScope ["got", "due"] ["got", "due"] (defScope s_law_flag) := ⟨rfl, rfl, rfl, by decide +kernel, rfl, by decide +kernel, by decide +kernel⟩
theorem sc_law_gcd : FnScope ["one", "other", "k"] ["one", "other"] (defScope s_law_gcd) := ⟨rfl, rfl, rfl, by decide +kernel, rfl, by decide +kernel, by decide +kernel⟩
theorem sc_law_start : FnScope ["script"] ["script"] (defScope s_law_start) := ⟨rfl, rfl, rfl, by decide +kernel, rfl, by decide +kernel, by decide +kernel⟩
theorem sc_law_draw : FnScope ["state", "limit", "cell", "got"] ["state", "limit"] (defScope s_law_draw) := ⟨rfl, rfl, rfl, by decide +kernel, rfl, by decide +kernel, by decide +kernel⟩
theorem sc_law_wide : FnScope ["state", "number", "k", "limit"] ["state"] (defScope s_law_wide) := ⟨rfl, rfl, rfl, by decide +kernel, rfl, by decide +kernel, by decide +kernel⟩
theorem sc_law_is : FnScope ["got", "over", "under", "common"] ["got", "over", "under"] (defScope s_law_is) := ⟨rfl, rfl, rfl, by decide +kernel, rfl, by decide +kernel, by decide +kernel⟩
theorem sc_law_number : FnScope ["state", "kind", "size"] ["state"] (defScope s_law_number) := ⟨rfl, rfl, rfl, by decide +kernel, rfl, by decide +kernel, by decide +kernel⟩
theorem sc_law_fraction : FnScope ["state", "over", "under", "factor"] ["state"] (defScope s_law_fraction) := ⟨rfl, rfl, rfl, by decide +kernel, rfl, by decide +kernel, by decide +kernel⟩
theorem sc_law_second : FnScope ["state", "over", "under", "kind", "small"] ["state", "over", "under"] (defScope s_law_second) := ⟨rfl, rfl, rfl, by decide +kernel, rfl, by decide +kernel, by decide +kernel⟩
theorem sc_law_signed : FnScope ["over", "under"] ["over", "under"] (defScope s_law_signed) := ⟨rfl, rfl, rfl, by decide +kernel, rfl, by decide +kernel, by decide +kernel⟩
theorem sc_law_zero : FnScope ["error"] ["error"] (defScope s_law_zero) := ⟨rfl, rfl, rfl, by decide +kernel, rfl, by decide +kernel, by decide +kernel⟩
theorem sc_law_quotient : FnScope ["first", "second", "one", "other", "due", "e"] ["first", "second", "one", "other"] (defScope s_law_quotient) := ⟨rfl, rfl, rfl, by decide +kernel, rfl, by decide +kernel, by decide +kernel⟩
theorem sc_law_pair : FnScope ["first", "second", "one", "other", "a", "b", "c", "d", "below", "same", "least"] ["first", "second", "one", "other"] (defScope s_law_pair) := ⟨rfl, rfl, rfl, by decide +kernel, rfl, by decide +kernel, by decide +kernel⟩
theorem sc_law_unlike : FnScope ["share", "over", "under"] ["share", "over", "under"] (defScope s_law_unlike) := ⟨rfl, rfl, rfl, by decide +kernel, rfl, by decide +kernel, by decide +kernel⟩
theorem sc_law_no_under : FnScope ["over", "e"] ["over"] (defScope s_law_no_under) := ⟨rfl, rfl, rfl, by decide +kernel, rfl, by decide +kernel, by decide +kernel⟩
theorem sc_law_row : FnScope ["state", "first", "one", "over", "under", "row", "told", "many", "long", "k", "pair", "share"] ["state", "first", "one"] (defScope s_law_row) := ⟨rfl, rfl, rfl, by decide +kernel, rfl, by decide +kernel, by decide +kernel⟩
theorem sc_law_body : FnScope ["script", "state", "handed", "others", "first", "second", "one", "other", "k"] ["script"] (defScope s_law_body) := ⟨rfl, rfl, rfl, by decide +kernel, rfl, by decide +kernel, by decide +kernel⟩
theorem sc_law : FnScope ["script"] ["script"] (defScope s_law) := ⟨rfl, rfl, rfl, by decide +kernel, rfl, by decide +kernel, by decide +kernel⟩
theorem sc_sum_of_t : FnScope ["shares", "total", "share"] ["shares"] (defScope s_sum_of_t) := ⟨rfl, rfl, rfl, by decide +kernel, rfl, by decide +kernel, by decide +kernel⟩
/-! ### what the text's top has made, as far as the bodies ask -/
structure Txt (K : PySem.W.Frag) (mg : Str → Option Value) (CS CI : Addr) : Prop where
  len : mg "len" = none
  abs : mg "abs" = none
  int : mg "int" = none
  bool : mg "bool" = none
  str : mg "str" = none
  list : mg "list" = none
  tuple : mg "tuple" = none
  ValueError : mg "ValueError" = none
  max : mg "max" = none
  isinstance : mg "isinstance" = none
  range : mg "range" = none
  zip : mg "zip" = none
  gcd : mg "gcd" = some (.builtin "math.gcd")
  mgShare : mg "Share" = some (.ref CS)
  mgInvalidNumber : mg "InvalidNumber" = some (.ref CI)
  sf : PySem.W.selfFirst K CS = true
  cl : Cls K CS
  nO : NoAttr K CS "over"
  nU : NoAttr K CS "under"
  iCls : PySem.W.findIn K (.ref CS) "__class__" = some (some (.builtin "object.__class__"))
  iGet : PySem.W.specialIn K (.builtin "object.__class__") "__get__" = some (some (.builtin "getset_descriptor.__get__"))
  iTak : PySem.W.takesIn K (.builtin "object.__class__") = some true
  iObj : PySem.W.mroIn K CS (.type "object") = some true
  kSS : PySem.W.kitOne K (.ref CS) (.ref CS) = some true
  kI : PySem.W.kitOne K (.type "int") (.ref CS) = some false
  kT : PySem.W.kitOne K (.type "tuple") (.ref CS) = some false
  kL : PySem.W.kitOne K (.type "list") (.ref CS) = some false
  kX : PySem.W.kitOne K (.type "str") (.ref CS) = some false
  nfS : PySem.W.notFirst K CS (.ref CS) = true
  nfI : PySem.W.notFirst K CS (.type "int") = true
  nfT : PySem.W.notFirst K CS (.type "tuple") = true
  nfL : PySem.W.notFirst K CS (.type "list") = true
  nfX : PySem.W.notFirst K CS (.type "str") = true
  ne : PySem.W.findIn K (.ref CS) "__ne__" = some (some (.builtin "object.__ne__"))
  ob : PySem.W.subIn K (.ref CS) (.type "object") = some true
  oex : OexC K CI
  no_number : PySem.W.findIn K (.ref CI) "number" = some none
  xf : XfC K CI
  excC : ExcC K CI
  kVE : PySem.W.kitOne K (.ref CI) (.type "ValueError") = some true
  exm : PySem.W.exmOne K (.ref CI) (.ref CI) = some true
section
variable {P : Program} {w : World} {K : PySem.W.Frag} {mg : Str → Option Value} {base : Heap} {CS CI : Addr}
section
variable {X : Cx} {j k : Nat} {sp : Sp} {ps : List Str} {st : Stmt} {qual : Str}
theorem op_dAdd (D : Dm X.prog X.w X.K X.mg X.base k CS "__add__" qual st ps sp) (hr : Room j X.A) (hk : k ≤ j) (T : Txt X.K X.mg CS CI) : OpR X (binaryOp .Add) (rOwn CS sp E0) := op_d D hr hk T.sf rfl
theorem op_dSub (D : Dm X.prog X.w X.K X.mg X.base k CS "__sub__" qual st ps sp) (hr : Room j X.A) (hk : k ≤ j) (T : Txt X.K X.mg CS CI) : OpR X (binaryOp .Sub) (rOwn CS sp E0) := op_d D hr hk T.sf rfl
theorem op_dMul (D : Dm X.prog X.w X.K X.mg X.base k CS "__mul__" qual st ps sp) (hr : Room j X.A) (hk : k ≤ j) (T : Txt X.K X.mg CS CI) : OpR X (binaryOp .Mult) (rOwn CS sp E0) := op_d D hr hk T.sf rfl
theorem op_dEq (D : Dm X.prog X.w X.K X.mg X.base k CS "__eq__" qual st ps sp) (hr : Room j X.A) (hk : k ≤ j) (T : Txt X.K X.mg CS CI) : OpR X (compareOp .Eq) (rOwnEq X.K CS sp E0) := op_dE D hr hk
theorem op_dNe (D : Dm X.prog X.w X.K X.mg X.base k CS "__eq__" qual st ps sp) (hr : Room j X.A) (hk : k + 1 ≤ j) (T : Txt X.K X.mg CS CI) : OpR X (compareOp .NotEq) (rOwnNe X.K CS sp E0) := op_dN D hr hk T.ne T.ob
end
end
/-! ### data -/
/-- smaller than 2 ^ k -/
def Sm (k : Nat) (n : Int) : Prop := n.natAbs < 2 ^ k
theorem Sm.mono {j k : Nat} {n : Int} (h : Sm j n) (l : j ≤ k) : Sm k n := Nat.lt_of_lt_of_le h (Nat.pow_le_pow_right (by decide) l)
theorem Sm.le {k : Nat} {m n : Int} (h : Sm k n) (l : m.natAbs ≤ n.natAbs) : Sm k m := Nat.lt_of_le_of_lt l h
theorem Sm.mul {j k : Nat} {m n : Int} (a : Sm j m) (b : Sm k n) : Sm (j + k) (m * n) := wide_lt a b
theorem Sm.add {j k : Nat} {m n : Int} (a : Sm j m) (b : Sm k n) : Sm (max j k + 1) (m + n) := by
  have a' : Sm (max j k) m := a.mono (Nat.le_max_left _ _)
  have b' : Sm (max j k) n := b.mono (Nat.le_max_right _ _)
  unfold Sm at *
  rw [Nat.pow_succ]
  omega
theorem Sm.neg {k : Nat} {n : Int} (a : Sm k n) : Sm k (-n) := by
  unfold Sm at *
  rw [Int.natAbs_neg]; exact a
theorem Sm.sub {j k : Nat} {m n : Int} (a : Sm j m) (b : Sm k n) : Sm (max j k + 1) (m - n) := by
  rw [Int.sub_eq_add_neg]
  exact a.add b.neg
theorem Sm.m {j k : Nat} {m n : Int} (a : Sm j m) (b : Sm k n) (h0 : 0 < j := by decide) (h1 : 0 < k := by decide) (h : j + k ≤ 1000000 := by decide) : CMulW m n := wide_mul a b h0 h1 h
theorem Sm.d {k : Nat} {m n : Int} (a : Sm k n) (h : n ≠ 0) (h0 : 0 < k := by decide) (h1 : k ≤ 9000 := by decide) : CDivX m n := ⟨h, Nat.lt_of_lt_of_le (PySem.Flt.log2_lt_of h0 a) h1⟩
theorem Sm.lit {k : Nat} {n : Int} (h : n.natAbs < 2 ^ k) : Sm k n := h
/-- the script's state: a list at p, its first item the copy of the script at q -/
structure StA (H : Hp) (p q : Addr) : Prop where
  ex : ∃ (ns : List Int) (i b c d : Int), H p = some (.lst [.ref q, .int i, .int b, .int c, .int d]) ∧ H q = some (.lst (ns.map V.int)) ∧ ns.length ≤ 63 ∧ 0 ≤ i ∧ i ≤ 63 ∧ 0 ≤ b ∧ c ≤ 60 ∧ 0 ≤ d ∧ d < 2147483647
theorem StA.ne {H : Hp} {p q : Addr} (h : StA H p q) : q ≠ p := fun z => by
  obtain ⟨ns, i, b, c, d, h1, h2, _⟩ := h.ex
  rw [z, h1] at h2
  have e := HO.lst.inj (Option.some.inj h2)
  cases ns with
  | nil => cases e
  | cons x r => cases (List.cons.inj e).1
theorem StA.but {S : List Addr} {H H' : Hp} {p q : Addr} (h : StA H p q) (b : But S H H') (h1 : p ∉ S) (h2 : q ∉ S) : StA H' p q := by
  obtain ⟨ns, i, x, c, d, e1, e2, r⟩ := h.ex
  exact ⟨ns, i, x, c, d, b _ _ e1 h1, b _ _ e2 h2, r⟩
/-- a Share at a -/
def shF (n d : Int) : List (Str × V) := [("over", .int n), ("under", .int d)]
def ShA (CS : Addr) (H : Hp) (a : Addr) (n d : Int) : Prop := (∃ dx, H a = some (.ins CS dx (shF n d))) ∧ Low n d
theorem ShA.but {CS : Addr} {S : List Addr} {H H' : Hp} {a : Addr} {n d : Int} (h : ShA CS H a n d) (b : But S H H') (h1 : a ∉ S) : ShA CS H' a n d := by
  obtain ⟨⟨dx, e⟩, l⟩ := h
  exact ⟨⟨dx, b _ _ e h1⟩, l⟩
theorem sh_over (n d : Int) : (shF n d).lookup ("over" : Str) = some (.int n) := rfl
theorem sh_under (n d : Int) : (shF n d).lookup ("under" : Str) = some (.int d) := by first | rfl | decide +kernel
theorem iteD {p A B : Prop} [Decidable p] (h1 : p → A) (h2 : ¬ p → B) : if decide p = true then A else B := by
  by_cases h : p
  · rw [decide_eq_true h, if_pos rfl]; exact h1 h
  · rw [decide_eq_false h, if_neg Bool.false_ne_true]; exact h2 h
theorem iteN {p A B : Prop} [Decidable p] (h1 : ¬ p → A) (h2 : p → B) : if (!decide p) = true then A else B := by
  by_cases h : p
  · rw [decide_eq_true h]; exact h2 h
  · rw [decide_eq_false h]; exact h1 h
theorem szl {xs : List V} (h : Nat.ble xs.length 1000 = true) : xs.length ≤ sizeLine := Nat.le_trans (Nat.le_of_ble_eq_true h) (by decide)
theorem kt_ii {K : PySem.W.Frag} : PySem.W.kitOne K (.type "int") (.type "int") = some true := kit_ty (by decide +kernel)
theorem kt_ib {K : PySem.W.Frag} : PySem.W.kitOne K (.type "int") (.type "bool") = some false := kit_ty (by decide +kernel)
theorem kt_il {K : PySem.W.Frag} : PySem.W.kitOne K (.type "int") (.type "list") = some false := kit_ty (by decide +kernel)
theorem kt_it {K : PySem.W.Frag} : PySem.W.kitOne K (.type "int") (.type "tuple") = some false := kit_ty (by decide +kernel)
theorem kt_bb {K : PySem.W.Frag} : PySem.W.kitOne K (.type "bool") (.type "bool") = some true := kit_ty (by decide +kernel)
theorem upd_free {H : Hp} {a b : Addr} {o : HO} (h : upd H a o b = none) : H b = none ∧ b ≠ a := by
  by_cases e : b = a
  · rw [e, upd_same] at h; cases h
  · rw [upd_ne e] at h; exact ⟨h, e⟩
theorem szlt {n : Nat} (h : n ≤ 1000) : n < sizeLine := Nat.lt_of_le_of_lt h (by decide)
end K01
namespace K01
open PySem PySem.Spec PyProof.Rows L2 R9 R9M
open L2H (RoomH)
local macro_rules | `(tactic| walk_at "hp") => `(tactic| first
  | assumption
  | exact upd_same
  | (rw [upd_ne (by assumption)]; walk_at "hp")
  | (rw [upd_ne (Ne.symm (by assumption))]; walk_at "hp"))
local macro_rules | `(tactic| walk_at "sm") => `(tactic| first
  | assumption
  | exact Sm.lit (k := 200) (by decide)
  | exact Sm.mul (by walk_at "sm") (by walk_at "sm")
  | exact Sm.add (by walk_at "sm") (by walk_at "sm")
  | exact Sm.sub (by walk_at "sm") (by walk_at "sm"))
local macro_rules | `(tactic| walk_at "r1") => `(tactic| first
  | refine ⟨_, rfl, ?_⟩
  | refine ⟨_, _, rfl, rfl, ?_⟩
  | refine ⟨_, _, rfl, ?_⟩
  | refine And.intro rfl ?_
  | refine ⟨_, _, _, _, _, rfl, by walk_at "hp", Txt.cl (by assumption), Txt.nO (by assumption), sh_over _ _, ?_⟩
  | refine ⟨_, _, _, _, _, rfl, by walk_at "hp", Txt.cl (by assumption), Txt.nU (by assumption), sh_under _ _, ?_⟩
  | refine iteT ?_
  | refine iteF ?_
  | refine ⟨_, _, _, _, rfl, rfl, SqL.of (by walk_at "hp"), rfl, ?_⟩
  | refine ⟨_, _, rfl, .inl (SqL.of (by walk_at "hp")), ?_⟩
  | refine ⟨_, _, _, _, rfl, rfl, by walk_at "hp", rfl, ?_⟩
  | refine .inl ⟨_, rfl, ?_⟩
  | refine ⟨_, _, _, _, _, rfl, ClsV.ty _, .base (.int _), (by first | exact kt_ii | exact kt_ib | exact kt_il | exact kt_it), ?_⟩
  | refine ⟨_, _, _, _, _, rfl, ClsV.ty _, .base (.bl _), kt_bb, ?_⟩
  | refine ⟨_, _, _, _, _, rfl, ClsV.own _, .base (.ins (by walk_at "hp") (Txt.cl (by assumption)) (Txt.iCls (by assumption)) (Txt.iGet (by assumption)) (Txt.iTak (by assumption)) (Txt.iObj (by assumption))), Txt.kSS (by assumption), ?_⟩
  | (refine And.intro ?sm9 ?_; (case sm9 => (with_reducible show CMulW _ _); exact Sm.m (by walk_at "sm") (by walk_at "sm") (by decide) (by decide) (by decide)))
  | refine And.intro ⟨by decide, by decide, by decide⟩ ?_
  | refine And.intro (by first | omega | (dsimp only; omega)) ?_
  | refine And.intro (szl rfl) ?_)
local macro_rules | `(tactic| walk_at "rd") => `(tactic| repeat walk_at "r1")
section
variable {P : Program} {w : World} {K : PySem.W.Frag} {mg : Str → Option Value} {base : Heap} {CS CI : Addr}
/-! ### _law_integer: asked of whole numbers -/
def sp_law_integer : Sp := sp1 fun a H Q _ => ∃ n, a = .int n ∧ Q (.bl true) H
theorem ok_law_integer {f : Addr} {fd : FuncData} (F : Fun K "_law_integer" "_law_integer" s_law_integer f fd) (T : Txt K mg CS CI)  : FnOk P w K mg base (L2.CX P w) 1 f fd ["value"] sp_law_integer := by
  have nd := sc_law_integer.nd
  refine F.okX sc_law_integer (fun vs H Q E h => ?_) (fun cdv A outer s H vs Q E hr h => ?_)
  · obtain ⟨_, rfl, _⟩ := h
    rfl
  · obtain ⟨_, rfl, n, rfl, k⟩ := h
    refine ⟨_, (pss_one (ps_ret (pe_and (pe_callB call_isi (by rfl) T.isinstance (by decide +kernel) (pa_cons (pv 0) (pa_cons (pe_bltn (v := .ty "int") (by rfl) T.int (by decide +kernel) rfl) pa_nil))) (pe_one (pe_not (pe_callB call_isi (by rfl) T.isinstance (by decide +kernel) (pa_cons (pv 0) (pa_cons (pe_bltn (v := .ty "bool") (by rfl) T.bool (by decide +kernel) rfl) pa_nil)))))))), ?_⟩
    walk_at "rd"
    exact k
/-! ### _law_flag: asked of truth values -/
def sp_law_flag : Sp := sp2 fun a b H Q _ => ∃ x y, a = .bl x ∧ b = .bl y ∧ Q (.bl (x == y)) H
theorem ok_law_flag {f : Addr} {fd : FuncData} (F : Fun K "_law_flag" "_law_flag" s_law_flag f fd) (T : Txt K mg CS CI)  : FnOk P w K mg base (L2.CX P w) 1 f fd ["got", "due"] sp_law_flag := by
  have nd := sc_law_flag.nd
  refine F.okX sc_law_flag (fun vs H Q E h => ?_) (fun cdv A outer s H vs Q E hr h => ?_)
  · obtain ⟨_, _, rfl, _⟩ := h
    rfl
  · obtain ⟨_, _, rfl, x, y, rfl, rfl, k⟩ := h
    refine ⟨_, (pss_one (ps_ret (pe_and (pe_callB call_isi (by rfl) T.isinstance (by decide +kernel) (pa_cons (pv 0) (pa_cons (pe_bltn (v := .ty "bool") (by rfl) T.bool (by decide +kernel) rfl) pa_nil))) (pe_one (pe_cmpR op_eq (pv 0) (pv 1) (nomark _)))))), ?_⟩
    walk_at "rd"
    have e : decide (V.bl x = V.bl y) = (x == y) := by cases x <;> cases y <;> rfl
    rw [e]
    exact k
theorem sgn_of_pos {x y : Int} (h : 0 < y) : sgn x y = (x, y) := by
  unfold sgn
  rw [if_neg (by omega)]
def sp_law_signed : Sp := sp2 fun a b H Q _ => ∃ x y, a = .int x ∧ b = .int y ∧ ∀ p, H p = none → Q (.ref p) (upd H p (.lst [.int (sgn x y).1, .int (sgn x y).2]))
theorem ok_law_signed {f : Addr} {fd : FuncData} (F : Fun K "_law_signed" "_law_signed" s_law_signed f fd) (T : Txt K mg CS CI)  : FnOk P w K mg base (L2.CX P w) 1 f fd ["over", "under"] sp_law_signed := by
  have nd := sc_law_signed.nd
  refine F.okX sc_law_signed (fun vs H Q E h => ?_) (fun cdv A outer s H vs Q E hr h => ?_)
  · obtain ⟨_, _, rfl, _⟩ := h
    rfl
  · obtain ⟨_, _, rfl, x, y, rfl, rfl, k⟩ := h
    refine ⟨_, (pss_cons (ps_if (pt_cmpR op_lt (pv 1) pe_int (nomark _))
(pss_one (ps_ret (pe_lst (pa_cons (pe_op op_sub pe_int (pv 0)) (pa_cons (pe_op op_sub pe_int (pv 1)) pa_nil)))))
pss_nil)
(pss_one (ps_ret (pe_lst (pa_cons (pv 0) (pa_cons (pv 1) pa_nil)))))), ?_⟩
    walk_at "rd"
    refine iteD (fun c => ?_) (fun c => ?_)
    · walk_at "rd"
      intro p hp
      have := k p hp
      unfold sgn at this
      rw [if_pos c] at this
      exact this
    · walk_at "rd"
      intro p hp
      have := k p hp
      unfold sgn at this
      rw [if_neg c] at this
      exact this
def sp_law_start : Sp := sp1 fun a H Q _ => ∃ (s : Addr) (ns : List Int), a = .ref s ∧ SqL K H s (ns.map V.int) ∧ ns.length ≤ 63 ∧ ∀ p q H', H p = none → H q = none → But [] H H' → StA H' p q → Q (.ref p) H'
theorem ok_law_start {f : Addr} {fd : FuncData} (F : Fun K "_law_start" "_law_start" s_law_start f fd) (T : Txt K mg CS CI)  : FnOk P w K mg base (L2.CX P w) 1 f fd ["script"] (sp_law_start (K := K)) := by
  have nd := sc_law_start.nd
  refine F.okX sc_law_start (fun vs H Q E h => ?_) (fun cdv A outer s H vs Q E hr h => ?_)
  · obtain ⟨_, rfl, _⟩ := h
    rfl
  · obtain ⟨_, rfl, s, ns, rfl, hs, hl, k⟩ := h
    refine ⟨_, (pss_one (ps_ret (pe_lst (pa_cons (pe_callTy call_list_of (by rfl) T.list (by decide +kernel) (pa_cons (pv 0) pa_nil)) (pa_cons pe_int (pa_cons pe_int (pa_cons pe_int (pa_cons pe_int pa_nil)))))))), ?_⟩
    walk_at "rd"
    refine ⟨_, _, rfl, .inl hs, fun q hq => ?_⟩
    walk_at "rd"
    intro p hp
    obtain ⟨hp, hpq⟩ := upd_free hp
    refine k p q _ hp hq ((But.new hq).trans (But.new (by rw [upd_ne hpq]; exact hp))) ⟨ns, 0, 0, 0, 7, upd_same, by walk_at "hp", hl, ?_⟩
    omega
theorem int_eq {a b : Int} (h : V.int a = V.int b) : a = b := V.int.inj h
theorem fmod_bd {a b : Int} (h : 0 < b) : 0 ≤ a.fmod b ∧ a.fmod b < b := by
  rw [Int.fmod_eq_emod_of_nonneg a (by omega)]
  exact ⟨Int.emod_nonneg _ (by omega), Int.emod_lt_of_pos _ h⟩
theorem fdiv_nn {a b : Int} (ha : 0 ≤ a) (h : 0 < b) : 0 ≤ a.fdiv b := by
  rw [Int.fdiv_eq_ediv_of_nonneg a (by omega)]
  exact Int.ediv_nonneg ha (by omega)
theorem at_int {ns : List Int} {i : Int} (h0 : 0 ≤ i) (h : i < ((ns.map V.int).length : Int)) : ∃ x, atI (ns.map V.int) i = some (.int x) := by
  obtain ⟨n, rfl⟩ := Int.eq_ofNat_of_zero_le h0
  rw [List.length_map] at h
  have hn : n < ns.length := by omega
  exact ⟨ns[n], atI_nat (by rw [List.getElem?_map, List.getElem?_eq_getElem hn] <;> rfl)⟩
theorem mul_cell {d : Int} (h0 : 0 ≤ d) (h : d < 2147483647) {k : Int} (hk : Sm 20 k) : CMulW d k := Sm.m (j := 31) (k := 20) (by unfold Sm; omega) hk
def sp_law_draw : Sp := sp2 fun a b H Q _ => ∃ p q n, a = .ref p ∧ b = .int n ∧ StA H p q ∧ Sm 8000 n ∧ ∀ r H', 0 ≤ r → (r < n ∨ r = 0) → StA H' p q → But [p] H H' → Q (.int r) H'
theorem ok_law_draw {f : Addr} {fd : FuncData} (F : Fun K "_law_draw" "_law_draw" s_law_draw f fd) (T : Txt K mg CS CI)  : FnOk P w K mg base (L2.CX P w) 1 f fd ["state", "limit"] sp_law_draw := by
  have nd := sc_law_draw.nd
  refine F.okX sc_law_draw (fun vs H Q E h => ?_) (fun cdv A outer s H vs Q E hr h => ?_)
  · obtain ⟨_, _, rfl, _⟩ := h
    rfl
  · obtain ⟨_, _, rfl, p, q, n, rfl, rfl, hS, hn, k⟩ := h
    refine ⟨_, (pss_mid (ps_if (pt_cmpR op_lt (pv 1) pe_int (nomark _))
(pss_one (ps_set (i := 1) nd rfl (Or.inl rfl) pe_int))
pss_nil)
(pss_mid (ps_if (PW.pt (pw_and (pt_cmpR op_eq (pe_ix ix_list (pv 0) pe_int (fun _ _ => rfl)) pe_int (nomark _)) (pw_and1 (pt_cmpR op_lt (pe_ix ix_list (pv 0) pe_int (fun _ _ => rfl)) (pe_callB call_len_seq (by rfl) T.len (by decide +kernel) (pa_cons (pe_ix ix_list (pv 0) pe_int (fun _ _ => rfl)) pa_nil)) (nomark _)))))
(pss_cons (ps_set (i := 2) nd rfl (Or.inl rfl) (pe_callB call_abs (by rfl) T.abs (by decide +kernel) (pa_cons (pe_callTy call_int1 (by rfl) T.int (by decide +kernel) (pa_cons (pe_ix ix_list (pe_ix ix_list (pv 0) pe_int (fun _ _ => rfl)) (pe_ix ix_list (pv 0) pe_int (fun _ _ => rfl)) (fun _ _ => rfl)) pa_nil)) pa_nil)))
(pss_cons (ps_asg (pe_op op_add (pe_ix ix_list (pv 0) pe_int (fun _ _ => rfl)) pe_int) (pg_sub (pv 0) pe_int set_list))
(pss_cons (ps_asg pe_int (pg_sub (pv 0) pe_int set_list))
(pss_one (ps_if (pt_cmpR op_ge (pv 2) (pe_op op_pow pe_int pe_int) (nomark _))
(pss_cons (ps_asg (pv 2) (pg_sub (pv 0) pe_int set_list))
(pss_one (ps_asg pe_int (pg_sub (pv 0) pe_int set_list))))
(pss_one (ps_asg (pe_op op_modN (pe_callTy call_int1 (by rfl) T.int (by decide +kernel) (pa_cons (pe_op op_add (pe_op op_add (pe_op op_mulW (pe_ix ix_list (pv 0) pe_int (fun _ _ => rfl)) pe_int) (pv 2)) (pe_ix ix_list (pv 0) pe_int (fun _ _ => rfl))) pa_nil)) pe_int) (pg_sub (pv 0) pe_int set_list))))))))
pss_nil)
(pss_cons (ps_if (pt_cmpR op_gt (pe_ix ix_list (pv 0) pe_int (fun _ _ => rfl)) pe_int (nomark _))
(pss_cons (ps_set (i := 3) nd rfl (Or.inl rfl) (pe_op op_modN (pe_callTy call_int1 (by rfl) T.int (by decide +kernel) (pa_cons (pe_ix ix_list (pv 0) pe_int (fun _ _ => rfl)) pa_nil)) (pv 1)))
(pss_cons (ps_asg (pe_op op_fdivX (pe_ix ix_list (pv 0) pe_int (fun _ _ => rfl)) (pv 1)) (pg_sub (pv 0) pe_int set_list))
(pss_cons (ps_asg (pe_op op_sub (pe_ix ix_list (pv 0) pe_int (fun _ _ => rfl)) pe_int) (pg_sub (pv 0) pe_int set_list))
(pss_cons (ps_if (PW.pt (pw_or (pt_cmpR op_eq (pe_ix ix_list (pv 0) pe_int (fun _ _ => rfl)) pe_int (nomark _)) (pw_or1 (pt_cmpR op_eq (pe_ix ix_list (pv 0) pe_int (fun _ _ => rfl)) pe_int (nomark _)))))
(pss_cons (ps_asg pe_int (pg_sub (pv 0) pe_int set_list))
(pss_one (ps_asg pe_int (pg_sub (pv 0) pe_int set_list))))
pss_nil)
(pss_one (ps_ret (pv 3)))))))
pss_nil)
(pss_cons (ps_asg (pe_callB (call_max2 rfl) (by rfl) T.max (by decide +kernel) (pa_cons pe_int (pa_cons (pe_op op_sub (pe_ix ix_list (pv 0) pe_int (fun _ _ => rfl)) pe_int) pa_nil))) (pg_sub (pv 0) pe_int set_list))
(pss_cons (ps_asg (pe_op op_modN (pe_callTy call_int1 (by rfl) T.int (by decide +kernel) (pa_cons (pe_op op_add (pe_op op_mulW (pe_ix ix_list (pv 0) pe_int (fun _ _ => rfl)) pe_int) pe_int) pa_nil)) pe_int) (pg_sub (pv 0) pe_int set_list))
(pss_one (ps_ret (pe_op op_modN (pe_callTy call_int1 (by rfl) T.int (by decide +kernel) (pa_cons (pe_op op_modN (pe_callTy call_int1 (by rfl) T.int (by decide +kernel) (pa_cons (pe_op op_add (pe_op op_mulW (pe_ix ix_list (pv 0) pe_int (fun _ _ => rfl)) pe_int) pe_int) pa_nil)) pe_int) pa_nil)) (pv 1))))))))), ?_⟩
    refine ⟨fun σ H' => ∃ l, σ = [some (.ref p), some (.int l), none, none] ∧ H' = H ∧ 0 < l ∧ Sm 8000 l ∧ (l = n ∨ l = 1), ?_, ?_⟩
    · walk_at "rd"
      refine iteD (fun c => ?_) (fun c => ?_)
      · exact ⟨1, rfl, rfl, by omega, Nat.one_lt_two_pow (by decide), .inr rfl⟩
      · exact ⟨n, rfl, rfl, by omega, hn, .inl rfl⟩
    rintro σ H' ⟨l, rfl, rfl, hl, hls, hln⟩
    have kk : ∀ r H'', 0 ≤ r → r < l → StA H'' p q → But [p] H' H'' → Q (.int r) H'' := fun r H'' h0 h1 h2 h3 => by
      refine k r H'' h0 ?_ h2 h3
      clear hls hn
      omega
    clear k
    have mp : p ∈ [p] := List.mem_cons_self
    refine ⟨fun σ H1 => ∃ cell, σ = [some (.ref p), some (.int l), cell, none] ∧ StA H1 p q ∧ But [p] H' H1, ?_, ?_⟩
    · obtain ⟨ns, i, b, c, d, h1, h2, hl1, hi0, hi1, hb, hc1, hd0, hd1⟩ := id hS.ex
      have hqp := hS.ne
      walk_at "rd"
      refine iteD (fun hc => ?_) (fun hc => ?_)
      · walk_at "rd"
        refine iteD (fun hi => ?_) (fun hi => ?_)
        · walk_at "rd"
          obtain ⟨x, hx⟩ := at_int hi0 hi
          refine ⟨_, _, _, .int x, rfl, rfl, SqL.of h2, hx, ?_⟩
          walk_at "rd"
          have hlen : i < 63 := by
            rw [List.length_map] at hi
            omega
          generalize hy : (if x < 0 then -x else x) = y
          have hy0 : 0 ≤ y := by rw [← hy]; split <;> omega
          refine iteD (fun hg => ?_) (fun hg => ?_)
          · walk_at "rd"
            refine ⟨⟨ns, i + 1, y, 60, d, upd_same, by walk_at "hp", hl1, by omega⟩, ?_⟩
            exact (((But.put mp).trans (But.put mp)).trans (But.put mp)).trans (But.put mp)
          · walk_at "rd"
            refine ⟨mul_cell hd0 hd1 (by unfold Sm; decide), ?_⟩
            walk_at "rd"
            refine ⟨⟨ns, i + 1, b, 4, _, upd_same, by walk_at "hp", hl1, by omega, by omega, hb, by omega, (fmod_bd (by decide)).1, (fmod_bd (by decide)).2⟩, ?_⟩
            exact ((But.put mp).trans (But.put mp)).trans (But.put mp)
        · walk_at "rd"
          first | exact But.refl _ _ | exact ⟨hS, But.refl _ _⟩
      · walk_at "rd"
        first | exact But.refl _ _ | exact ⟨hS, But.refl _ _⟩
    rintro σ H1 ⟨cell, rfl, hS1, hB1⟩
    obtain ⟨ns, i, b, c, d, h1, h2, hl1, hi0, hi1, hb, hc1, hd0, hd1⟩ := id hS1.ex
    have hqp := hS1.ne
    walk_at "rd"
    refine iteD (fun hg => ?_) (fun hg => ?_)
    · have hm : b.fmod l < l := (fmod_bd hl).2
      have hm0 : 0 ≤ b.fmod l := (fmod_bd hl).1
      have hd : 0 ≤ b.fdiv l := fdiv_nn hb hl
      have hl0 : l ≠ 0 := by clear hls hn; omega
      walk_at "rd"
      refine ⟨hls.d hl0, ?_⟩
      walk_at "rd"
      refine iteD (fun z => ?_) (fun z => ?_)
      · walk_at "rd"
        refine kk _ _ hm0 hm ⟨ns, i, 0, 0, d, upd_same, by walk_at "hp", hl1, by omega⟩ ?_
        exact (((hB1.trans (But.put mp)).trans (But.put mp)).trans (But.put mp)).trans (But.put mp)
      · walk_at "rd"
        refine iteD (fun z2 => ?_) (fun z2 => ?_)
        · walk_at "rd"
          refine kk _ _ hm0 hm ⟨ns, i, 0, 0, d, upd_same, by walk_at "hp", hl1, by omega⟩ ?_
          exact (((hB1.trans (But.put mp)).trans (But.put mp)).trans (But.put mp)).trans (But.put mp)
        · walk_at "rd"
          have c1 : c - 1 ≠ 0 := fun e => z2 (congrArg V.int e)
          refine kk _ _ hm0 hm ⟨ns, i, b.fdiv l, c - 1, d, upd_same, by walk_at "hp", hl1, by omega⟩ ?_
          exact (hB1.trans (But.put mp)).trans (But.put mp)
    · walk_at "rd"
      refine ⟨mul_cell hd0 hd1 (by unfold Sm; decide), ?_⟩
      walk_at "rd"
      refine ⟨mul_cell (fmod_bd (by decide)).1 (fmod_bd (by decide)).2 (by unfold Sm; decide), ?_⟩
      walk_at "rd"
      generalize hz : (if c - 1 > 0 then c - 1 else 0) = z
      have hz0 : 0 ≤ z ∧ z ≤ 60 := by rw [← hz]; split <;> omega
      refine kk _ _ (fmod_bd hl).1 (fmod_bd hl).2 ⟨ns, i, b, z, _, upd_same, by walk_at "hp", hl1, by omega, by omega, hb, hz0.2, (fmod_bd (by decide)).1, (fmod_bd (by decide)).2⟩ ?_
      exact (hB1.trans (But.put mp)).trans (But.put mp)
def sp_kept : Sp := sp1 fun a H Q _ => ∃ n, a = .int n ∧ Q (.int n) H
theorem ok_kept {f : Addr} {fd : FuncData} (F : Fun K "_kept" "_kept" s_kept f fd) (T : Txt K mg CS CI)  : FnOk P w K mg base (L2.CX P w) 1 f fd ["value"] sp_kept := by
  have nd := sc_kept.nd
  refine F.okX sc_kept (fun vs H Q E h => ?_) (fun cdv A outer s H vs Q E hr h => ?_)
  · obtain ⟨_, rfl, _⟩ := h
    rfl
  · obtain ⟨_, rfl, n, rfl, k⟩ := h
    refine ⟨_, (pss_cons (ps_if (pt_val (pe_callB call_isi (by rfl) T.isinstance (by decide +kernel) (pa_cons (pv 0) (pa_cons (pe_bltn (v := .ty "list") (by rfl) T.list (by decide +kernel) rfl) pa_nil))))
(pss_one (ps_never))
pss_nil)
(pss_cons (ps_if (pt_val (pe_callB call_isi (by rfl) T.isinstance (by decide +kernel) (pa_cons (pv 0) (pa_cons (pe_bltn (v := .ty "tuple") (by rfl) T.tuple (by decide +kernel) rfl) pa_nil))))
(pss_one (ps_never))
pss_nil)
(pss_one (ps_ret (pv 0))))), ?_⟩
    walk_at "rd"
    exact k
def sp_InvalidNumber_init (CI : Addr) : Sp := sp2 fun a n H Q _ => ∃ e k, a = .ref e ∧ n = .int k ∧ H e = some (exo e CI none) ∧ ∀ dx, H dx = none → dx ≠ e → Q .non (upd (upd H dx (exd dx [(("number" : Str), V.int k)])) e (exo e CI (some dx)))
theorem ok_InvalidNumber_init {f : Addr} {fd : FuncData} (F : Fun K "__init__" "InvalidNumber.__init__" s_InvalidNumber_init f fd) (T : Txt K mg CS CI) (D_kept : Df P w K mg base 1 "_kept" s_kept ["value"] sp_kept) : FnOk P w K mg base (L2.CX P w) 2 f fd ["self", "number"] (sp_InvalidNumber_init CI) := by
  have nd := sc_InvalidNumber_init.nd
  refine F.okX sc_InvalidNumber_init (fun vs H Q E h => ?_) (fun cdv A outer s H vs Q E hr h => ?_)
  · obtain ⟨_, _, rfl, _⟩ := h
    rfl
  · obtain ⟨_, _, rfl, e, n, rfl, rfl, he, k⟩ := h
    refine ⟨_, (pss_one (ps_ost (pv 0) (pe_d D_kept hr (by decide) (by rfl) passL (pa_cons (pv 1) pa_nil)))), ?_⟩
    walk_at "rd"
    exact ⟨e, CI, rfl, T.oex, T.no_number, .inl ⟨he, fun dx hd hne => k dx hd hne⟩⟩
/-- at p stands a share that is worth o / u -/
def Val (CS : Addr) (H : Hp) (p : Addr) (o u : Int) : Prop := 0 < u ∧ ∃ n d, ShA CS H p n d ∧ n * u = o * d
theorem Val.but {CS : Addr} {S : List Addr} {H H' : Hp} {a : Addr} {o u : Int} (h : Val CS H a o u) (b : But S H H') (h1 : a ∉ S) : Val CS H' a o u := by
  obtain ⟨hu, n, d, s, e⟩ := h
  exact ⟨hu, n, d, s.but b h1, e⟩
theorem put2 (a b : V) : putF "under" b (putF "over" a []) = ([("over", a), ("under", b)] : List (Str × V)) := by
  show (if ("over" : Str) = "under" then _ else (("over" : Str), a) :: [(("under" : Str), b)]) = ([("over", a), ("under", b)] : List (Str × V))
  rw [if_neg (by decide +kernel)]
def sp_Share_init (CS CI : Addr) : Sp := sp3 fun a o u H Q E => ∃ p dx x y, a = .ref p ∧ o = .int x ∧ u = .int y ∧ H p = some (.ins CS dx []) ∧ Sm 8000 x ∧ Sm 8000 y ∧
  (y ≠ 0 → ∀ H', But [p] H H' → Val CS H' p (sgn x y).1 (sgn x y).2 → Q .non H') ∧
  (y = 0 → ∀ dd H', H dd = none → But [] H H' → H' dd = some (.xd [(("number" : Str), V.int 0)]) → E (.ref CI) (some dd) H')
theorem ok_Share_init {f : Addr} {fd : FuncData} (F : Fun K "__init__" "Share.__init__" s_Share_init f fd) (T : Txt K mg CS CI) (D_InvalidNumber_init : Dx P w K mg base 2 CI "InvalidNumber" "InvalidNumber.__init__" s_InvalidNumber_init ["self", "number"] (sp_InvalidNumber_init CI)) : FnOk P w K mg base (L2.CX P w) 4 f fd ["self", "over", "under"] (sp_Share_init CS CI) := by
  have nd := sc_Share_init.nd
  refine F.okX sc_Share_init (fun vs H Q E h => ?_) (fun cdv A outer s H vs Q E hr h => ?_)
  · obtain ⟨_, _, _, rfl, _⟩ := h
    rfl
  · obtain ⟨_, _, _, rfl, p, dx, x, y, rfl, rfl, rfl, hp, hx, hy, k, kE⟩ := h
    refine ⟨_, (pss_cons (ps_if (pt_cmpR op_eq (pv 2) pe_int (nomark _))
(pss_one (ps_raise rfl (takes_of rfl rfl rfl rfl) (pmk_x D_InvalidNumber_init hr (by decide) (by rfl) (pa_cons (pv 2) pa_nil))))
pss_nil)
(pss_cons (ps_set (i := 3) nd rfl (Or.inl rfl) (pe_callBfun cr_gcd (by rfl) T.gcd (pa_cons (pv 1) (pa_cons (pv 2) pa_nil))))
(pss_mid (ps_if (pt_cmpR op_lt (pv 2) pe_int (nomark _))
(pss_one (ps_set (i := 3) nd rfl (Or.inl rfl) (pe_un un_neg (pv 3))))
pss_nil)
(pss_cons (ps_fld (pv 0) (pe_op op_fdivX (pv 1) (pv 3)) rfl)
(pss_one (ps_fld (pv 0) (pe_op op_fdivX (pv 2) (pv 3)) rfl)))))), ?_⟩
    walk_at "rd"
    refine iteD (fun c => ?_) (fun c => ?_)
    · have y0 : y = 0 := V.int.inj c
      subst y0
      walk_at "rd"
      refine ⟨Nat.succ_le_of_lt (by decide), fun e he => ⟨_, _, rfl, e, 0, rfl, rfl, upd_same, fun d hd hne => ⟨rfl, d, _, upd_same, (by rw [upd_ne hne, upd_same]), (by rw [upd_ne hne] at hd; exact hd), ?_⟩⟩⟩
      have hd' : H d = none := by rw [upd_ne hne] at hd; exact hd
      refine kE rfl d _ hd' (fun c o ho _ => ?_) upd_same
      have ce : c ≠ e := ne_of_none ho he
      have cd : c ≠ d := ne_of_none ho hd'
      rw [upd_ne cd, del_ne ce, upd_ne ce, upd_ne cd, upd_ne ce]
      exact ho
    · have y0 : y ≠ 0 := fun z => c (by rw [z])
      walk_at "rd"
      have gp : 0 < Nat.gcd x.natAbs y.natAbs := Nat.gcd_pos_of_pos_right _ (by omega)
      have gl : Nat.gcd x.natAbs y.natAbs ≤ y.natAbs := Nat.gcd_le_right _ (by omega)
      obtain ⟨d, hd⟩ : ∃ d : Int, d = if y < 0 then -(Nat.gcd x.natAbs y.natAbs : Int) else (Nat.gcd x.natAbs y.natAbs : Int) := ⟨_, rfl⟩
      have d0 : d ≠ 0 := by rw [hd]; split <;> omega
      have dS : Sm 8000 d := hy.le (by rw [hd]; split <;> omega)
      refine ⟨fun σ H' => σ = [some (.ref p), some (.int x), some (.int y), some (.int d)] ∧ H' = H, ?_, ?_⟩
      · walk_at "rd"
        refine iteD (fun c => ?_) (fun c => ?_)
        · walk_at "rd"
          rw [hd, if_pos c]
          exact ⟨rfl, rfl⟩
        · rw [hd, if_neg c]
          exact ⟨rfl, rfl⟩
      rintro σ H' ⟨rfl, rfl⟩
      walk_at "rd"
      refine ⟨dS.d d0, ?_⟩
      walk_at "rd"
      refine ⟨p, CS, dx, _, rfl, hp, T.cl, T.nO, (by show 0 < 1000; decide), ?_⟩
      walk_at "rd"
      refine ⟨dS.d d0, ?_⟩
      walk_at "rd"
      refine ⟨p, CS, dx, _, rfl, upd_same, T.cl, T.nU, (by show 1 < 1000; decide), ?_⟩
      have mp : p ∈ [p] := List.mem_cons_self
      refine k y0 _ ((But.put mp).trans (But.put mp)) ⟨sgn_pos y0, (red x y).1, (red x y).2, ⟨⟨dx, ?_⟩, (red_ok y0).1⟩, sgn_eq (red_ok y0).2.1⟩
      rw [upd_same, put2, hd]
      rfl
theorem sh_no {n d : Int} {m : Str} (h1 : ¬ m = "over") (h2 : ¬ m = "under") : (shF n d).lookup m = none := by
  unfold shF
  rw [lookup_put, if_neg h1, lookup_put, if_neg h2]
  rfl
theorem made_but {H H' : Hp} {x dx : Addr} {o o' : HO} (hx : H x = none) (hd : H dx = none) (b : But [x] (upd (upd H dx o) x o') H') : But [] H H' :=
  But.drop hx (((But.new (S := [x]) hd).trans (But.put List.mem_cons_self)).trans b)
/-- sizes of what a share is worth -/
theorem Val.sm {k : Nat} {n d o u : Int} (l : Low n d) (hu : 0 < u) (h : n * u = o * d) (ho : Sm k o) (hs : Sm k u) : Sm k n ∧ Sm k d := ⟨ho.le (low_le l hu h).1, hs.le (low_le l hu h).2⟩
def sp_op (CS : Addr) (g : Int → Int → Int → Int → Int) : Sp := sp2 fun a b H Q _ => ∃ p q o1 u1 o2 u2, a = .ref p ∧ b = .ref q ∧ Val CS H p o1 u1 ∧ Val CS H q o2 u2 ∧ (Sm 2000 o1 ∧ Sm 2000 u1 ∧ Sm 2000 o2 ∧ Sm 2000 u2) ∧
  ∀ r H', H r = none → But [] H H' → Val CS H' r (g o1 u1 o2 u2) (u1 * u2) → Q (.ref r) H'
def sp_Share_add (CS : Addr) : Sp := sp_op CS fun o1 u1 o2 u2 => o1 * u2 + o2 * u1
def sp_Share_sub (CS : Addr) : Sp := sp_op CS fun o1 u1 o2 u2 => o1 * u2 - o2 * u1
def sp_Share_mul (CS : Addr) : Sp := sp_op CS fun o1 _ o2 _ => o1 * o2
theorem ok_Share_add {f : Addr} {fd : FuncData} (F : Fun K "__add__" "Share.__add__" s_Share_add f fd) (T : Txt K mg CS CI) (D_Share_init : Dk P w K mg base 4 CS "Share" "Share.__init__" s_Share_init ["self", "over", "under"] (sp_Share_init CS CI)) : FnOk P w K mg base (L2.CX P w) 6 f fd ["self", "other"] (sp_Share_add CS) := by
  have nd := sc_Share_add.nd
  refine F.okX sc_Share_add (fun vs H Q E h => ?_) (fun cdv A outer s H vs Q E hr h => ?_)
  · obtain ⟨_, _, rfl, _⟩ := h
    rfl
  · obtain ⟨_, _, rfl, p, q, o1, u1, o2, u2, rfl, rfl, ⟨p1, n, d, ⟨⟨dx, h1⟩, l1⟩, e1⟩, ⟨p2, m, e, ⟨⟨dy, h2⟩, l2⟩, e2⟩, ⟨s1, s2, s3, s4⟩, k⟩ := h
    obtain ⟨sn, sd⟩ := Val.sm l1 p1 e1 s1 s2
    obtain ⟨sm, se⟩ := Val.sm l2 p2 e2 s3 s4
    refine ⟨_, (pss_one (ps_ret (pe_k D_Share_init hr (by decide) (by rfl) passL (pa_cons (pe_op op_add (pe_op op_mulW (pe_fld (pv 0) rfl) (pe_fld (pv 1) rfl)) (pe_op op_mulW (pe_fld (pv 1) rfl) (pe_fld (pv 0) rfl))) (pa_cons (pe_op op_mulW (pe_fld (pv 0) rfl) (pe_fld (pv 1) rfl)) pa_nil))))), ?_⟩
    walk_at "rd"
    intro x dx hx hd hne
    have Y0 : 0 < (d * e) := Int.mul_pos l1.1 l2.1
    refine ⟨_, _, _, rfl, x, dx, (n * e + m * d), (d * e), rfl, rfl, rfl, upd_same, Sm.mono (by walk_at "sm") (by decide), Sm.mono (by walk_at "sm") (by decide), fun _ H' hb hv => ⟨rfl, k x H' hx (made_but hx hd hb) ?_⟩, fun z => absurd z (by omega)⟩
    obtain ⟨_, n', d', hs, he⟩ := hv
    rw [sgn_of_pos Y0] at he
    exact ⟨Int.mul_pos p1 p2, n', d', hs, fr_add l1.1 l2.1 e1 e2 he⟩
theorem ok_Share_sub {f : Addr} {fd : FuncData} (F : Fun K "__sub__" "Share.__sub__" s_Share_sub f fd) (T : Txt K mg CS CI) (D_Share_init : Dk P w K mg base 4 CS "Share" "Share.__init__" s_Share_init ["self", "over", "under"] (sp_Share_init CS CI)) : FnOk P w K mg base (L2.CX P w) 6 f fd ["self", "other"] (sp_Share_sub CS) := by
  have nd := sc_Share_sub.nd
  refine F.okX sc_Share_sub (fun vs H Q E h => ?_) (fun cdv A outer s H vs Q E hr h => ?_)
  · obtain ⟨_, _, rfl, _⟩ := h
    rfl
  · obtain ⟨_, _, rfl, p, q, o1, u1, o2, u2, rfl, rfl, ⟨p1, n, d, ⟨⟨dx, h1⟩, l1⟩, e1⟩, ⟨p2, m, e, ⟨⟨dy, h2⟩, l2⟩, e2⟩, ⟨s1, s2, s3, s4⟩, k⟩ := h
    obtain ⟨sn, sd⟩ := Val.sm l1 p1 e1 s1 s2
    obtain ⟨sm, se⟩ := Val.sm l2 p2 e2 s3 s4
    refine ⟨_, (pss_one (ps_ret (pe_k D_Share_init hr (by decide) (by rfl) passL (pa_cons (pe_op op_sub (pe_op op_mulW (pe_fld (pv 0) rfl) (pe_fld (pv 1) rfl)) (pe_op op_mulW (pe_fld (pv 1) rfl) (pe_fld (pv 0) rfl))) (pa_cons (pe_op op_mulW (pe_fld (pv 0) rfl) (pe_fld (pv 1) rfl)) pa_nil))))), ?_⟩
    walk_at "rd"
    intro x dx hx hd hne
    have Y0 : 0 < (d * e) := Int.mul_pos l1.1 l2.1
    refine ⟨_, _, _, rfl, x, dx, (n * e - m * d), (d * e), rfl, rfl, rfl, upd_same, Sm.mono (by walk_at "sm") (by decide), Sm.mono (by walk_at "sm") (by decide), fun _ H' hb hv => ⟨rfl, k x H' hx (made_but hx hd hb) ?_⟩, fun z => absurd z (by omega)⟩
    obtain ⟨_, n', d', hs, he⟩ := hv
    rw [sgn_of_pos Y0] at he
    exact ⟨Int.mul_pos p1 p2, n', d', hs, fr_sub l1.1 l2.1 e1 e2 he⟩
theorem ok_Share_mul {f : Addr} {fd : FuncData} (F : Fun K "__mul__" "Share.__mul__" s_Share_mul f fd) (T : Txt K mg CS CI) (D_Share_init : Dk P w K mg base 4 CS "Share" "Share.__init__" s_Share_init ["self", "over", "under"] (sp_Share_init CS CI)) : FnOk P w K mg base (L2.CX P w) 6 f fd ["self", "other"] (sp_Share_mul CS) := by
  have nd := sc_Share_mul.nd
  refine F.okX sc_Share_mul (fun vs H Q E h => ?_) (fun cdv A outer s H vs Q E hr h => ?_)
  · obtain ⟨_, _, rfl, _⟩ := h
    rfl
  · obtain ⟨_, _, rfl, p, q, o1, u1, o2, u2, rfl, rfl, ⟨p1, n, d, ⟨⟨dx, h1⟩, l1⟩, e1⟩, ⟨p2, m, e, ⟨⟨dy, h2⟩, l2⟩, e2⟩, ⟨s1, s2, s3, s4⟩, k⟩ := h
    obtain ⟨sn, sd⟩ := Val.sm l1 p1 e1 s1 s2
    obtain ⟨sm, se⟩ := Val.sm l2 p2 e2 s3 s4
    refine ⟨_, (pss_one (ps_ret (pe_k D_Share_init hr (by decide) (by rfl) passL (pa_cons (pe_op op_mulW (pe_fld (pv 0) rfl) (pe_fld (pv 1) rfl)) (pa_cons (pe_op op_mulW (pe_fld (pv 0) rfl) (pe_fld (pv 1) rfl)) pa_nil))))), ?_⟩
    walk_at "rd"
    intro x dx hx hd hne
    have Y0 : 0 < (d * e) := Int.mul_pos l1.1 l2.1
    refine ⟨_, _, _, rfl, x, dx, (n * m), (d * e), rfl, rfl, rfl, upd_same, Sm.mono (by walk_at "sm") (by decide), Sm.mono (by walk_at "sm") (by decide), fun _ H' hb hv => ⟨rfl, k x H' hx (made_but hx hd hb) ?_⟩, fun z => absurd z (by omega)⟩
    obtain ⟨_, n', d', hs, he⟩ := hv
    rw [sgn_of_pos Y0] at he
    exact ⟨Int.mul_pos p1 p2, n', d', hs, fr_mul l1.1 l2.1 e1 e2 he⟩
def sp_Share_by (CS CI : Addr) : Sp := sp2 fun a b H Q E => ∃ p q o1 u1 o2 u2, a = .ref p ∧ b = .ref q ∧ Val CS H p o1 u1 ∧ Val CS H q o2 u2 ∧ (Sm 2000 o1 ∧ Sm 2000 u1 ∧ Sm 2000 o2 ∧ Sm 2000 u2) ∧
  (o2 ≠ 0 → ∀ r H', H r = none → But [] H H' → Val CS H' r (sgn (o1 * u2) (u1 * o2)).1 (sgn (o1 * u2) (u1 * o2)).2 → Q (.ref r) H') ∧
  (o2 = 0 → ∀ dd H', H dd = none → But [] H H' → H' dd = some (.xd [(("number" : Str), V.int 0)]) → E (.ref CI) (some dd) H')
theorem ok_Share_by {f : Addr} {fd : FuncData} (F : Fun K "by" "Share.by" s_Share_by f fd) (T : Txt K mg CS CI) (D_Share_init : Dk P w K mg base 4 CS "Share" "Share.__init__" s_Share_init ["self", "over", "under"] (sp_Share_init CS CI)) : FnOk P w K mg base (L2.CX P w) 6 f fd ["self", "other"] (sp_Share_by CS CI) := by
  have nd := sc_Share_by.nd
  refine F.okX sc_Share_by (fun vs H Q E h => ?_) (fun cdv A outer s H vs Q E hr h => ?_)
  · obtain ⟨_, _, rfl, _⟩ := h
    rfl
  · obtain ⟨_, _, rfl, p, q, o1, u1, o2, u2, rfl, rfl, ⟨p1, n, d, ⟨⟨dx, h1⟩, l1⟩, e1⟩, ⟨p2, m, e, ⟨⟨dy, h2⟩, l2⟩, e2⟩, ⟨s1, s2, s3, s4⟩, k, kE⟩ := h
    obtain ⟨sn, sd⟩ := Val.sm l1 p1 e1 s1 s2
    obtain ⟨sm, se⟩ := Val.sm l2 p2 e2 s3 s4
    refine ⟨_, (pss_one (ps_ret (pe_k D_Share_init hr (by decide) (by rfl) (passes_call (takes_of rfl rfl rfl rfl) (fun _ _ _ _ h => h)) (pa_cons (pe_op op_mulW (pe_fld (pv 0) rfl) (pe_fld (pv 1) rfl)) (pa_cons (pe_op op_mulW (pe_fld (pv 0) rfl) (pe_fld (pv 1) rfl)) pa_nil))))), ?_⟩
    walk_at "rd"
    intro x dx hx hd hne
    refine ⟨_, _, _, rfl, x, dx, n * e, d * m, rfl, rfl, rfl, upd_same, Sm.mono (by walk_at "sm") (by decide), Sm.mono (by walk_at "sm") (by decide), fun y0 H' hb hv => ⟨rfl, k ?_ x H' hx (made_but hx hd hb) ?_⟩, fun z dd H' hdd hb he => kE ?_ dd H' ?_ ?_ he⟩
    · intro z
      exact y0 (by rw [(fr_zero l2.1 p2 e2).mpr z, Int.mul_zero])
    · obtain ⟨_, n', d', hs, he⟩ := hv
      have z : o2 ≠ 0 := fun z => y0 (by rw [(fr_zero l2.1 p2 e2).mpr z, Int.mul_zero])
      have he' : n' * (d * m) = (n * e) * d' := by
        unfold sgn at he
        split at he
        · have he2 : n' * (0 - d * m) = (0 - n * e) * d' := he
          grind
        · exact he
      exact ⟨sgn_pos (fun z2 => (Int.mul_eq_zero.mp z2).elim (by omega) z), n', d', hs, fr_by l1.1 l2.1 e1 e2 he'⟩
    · rcases Int.mul_eq_zero.mp z with z | z
      · exact absurd z (by have := l1.1; omega)
      · exact (fr_zero l2.1 p2 e2).mp z
    · exact (upd_free (upd_free hdd).1).1
    · exact fun c o ho n => hb c o (But.new (S := []) (p := x) (by rw [upd_ne hne.symm]; exact hx) c o (But.new (S := []) hd c o ho n) n) n
def sp_Share_is_below (CS : Addr) : Sp := sp2 fun a b H Q _ => ∃ p q o1 u1 o2 u2, a = .ref p ∧ b = .ref q ∧ Val CS H p o1 u1 ∧ Val CS H q o2 u2 ∧ (Sm 2000 o1 ∧ Sm 2000 u1 ∧ Sm 2000 o2 ∧ Sm 2000 u2) ∧ Q (.bl (decide (o1 * u2 < o2 * u1))) H
theorem ok_Share_is_below {f : Addr} {fd : FuncData} (F : Fun K "is_below" "Share.is_below" s_Share_is_below f fd) (T : Txt K mg CS CI)  : FnOk P w K mg base (L2.CX P w) 1 f fd ["self", "other"] (sp_Share_is_below CS) := by
  have nd := sc_Share_is_below.nd
  refine F.okX sc_Share_is_below (fun vs H Q E h => ?_) (fun cdv A outer s H vs Q E hr h => ?_)
  · obtain ⟨_, _, rfl, _⟩ := h
    rfl
  · obtain ⟨_, _, rfl, p, q, o1, u1, o2, u2, rfl, rfl, ⟨p1, n, d, ⟨⟨dx, h1⟩, l1⟩, e1⟩, ⟨p2, m, e, ⟨⟨dy, h2⟩, l2⟩, e2⟩, ⟨s1, s2, s3, s4⟩, k⟩ := h
    obtain ⟨sn, sd⟩ := Val.sm l1 p1 e1 s1 s2
    obtain ⟨sm, se⟩ := Val.sm l2 p2 e2 s3 s4
    refine ⟨_, (pss_one (ps_ret (pe_cmpR op_lt (pe_op op_mulW (pe_fld (pv 0) rfl) (pe_fld (pv 1) rfl)) (pe_op op_mulW (pe_fld (pv 1) rfl) (pe_fld (pv 0) rfl)) (nomark _)))), ?_⟩
    walk_at "rd"
    rw [← show decide (n * e < m * d) = decide (o1 * u2 < o2 * u1) from decide_eq_decide.mpr (fr_lt l1.1 l2.1 p1 p2 e1 e2)] at k
    exact k
def sp_Share_eq (K : PySem.W.Frag) (CS : Addr) : Sp := sp2 fun a b H Q _ => ∃ p o1 u1, a = .ref p ∧ Val CS H p o1 u1 ∧
  ((∃ q o2 u2, b = .ref q ∧ Val CS H q o2 u2 ∧ Q (.bl (decide (o1 * u2 = o2 * u1))) H) ∨ (∃ t, TyX K H b t ∧ PySem.W.kitOne K t (.ref CS) = some false ∧ Q (.bl false) H))
theorem ok_Share_eq {f : Addr} {fd : FuncData} (F : Fun K "__eq__" "Share.__eq__" s_Share_eq f fd) (T : Txt K mg CS CI)  : FnOk P w K mg base (L2.CX P w) 1 f fd ["self", "other"] (sp_Share_eq K CS) := by
  have nd := sc_Share_eq.nd
  refine F.okX sc_Share_eq (fun vs H Q E h => ?_) (fun cdv A outer s H vs Q E hr h => ?_)
  · obtain ⟨_, _, rfl, _⟩ := h
    rfl
  · obtain ⟨_, b, rfl, p, o1, u1, rfl, ⟨p1, n, d, ⟨⟨dx, h1⟩, l1⟩, e1⟩, h⟩ := h
    refine ⟨_, (pss_one (ps_ret (pe_and (pe_callB call_isi (by rfl) T.isinstance (by decide +kernel) (pa_cons (pv 1) (pa_cons (pe_glob (v := .ref CS) (by rfl) T.mgShare rfl) pa_nil))) (pe_and (pe_cmpR op_eq (pe_fld (pv 0) rfl) (pe_fld (pv 1) rfl) (nomark _)) (pe_one (pe_cmpR op_eq (pe_fld (pv 0) rfl) (pe_fld (pv 1) rfl) (nomark _))))))), ?_⟩
    rcases h with ⟨q, o2, u2, rfl, ⟨p2, m, e, ⟨⟨dy, h2⟩, l2⟩, e2⟩, k⟩ | ⟨t, ty, kt, k⟩
    · walk_at "rd"
      have z := fr_eq l1 l2 p1 p2 e1 e2
      refine iteD (fun c => ?_) (fun c => ?_)
      · walk_at "rd"
        rw [← show decide (V.int d = V.int e) = decide (o1 * u2 = o2 * u1) from decide_eq_decide.mpr ⟨fun y => z.mp ⟨V.int.inj c, V.int.inj y⟩, fun y => by rw [(z.mpr y).2]⟩] at k
        exact k
      · rw [show decide (o1 * u2 = o2 * u1) = false from decide_eq_false fun y => c (by rw [(z.mpr y).1])] at k
        exact k
    · walk_at "rd"
      refine ⟨_, _, _, _, _, rfl, ClsV.own _, ty, kt, ?_⟩
      walk_at "rd"
      exact k
def sp_lesser_of (CS : Addr) : Sp := sp2 fun a b H Q _ => ∃ p q o1 u1 o2 u2, a = .ref p ∧ b = .ref q ∧ Val CS H p o1 u1 ∧ Val CS H q o2 u2 ∧ (Sm 2000 o1 ∧ Sm 2000 u1 ∧ Sm 2000 o2 ∧ Sm 2000 u2) ∧ (o2 * u1 < o1 * u2 → Q (.ref q) H) ∧ (¬ o2 * u1 < o1 * u2 → Q (.ref p) H)
theorem ok_lesser_of {f : Addr} {fd : FuncData} (F : Fun K "lesser_of" "lesser_of" s_lesser_of f fd) (T : Txt K mg CS CI) (D_Share_is_below : Dm P w K mg base 1 CS "is_below" "Share.is_below" s_Share_is_below ["self", "other"] (sp_Share_is_below CS)) : FnOk P w K mg base (L2.CX P w) 2 f fd ["share", "other"] (sp_lesser_of CS) := by
  have nd := sc_lesser_of.nd
  refine F.okX sc_lesser_of (fun vs H Q E h => ?_) (fun cdv A outer s H vs Q E hr h => ?_)
  · obtain ⟨_, _, rfl, _⟩ := h
    rfl
  · obtain ⟨_, _, rfl, p, q, o1, u1, o2, u2, rfl, rfl, v1, v2, ⟨s1, s2, s3, s4⟩, k1, k2⟩ := h
    refine ⟨_, (pss_cons (ps_if (pt_val (pe_m D_Share_is_below hr (by decide) passL (pv 1) (pa_cons (pv 0) pa_nil)))
(pss_one (ps_ret (pv 1)))
pss_nil)
(pss_one (ps_ret (pv 0)))), ?_⟩
    walk_at "rd"
    obtain ⟨n, d, ⟨⟨dy, h2⟩, l2⟩, e2⟩ := id v2.2
    refine ⟨q, dy, _, rfl, h2, sh_no (by decide +kernel) (by decide +kernel), ?_⟩
    walk_at "rd"
    refine ⟨q, p, _, _, _, _, rfl, rfl, v2, v1, ⟨s3, s4, s1, s2⟩, ?_⟩
    walk_at "rd"
    refine iteD (fun c => ?_) (fun c => ?_)
    · walk_at "rd"
      exact k1 c
    · walk_at "rd"
      exact k2 c
/-- the sum, term by term, not made lowest -/
def psum (l : List (Int × Int)) : Int × Int := l.foldl (fun a p => (a.1 * p.2 + p.1 * a.2, a.2 * p.2)) (0, 1)
def Sums (CS : Addr) (H : Hp) (as : List Addr) (ps : List (Int × Int)) : Prop := as.length = ps.length ∧ as.length ≤ 100 ∧ (∀ (i : Nat) (p : Addr) (v : Int × Int), as[i]? = some p → ps[i]? = some v → Val CS H p v.1 v.2 ∧ Sm 2000 v.1 ∧ Sm 2000 v.2) ∧ ∀ i, i ≤ ps.length → Sm 2000 (psum (ps.take i)).1 ∧ Sm 2000 (psum (ps.take i)).2
theorem sql_but {K : PySem.W.Frag} {S : List Addr} {H H' : Hp} {a : Addr} {xs : List V} (h : SqL K H a xs) (b : But S H H') (n : a ∉ S) : SqL K H' a xs := by
  rcases h with (h | ⟨o, h⟩) | h
  · exact .inl (.inl (b _ _ h n))
  · exact .inl (.inr ⟨o, b _ _ h n⟩)
  · exact .inr h
theorem sqt_but {K : PySem.W.Frag} {S : List Addr} {H H' : Hp} {a : Addr} {xs : List V} (h : SqT K H a xs) (b : But S H H') (n : a ∉ S) : SqT K H' a xs := by
  rcases h with (h | ⟨o, h⟩) | h
  · exact .inl (.inl (b _ _ h n))
  · exact .inl (.inr ⟨o, b _ _ h n⟩)
  · exact .inr h
theorem psum_succ {ps : List (Int × Int)} {i : Nat} {v : Int × Int} (h : ps[i]? = some v) : psum (ps.take (i + 1)) = ((psum (ps.take i)).1 * v.2 + v.1 * (psum (ps.take i)).2, (psum (ps.take i)).2 * v.2) := by
  have hi := (List.getElem?_eq_some_iff.mp h).1
  rw [List.take_add_one, h]
  unfold psum
  rw [List.foldl_append]
  rfl
def sp_sum_of (K : PySem.W.Frag) (CS : Addr) : Sp := sp1 fun a H Q _ => ∃ (s : Addr) (as : List Addr) (ps : List (Int × Int)), a = .ref s ∧ SqL K H s (as.map V.ref) ∧ Sums CS H as ps ∧ ∀ r H', H r = none → But [] H H' → Val CS H' r (psum ps).1 (psum ps).2 → Q (.ref r) H'
theorem ok_sum_of {f : Addr} {fd : FuncData} (F : Fun K "sum_of" "sum_of" s_sum_of f fd) (T : Txt K mg CS CI) (D_Share_init : Dk P w K mg base 4 CS "Share" "Share.__init__" s_Share_init ["self", "over", "under"] (sp_Share_init CS CI)) (D_Share_add : Dm P w K mg base 6 CS "__add__" "Share.__add__" s_Share_add ["self", "other"] (sp_Share_add CS)) : FnOk P w K mg base (L2.CX P w) 7 f fd ["shares"] (sp_sum_of K CS) := by
  have nd := sc_sum_of.nd
  refine F.okX sc_sum_of (fun vs H Q E h => ?_) (fun cdv A outer s H vs Q E hr h => ?_)
  · obtain ⟨_, rfl, _⟩ := h
    rfl
  · obtain ⟨_, rfl, a, as, ps, rfl, hs, ⟨el, em, ev, es⟩, k⟩ := h
    refine ⟨_, (pss_cons (ps_set (i := 1) nd rfl (Or.inl rfl) (pe_k D_Share_init hr (by decide) (by rfl) passL (pa_cons pe_int (pa_cons pe_int pa_nil))))
(pss_cons (ps_for (passes_of rfl) rfl (pi_list (pv 0)) (pg_name (i := 2) nd rfl (Or.inl rfl))
(pss_one (ps_set (i := 1) nd rfl (Or.inl rfl) (pe_op (op_dAdd D_Share_add hr (by decide) T) (pv 1) (pv 2)))))
(pss_one (ps_ret (pv 1))))), ?_⟩
    walk_at "rd"
    intro x dx hx hd hne
    refine ⟨_, _, _, rfl, x, dx, 0, 1, rfl, rfl, rfl, upd_same, Sm.mono (by walk_at "sm") (by decide), Sm.mono (by walk_at "sm") (by decide), fun _ H1 hb hv => ⟨rfl, ?_⟩, fun z => absurd z (by omega)⟩
    have b1 := made_but hx hd hb
    refine ⟨_, rfl, ?_⟩
    refine ⟨_, rfl, ?_⟩
    refine ⟨⟨_, sql_but hs b1 (by simp)⟩, for_list (K := K) (a := a) (xs := as.map V.ref) (fun i σ H2 => ∃ (t : Addr) (y : Option V), σ = [some (.ref a), some (.ref t), y] ∧ H t = none ∧ But [] H H2 ∧ Val CS H2 t (psum (ps.take i)).1 (psum (ps.take i)).2)
      ⟨x, none, rfl, hx, b1, hv⟩ (fun i σ H2 _ ⟨_, _, _, _, b2, _⟩ => sql_but hs b2 (by simp)) ?_ ?_⟩
    · rintro i y σ H2 hi ⟨t, y0, rfl, ht, b2, v2⟩
      obtain ⟨p, hp, rfl⟩ : ∃ p, as[i]? = some p ∧ y = .ref p := by
        rw [List.getElem?_map] at hi
        cases e : as[i]? with
        | none => rw [e] at hi; cases hi
        | some p => rw [e] at hi; exact ⟨p, rfl, (Option.some.inj hi).symm⟩
      have il : i < ps.length := by rw [← el]; exact (List.getElem?_eq_some_iff.mp hp).1
      obtain ⟨v, hv⟩ : ∃ v, ps[i]? = some v := ⟨_, List.getElem?_eq_getElem il⟩
      obtain ⟨w1, w2, w3⟩ := ev i p v hp hv
      have w1 := w1.but b2 (by simp)
      obtain ⟨_, n, d, ⟨⟨dt, h1⟩, _⟩, _⟩ := id v2
      obtain ⟨_, m, e, ⟨⟨dp, h2⟩, _⟩, _⟩ := id w1
      have z := es i (Nat.le_of_lt il)
      walk_at "rd"
      refine ⟨t, p, dt, dp, _, _, rfl, rfl, h1, h2, _, _, rfl, t, p, _, _, _, _, rfl, rfl, v2, w1, ⟨z.1, z.2, w2, w3⟩, fun r H3 hr hb hw => ?_⟩
      refine ⟨r, some (.ref p), rfl, (But.nil_at b2 (by simp) hr), b2.trans hb, ?_⟩
      rw [psum_succ hv]
      exact hw
    · rintro σ H2 ⟨t, y0, rfl, ht, b2, v2⟩
      walk_at "rd"
      refine k t H2 ht b2 ?_
      rw [List.length_map, el, List.take_length] at v2
      exact v2
def sp_sum_of_t (K : PySem.W.Frag) (CS : Addr) : Sp := sp1 fun a H Q _ => ∃ (s : Addr) (as : List Addr) (ps : List (Int × Int)), a = .ref s ∧ SqT K H s (as.map V.ref) ∧ Sums CS H as ps ∧ ∀ r H', H r = none → But [] H H' → Val CS H' r (psum ps).1 (psum ps).2 → Q (.ref r) H'
theorem ok_sum_of_t {f : Addr} {fd : FuncData} (F : Fun K "sum_of" "sum_of" s_sum_of_t f fd) (T : Txt K mg CS CI) (D_Share_init : Dk P w K mg base 4 CS "Share" "Share.__init__" s_Share_init ["self", "over", "under"] (sp_Share_init CS CI)) (D_Share_add : Dm P w K mg base 6 CS "__add__" "Share.__add__" s_Share_add ["self", "other"] (sp_Share_add CS)) : FnOk P w K mg base (L2.CX P w) 7 f fd ["shares"] (sp_sum_of_t K CS) := by
  have nd := sc_sum_of_t.nd
  refine F.okX sc_sum_of_t (fun vs H Q E h => ?_) (fun cdv A outer s H vs Q E hr h => ?_)
  · obtain ⟨_, rfl, _⟩ := h
    rfl
  · obtain ⟨_, rfl, a, as, ps, rfl, hs, ⟨el, em, ev, es⟩, k⟩ := h
    refine ⟨_, (pss_cons (ps_set (i := 1) nd rfl (Or.inl rfl) (pe_k D_Share_init hr (by decide) (by rfl) passL (pa_cons pe_int (pa_cons pe_int pa_nil))))
(pss_cons (ps_for (passes_of rfl) rfl (pi_tup (pv 0)) (pg_name (i := 2) nd rfl (Or.inl rfl))
(pss_one (ps_set (i := 1) nd rfl (Or.inl rfl) (pe_op (op_dAdd D_Share_add hr (by decide) T) (pv 1) (pv 2)))))
(pss_one (ps_ret (pv 1))))), ?_⟩
    walk_at "rd"
    intro x dx hx hd hne
    refine ⟨_, _, _, rfl, x, dx, 0, 1, rfl, rfl, rfl, upd_same, Sm.mono (by walk_at "sm") (by decide), Sm.mono (by walk_at "sm") (by decide), fun _ H1 hb hv => ⟨rfl, ?_⟩, fun z => absurd z (by omega)⟩
    have b1 := made_but hx hd hb
    refine ⟨_, rfl, ?_⟩
    refine ⟨_, rfl, ?_⟩
    refine ⟨⟨_, sqt_but hs b1 (by simp)⟩, for_tup (K := K) (a := a) (xs := as.map V.ref) (fun i σ H2 => ∃ (t : Addr) (y : Option V), σ = [some (.ref a), some (.ref t), y] ∧ H t = none ∧ But [] H H2 ∧ Val CS H2 t (psum (ps.take i)).1 (psum (ps.take i)).2)
      ⟨x, none, rfl, hx, b1, hv⟩ (fun i σ H2 _ ⟨_, _, _, _, b2, _⟩ => sqt_but hs b2 (by simp)) ?_ ?_⟩
    · rintro i y σ H2 hi ⟨t, y0, rfl, ht, b2, v2⟩
      obtain ⟨p, hp, rfl⟩ : ∃ p, as[i]? = some p ∧ y = .ref p := by
        rw [List.getElem?_map] at hi
        cases e : as[i]? with
        | none => rw [e] at hi; cases hi
        | some p => rw [e] at hi; exact ⟨p, rfl, (Option.some.inj hi).symm⟩
      have il : i < ps.length := by rw [← el]; exact (List.getElem?_eq_some_iff.mp hp).1
      obtain ⟨v, hv⟩ : ∃ v, ps[i]? = some v := ⟨_, List.getElem?_eq_getElem il⟩
      obtain ⟨w1, w2, w3⟩ := ev i p v hp hv
      have w1 := w1.but b2 (by simp)
      obtain ⟨_, n, d, ⟨⟨dt, h1⟩, _⟩, _⟩ := id v2
      obtain ⟨_, m, e, ⟨⟨dp, h2⟩, _⟩, _⟩ := id w1
      have z := es i (Nat.le_of_lt il)
      walk_at "rd"
      refine ⟨t, p, dt, dp, _, _, rfl, rfl, h1, h2, _, _, rfl, t, p, _, _, _, _, rfl, rfl, v2, w1, ⟨z.1, z.2, w2, w3⟩, fun r H3 hr hb hw => ?_⟩
      refine ⟨r, some (.ref p), rfl, (But.nil_at b2 (by simp) hr), b2.trans hb, ?_⟩
      rw [psum_succ hv]
      exact hw
    · rintro σ H2 ⟨t, y0, rfl, ht, b2, v2⟩
      walk_at "rd"
      refine k t H2 ht b2 ?_
      rw [List.length_map, el, List.take_length] at v2
      exact v2
theorem bits_eq (a : Nat) : Builtin.Int.intBits (a : Int) = bits a := by
  unfold Builtin.Int.intBits bits
  by_cases h : a = 0
  · subst h; rfl
  · rw [if_neg h, if_neg (by simpa using h), Int.natAbs_natCast]
theorem bits_le {a k : Nat} (h : a < 2 ^ k) : bits a ≤ k := by
  unfold bits
  split
  · omega
  · rename_i z
    have := (Nat.log2_lt z).mpr h
    omega
def sp_law_gcd : Sp := sp2 fun x y H Q _ => ∃ a b : Nat, x = .int a ∧ y = .int b ∧ a < 2 ^ 4000 ∧ b < 2 ^ 4000 ∧ Q (.int (Nat.gcd a b : Nat)) H
theorem ok_law_gcd {f : Addr} {fd : FuncData} (F : Fun K "_law_gcd" "_law_gcd" s_law_gcd f fd) (T : Txt K mg CS CI)  : FnOk P w K mg base (L2.CX P w) 1 f fd ["one", "other"] sp_law_gcd := by
  have nd := sc_law_gcd.nd
  refine F.okX sc_law_gcd (fun vs H Q E h => ?_) (fun cdv A outer s H vs Q E hr h => ?_)
  · obtain ⟨_, _, rfl, _⟩ := h
    rfl
  · obtain ⟨_, _, rfl, a, b, rfl, rfl, ha, hb, k⟩ := h
    refine ⟨_, (pss_cons (ps_for (passes_of rfl) rfl (pi_range1 (by rfl) T.range (pa_cons (pe_op op_add (pe_op op_mulW pe_int (pe_op op_add (pe_bits (pv 0)) (pe_bits (pv 1)))) pe_int) pa_nil)) (pg_name (i := 2) nd rfl (Or.inl rfl))
(pss_cons (ps_if (pt_cmpR op_eq (pv 1) pe_int (nomark _))
(pss_one (ps_ret (pv 0)))
pss_nil)
(pss_one (ps_par (i := 0) (j := 1) (by rfl) nd rfl rfl (by decide) rfl rfl (pa_cons (pv 1) (pa_cons (pe_op op_modN (pe_callTy call_int1 (by rfl) T.int (by decide +kernel) (pa_cons (pv 0) pa_nil)) (pv 1)) pa_nil)) (by rfl)))))
(pss_one (ps_ret (pv 0)))), ?_⟩
    have la := bits_le ha
    have lb := bits_le hb
    clear ha hb
    have sa : Sm 60 (Builtin.Int.intBits (a : Int) : Nat) := by rw [bits_eq]; unfold Sm; omega
    have sb : Sm 60 (Builtin.Int.intBits (b : Int) : Nat) := by rw [bits_eq]; unfold Sm; omega
    walk_at "rd"
    rw [bits_eq, bits_eq]
    refine ⟨by omega, for_range (lo := 0) (n := (2 * ((bits a : Int) + (bits b : Int)) + 4).toNat) (fun i σ H' => ∃ (c d : Nat) (y : Option V), σ = [some (.int c), some (.int d), y] ∧ H' = H ∧ Nat.gcd c d = Nat.gcd a b ∧ i + euc c d = euc a b)
      ⟨a, b, none, rfl, rfl, rfl, Nat.zero_add _⟩ ?_ ?_⟩
    · rintro i σ H' hi ⟨c, d, y, rfl, rfl, g, e⟩
      walk_at "rd"
      refine iteD (fun z => ?_) (fun z => ?_)
      · have d0 : d = 0 := by have := V.int.inj z; omega
        walk_at "rd"
        rw [d0, Nat.gcd_zero_right] at g
        rw [g]
        exact k
      · have d0 : d ≠ 0 := fun w => z (by rw [w]; rfl)
        walk_at "rd"
        refine ⟨d, c % d, some (.int (0 + (i : Int))), ?_, rfl, ?_, ?_⟩
        · have em : Int.fmod (c : Int) (d : Int) = ((c % d : Nat) : Int) := by
            rw [Int.fmod_eq_emod_of_nonneg _ (by omega)]
            exact (Int.natCast_emod c d).symm
          show [some (V.int d), some (V.int (Int.fmod (c : Int) (d : Int))), some (V.int (0 + (i : Int)))] = _
          rw [em]
        · rw [gcd_step, g]
        · rw [euc_step d0] at e
          omega
    · rintro σ H' ⟨c, d, y, rfl, rfl, g, e⟩
      have := euc_turns a b
      omega
def sp_law_wide : Sp := sp1 fun x H Q _ => ∃ p q, x = .ref p ∧ StA H p q ∧ ∀ r H', 0 ≤ r → r < 10 ^ 40 → StA H' p q → But [p] H H' → Q (.int r) H'
theorem ok_law_wide {f : Addr} {fd : FuncData} (F : Fun K "_law_wide" "_law_wide" s_law_wide f fd) (T : Txt K mg CS CI) (D_law_draw : Df P w K mg base 1 "_law_draw" s_law_draw ["state", "limit"] sp_law_draw) : FnOk P w K mg base (L2.CX P w) 2 f fd ["state"] sp_law_wide := by
  have nd := sc_law_wide.nd
  refine F.okX sc_law_wide (fun vs H Q E h => ?_) (fun cdv A outer s H vs Q E hr h => ?_)
  · obtain ⟨_, rfl, _⟩ := h
    rfl
  · obtain ⟨_, rfl, p, q, rfl, hS, k⟩ := h
    refine ⟨_, (pss_cons (ps_set (i := 1) nd rfl (Or.inl rfl) pe_int)
(pss_cons (ps_for (passes_of rfl) rfl (pi_range1 (by rfl) T.range (pa_cons pe_int pa_nil)) (pg_name (i := 2) nd rfl (Or.inl rfl))
(pss_one (ps_set (i := 1) nd rfl (Or.inl rfl) (pe_op op_add (pe_op op_mulW (pv 1) (pe_op op_pow pe_int pe_int)) (pe_d D_law_draw hr (by decide) (by rfl) passL (pa_cons (pv 0) (pa_cons (pe_op op_pow pe_int pe_int) pa_nil)))))))
(pss_cons (ps_set (i := 3) nd rfl (Or.inl rfl) pe_int)
(pss_cons (ps_for (passes_of rfl) rfl (pi_range1 (by rfl) T.range (pa_cons (pe_d D_law_draw hr (by decide) (by rfl) passL (pa_cons (pv 0) (pa_cons pe_int pa_nil))) pa_nil)) (pg_name (i := 2) nd rfl (Or.inl rfl))
(pss_one (ps_set (i := 3) nd rfl (Or.inl rfl) (pe_op op_mulW (pv 3) pe_int))))
(pss_one (ps_ret (pe_op op_modN (pe_callTy call_int1 (by rfl) T.int (by decide +kernel) (pa_cons (pv 1) pa_nil)) (pv 3)))))))), ?_⟩
    walk_at "rd"
    refine for_range (lo := 0) (n := 5) (fun i σ H' => ∃ (n : Int) (y : Option V), σ = [some (.ref p), some (.int n), y, none] ∧ 0 ≤ n ∧ n < (10 ^ 9) ^ i ∧ StA H' p q ∧ But [p] H H') ⟨0, none, rfl, by omega, by decide, hS, But.refl _ _⟩ ?_ ?_
    · rintro i σ H' hi ⟨n, y, rfl, n0, n1, hS1, hB1⟩
      have nS : Sm 200 n := by
        have e5 : (10 ^ 9 : Int) ^ i ≤ 10 ^ 36 := by
          match i, hi with
          | 0, _ | 1, _ | 2, _ | 3, _ | 4, _ => decide
        unfold Sm
        omega
      have s9 : Sm 200 (10 ^ Int.toNat 9) := by unfold Sm; decide
      walk_at "rd"
      refine ⟨p, q, _, rfl, rfl, hS1, Sm.mono s9 (by decide), fun r H2 r0 r1 hS2 hB2 => ?_⟩
      walk_at "rd"
      have e9 : (10 : Int) ^ Int.toNat 9 = 1000000000 := by decide
      have r2 : r < 1000000000 := by rw [e9] at r1; omega
      refine ⟨?_, ?_, hS2, hB1.trans hB2⟩
      · rw [e9]; omega
      · rw [e9, Int.pow_succ]
        have e10 : (10 : Int) ^ 9 = 1000000000 := by decide
        rw [e10] at n1 ⊢
        generalize (1000000000 : Int) ^ i = P at *
        omega
    · rintro σ H1 ⟨n, y, rfl, n0, n1, hS1, hB1⟩
      walk_at "rd"
      refine ⟨p, q, 41, rfl, rfl, hS1, Sm.lit (by decide), fun r H2 r0 r1 hS2 hB2 => ?_⟩
      have r2 : r ≤ 40 := by omega
      walk_at "rd"
      refine for_range (lo := 0) (n := r.toNat) (fun i σ H' => ∃ (y : Option V), σ = [some (.ref p), some (.int n), y, some (.int (10 ^ i))] ∧ H' = H2) ⟨y, rfl, rfl⟩ ?_ ?_
      · rintro i σ H' hi ⟨y, rfl, rfl⟩
        have sp : Sm 200 ((10 : Int) ^ i) := by
          unfold Sm
          rw [Int.natAbs_pow]
          refine Nat.lt_of_le_of_lt (Nat.pow_le_pow_right (by decide) (show i ≤ 40 by omega)) (by decide)
        walk_at "rd"
        first | exact rfl | exact ⟨_, rfl, rfl⟩
      · rintro σ H' ⟨y, rfl, rfl⟩
        have pp : (0 : Int) < 10 ^ r.toNat := Int.pow_pos (by decide)
        have pl : (10 : Int) ^ r.toNat ≤ 10 ^ 40 := by
          have : (10 : Nat) ^ r.toNat ≤ 10 ^ 40 := Nat.pow_le_pow_right (by decide) (by omega)
          exact_mod_cast this
        walk_at "rd"
        exact k _ _ (fmod_bd pp).1 (Int.lt_of_lt_of_le (fmod_bd pp).2 pl) hS2 (hB1.trans hB2)
theorem abs_cast (x : Int) : (if x < 0 then -x else x) = (x.natAbs : Int) := by
  split <;> omega
def sp_law_is (CS : Addr) : Sp := sp3 fun a x y H Q _ => ∃ p o u, a = .ref p ∧ x = .int o ∧ y = .int u ∧ Val CS H p o u ∧ Sm 3000 o ∧ Sm 3000 u ∧ Q (.bl true) H
theorem ok_law_is {f : Addr} {fd : FuncData} (F : Fun K "_law_is" "_law_is" s_law_is f fd) (T : Txt K mg CS CI) (D_law_integer : Df P w K mg base 1 "_law_integer" s_law_integer ["value"] sp_law_integer) (D_law_gcd : Df P w K mg base 1 "_law_gcd" s_law_gcd ["one", "other"] sp_law_gcd) : FnOk P w K mg base (L2.CX P w) 2 f fd ["got", "over", "under"] (sp_law_is CS) := by
  have nd := sc_law_is.nd
  refine F.okX sc_law_is (fun vs H Q E h => ?_) (fun cdv A outer s H vs Q E hr h => ?_)
  · obtain ⟨_, _, _, rfl, _⟩ := h
    rfl
  · obtain ⟨_, _, _, rfl, p, o, u, rfl, rfl, rfl, ⟨p1, n, d, ⟨⟨dx, h1⟩, l1⟩, e1⟩, s1, s2, k⟩ := h
    obtain ⟨sn, sd⟩ := Val.sm l1 p1 e1 s1 s2
    refine ⟨_, (pss_cons (ps_if (PW.pt (pw_or (pt_not (pt_val (pe_callB call_isi (by rfl) T.isinstance (by decide +kernel) (pa_cons (pv 0) (pa_cons (pe_glob (v := .ref CS) (by rfl) T.mgShare rfl) pa_nil))))) (pw_or (pt_not (pt_val (pe_d D_law_integer hr (by decide) (by rfl) passL (pa_cons (pe_fld (pv 0) rfl) pa_nil)))) (pw_or1 (pt_not (pt_val (pe_d D_law_integer hr (by decide) (by rfl) passL (pa_cons (pe_fld (pv 0) rfl) pa_nil))))))))
(pss_one (ps_ret pe_bl))
pss_nil)
(pss_cons (ps_set (i := 3) nd rfl (Or.inl rfl) (pe_d D_law_gcd hr (by decide) (by rfl) passL (pa_cons (pe_callB call_abs (by rfl) T.abs (by decide +kernel) (pa_cons (pv 1) pa_nil)) (pa_cons (pv 2) pa_nil))))
(pss_one (ps_ret (pe_and (pe_cmpR op_eq (pe_op op_mulW (pe_fld (pv 0) rfl) (pv 3)) (pv 1) (nomark _)) (pe_one (pe_cmpR op_eq (pe_op op_mulW (pe_fld (pv 0) rfl) (pv 3)) (pv 2) (nomark _)))))))), ?_⟩
    walk_at "rd"
    have sg : Sm 3000 ((Nat.gcd o.natAbs u.natAbs : Nat) : Int) := s2.le (by
      have := Nat.gcd_le_right (n := u.natAbs) o.natAbs (by omega)
      omega)
    have lo := low_of l1 p1 e1
    refine ⟨o.natAbs, u.natAbs, by rw [abs_cast], by rw [Int.natAbs_of_nonneg (by omega)], Nat.lt_of_lt_of_le s1 (Nat.pow_le_pow_right (by decide) (by decide)), Nat.lt_of_lt_of_le s2 (Nat.pow_le_pow_right (by decide) (by decide)), ?_⟩
    walk_at "rd"
    refine iteD (fun c => ?_) (fun c => absurd (congrArg V.int lo.1) c)
    walk_at "rd"
    have z : decide (V.int (d * ((Nat.gcd o.natAbs u.natAbs : Nat) : Int)) = V.int u) = true := decide_eq_true (congrArg V.int lo.2)
    rw [z]
    exact k
def sp_law_number : Sp := sp1 fun x H Q _ => ∃ p q, x = .ref p ∧ StA H p q ∧ ∀ r H', r.natAbs < 10 ^ 40 → StA H' p q → But [p] H H' → Q (.int r) H'
theorem ok_law_number {f : Addr} {fd : FuncData} (F : Fun K "_law_number" "_law_number" s_law_number f fd) (T : Txt K mg CS CI) (D_law_draw : Df P w K mg base 1 "_law_draw" s_law_draw ["state", "limit"] sp_law_draw) (D_law_wide : Df P w K mg base 2 "_law_wide" s_law_wide ["state"] sp_law_wide) : FnOk P w K mg base (L2.CX P w) 3 f fd ["state"] sp_law_number := by
  have nd := sc_law_number.nd
  refine F.okX sc_law_number (fun vs H Q E h => ?_) (fun cdv A outer s H vs Q E hr h => ?_)
  · obtain ⟨_, rfl, _⟩ := h
    rfl
  · obtain ⟨_, rfl, p, q, rfl, hS, k⟩ := h
    refine ⟨_, (pss_cons (ps_set (i := 1) nd rfl (Or.inl rfl) (pe_d D_law_draw hr (by decide) (by rfl) passL (pa_cons (pv 0) (pa_cons pe_int pa_nil))))
(pss_cons (ps_if (pt_cmpR op_lt (pv 1) pe_int (nomark _))
(pss_one (ps_ret (pv 1)))
pss_nil)
(pss_cons (ps_set (i := 2) nd rfl (Or.inl rfl) (pe_d D_law_draw hr (by decide) (by rfl) passL (pa_cons (pv 0) (pa_cons pe_int pa_nil))))
(pss_mid (ps_if (pt_cmpR op_gt (pv 1) pe_int (nomark _))
(pss_one (ps_set (i := 2) nd rfl (Or.inl rfl) (pe_d D_law_wide hr (by decide) (by rfl) passL (pa_cons (pv 0) pa_nil))))
pss_nil)
(pss_cons (ps_if (pt_cmpR op_eq (pe_d D_law_draw hr (by decide) (by rfl) passL (pa_cons (pv 0) (pa_cons pe_int pa_nil))) pe_int (nomark _))
(pss_one (ps_ret (pe_op op_sub pe_int (pv 2))))
pss_nil)
(pss_one (ps_ret (pv 2)))))))), ?_⟩
    walk_at "rd"
    refine ⟨p, q, 8, rfl, rfl, hS, Sm.lit (by decide), fun r1 H1 a1 b1 hS1 hB1 => ?_⟩
    walk_at "rd"
    refine iteD (fun c => ?_) (fun c => ?_)
    · walk_at "rd"
      exact k _ _ (by omega) hS1 hB1
    walk_at "rd"
    refine ⟨p, q, 12, rfl, rfl, hS1, Sm.lit (by decide), fun r2 H2 a2 b2 hS2 hB2 => ?_⟩
    refine ⟨fun σ H' => ∃ s, σ = [some (.ref p), some (.int r1), some (.int s)] ∧ 0 ≤ s ∧ s < 10 ^ 40 ∧ StA H' p q ∧ But [p] H H', ?_, ?_⟩
    · walk_at "rd"
      refine iteD (fun c => ?_) (fun c => ?_)
      · walk_at "rd"
        refine ⟨p, q, rfl, hS2, fun r3 H3 a3 b3 hS3 hB3 => ?_⟩
        exact ⟨r3, rfl, a3, b3, hS3, (hB1.trans hB2).trans hB3⟩
      · exact ⟨r2, rfl, by omega, by omega, hS2, hB1.trans hB2⟩
    rintro σ H3 ⟨s, rfl, a3, b3, hS3, hB3⟩
    walk_at "rd"
    refine ⟨p, q, 2, rfl, rfl, hS3, Sm.lit (by decide), fun r4 H4 a4 b4 hS4 hB4 => ?_⟩
    walk_at "rd"
    refine iteD (fun c => ?_) (fun c => ?_)
    · walk_at "rd"
      exact k _ _ (by omega) hS4 (hB3.trans hB4)
    · walk_at "rd"
      exact k _ _ (by omega) hS4 (hB3.trans hB4)
/-- a new list of two whole numbers, the second one not 0 -/
def Pair (p q : Addr) (H : Hp) (Q : VK) : Prop := ∀ f H' x y, H f = none → StA H' p q → But [p] H H' → H' f = some (.lst [.int x, .int y]) → y ≠ 0 → x.natAbs < 10 ^ 40 → y.natAbs < 10 ^ 40 → Q (.ref f) H'
theorem Pair.new {p q : Addr} {H H1 : Hp} {Q : VK} {x y : Int} (k : Pair p q H Q) (hS : StA H1 p q) (hB : But [p] H H1) (h0 : y ≠ 0) (hx : x.natAbs < 10 ^ 40) (hy : y.natAbs < 10 ^ 40) {f : Addr} (hf : H1 f = none) : Q (.ref f) (upd H1 f (.lst [.int x, .int y])) := by
  obtain ⟨ns, i, b, c, d, h1, h2, r⟩ := id hS.ex
  have fp : f ∉ [p] := fun z => by
    cases List.mem_singleton.mp z
    rw [h1] at hf; cases hf
  exact k f _ x y (hB.nil_at fp hf) (hS.but (But.new (S := []) hf) (by simp) (by simp)) (hB.trans (But.new hf)) upd_same h0 hx hy
def sp_law_fraction : Sp := sp1 fun x H Q _ => ∃ p q, x = .ref p ∧ StA H p q ∧ Pair p q H Q
theorem ok_law_fraction {f : Addr} {fd : FuncData} (F : Fun K "_law_fraction" "_law_fraction" s_law_fraction f fd) (T : Txt K mg CS CI) (D_law_number : Df P w K mg base 3 "_law_number" s_law_number ["state"] sp_law_number) (D_law_draw : Df P w K mg base 1 "_law_draw" s_law_draw ["state", "limit"] sp_law_draw) : FnOk P w K mg base (L2.CX P w) 4 f fd ["state"] sp_law_fraction := by
  have nd := sc_law_fraction.nd
  refine F.okX sc_law_fraction (fun vs H Q E h => ?_) (fun cdv A outer s H vs Q E hr h => ?_)
  · obtain ⟨_, rfl, _⟩ := h
    rfl
  · obtain ⟨_, rfl, p, q, rfl, hS, k⟩ := h
    refine ⟨_, (pss_cons (ps_set (i := 1) nd rfl (Or.inl rfl) (pe_d D_law_number hr (by decide) (by rfl) passL (pa_cons (pv 0) pa_nil)))
(pss_cons (ps_set (i := 2) nd rfl (Or.inl rfl) (pe_d D_law_number hr (by decide) (by rfl) passL (pa_cons (pv 0) pa_nil)))
(pss_mid (ps_if (pt_cmpR op_eq (pv 2) pe_int (nomark _))
(pss_one (ps_set (i := 2) nd rfl (Or.inl rfl) (pe_op op_add pe_int (pe_d D_law_draw hr (by decide) (by rfl) passL (pa_cons (pv 0) (pa_cons pe_int pa_nil))))))
pss_nil)
(pss_cons (ps_set (i := 3) nd rfl (Or.inl rfl) (pe_op op_add pe_int (pe_d D_law_draw hr (by decide) (by rfl) passL (pa_cons (pv 0) (pa_cons pe_int pa_nil)))))
(pss_cons (ps_if (PW.pt (pw_and (pt_cmpR op_lt (pe_callB call_abs (by rfl) T.abs (by decide +kernel) (pa_cons (pv 1) pa_nil)) (pe_op op_pow pe_int pe_int) (nomark _)) (pw_and1 (pt_cmpR op_lt (pe_callB call_abs (by rfl) T.abs (by decide +kernel) (pa_cons (pv 2) pa_nil)) (pe_op op_pow pe_int pe_int) (nomark _)))))
(pss_one (ps_ret (pe_lst (pa_cons (pe_op op_mulW (pv 1) (pv 3)) (pa_cons (pe_op op_mulW (pv 2) (pv 3)) pa_nil)))))
pss_nil)
(pss_one (ps_ret (pe_lst (pa_cons (pv 1) (pa_cons (pv 2) pa_nil)))))))))), ?_⟩
    walk_at "rd"
    refine ⟨p, q, rfl, hS, fun x H1 a1 hS1 hB1 => ?_⟩
    walk_at "rd"
    refine ⟨p, q, rfl, hS1, fun y0 H2 a2 hS2 hB2 => ?_⟩
    refine ⟨fun σ H' => ∃ y, σ = [some (.ref p), some (.int x), some (.int y), none] ∧ y ≠ 0 ∧ y.natAbs < 10 ^ 40 ∧ StA H' p q ∧ But [p] H H', ?_, ?_⟩
    · walk_at "rd"
      refine iteD (fun c => ?_) (fun c => ?_)
      · walk_at "rd"
        refine ⟨p, q, 9, rfl, rfl, hS2, Sm.lit (by decide), fun r3 H3 a3 b3 hS3 hB3 => ?_⟩
        walk_at "rd"
        first | exact (hB1.trans hB2).trans hB3 | exact ⟨hS3, (hB1.trans hB2).trans hB3⟩
      · exact ⟨y0, rfl, fun z => c (by rw [z]), a2, hS2, hB1.trans hB2⟩
    rintro σ H3 ⟨y, rfl, y1, y2, hS3, hB3⟩
    walk_at "rd"
    refine ⟨p, q, 6, rfl, rfl, hS3, Sm.lit (by decide), fun r H4 a4 b4 hS4 hB4 => ?_⟩
    have sx : Sm 200 x := by unfold Sm; omega
    have sy : Sm 200 y := by unfold Sm; omega
    have sr : Sm 200 r := by unfold Sm; omega
    walk_at "rd"
    have pair : ∀ f, H4 f = none → Q (.ref f) (upd H4 f (.lst [.int x, .int y])) := fun f hf => k.new hS4 (hB3.trans hB4) y1 a1 y2 hf
    have e38 : (10 : Int) ^ Int.toNat 38 = 10 ^ 38 := by decide
    refine iteD (fun c1 => ?_) (fun c1 => ?_)
    · walk_at "rd"
      refine iteD (fun c2 => ?_) (fun c2 => ?_)
      · have x8 : x.natAbs < 10 ^ 38 := by rw [abs_cast, e38] at c1; omega
        have y8 : y.natAbs < 10 ^ 38 := by rw [abs_cast, e38] at c2; omega
        have r1 : 0 ≤ 1 + r ∧ 1 + r ≤ 6 := by omega
        have mx : (x * (1 + r)).natAbs < 10 ^ 40 := by
          rw [Int.natAbs_mul]
          exact Nat.lt_of_le_of_lt (Nat.mul_le_mul (Nat.le_of_lt x8) (show (1 + r).natAbs ≤ 6 by omega)) (by decide)
        have my : (y * (1 + r)).natAbs < 10 ^ 40 := by
          rw [Int.natAbs_mul]
          exact Nat.lt_of_le_of_lt (Nat.mul_le_mul (Nat.le_of_lt y8) (show (1 + r).natAbs ≤ 6 by omega)) (by decide)
        walk_at "rd"
        intro f hf
        exact k.new hS4 (hB3.trans hB4) (fun z => (Int.mul_eq_zero.mp z).elim y1 (by omega)) mx my hf
      · walk_at "rd"
        exact pair
    · walk_at "rd"
      exact pair
def sp_law_second : Sp := sp3 fun s a b H Q _ => ∃ p q x y, s = .ref p ∧ a = .int x ∧ b = .int y ∧ StA H p q ∧ y ≠ 0 ∧ x.natAbs < 10 ^ 40 ∧ y.natAbs < 10 ^ 40 ∧ Pair p q H Q
theorem ok_law_second {f : Addr} {fd : FuncData} (F : Fun K "_law_second" "_law_second" s_law_second f fd) (T : Txt K mg CS CI) (D_law_draw : Df P w K mg base 1 "_law_draw" s_law_draw ["state", "limit"] sp_law_draw) (D_law_fraction : Df P w K mg base 4 "_law_fraction" s_law_fraction ["state"] sp_law_fraction) : FnOk P w K mg base (L2.CX P w) 5 f fd ["state", "over", "under"] sp_law_second := by
  have nd := sc_law_second.nd
  refine F.okX sc_law_second (fun vs H Q E h => ?_) (fun cdv A outer s H vs Q E hr h => ?_)
  · obtain ⟨_, _, _, rfl, _⟩ := h
    rfl
  · obtain ⟨_, _, _, rfl, p, q, x, y, rfl, rfl, rfl, hS, y0, hx, hy, k⟩ := h
    refine ⟨_, (pss_cons (ps_set (i := 3) nd rfl (Or.inl rfl) (pe_d D_law_draw hr (by decide) (by rfl) passL (pa_cons (pv 0) (pa_cons pe_int pa_nil))))
(pss_mid (ps_set (i := 4) nd rfl (Or.inl rfl) (pe_and (pe_cmpR op_lt (pe_callB call_abs (by rfl) T.abs (by decide +kernel) (pa_cons (pv 1) pa_nil)) (pe_op op_pow pe_int pe_int) (nomark _)) (pe_one (pe_cmpR op_lt (pe_callB call_abs (by rfl) T.abs (by decide +kernel) (pa_cons (pv 2) pa_nil)) (pe_op op_pow pe_int pe_int) (nomark _)))))
(pss_mid (ps_if (PW.pt (pw_and (pt_cmpR op_eq (pv 3) pe_int (nomark _)) (pw_and1 (pt_val (pv 4)))))
(pss_one (ps_ret (pe_lst (pa_cons (pe_op op_sub pe_int (pe_op op_mulW (pv 1) pe_int)) (pa_cons (pe_op op_sub pe_int (pe_op op_mulW (pv 2) pe_int)) pa_nil)))))
pss_nil)
(pss_mid (ps_if (pt_cmpR op_eq (pv 3) pe_int (nomark _))
(pss_one (ps_ret (pe_lst (pa_cons (pe_op op_sub pe_int (pv 1)) (pa_cons (pv 2) pa_nil)))))
pss_nil)
(pss_mid (ps_if (PW.pt (pw_and (pt_cmpR op_eq (pv 3) pe_int (nomark _)) (pw_and1 (pt_cmpR op_ne (pv 1) pe_int (nomark _)))))
(pss_one (ps_ret (pe_lst (pa_cons (pv 2) (pa_cons (pv 1) pa_nil)))))
pss_nil)
(pss_mid (ps_if (PW.pt (pw_and (pt_cmpR op_eq (pv 3) pe_int (nomark _)) (pw_and1 (pt_val (pv 4)))))
(pss_one (ps_ret (pe_lst (pa_cons (pe_op op_sub (pe_op op_add (pe_op op_mulW (pv 1) pe_int) pe_int) (pe_op op_mulW pe_int (pe_d D_law_draw hr (by decide) (by rfl) passL (pa_cons (pv 0) (pa_cons pe_int pa_nil))))) (pa_cons (pe_op op_mulW (pv 2) pe_int) pa_nil)))))
pss_nil)
(pss_mid (ps_if (pt_cmpR op_eq (pv 3) pe_int (nomark _))
(pss_one (ps_ret (pe_lst (pa_cons pe_int (pa_cons (pv 2) pa_nil)))))
pss_nil)
(pss_one (ps_ret (pe_d D_law_fraction hr (by decide) (by rfl) passL (pa_cons (pv 0) pa_nil))))))))))), ?_⟩
    walk_at "rd"
    refine ⟨p, q, 7, rfl, rfl, hS, Sm.lit (by decide), fun r H1 a1 b1 hS1 hB1 => ?_⟩
    have sx : Sm 200 x := by unfold Sm; omega
    have sy : Sm 200 y := by unfold Sm; omega
    have e38 : (10 : Int) ^ Int.toNat 38 = 10 ^ 38 := by decide
    refine ⟨fun σ H' => ∃ sm : Bool, σ = [some (.ref p), some (.int x), some (.int y), some (.int r), some (.bl sm)] ∧ (sm = true → x.natAbs < 10 ^ 38 ∧ y.natAbs < 10 ^ 38) ∧ H1 = H', ?_, ?_⟩
    · walk_at "rd"
      refine iteD (fun c1 => ?_) (fun c1 => ?_)
      · walk_at "rd"
        exact ⟨fun c2 => by
          have c3 := of_decide_eq_true c2
          rw [abs_cast, e38] at c1 c3
          omega, rfl⟩
      · walk_at "rd"
        exact ⟨fun z => (by cases z), rfl⟩
    rintro σ H' ⟨sm, rfl, hsm, rfl⟩
    refine ⟨(fun σ H' => σ = [some (.ref p), some (.int x), some (.int y), some (.int r), some (.bl sm)] ∧ H1 = H'), ?_, ?_⟩
    · walk_at "rd"
      refine iteD (fun c => ?_) (fun c => ?_)
      · cases sm with
        | false =>
          walk_at "rd"
          first | exact rfl | exact ⟨rfl, rfl⟩
        | true =>
          obtain ⟨x8, y8⟩ := hsm rfl
          walk_at "rd"

          intro f hf
          exact k.new hS1 hB1 (by omega) (by omega) (by omega) hf
      · walk_at "rd"
        first | exact rfl | exact ⟨rfl, rfl⟩
    rintro σ H' ⟨rfl, rfl⟩
    refine ⟨(fun σ H' => σ = [some (.ref p), some (.int x), some (.int y), some (.int r), some (.bl sm)] ∧ H1 = H'), ?_, ?_⟩
    · walk_at "rd"
      refine iteD (fun c => ?_) (fun c => ?_)
      · walk_at "rd"

        intro f hf
        exact k.new hS1 hB1 (by omega) (by omega) (by omega) hf
      · walk_at "rd"
        first | exact rfl | exact ⟨rfl, rfl⟩
    rintro σ H' ⟨rfl, rfl⟩
    refine ⟨(fun σ H' => σ = [some (.ref p), some (.int x), some (.int y), some (.int r), some (.bl sm)] ∧ H1 = H'), ?_, ?_⟩
    · walk_at "rd"
      refine iteD (fun c => ?_) (fun c => ?_)
      · walk_at "rd"
        refine iteN (fun c2 => ?_) (fun c2 => ?_)
        · walk_at "rd"

          have x0 : x ≠ 0 := fun z => c2 (by rw [z])
          intro f hf
          exact k.new hS1 hB1 x0 hy hx hf
        · walk_at "rd"
          first | exact rfl | exact ⟨rfl, rfl⟩
      · walk_at "rd"
        first | exact rfl | exact ⟨rfl, rfl⟩
    rintro σ H' ⟨rfl, rfl⟩
    refine ⟨(fun σ H' => σ = [some (.ref p), some (.int x), some (.int y), some (.int r), some (.bl sm)] ∧ H1 = H'), ?_, ?_⟩
    · walk_at "rd"
      refine iteD (fun c => ?_) (fun c => ?_)
      · cases sm with
        | false =>
          walk_at "rd"
          first | exact rfl | exact ⟨rfl, rfl⟩
        | true =>
          obtain ⟨x8, y8⟩ := hsm rfl
          walk_at "rd"

          refine ⟨p, q, 2, rfl, rfl, hS1, Sm.lit (by decide), fun r3 H3 a3 b3 hS3 hB3 => ?_⟩
          have s3 : Sm 200 r3 := by unfold Sm; omega
          walk_at "rd"
          intro f hf
          exact k.new hS3 (hB1.trans hB3) (by omega) (by omega) (by omega) hf
      · walk_at "rd"
        first | exact rfl | exact ⟨rfl, rfl⟩
    rintro σ H' ⟨rfl, rfl⟩
    refine ⟨(fun σ H' => σ = [some (.ref p), some (.int x), some (.int y), some (.int r), some (.bl sm)] ∧ H1 = H'), ?_, ?_⟩
    · walk_at "rd"
      refine iteD (fun c => ?_) (fun c => ?_)
      · walk_at "rd"

        intro f hf
        exact k.new hS1 hB1 (by omega) (by omega) (by omega) hf
      · walk_at "rd"
        first | exact rfl | exact ⟨rfl, rfl⟩
    rintro σ H' ⟨rfl, rfl⟩
    walk_at "rd"
    exact ⟨p, q, rfl, hS1, fun f H3 a b e1 e2 e3 e4 e5 e6 e7 => k f H3 a b (hB1.nil_at (fun z => by
      cases List.mem_singleton.mp z
      obtain ⟨ns, i, _, _, _, h1, _⟩ := hS1.ex
      rw [h1] at e1; cases e1) e1) e2 (hB1.trans e3) e4 e5 e6 e7⟩
def spE_law_integer : SpE := fun _ _ _ => sp_law_integer
theorem okE_law_integer {f : Addr} {fd : FuncData} (F : Fun K "_law_integer" "_law_integer" s_law_integer f fd) (T : Txt K mg CS CI)  : FnE P w K mg base 1 f fd ["value"] spE_law_integer := by
  have nd := sc_law_integer.nd
  refine okE F sc_law_integer (fun a cls d vs H Q E h => ?_) (fun cdv A outer s H vs Q E p cls d exo hr h => ?_)
  · obtain ⟨_, rfl, _⟩ := h
    rfl
  · obtain ⟨_, rfl, n, rfl, k⟩ := h
    refine ⟨_, (pss_one (ps_ret (pe_and (pe_callB call_isi (by rfl) T.isinstance (by decide +kernel) (pa_cons (pv 0) (pa_cons (pe_bltn (v := .ty "int") (by rfl) T.int (by decide +kernel) rfl) pa_nil))) (pe_one (pe_not (pe_callB call_isi (by rfl) T.isinstance (by decide +kernel) (pa_cons (pv 0) (pa_cons (pe_bltn (v := .ty "bool") (by rfl) T.bool (by decide +kernel) rfl) pa_nil)))))))), ?_⟩
    walk_at "rd"
    exact k
def spE_law_zero (CI : Addr) : SpE := fun a cls d => sp1 fun x H Q _ => x = .ref a ∧ cls = .ref CI ∧ ∃ dd, d = some dd ∧ H dd = some (.xd [(("number" : Str), V.int 0)]) ∧ Q (.bl true) H
theorem okE_law_zero {f : Addr} {fd : FuncData} (F : Fun K "_law_zero" "_law_zero" s_law_zero f fd) (T : Txt K mg CS CI) (E_law_integer : De P w K mg base 1 "_law_integer" ["value"] spE_law_integer) : FnE P w K mg base 2 f fd ["error"] (spE_law_zero CI) := by
  have nd := sc_law_zero.nd
  refine okE F sc_law_zero (fun a cls d vs H Q E h => ?_) (fun cdv A outer s H vs Q E p cls d exo hr h => ?_)
  · obtain ⟨_, rfl, _⟩ := h
    rfl
  · obtain ⟨_, rfl, rfl, rfl, dd, rfl, hd, k⟩ := h
    refine ⟨_, (pss_one (ps_ret (pe_and (pe_callB (call_isP (hot_def exo) T.excC) (by rfl) T.isinstance (by decide +kernel) (pa_cons (pv 0) (pa_cons (pe_bltn (v := .ty "ValueError") (by rfl) T.ValueError (by decide +kernel) rfl) pa_nil))) (pe_and (pe_e E_law_integer (hot_def exo) hr (by decide) (by rfl) (pa_cons (pe_xfP (hot_def exo) T.xf T.no_number (pv 0)) pa_nil)) (pe_one (pe_cmpR op_eq (pe_xfP (hot_def exo) T.xf T.no_number (pv 0)) pe_int (nomark _))))))), ?_⟩
    walk_at "rd"
    refine ⟨_, _, _, rfl, ClsV.ty _, T.kVE, fun _ e => ⟨_, by cases e; exact hd⟩, ?_⟩
    walk_at "rd"
    refine ⟨dd, _, _, rfl, hd, rfl, ?_⟩
    walk_at "rd"
    refine ⟨dd, _, _, rfl, hd, rfl, ?_⟩
    walk_at "rd"
    exact k
theorem log_sm {k : Nat} {n : Int} (h : Sm k n) (hk : 0 < k) : n.natAbs.log2 < k := PySem.Flt.log2_lt_of hk h
/-- what a check that must hold hands back -/
def Yes (H : Hp) (Q : VK) : Prop := ∀ H', But [] H H' → Q (.bl true) H'
theorem Yes.at {H H1 : Hp} {Q : VK} (k : Yes H Q) (b : But [] H H1) : Yes H1 Q := fun H' b' => k H' (b.trans b')
def sp_law_unlike (CS : Addr) : Sp := sp3 fun a x y H Q _ => ∃ p o u, a = .ref p ∧ x = .int o ∧ y = .int u ∧ Val CS H p o u ∧ Sm 1000 o ∧ Yes H Q
theorem ok_law_unlike {f : Addr} {fd : FuncData} (F : Fun K "_law_unlike" "_law_unlike" s_law_unlike f fd) (T : Txt K mg CS CI) (D_law_flag : Df P w K mg base 1 "_law_flag" s_law_flag ["got", "due"] sp_law_flag) (D_Share_eq : Dm P w K mg base 1 CS "__eq__" "Share.__eq__" s_Share_eq ["self", "other"] (sp_Share_eq K CS)) : FnOk P w K mg base (L2.CX P w) 3 f fd ["share", "over", "under"] (sp_law_unlike CS) := by
  have nd := sc_law_unlike.nd
  refine F.okX sc_law_unlike (fun vs H Q E h => ?_) (fun cdv A outer s H vs Q E hr h => ?_)
  · obtain ⟨_, _, _, rfl, _⟩ := h
    rfl
  · obtain ⟨_, _, _, rfl, p, o, u, rfl, rfl, rfl, v, so, k⟩ := h
    refine ⟨_, (pss_cons (ps_if (PW.pt (pw_or (pt_not (pt_val (pe_d D_law_flag hr (by decide) (by rfl) passL (pa_cons (pe_cmpR (op_dEq D_Share_eq hr (by decide) T) (pv 0) (pv 1) (nomark _)) (pa_cons pe_bl pa_nil))))) (pw_or1 (pt_not (pt_val (pe_d D_law_flag hr (by decide) (by rfl) passL (pa_cons (pe_cmpR (op_dNe D_Share_eq hr (by decide) T) (pv 0) (pe_tup (pa_cons (pv 1) (pa_cons (pv 2) pa_nil))) (nomark _)) (pa_cons pe_bl pa_nil))))))))
(pss_one (ps_ret pe_bl))
pss_nil)
(pss_one (ps_ret (pe_and (pe_d D_law_flag hr (by decide) (by rfl) passL (pa_cons (pe_cmpR (op_dEq D_Share_eq hr (by decide) T) (pv 0) (pe_callTy call_str_int (by rfl) T.str (by decide +kernel) (pa_cons (pv 1) pa_nil)) (nomark _)) (pa_cons pe_bl pa_nil))) (pe_one (pe_d D_law_flag hr (by decide) (by rfl) passL (pa_cons (pe_cmpR (op_dEq D_Share_eq hr (by decide) T) (pv 0) (pe_lst (pa_cons (pv 1) (pa_cons (pv 2) pa_nil))) (nomark _)) (pa_cons pe_bl pa_nil)))))))), ?_⟩
    obtain ⟨_, n, d, ⟨⟨dx, h1⟩, _⟩, _⟩ := id v
    walk_at "rd"
    refine ⟨p, dx, _, _, rfl, h1, .base (.int _), T.nfI, _, _, rfl, p, o, u, rfl, v, .inr ⟨_, .base (.int _), T.kI, ?_⟩⟩
    walk_at "rd"
    intro t ht
    have hh : ∀ o', (upd H t o') p = H p := fun o' => upd_ne (ne_of_none h1 ht)
    have vv : ∀ o', Val CS (upd H t o') p o u := fun o' => v.but (But.new (S := []) ht) (by simp)
    refine ⟨p, dx, _, _, rfl, (hh _).trans h1, .base (.tup upd_same), T.nfT, _, _, rfl, p, o, u, rfl, vv _, .inr ⟨_, .base (.tup upd_same), T.kT, ?_⟩⟩
    walk_at "rd"
    refine ⟨Nat.lt_of_lt_of_le (log_sm so (by decide)) (by decide), ?_⟩
    refine ⟨p, dx, _, _, rfl, (hh _).trans h1, .base (.str _), T.nfX, _, _, rfl, p, o, u, rfl, vv _, .inr ⟨_, .base (.str _), T.kX, ?_⟩⟩
    walk_at "rd"
    intro l hl
    have hg : ∀ o', (upd (upd H t (.tup [.int o, .int u])) l o') p = H p := fun o' => (upd_ne (ne_of_none ((hh _).trans h1) hl)).trans (hh _)
    have vg : ∀ o', Val CS (upd (upd H t (.tup [.int o, .int u])) l o') p o u := fun o' => (vv _).but (But.new (S := []) hl) (by simp)
    refine ⟨p, dx, _, _, rfl, (hg _).trans h1, .base (.lst upd_same), T.nfL, _, _, rfl, p, o, u, rfl, vg _, .inr ⟨_, .base (.lst upd_same), T.kL, ?_⟩⟩
    walk_at "rd"
    exact k _ ((But.new ht).trans (But.new hl))
def sp_law_no_under : Sp := sp1 fun a H Q _ => ∃ o, a = .int o ∧ Sm 1000 o ∧ Yes H Q
theorem ok_law_no_under {f : Addr} {fd : FuncData} (F : Fun K "_law_no_under" "_law_no_under" s_law_no_under f fd) (T : Txt K mg CS CI) (D_Share_init : Dk P w K mg base 4 CS "Share" "Share.__init__" s_Share_init ["self", "over", "under"] (sp_Share_init CS CI)) (E_law_zero : De P w K mg base 2 "_law_zero" ["error"] (spE_law_zero CI)) : FnOk P w K mg base (L2.CX P w) 6 f fd ["over"] sp_law_no_under := by
  have nd := sc_law_no_under.nd
  refine F.okX sc_law_no_under (fun vs H Q E h => ?_) (fun cdv A outer s H vs Q E hr h => ?_)
  · obtain ⟨_, rfl, _⟩ := h
    rfl
  · obtain ⟨_, rfl, o, rfl, so, k⟩ := h
    refine ⟨_, (pss_cons (ps_try_as (i := 1) rfl rfl nd rfl rfl ⟨rfl, by decide, .inl T.mgInvalidNumber⟩ (takes_of rfl rfl rfl rfl) (fun W pn xe tk po => (pss_one (ps_expr (pe_k D_Share_init hr (by decide) (by rfl) (passes_len (E := fun cls d H => ∀ σ : L2.St, σ.length = 2 → W cls d σ H) tk (fun _ _ σ _ l h => h σ l)) (pa_cons (pv 0) (pa_cons pe_int pa_nil))))))
(fun a oe cls d pn hz hf => (pss_one (ps_ret (pe_e E_law_zero (hot_suite hz hf) (roomH_mark hr) (by decide) (by rfl) (pa_cons (pv 1) pa_nil))))))
(pss_one (ps_ret pe_bl))), ?_⟩
    walk_at "rd"
    intro x dx hx hd hne
    refine ⟨_, _, _, rfl, x, dx, o, 0, rfl, rfl, rfl, upd_same, so.mono (by decide), Sm.lit (by decide), fun z => absurd rfl z, fun _ dd H' hdd hb he σ hl => ⟨true, T.exm, fun _ e hE => ?_, fun z => (by cases z)⟩⟩
    refine ⟨.ref e, List.getElem?_set_self (by omega), ?_⟩
    refine ⟨_, rfl, rfl, rfl, dd, rfl, he, ?_⟩
    exact k H' (made_but hx hd (hb.mono (by simp)))
/-- two shares and, in two lists, what they are worth -/
structure Two (CS : Addr) (H : Hp) (p q l m : Addr) (o1 u1 o2 u2 : Int) : Prop where
  v1 : Val CS H p o1 u1
  v2 : Val CS H q o2 u2
  h1 : H l = some (.lst [.int o1, .int u1])
  h2 : H m = some (.lst [.int o2, .int u2])
  s1 : Sm 300 o1
  s2 : Sm 300 u1
  s3 : Sm 300 o2
  s4 : Sm 300 u2
theorem Two.but {CS : Addr} {S : List Addr} {H H' : Hp} {p q l m : Addr} {o1 u1 o2 u2 : Int} (t : Two CS H p q l m o1 u1 o2 u2) (b : But S H H') (n1 : p ∉ S) (n2 : q ∉ S) (n3 : l ∉ S) (n4 : m ∉ S) : Two CS H' p q l m o1 u1 o2 u2 :=
  ⟨t.v1.but b n1, t.v2.but b n2, b _ _ t.h1 n3, b _ _ t.h2 n4, t.s1, t.s2, t.s3, t.s4⟩
theorem Two.k {CS : Addr} {H H' : Hp} {p q l m : Addr} {o1 u1 o2 u2 : Int} (t : Two CS H p q l m o1 u1 o2 u2) (b : But [] H H') : Two CS H' p q l m o1 u1 o2 u2 := t.but b (by simp) (by simp) (by simp) (by simp)
theorem Two.big {CS : Addr} {H : Hp} {p q l m : Addr} {o1 u1 o2 u2 : Int} (t : Two CS H p q l m o1 u1 o2 u2) : Sm 2000 o1 ∧ Sm 2000 u1 ∧ Sm 2000 o2 ∧ Sm 2000 u2 := ⟨t.s1.mono (by decide), t.s2.mono (by decide), t.s3.mono (by decide), t.s4.mono (by decide)⟩
def sp_law_quotient (CS : Addr) : Sp := sp4 fun a b c d H Q _ => ∃ p q l m o1 u1 o2 u2, a = .ref p ∧ b = .ref q ∧ c = .ref l ∧ d = .ref m ∧ Two CS H p q l m o1 u1 o2 u2 ∧ Yes H Q
theorem ok_law_quotient {f : Addr} {fd : FuncData} (F : Fun K "_law_quotient" "_law_quotient" s_law_quotient f fd) (T : Txt K mg CS CI) (D_law_signed : Df P w K mg base 1 "_law_signed" s_law_signed ["over", "under"] sp_law_signed) (D_law_is : Df P w K mg base 2 "_law_is" s_law_is ["got", "over", "under"] (sp_law_is CS)) (D_Share_by : Dm P w K mg base 6 CS "by" "Share.by" s_Share_by ["self", "other"] (sp_Share_by CS CI)) (E_law_zero : De P w K mg base 2 "_law_zero" ["error"] (spE_law_zero CI)) : FnOk P w K mg base (L2.CX P w) 7 f fd ["first", "second", "one", "other"] (sp_law_quotient CS) := by
  have nd := sc_law_quotient.nd
  refine F.okX sc_law_quotient (fun vs H Q E h => ?_) (fun cdv A outer s H vs Q E hr h => ?_)
  · obtain ⟨_, _, _, _, rfl, _⟩ := h
    rfl
  · obtain ⟨_, _, _, _, rfl, p, q, l, m, o1, u1, o2, u2, rfl, rfl, rfl, rfl, t, k⟩ := h
    refine ⟨_, (pss_cons (ps_if (pt_cmpR op_ne (pe_ix ix_list (pv 3) pe_int (fun _ _ => rfl)) pe_int (nomark _))
(pss_cons (ps_set (i := 4) nd rfl (Or.inl rfl) (pe_d D_law_signed hr (by decide) (by rfl) passL (pa_cons (pe_op op_mulW (pe_ix ix_list (pv 2) pe_int (fun _ _ => rfl)) (pe_ix ix_list (pv 3) pe_int (fun _ _ => rfl))) (pa_cons (pe_op op_mulW (pe_ix ix_list (pv 2) pe_int (fun _ _ => rfl)) (pe_ix ix_list (pv 3) pe_int (fun _ _ => rfl))) pa_nil))))
(pss_one (ps_ret (pe_d D_law_is hr (by decide) (by rfl) passL (pa_cons (pe_m D_Share_by hr (by decide) (passes_call (takes_of rfl rfl rfl rfl) (fun _ _ _ _ h => h)) (pv 0) (pa_cons (pv 1) pa_nil)) (pa_cons (pe_ix ix_list (pv 4) pe_int (fun _ _ => rfl)) (pa_cons (pe_ix ix_list (pv 4) pe_int (fun _ _ => rfl)) pa_nil)))))))
pss_nil)
(pss_cons (ps_try_as (i := 5) rfl rfl nd rfl rfl ⟨rfl, by decide, .inl T.mgInvalidNumber⟩ (takes_of rfl rfl rfl rfl) (fun W pn xe tk po => (pss_one (ps_expr (pe_mK0 (ks := (["other"] : List Str)) (g := fun a b => a ++ b) D_Share_by hr (by decide) (passes_len (E := fun cls d H => ∀ σ : L2.St, σ.length = 6 → W cls d σ H) tk (fun _ _ σ _ l h => h σ l)) (pv 0) (fun r1 r2 => r1.append r2) (fun _ _ _ _ _ _ us ws h1 h2 => match us, ws, h1, h2 with | [_], [_], _, _ => rfl) (pk_cons (pv 1) pk_nil)))))
(fun a oe cls d pn hz hf => (pss_one (ps_ret (pe_e E_law_zero (hot_suite hz hf) (roomH_mark hr) (by decide) (by rfl) (pa_cons (pv 5) pa_nil))))))
(pss_one (ps_ret pe_bl)))), ?_⟩
    have hl := t.h1
    have hm := t.h2
    have s1 := t.s1
    have s2 := t.s2
    have s3 := t.s3
    have s4 := t.s4
    obtain ⟨_, n, d, ⟨⟨dx, e1⟩, _⟩, _⟩ := id t.v1
    walk_at "rd"
    refine iteN (fun c => ?_) (fun c => ?_)
    · walk_at "rd"
      intro f hf
      have nf : ∀ {c : Addr} {o : HO} (o' : HO), H c = some o → (upd H f o') c = some o := fun o' e => (upd_ne (ne_of_none e hf)).trans e
      walk_at "rd"
      refine ⟨p, dx, _, rfl, nf _ e1, sh_no (by decide +kernel) (by decide +kernel), ?_⟩
      walk_at "rd"
      have tf := t.k (But.new (S := []) (o := .lst [.int (sgn (o1 * u2) (u1 * o2)).1, .int (sgn (o1 * u2) (u1 * o2)).2]) hf)
      refine ⟨p, q, o1, u1, o2, u2, rfl, rfl, tf.v1, tf.v2, tf.big, fun z r H2 hr hb hv => ?_, fun z => absurd (congrArg V.int z) c⟩
      have hf2 : H2 f = some (.lst [.int (sgn (o1 * u2) (u1 * o2)).1, .int (sgn (o1 * u2) (u1 * o2)).2]) := hb f _ upd_same (by simp)
      walk_at "rd"
      have z1 := (sgn_abs (o1 * u2) (u1 * o2)).1
      have z2 := (sgn_abs (o1 * u2) (u1 * o2)).2
      refine ⟨_, _, _, rfl, r, _, _, rfl, rfl, rfl, hv, Sm.mono (Sm.le (s1.mul s4) (Nat.le_of_eq z1)) (by decide), Sm.mono (Sm.le (s2.mul s3) (Nat.le_of_eq z2)) (by decide), ?_⟩
      exact k H2 ((But.new hf).trans hb)
    · have z : o2 = 0 := V.int.inj c
      walk_at "rd"
      refine ⟨p, dx, _, rfl, e1, sh_no (by decide +kernel) (by decide +kernel), ?_⟩
      walk_at "rd"
      refine ⟨p, q, o1, u1, o2, u2, rfl, rfl, t.v1, t.v2, t.big, fun z' => absurd z z', fun _ dd H' hdd hb he σ hl => ⟨true, T.exm, fun _ e hE => ?_, fun z => (by cases z)⟩⟩
      exact ⟨.ref e, List.getElem?_set_self (by omega), _, rfl, rfl, rfl, dd, rfl, he, k H' hb⟩
theorem iteNBS {x : Bool} {A B : Prop} (h : B) : if (!(x == x)) = true then A else B := by
  rw [beq_self_eq_true]
  exact iteF h
theorem Val.same {CS : Addr} {H : Hp} {p : Addr} {o1 u1 o2 u2 : Int} (v : Val CS H p o1 u1) (h2 : 0 < u2) (e : o1 * u2 = o2 * u1) : Val CS H p o2 u2 := by
  obtain ⟨h1, n, d, s, h⟩ := v
  refine ⟨h2, n, d, s, can h1 ?_⟩
  grind
def sp_law_pair (CS : Addr) : Sp := sp4 fun a b c d H Q _ => ∃ p q l m o1 u1 o2 u2, a = .ref p ∧ b = .ref q ∧ c = .ref l ∧ d = .ref m ∧ Two CS H p q l m o1 u1 o2 u2 ∧ Yes H Q
theorem ok_law_pair {f : Addr} {fd : FuncData} (F : Fun K "_law_pair" "_law_pair" s_law_pair f fd) (T : Txt K mg CS CI) (D_law_is : Df P w K mg base 2 "_law_is" s_law_is ["got", "over", "under"] (sp_law_is CS)) (D_Share_add : Dm P w K mg base 6 CS "__add__" "Share.__add__" s_Share_add ["self", "other"] (sp_Share_add CS)) (D_Share_mul : Dm P w K mg base 6 CS "__mul__" "Share.__mul__" s_Share_mul ["self", "other"] (sp_Share_mul CS)) (D_Share_sub : Dm P w K mg base 6 CS "__sub__" "Share.__sub__" s_Share_sub ["self", "other"] (sp_Share_sub CS)) (D_law_flag : Df P w K mg base 1 "_law_flag" s_law_flag ["got", "due"] sp_law_flag) (D_Share_is_below : Dm P w K mg base 1 CS "is_below" "Share.is_below" s_Share_is_below ["self", "other"] (sp_Share_is_below CS)) (D_Share_eq : Dm P w K mg base 1 CS "__eq__" "Share.__eq__" s_Share_eq ["self", "other"] (sp_Share_eq K CS)) (D_lesser_of : Df P w K mg base 2 "lesser_of" s_lesser_of ["share", "other"] (sp_lesser_of CS)) (D_law_quotient : Df P w K mg base 7 "_law_quotient" s_law_quotient ["first", "second", "one", "other"] (sp_law_quotient CS)) : FnOk P w K mg base (L2.CX P w) 8 f fd ["first", "second", "one", "other"] (sp_law_pair CS) := by
  have nd := sc_law_pair.nd
  refine F.okX sc_law_pair (fun vs H Q E h => ?_) (fun cdv A outer s H vs Q E hr h => ?_)
  · obtain ⟨_, _, _, _, rfl, _⟩ := h
    rfl
  · obtain ⟨_, _, _, _, rfl, p, q, l, m, o1, u1, o2, u2, rfl, rfl, rfl, rfl, t, k⟩ := h
    refine ⟨_, (pss_cons (ps_asg (pv 2) (pg_unl (n := 2) rfl (pgs_cons (pg_name (i := 4) nd rfl (Or.inl rfl)) (pgs_cons (pg_name (i := 5) nd rfl (Or.inl rfl)) pgs_nil))))
(pss_cons (ps_asg (pv 3) (pg_unl (n := 2) rfl (pgs_cons (pg_name (i := 6) nd rfl (Or.inl rfl)) (pgs_cons (pg_name (i := 7) nd rfl (Or.inl rfl)) pgs_nil))))
(pss_cons (ps_if (PW.pt (pw_or (pt_not (pt_val (pe_d D_law_is hr (by decide) (by rfl) passL (pa_cons (pv 0) (pa_cons (pv 4) (pa_cons (pv 5) pa_nil)))))) (pw_or1 (pt_not (pt_val (pe_d D_law_is hr (by decide) (by rfl) passL (pa_cons (pv 1) (pa_cons (pv 6) (pa_cons (pv 7) pa_nil)))))))))
(pss_one (ps_ret pe_bl))
pss_nil)
(pss_cons (ps_if (PW.pt (pw_or (pt_not (pt_val (pe_d D_law_is hr (by decide) (by rfl) passL (pa_cons (pe_op (op_dAdd D_Share_add hr (by decide) T) (pv 0) (pv 1)) (pa_cons (pe_op op_add (pe_op op_mulW (pv 4) (pv 7)) (pe_op op_mulW (pv 6) (pv 5))) (pa_cons (pe_op op_mulW (pv 5) (pv 7)) pa_nil)))))) (pw_or1 (pt_not (pt_val (pe_d D_law_is hr (by decide) (by rfl) passL (pa_cons (pe_op (op_dMul D_Share_mul hr (by decide) T) (pv 0) (pv 1)) (pa_cons (pe_op op_mulW (pv 4) (pv 6)) (pa_cons (pe_op op_mulW (pv 5) (pv 7)) pa_nil)))))))))
(pss_one (ps_ret pe_bl))
pss_nil)
(pss_cons (ps_if (pt_not (pt_val (pe_d D_law_is hr (by decide) (by rfl) passL (pa_cons (pe_op (op_dSub D_Share_sub hr (by decide) T) (pv 0) (pv 1)) (pa_cons (pe_op op_sub (pe_op op_mulW (pv 4) (pv 7)) (pe_op op_mulW (pv 6) (pv 5))) (pa_cons (pe_op op_mulW (pv 5) (pv 7)) pa_nil))))))
(pss_one (ps_ret pe_bl))
pss_nil)
(pss_cons (ps_set (i := 8) nd rfl (Or.inl rfl) (pe_cmpR op_lt (pe_op op_mulW (pv 4) (pv 7)) (pe_op op_mulW (pv 6) (pv 5)) (nomark _)))
(pss_cons (ps_set (i := 9) nd rfl (Or.inl rfl) (pe_cmpR op_eq (pe_op op_mulW (pv 4) (pv 7)) (pe_op op_mulW (pv 6) (pv 5)) (nomark _)))
(pss_cons (ps_if (PW.pt (pw_or (pt_not (pt_val (pe_d D_law_flag hr (by decide) (by rfl) passL (pa_cons (pe_m D_Share_is_below hr (by decide) passL (pv 0) (pa_cons (pv 1) pa_nil)) (pa_cons (pv 8) pa_nil))))) (pw_or1 (pt_not (pt_val (pe_d D_law_flag hr (by decide) (by rfl) passL (pa_cons (pe_mK0 (ks := (["other"] : List Str)) (g := fun a b => a ++ b) D_Share_is_below hr (by decide) passL (pv 0) (fun r1 r2 => r1.append r2) (fun _ _ _ _ _ _ us ws h1 h2 => match us, ws, h1, h2 with | [_], [_], _, _ => rfl) (pk_cons (pv 0) pk_nil)) (pa_cons pe_bl pa_nil))))))))
(pss_one (ps_ret pe_bl))
pss_nil)
(pss_cons (ps_if (PW.pt (pw_or (pt_not (pt_val (pe_d D_law_flag hr (by decide) (by rfl) passL (pa_cons (pe_cmpR (op_dEq D_Share_eq hr (by decide) T) (pv 0) (pv 1) (nomark _)) (pa_cons (pv 9) pa_nil))))) (pw_or1 (pt_not (pt_val (pe_d D_law_flag hr (by decide) (by rfl) passL (pa_cons (pe_cmpR (op_dNe D_Share_eq hr (by decide) T) (pv 0) (pv 1) (nomark _)) (pa_cons (pe_not (pv 9)) pa_nil))))))))
(pss_one (ps_ret pe_bl))
pss_nil)
(pss_cons (ps_set (i := 10) nd rfl (Or.inl rfl) (pv 3))
(pss_mid (ps_if (pt_val (pv 8))
(pss_one (ps_set (i := 10) nd rfl (Or.inl rfl) (pv 2)))
pss_nil)
(pss_mid (ps_if (pt_not (pt_val (pe_d D_law_is hr (by decide) (by rfl) passL (pa_cons (pe_d D_lesser_of hr (by decide) (by rfl) passL (pa_cons (pv 0) (pa_cons (pv 1) pa_nil))) (pa_cons (pe_ix ix_list (pv 10) pe_int (fun _ _ => rfl)) (pa_cons (pe_ix ix_list (pv 10) pe_int (fun _ _ => rfl)) pa_nil))))))
(pss_one (ps_ret pe_bl))
pss_nil)
(pss_mid (ps_if (pt_not (pt_val (pe_d D_law_is hr (by decide) (by rfl) passL (pa_cons (pe_dK0 (ks := (["other", "share"] : List Str)) (g := fun a b => a ++ b.reverse) D_lesser_of hr (by decide) (by rfl) passL (fun r1 r2 => r1.append (vals_rev r2)) (fun _ _ _ _ _ _ us ws h1 h2 => match us, ws, h1, h2 with | [], [_, _], _, _ => rfl) (pk_cons (pv 0) (pk_cons (pv 1) pk_nil))) (pa_cons (pe_ix ix_list (pv 10) pe_int (fun _ _ => rfl)) (pa_cons (pe_ix ix_list (pv 10) pe_int (fun _ _ => rfl)) pa_nil))))))
(pss_one (ps_ret pe_bl))
pss_nil)
(pss_one (ps_ret (pe_d D_law_quotient hr (by decide) (by rfl) passL (pa_cons (pv 0) (pa_cons (pv 1) (pa_cons (pv 2) (pa_cons (pv 3) pa_nil)))))))))))))))))))), ?_⟩
    have hl := t.h1
    have hm := t.h2
    have s1 := t.s1
    have s2 := t.s2
    have s3 := t.s3
    have s4 := t.s4
    obtain ⟨_, n, d, ⟨⟨dx, e1⟩, _⟩, _⟩ := id t.v1
    obtain ⟨_, n2, d2, ⟨⟨dy, e2⟩, _⟩, _⟩ := id t.v2
    walk_at "rd"
    refine ⟨l, _, rfl, SqL.of hl, rfl, ?_⟩
    walk_at "rd"
    refine ⟨m, _, rfl, SqL.of hm, rfl, ?_⟩
    walk_at "rd"
    refine ⟨_, _, _, rfl, p, _, _, rfl, rfl, rfl, t.v1, s1.mono (by decide), s2.mono (by decide), ?_⟩
    walk_at "rd"
    refine ⟨_, _, _, rfl, q, _, _, rfl, rfl, rfl, t.v2, s3.mono (by decide), s4.mono (by decide), ?_⟩
    walk_at "rd"
    refine ⟨p, q, dx, dy, _, _, rfl, rfl, e1, e2, _, _, rfl, p, q, o1, u1, o2, u2, rfl, rfl, t.v1, t.v2, t.big, fun r H1 hr hb hv => ?_⟩
    replace t := t.k hb
    replace e1 := hb _ _ e1 (by simp)
    replace e2 := hb _ _ e2 (by simp)
    replace hl := hb _ _ hl (by simp)
    replace hm := hb _ _ hm (by simp)
    replace k := k.at hb
    walk_at "rd"
    refine ⟨_, _, _, rfl, r, _, _, rfl, rfl, rfl, hv, Sm.mono (by walk_at "sm") (by decide), Sm.mono (by walk_at "sm") (by decide), ?_⟩
    clear hr hb hv
    walk_at "rd"
    refine ⟨p, q, dx, dy, _, _, rfl, rfl, e1, e2, _, _, rfl, p, q, o1, u1, o2, u2, rfl, rfl, t.v1, t.v2, t.big, fun r H1 hr hb hv => ?_⟩
    replace t := t.k hb
    replace e1 := hb _ _ e1 (by simp)
    replace e2 := hb _ _ e2 (by simp)
    replace hl := hb _ _ hl (by simp)
    replace hm := hb _ _ hm (by simp)
    replace k := k.at hb
    walk_at "rd"
    refine ⟨_, _, _, rfl, r, _, _, rfl, rfl, rfl, hv, Sm.mono (by walk_at "sm") (by decide), Sm.mono (by walk_at "sm") (by decide), ?_⟩
    clear hr hb hv
    walk_at "rd"
    refine ⟨p, q, dx, dy, _, _, rfl, rfl, e1, e2, _, _, rfl, p, q, o1, u1, o2, u2, rfl, rfl, t.v1, t.v2, t.big, fun r HX hr hb hv => ?_⟩
    replace t := t.k hb
    replace e1 := hb _ _ e1 (by simp)
    replace e2 := hb _ _ e2 (by simp)
    replace hl := hb _ _ hl (by simp)
    replace hm := hb _ _ hm (by simp)
    replace k := k.at hb
    walk_at "rd"
    refine ⟨_, _, _, rfl, r, _, _, rfl, rfl, rfl, hv, Sm.mono (by walk_at "sm") (by decide), Sm.mono (by walk_at "sm") (by decide), ?_⟩
    clear hr hb hv
    walk_at "rd"
    have hs : decide (V.int (o1 * u2) = V.int (o2 * u1)) = decide (o1 * u2 = o2 * u1) := decide_eq_decide.mpr ⟨V.int.inj, congrArg V.int⟩
    rw [hs]
    refine ⟨p, dx, _, rfl, e1, sh_no (by decide +kernel) (by decide +kernel), ?_⟩
    walk_at "rd"
    refine ⟨p, q, _, _, _, _, rfl, rfl, t.v1, t.v2, t.big, ?_⟩
    walk_at "rd"
    refine iteNBS ?_
    walk_at "rd"
    refine ⟨p, dx, _, rfl, e1, sh_no (by decide +kernel) (by decide +kernel), ?_⟩
    walk_at "rd"
    refine ⟨p, p, _, _, _, _, rfl, rfl, t.v1, t.v1, ⟨t.big.1, t.big.2.1, t.big.1, t.big.2.1⟩, ?_⟩
    rw [show decide (o1 * u1 < o1 * u1) = false from decide_eq_false (Int.lt_irrefl _)]
    walk_at "rd"
    refine ⟨p, dx, _, _, rfl, e1, .base (.ins e2 T.cl T.iCls T.iGet T.iTak T.iObj), T.nfS, _, _, rfl, p, o1, u1, rfl, t.v1, .inl ⟨q, o2, u2, rfl, t.v2, ?_⟩⟩
    walk_at "rd"
    refine iteNBS ?_
    walk_at "rd"
    refine ⟨p, dx, _, _, rfl, e1, .base (.ins e2 T.cl T.iCls T.iGet T.iTak T.iObj), T.nfS, _, _, rfl, p, o1, u1, rfl, t.v1, .inl ⟨q, o2, u2, rfl, t.v2, ?_⟩⟩
    walk_at "rd"
    refine iteNBS ?_
    walk_at "rd"
    refine ⟨fun σ H' => ∃ L x y, σ = [some (.ref p), some (.ref q), some (.ref l), some (.ref m), some (.int o1), some (.int u1), some (.int o2), some (.int u2), some (.bl (decide (o1 * u2 < o2 * u1))), some (.bl (decide (o1 * u2 = o2 * u1))), some (.ref L)] ∧
      ((o1 * u2 < o2 * u1 ∧ L = l ∧ x = o1 ∧ y = u1) ∨ (¬ o1 * u2 < o2 * u1 ∧ L = m ∧ x = o2 ∧ y = u2)) ∧ HX = H', ?_, ?_⟩
    · walk_at "rd"
      refine iteD (fun c => ?_) (fun c => ?_)
      · refine ⟨_, rfl, ?_⟩
        exact ⟨l, o1, u1, rfl, .inl ⟨c, rfl, rfl, rfl⟩, rfl⟩
      · exact ⟨m, o2, u2, rfl, .inr ⟨c, rfl, rfl, rfl⟩, rfl⟩
    rintro σ H' ⟨L, x, y, rfl, hL, rfl⟩
    have hLL : HX L = some (.lst [.int x, .int y]) := by
      rcases hL with ⟨_, rfl, rfl, rfl⟩ | ⟨_, rfl, rfl, rfl⟩
      · exact hl
      · exact hm
    have sx : Sm 300 x := by
      rcases hL with ⟨_, _, rfl, _⟩ | ⟨_, _, rfl, _⟩ <;> assumption
    have sy : Sm 300 y := by
      rcases hL with ⟨_, _, _, rfl⟩ | ⟨_, _, _, rfl⟩ <;> assumption
    have vq : ¬ o1 * u2 < o2 * u1 → Val CS HX q x y := fun z => by
      rcases hL with ⟨c, _⟩ | ⟨_, _, rfl, rfl⟩
      · exact absurd c z
      · exact t.v2
    have vp : ¬ o2 * u1 < o1 * u2 → Val CS HX p x y := fun z => by
      rcases hL with ⟨_, _, rfl, rfl⟩ | ⟨c, _, rfl, rfl⟩
      · exact t.v1
      · exact t.v1.same t.v2.1 (by omega)
    refine ⟨fun σ H' => σ = [some (.ref p), some (.ref q), some (.ref l), some (.ref m), some (.int o1), some (.int u1), some (.int o2), some (.int u2), some (.bl (decide (o1 * u2 < o2 * u1))), some (.bl (decide (o1 * u2 = o2 * u1))), some (.ref L)] ∧ HX = H', ?_, ?_⟩
    · walk_at "rd"
      refine ⟨p, q, _, _, _, _, rfl, rfl, t.v1, t.v2, t.big, fun z => ?_, fun z => ?_⟩
      · walk_at "rd"
        refine ⟨_, _, _, rfl, _, x, y, rfl, rfl, rfl, (vq (by omega)), sx.mono (by decide), sy.mono (by decide), ?_⟩
        walk_at "rd"
        first | exact rfl | exact ⟨rfl, rfl⟩
      · walk_at "rd"
        refine ⟨_, _, _, rfl, _, x, y, rfl, rfl, rfl, (vp z), sx.mono (by decide), sy.mono (by decide), ?_⟩
        walk_at "rd"
        first | exact rfl | exact ⟨rfl, rfl⟩
    rintro σ H' ⟨rfl, rfl⟩
    refine ⟨fun σ H' => σ = [some (.ref p), some (.ref q), some (.ref l), some (.ref m), some (.int o1), some (.int u1), some (.int o2), some (.int u2), some (.bl (decide (o1 * u2 < o2 * u1))), some (.bl (decide (o1 * u2 = o2 * u1))), some (.ref L)] ∧ HX = H', ?_, ?_⟩
    · walk_at "rd"
      refine ⟨q, p, _, _, _, _, rfl, rfl, t.v2, t.v1, ⟨t.big.2.2.1, t.big.2.2.2, t.big.1, t.big.2.1⟩, fun z => ?_, fun z => ?_⟩
      · walk_at "rd"
        refine ⟨_, _, _, rfl, _, x, y, rfl, rfl, rfl, (vp (by omega)), sx.mono (by decide), sy.mono (by decide), ?_⟩
        walk_at "rd"
        first | exact rfl | exact ⟨rfl, rfl⟩
      · walk_at "rd"
        refine ⟨_, _, _, rfl, _, x, y, rfl, rfl, rfl, (vq z), sx.mono (by decide), sy.mono (by decide), ?_⟩
        walk_at "rd"
        first | exact rfl | exact ⟨rfl, rfl⟩
    rintro σ H' ⟨rfl, rfl⟩
    walk_at "rd"
    exact ⟨_, _, _, _, rfl, p, q, l, m, o1, u1, o2, u2, rfl, rfl, rfl, rfl, t, k⟩
theorem pow_sm {b i : Nat} {o u x y : Int} (h1 : Sm ((b + 1) * i + 1) o) (h2 : Sm ((b + 1) * i + 1) u) (h3 : Sm b x) (h4 : Sm b y) : Sm ((b + 1) * (i + 1) + 1) (o * y + x * u) ∧ Sm ((b + 1) * (i + 1) + 1) (u * y) := by
  have e : (b + 1) * (i + 1) + 1 = ((b + 1) * i + 1 + b) + 1 := by rw [Nat.mul_succ]; omega
  constructor
  · have z := (h1.mul h4).add (h3.mul h2)
    refine z.mono ?_
    rw [show b + ((b + 1) * i + 1) = (b + 1) * i + 1 + b by omega, Nat.max_self, e]
    exact Nat.le_refl _
  · exact (h2.mul h4).mono (by rw [e]; omega)
theorem psum_snoc (ps : List (Int × Int)) (v : Int × Int) : psum (ps ++ [v]) = ((psum ps).1 * v.2 + v.1 * (psum ps).2, (psum ps).2 * v.2) := by
  unfold psum
  rw [List.foldl_append]
  rfl
theorem psum_sm {b : Nat} : ∀ ps : List (Int × Int), (∀ v ∈ ps, Sm b v.1 ∧ Sm b v.2) → Sm ((b + 1) * ps.length + 1) (psum ps).1 ∧ Sm ((b + 1) * ps.length + 1) (psum ps).2 := by
  intro ps
  generalize hn : ps.length = n
  induction n generalizing ps with
  | zero =>
    intro _
    rw [List.length_eq_zero_iff.mp hn]
    exact ⟨by show (0 : Int).natAbs < 2 ^ 1; decide, by show (1 : Int).natAbs < 2 ^ 1; decide⟩
  | succ n ih =>
    intro h
    have ne : ps ≠ [] := fun z => by rw [z] at hn; cases hn
    rw [← List.dropLast_concat_getLast ne] at h ⊢
    have z := ih ps.dropLast (by rw [List.length_dropLast, hn]; rfl) fun v hv => h v (List.mem_append_left _ hv)
    have w := h (ps.getLast ne) (List.mem_append_right _ List.mem_cons_self)
    rw [psum_snoc]
    exact pow_sm z.1 z.2 w.1 w.2
/-- the shares and pairs that a row's loop has made so far -/
structure RowI (CS : Addr) (H : Hp) (R T : Addr) (as ls : List Addr) (ps : List (Int × Int)) : Prop where
  e1 : as.length = ps.length
  e2 : ls.length = ps.length
  hR : H R = some (.lst (as.map V.ref))
  hT : H T = some (.lst (ls.map V.ref))
  va : ∀ (j : Nat) (a : Addr) (v : Int × Int), as[j]? = some a → ps[j]? = some v → Val CS H a v.1 v.2
  vl : ∀ (j : Nat) (f : Addr) (v : Int × Int), ls[j]? = some f → ps[j]? = some v → H f = some (.lst [.int v.1, .int v.2])
  nl : ∀ f ∈ ls, f ≠ R ∧ f ≠ T
theorem Val.ne {CS : Addr} {H : Hp} {a b : Addr} {o u : Int} {xs : List V} (v : Val CS H a o u) (h : H b = some (.lst xs)) : a ≠ b := by
  obtain ⟨_, n, d, ⟨⟨dx, e⟩, _⟩, _⟩ := v
  exact ne_of e h (by intro z; cases z)
theorem ne_st {H : Hp} {p q f : Addr} {x y : Int} (h : StA H p q) (e : H f = some (.lst [.int x, .int y])) : f ≠ p := fun z => by
  obtain ⟨ns, i, b, c, d, h1, _⟩ := h.ex
  rw [z, h1] at e
  have := HO.lst.inj (Option.some.inj e)
  cases (List.cons.inj this).1
theorem RowI.st {CS : Addr} {H H' : Hp} {R T p q : Addr} {as ls : List Addr} {ps : List (Int × Int)} (r : RowI CS H R T as ls ps) (s : StA H p q) (nR : R ≠ p) (nT : T ≠ p) (b : But [p] H H') : RowI CS H' R T as ls ps := by
  obtain ⟨ns, i, _, _, _, h1, _⟩ := id s.ex
  refine ⟨r.e1, r.e2, b _ _ r.hR (by simpa using nR), b _ _ r.hT (by simpa using nT), fun j a v x y => ?_, fun j f v x y => ?_, r.nl⟩
  · have z := r.va j a v x y
    exact z.but b (by simpa using z.ne h1)
  · have z := r.vl j f v x y
    exact b _ _ z (by simpa using ne_st s z)
theorem RowI.k {CS : Addr} {H H' : Hp} {R T : Addr} {as ls : List Addr} {ps : List (Int × Int)} (r : RowI CS H R T as ls ps) (b : But [] H H') : RowI CS H' R T as ls ps :=
  ⟨r.e1, r.e2, b _ _ r.hR (by simp), b _ _ r.hT (by simp), fun j a v x y => (r.va j a v x y).but b (by simp), fun j f v x y => b _ _ (r.vl j f v x y) (by simp), r.nl⟩
theorem RowI.add {CS : Addr} {H : Hp} {R T a f : Addr} {as ls : List Addr} {ps : List (Int × Int)} {x y : Int} (r : RowI CS H R T as ls ps) (nRT : R ≠ T) (v : Val CS H a x y) (hf : H f = some (.lst [.int x, .int y])) (nf : f ≠ R ∧ f ≠ T) :
    RowI CS (upd (upd H R (.lst (as.map V.ref ++ [.ref a]))) T (.lst (ls.map V.ref ++ [.ref f]))) R T (as ++ [a]) (ls ++ [f]) (ps ++ [(x, y)]) := by
  have B : But [R, T] H (upd (upd H R (.lst (as.map V.ref ++ [.ref a]))) T (.lst (ls.map V.ref ++ [.ref f]))) := (But.put (by simp)).trans (But.put (by simp))
  refine ⟨by simp [r.e1], by simp [r.e2], by rw [upd_ne nRT, upd_same, List.map_append]; rfl, by rw [upd_same, List.map_append]; rfl, fun j b w h1 h2 => ?_, fun j b w h1 h2 => ?_, fun g hg => ?_⟩
  · by_cases hj : j < as.length
    · rw [List.getElem?_append_left hj] at h1
      rw [List.getElem?_append_left (by rw [← r.e1]; exact hj)] at h2
      have z := r.va j b w h1 h2
      exact z.but B (by simp [z.ne r.hR, z.ne r.hT])
    · rw [List.getElem?_append_right (by omega)] at h1
      rw [List.getElem?_append_right (by rw [← r.e1]; omega), ← r.e1] at h2
      have j0 : j - as.length = 0 := by
        have := (List.getElem?_eq_some_iff.mp h1).1
        simp at this
        omega
      rw [j0] at h1 h2
      cases h1
      cases h2
      exact v.but B (by simp [v.ne r.hR, v.ne r.hT])
  · by_cases hj : j < ls.length
    · rw [List.getElem?_append_left hj] at h1
      rw [List.getElem?_append_left (by rw [← r.e2]; exact hj)] at h2
      have z := r.vl j b w h1 h2
      have := r.nl b (List.mem_of_getElem? h1)
      exact B _ _ z (by simp [this.1, this.2])
    · rw [List.getElem?_append_right (by omega)] at h1
      rw [List.getElem?_append_right (by rw [← r.e2]; omega), ← r.e2] at h2
      have j0 : j - ls.length = 0 := by
        have := (List.getElem?_eq_some_iff.mp h1).1
        simp at this
        omega
      rw [j0] at h1 h2
      cases h1
      cases h2
      exact B _ _ hf (by simp [nf.1, nf.2])
  · rcases List.mem_append.mp hg with z | z
    · exact r.nl g z
    · cases List.mem_singleton.mp z
      exact nf
theorem RowI.sums {CS : Addr} {H : Hp} {R T : Addr} {as ls : List Addr} {ps : List (Int × Int)} {b : Nat} (r : RowI CS H R T as ls ps) (hb : ∀ v ∈ ps, Sm b v.1 ∧ Sm b v.2) (hl : ps.length ≤ 100) (h : (b + 1) * ps.length + 1 ≤ 2000) (h2 : b ≤ 2000) : Sums CS H as ps := by
  refine ⟨r.e1, by rw [r.e1]; exact hl, fun i a v x y => ⟨r.va i a v x y, (hb v (List.mem_of_getElem? y)).1.mono h2, (hb v (List.mem_of_getElem? y)).2.mono h2⟩, fun i hi => ?_⟩
  have z := psum_sm (b := b) (ps.take i) fun v hv => hb v (List.mem_of_mem_take hv)
  rw [List.length_take, Nat.min_eq_left hi] at z
  have e : (b + 1) * i + 1 ≤ 2000 := Nat.le_trans (Nat.succ_le_succ (Nat.mul_le_mul_left _ hi)) h
  exact ⟨z.1.mono e, z.2.mono e⟩
theorem Sums.k {CS : Addr} {H H' : Hp} {as : List Addr} {ps : List (Int × Int)} (s : Sums CS H as ps) (b : But [] H H') : Sums CS H' as ps :=
  ⟨s.1, s.2.1, fun i p v x y => ⟨(s.2.2.1 i p v x y).1.but b (by simp), (s.2.2.1 i p v x y).2⟩, s.2.2.2⟩
def sp_law_row (CS : Addr) : Sp := sp3 fun s a b H Q _ => ∃ st q p1 l o1 u1, s = .ref st ∧ a = .ref p1 ∧ b = .ref l ∧ StA H st q ∧ Val CS H p1 o1 u1 ∧ H l = some (.lst [.int o1, .int u1]) ∧ Sm 133 o1 ∧ Sm 133 u1 ∧ ∀ H', But [st] H H' → Q (.bl true) H'
theorem ten40 {x : Int} (h : x.natAbs < 10 ^ 40) : Sm 133 x := Nat.lt_of_lt_of_le h (by decide)
theorem ok_law_row {f : Addr} {fd : FuncData} (F : Fun K "_law_row" "_law_row" s_law_row f fd) (T : Txt K mg CS CI) (D_law_draw : Df P w K mg base 1 "_law_draw" s_law_draw ["state", "limit"] sp_law_draw) (D_law_fraction : Df P w K mg base 4 "_law_fraction" s_law_fraction ["state"] sp_law_fraction) (D_Share_init : Dk P w K mg base 4 CS "Share" "Share.__init__" s_Share_init ["self", "over", "under"] (sp_Share_init CS CI)) (D_law_signed : Df P w K mg base 1 "_law_signed" s_law_signed ["over", "under"] sp_law_signed) (D_law_is : Df P w K mg base 2 "_law_is" s_law_is ["got", "over", "under"] (sp_law_is CS)) (D_sum_of : Df P w K mg base 7 "sum_of" s_sum_of ["shares"] (sp_sum_of K CS)) (D_sum_of_t : Df P w K mg base 7 "sum_of" s_sum_of_t ["shares"] (sp_sum_of_t K CS)) : FnOk P w K mg base (L2.CX P w) 8 f fd ["state", "first", "one"] (sp_law_row CS) := by
  have nd := sc_law_row.nd
  refine F.okX sc_law_row (fun vs H Q E h => ?_) (fun cdv A outer s H vs Q E hr h => ?_)
  · obtain ⟨_, _, _, rfl, _⟩ := h
    rfl
  · obtain ⟨_, _, _, rfl, st, q, p1, l, o1, u1, rfl, rfl, rfl, hS, v1, hl, so, su, k⟩ := h
    refine ⟨_, (pss_cons (ps_set (i := 3) nd rfl (Or.inl rfl) pe_int)
(pss_cons (ps_set (i := 4) nd rfl (Or.inl rfl) pe_int)
(pss_cons (ps_set (i := 5) nd rfl (Or.inl rfl) (pe_lst pa_nil))
(pss_cons (ps_set (i := 6) nd rfl (Or.inl rfl) (pe_lst pa_nil))
(pss_cons (ps_set (i := 7) nd rfl (Or.inl rfl) (pe_d D_law_draw hr (by decide) (by rfl) passL (pa_cons (pv 0) (pa_cons pe_int pa_nil))))
(pss_cons (ps_set (i := 8) nd rfl (Or.inl rfl) (pe_cmpR op_eq (pe_d D_law_draw hr (by decide) (by rfl) passL (pa_cons (pv 0) (pa_cons pe_int pa_nil))) pe_int (nomark _)))
(pss_mid (ps_if (pt_val (pv 8))
(pss_one (ps_set (i := 7) nd rfl (Or.inl rfl) (pe_d D_law_draw hr (by decide) (by rfl) passL (pa_cons (pv 0) (pa_cons pe_int pa_nil)))))
pss_nil)
(pss_cons (ps_for (passes_of rfl) rfl (pi_range1 (by rfl) T.range (pa_cons (pv 7) pa_nil)) (pg_name (i := 9) nd rfl (Or.inl rfl))
(pss_cons (ps_set (i := 10) nd rfl (Or.inl rfl) (pe_d D_law_fraction hr (by decide) (by rfl) passL (pa_cons (pv 0) pa_nil)))
(pss_mid (ps_if (pt_val (pv 8))
(pss_one (ps_set (i := 10) nd rfl (Or.inl rfl) (pe_lst (pa_cons (pe_op op_sub (pe_d D_law_draw hr (by decide) (by rfl) passL (pa_cons (pv 0) (pa_cons pe_int pa_nil))) pe_int) (pa_cons (pe_op op_add pe_int (pe_d D_law_draw hr (by decide) (by rfl) passL (pa_cons (pv 0) (pa_cons pe_int pa_nil)))) pa_nil)))))
pss_nil)
(pss_cons (ps_set (i := 11) nd rfl (Or.inl rfl) (pe_k D_Share_init hr (by decide) (by rfl) passL (pa_cons (pe_ix ix_list (pv 10) pe_int (fun _ _ => rfl)) (pa_cons (pe_ix ix_list (pv 10) pe_int (fun _ _ => rfl)) pa_nil))))
(pss_mid (ps_if (PW.pt (pw_and (pt_cmpR op_eq (pe_d D_law_draw hr (by decide) (by rfl) passL (pa_cons (pv 0) (pa_cons pe_int pa_nil))) pe_int (nomark _)) (pw_and1 (pt_not (pt_val (pv 8))))))
(pss_cons (ps_set (i := 10) nd rfl (Or.inl rfl) (pv 2))
(pss_one (ps_set (i := 11) nd rfl (Or.inl rfl) (pv 1))))
pss_nil)
(pss_cons (ps_set (i := 10) nd rfl (Or.inl rfl) (pe_d D_law_signed hr (by decide) (by rfl) passL (pa_cons (pe_ix ix_list (pv 10) pe_int (fun _ _ => rfl)) (pa_cons (pe_ix ix_list (pv 10) pe_int (fun _ _ => rfl)) pa_nil))))
(pss_cons (ps_set (i := 3) nd rfl (Or.inl rfl) (pe_op op_add (pe_op op_mulW (pv 3) (pe_ix ix_list (pv 10) pe_int (fun _ _ => rfl))) (pe_op op_mulW (pe_ix ix_list (pv 10) pe_int (fun _ _ => rfl)) (pv 4))))
(pss_cons (ps_set (i := 4) nd rfl (Or.inl rfl) (pe_op op_mulW (pv 4) (pe_ix ix_list (pv 10) pe_int (fun _ _ => rfl))))
(pss_cons (ps_expr (pe_bm PySem.F.plainAttrs_list PySem.F.slot_list_append PySem.F.type_list_append mt_append (pv 5) (pa_cons (pv 11) pa_nil)))
(pss_one (ps_expr (pe_bm PySem.F.plainAttrs_list PySem.F.slot_list_append PySem.F.type_list_append mt_append (pv 6) (pa_cons (pv 10) pa_nil)))))))))))))
(pss_cons (ps_if (PW.pt (pw_or (pt_not (pt_val (pe_d D_law_is hr (by decide) (by rfl) passL (pa_cons (pe_d D_sum_of hr (by decide) (by rfl) passL (pa_cons (pe_callTy call_list_of (by rfl) T.list (by decide +kernel) (pa_cons (pv 5) pa_nil)) pa_nil)) (pa_cons (pv 3) (pa_cons (pv 4) pa_nil)))))) (pw_or1 (pt_not (pt_val (pe_d D_law_is hr (by decide) (by rfl) passL (pa_cons (pe_dK0 (ks := (["shares"] : List Str)) (g := fun a b => a ++ b) D_sum_of_t hr (by decide) (by rfl) passL (fun r1 r2 => r1.append r2) (fun _ _ _ _ _ _ us ws h1 h2 => match us, ws, h1, h2 with | [], [_], _, _ => rfl) (pk_cons (pe_callTy call_tuple_of (by rfl) T.tuple (by decide +kernel) (pa_cons (pv 5) pa_nil)) pk_nil)) (pa_cons (pv 3) (pa_cons (pv 4) pa_nil)))))))))
(pss_one (ps_ret pe_bl))
pss_nil)
(pss_cons (ps_if (PW.pt (pw_or (pt_not (pt_val (pe_d D_law_is hr (by decide) (by rfl) passL (pa_cons (pe_d D_sum_of hr (by decide) (by rfl) passL (pa_cons (pv 5) pa_nil)) (pa_cons (pv 3) (pa_cons (pv 4) pa_nil)))))) (pw_or1 (pt_cmpR op_ne (pe_callB call_len_seq (by rfl) T.len (by decide +kernel) (pa_cons (pv 5) pa_nil)) (pe_callB call_len_seq (by rfl) T.len (by decide +kernel) (pa_cons (pv 6) pa_nil)) (nomark _)))))
(pss_one (ps_ret pe_bl))
pss_nil)
(pss_cons (ps_for (passes_of rfl) rfl (pi_zip (by rfl) T.zip (pa_cons (pv 5) (pa_cons (pv 6) pa_nil))) (pg_tup (n := 2) rfl (pgs_cons (pg_name (i := 11) nd rfl (Or.inl rfl)) (pgs_cons (pg_name (i := 10) nd rfl (Or.inl rfl)) pgs_nil)))
(pss_one (ps_if (pt_not (pt_val (pe_d D_law_is hr (by decide) (by rfl) passL (pa_cons (pv 11) (pa_cons (pe_ix ix_list (pv 10) pe_int (fun _ _ => rfl)) (pa_cons (pe_ix ix_list (pv 10) pe_int (fun _ _ => rfl)) pa_nil))))))
(pss_one (ps_ret pe_bl))
pss_nil)))
(pss_one (ps_ret (pe_d D_law_is hr (by decide) (by rfl) passL (pa_cons (pe_d D_sum_of hr (by decide) (by rfl) passL (pa_cons (pe_lst pa_nil) pa_nil)) (pa_cons pe_int (pa_cons pe_int pa_nil))))))))))))))))), ?_⟩
    walk_at "rd"
    intro R hR
    walk_at "rd"
    intro T hT
    obtain ⟨hT, nTR⟩ := upd_free hT
    have nRT := nTR.symm
    obtain ⟨ns, ii, bb, cc, dd, g1, g2, grest⟩ := id hS.ex
    have nR1 : R ≠ st := fun z => by rw [z, g1] at hR; cases hR
    have nR2 : R ≠ q := fun z => by rw [z, g2] at hR; cases hR
    have nT1 : T ≠ st := fun z => by rw [z, g1] at hT; cases hT
    have nT2 : T ≠ q := fun z => by rw [z, g2] at hT; cases hT
    have B0 : But [] H (upd (upd H R (.lst [])) T (.lst [])) := (But.new hR).trans (But.new (by rw [upd_ne nTR]; exact hT))
    have S0 := hS.but B0 (by simp) (by simp)
    have I0 : RowI CS (upd (upd H R (.lst [])) T (.lst [])) R T [] [] [] := ⟨rfl, rfl, by rw [upd_ne nRT, upd_same] <;> rfl, by rw [upd_same] <;> rfl, fun j a v h _ => by simp at h, fun j a v h _ => by simp at h, fun f h => by cases h⟩
    walk_at "rd"
    refine ⟨st, q, 7, rfl, rfl, S0, Sm.lit (by decide), fun r1 H1 a1 b1 S1 B1 => ?_⟩
    walk_at "rd"
    refine ⟨st, q, 8, rfl, rfl, S1, Sm.lit (by decide), fun r2 H2 a2 b2 S2 B2 => ?_⟩
    have I2 := (I0.st S0 nR1 nT1 B1).st S1 nR1 nT1 B2
    walk_at "rd"
    obtain ⟨lg, hlg⟩ : ∃ lg : Bool, decide (V.int r2 = V.int 0) = lg := ⟨_, rfl⟩
    rw [hlg]
    obtain ⟨b, hb⟩ : ∃ b : Nat, b = if lg = true then 5 else 133 := ⟨_, rfl⟩
    obtain ⟨mx, hw⟩ : ∃ mx : Nat, mx = if lg = true then 60 else 6 := ⟨_, rfl⟩
    refine ⟨fun σ H' => ∃ n : Int, σ = [some (.ref st), some (.ref p1), some (.ref l), some (.int 0), some (.int 1), some (.ref R), some (.ref T), some (.int n), some (.bl lg), none, none, none] ∧ 0 ≤ n ∧ n ≤ mx ∧ RowI CS H' R T [] [] [] ∧ StA H' st q ∧ But [R, T, st] H H', ?_, ?_⟩
    · have B2' : But [R, T, st] H H2 := (But.of_same (Same.trans B0.same (Same.refl _))).trans ((B1.trans B2).mono (by simp))
      cases lg with
      | false =>
        walk_at "rd"
        exact ⟨by rw [hw]; simp; omega, I2, S2, B2'⟩
      | true =>
        walk_at "rd"
        refine ⟨st, q, 61, rfl, rfl, S2, Sm.lit (by decide), fun r3 H3 a3 b3 S3 B3 => ?_⟩
        exact ⟨r3, rfl, a3, by rw [hw]; simp; omega, I2.st S2 nR1 nT1 B3, S3, B2'.trans (B3.mono (by simp))⟩
    rintro σ H3 ⟨n, rfl, n0, n1, I3, S3, B3⟩
    have w60 : mx ≤ 60 := by rw [hw]; split <;> decide
    walk_at "rd"
    have hR' : ∀ {H' : Hp}, StA H' st q → H' q ≠ none := fun h z => by
      obtain ⟨_, _, _, _, _, _, h2, _⟩ := h.ex
      rw [z] at h2; cases h2
    refine for_range (lo := 0) (n := n.toNat) (fun i σ H' => ∃ (as ls : List Addr) (ps : List (Int × Int)) (y1 y2 y3 : Option V), σ = [some (.ref st), some (.ref p1), some (.ref l), some (.int (psum ps).1), some (.int (psum ps).2), some (.ref R), some (.ref T), some (.int n), some (.bl lg), y1, y2, y3] ∧
      ps.length = i ∧ (∀ v ∈ ps, Sm b v.1 ∧ Sm b v.2) ∧ RowI CS H' R T as ls ps ∧ StA H' st q ∧ But [R, T, st] H H') ⟨[], [], [], none, none, none, rfl, rfl, fun v h => (by cases h), I3, S3, B3⟩ ?_ ?_
    · rintro i σ H4 hi ⟨as, ls, ps, y1, y2, y3, rfl, rfl, hps, I4, S4, B4⟩
      have z := psum_sm (b := b) ps hps
      have zl : (b + 1) * ps.length + 1 ≤ 1000 := by
        have : ps.length ≤ mx := by omega
        rw [hw] at this
        rw [hb]
        cases lg with
        | true => simp at this ⊢; omega
        | false => simp at this ⊢; omega
      have s5 : Sm 1000 (psum ps).1 := z.1.mono zl
      have s6 : Sm 1000 (psum ps).2 := z.2.mono zl
      walk_at "rd"
      refine ⟨st, q, rfl, S4, fun f H5 X Y hf S5 B5 hfl hY hX1 hY1 => ?_⟩
      have I5 := I4.st S4 nR1 nT1 B5
      have nf : f ≠ R ∧ f ≠ T := ⟨(ne_of_none I4.hR hf).symm, (ne_of_none I4.hT hf).symm⟩
      have b133 : b ≤ 133 := by rw [hb]; split <;> decide
      refine ⟨fun σ H' => ∃ f X Y, σ = [some (.ref st), some (.ref p1), some (.ref l), some (.int (psum ps).1), some (.int (psum ps).2), some (.ref R), some (.ref T), some (.int n), some (.bl lg), some (.int (0 + (ps.length : Int))), some (.ref f), y3] ∧
        H' f = some (.lst [.int X, .int Y]) ∧ Y ≠ 0 ∧ Sm b X ∧ Sm b Y ∧ (f ≠ R ∧ f ≠ T) ∧ RowI CS H' R T as ls ps ∧ StA H' st q ∧ But [R, T, st] H H', ?_, ?_⟩
      · have B5' := B4.trans (B5.mono (T := [R, T, st]) (by simp))
        cases lg with
        | false =>
          have b1 : b = 133 := hb
          walk_at "rd"
          refine ⟨f, X, Y, rfl, hfl, hY, by rw [b1]; exact ten40 hX1, by rw [b1]; exact ten40 hY1, nf, I5, S5, B5'⟩
        | true =>
          have b1 : b = 5 := hb
          walk_at "rd"
          refine ⟨st, q, 30, rfl, rfl, S5, Sm.lit (by decide), fun r5 H6 a5 b5 S6 B6 => ?_⟩
          walk_at "rd"
          refine ⟨st, q, 12, rfl, rfl, S6, Sm.lit (by decide), fun r6 H7 a6 b6 S7 B7 => ?_⟩
          walk_at "rd"
          intro g hg
          have I7 := (I5.st S5 nR1 nT1 B6).st S6 nR1 nT1 B7
          have Bg : But [] H7 (upd H7 g (.lst [.int (r5 - 9), .int (1 + r6)])) := But.new hg
          refine ⟨g, r5 - 9, 1 + r6, rfl, upd_same, by omega, by rw [b1]; unfold Sm; omega, by rw [b1]; unfold Sm; omega, ⟨(ne_of_none I7.hR hg).symm, (ne_of_none I7.hT hg).symm⟩, I7.k Bg, S7.but Bg (by simp) (by simp), ?_⟩
          exact (B5'.trans ((B6.trans B7).mono (by simp))).trans (Bg.mono (by simp))
      rintro σ H6 ⟨f, X, Y, rfl, hf6, hY6, sX, sY, nf6, I6, S6, B6⟩
      walk_at "rd"
      intro x dx hx hd hne
      refine ⟨_, _, _, rfl, x, dx, X, Y, rfl, rfl, rfl, upd_same, sX.mono (by omega), sY.mono (by omega), fun _ H7 hb7 hv => ⟨rfl, ?_⟩, fun z => absurd z hY6⟩
      have B7 := made_but hx hd hb7
      have I7 := I6.k B7
      have S7 := S6.but B7 (by simp) (by simp)
      have hf7 := B7 _ _ hf6 (by simp)
      have B7' := B6.trans (B7.mono (T := [R, T, st]) (by simp))
      clear hx hd hne hb7
      refine ⟨fun σ H' => ∃ f X Y a, σ = [some (.ref st), some (.ref p1), some (.ref l), some (.int (psum ps).1), some (.int (psum ps).2), some (.ref R), some (.ref T), some (.int n), some (.bl lg), some (.int (0 + (ps.length : Int))), some (.ref f), some (.ref a)] ∧
        H' f = some (.lst [.int X, .int Y]) ∧ Val CS H' a (sgn X Y).1 (sgn X Y).2 ∧ Sm b X ∧ Sm b Y ∧ RowI CS H' R T as ls ps ∧ StA H' st q ∧ But [R, T, st] H H', ?_, ?_⟩
      · walk_at "rd"
        refine ⟨st, q, 3, rfl, rfl, S7, Sm.lit (by decide), fun r7 H8 a7 b7 S8 B8 => ?_⟩
        have I8 := I7.st S7 nR1 nT1 B8
        have hf8 := B8 _ _ hf7 (by simpa using ne_st S7 hf7)
        have v8 : Val CS H8 x (sgn X Y).1 (sgn X Y).2 := hv.but B8 (by
          obtain ⟨_, _, _, _, _, h1, _⟩ := S7.ex
          simpa using hv.ne h1)
        have B8' := B7'.trans (B8.mono (T := [R, T, st]) (by simp))
        walk_at "rd"
        refine iteD (fun c => ?_) (fun c => ?_)
        · cases lg with
          | true =>
            walk_at "rd"
            exact ⟨f, X, Y, x, rfl, hf8, v8, sX, sY, I8, S8, B8'⟩
          | false =>
            have b1 : b = 133 := hb
            walk_at "rd"
            have nl : l ∉ [R, T, st] := by
              simp only [List.mem_cons, List.mem_nil_iff, or_false, not_or]
              exact ⟨ne_of_none hl hR, ne_of_none hl hT, ne_st hS hl⟩
            have np : p1 ∉ [R, T, st] := by
              obtain ⟨_, nn, dn, ⟨⟨dz, e⟩, _⟩, _⟩ := id v1
              simp only [List.mem_cons, List.mem_nil_iff, or_false, not_or]
              exact ⟨ne_of_none e hR, ne_of_none e hT, v1.ne g1⟩
            refine ⟨l, o1, u1, p1, rfl, B8' _ _ hl nl, ?_, by rw [b1]; exact so, by rw [b1]; exact su, I8, S8, B8'⟩
            rw [sgn_of_pos v1.1]
            exact v1.but B8' np
        · exact ⟨f, X, Y, x, rfl, hf8, v8, sX, sY, I8, S8, B8'⟩
      clear hf7 hf6 nf6 sX sY hv I7 S7 B7 B7' hY6
      rintro σ H8 ⟨f, X, Y, a, rfl, hf8, v8, sX, sY, I8, S8, B8⟩
      have sg1 : Sm 133 (sgn X Y).1 := (sX.mono b133).le (Nat.le_of_eq (sgn_abs X Y).1)
      have sg2 : Sm 133 (sgn X Y).2 := (sY.mono b133).le (Nat.le_of_eq (sgn_abs X Y).2)
      walk_at "rd"
      intro g hg
      walk_at "rd"
      have Bg : But [] H8 (upd H8 g (.lst [.int (sgn X Y).1, .int (sgn X Y).2])) := But.new hg
      have I9 := I8.k Bg
      have lim : ps.length ≤ 60 := by omega
      have nfg : g ≠ R ∧ g ≠ T := ⟨(ne_of_none I8.hR hg).symm, (ne_of_none I8.hT hg).symm⟩
      refine ⟨.inl ⟨rfl, _, SqL.of I9.hR⟩, ?_⟩
      walk_at "rd"
      refine ⟨R, _, _, rfl, rfl, I9.hR, szlt (by rw [List.length_map, I9.e1]; omega), ?_⟩
      have hT9 := (upd_ne (o := .lst (as.map V.ref ++ [V.ref a])) nTR).trans I9.hT
      walk_at "rd"
      refine ⟨.inl ⟨rfl, _, SqL.of hT9⟩, ?_⟩
      walk_at "rd"
      refine ⟨T, _, _, rfl, rfl, hT9, szlt (by rw [List.length_map, I9.e2]; omega), ?_⟩
      refine ⟨as ++ [a], ls ++ [g], ps ++ [((sgn X Y).1, (sgn X Y).2)], some (.int (0 + (ps.length : Int))), some (.ref g), some (.ref a), ?_, by simp, ?_, I9.add nRT (v8.but Bg (by simp)) upd_same nfg, ?_, ?_⟩
      · rw [psum_snoc]
        rfl
      · intro v hv
        rcases List.mem_append.mp hv with z | z
        · exact hps v z
        · cases List.mem_singleton.mp z
          exact ⟨sX.le (Nat.le_of_eq (sgn_abs X Y).1), sY.le (Nat.le_of_eq (sgn_abs X Y).2)⟩
      · refine S8.but (S := [R, T]) ((Bg.mono (by simp)).trans ((But.put (by simp)).trans (But.put (by simp)))) ?_ ?_
        · simp [nR1.symm, nT1.symm]
        · simp [nR2.symm, nT2.symm]
      · exact B8.trans ((Bg.mono (by simp)).trans ((But.put (by simp)).trans (But.put (by simp))))
    rintro σ H4 ⟨as, ls, ps, y1, y2, y3, rfl, hn, hps, I4, S4, B4⟩
    have lim : ps.length ≤ mx := by omega
    have b133 : b ≤ 133 := by rw [hb]; split <;> decide
    have zl : (b + 1) * ps.length + 1 ≤ 1000 := by
      rw [hw] at lim
      rw [hb]
      cases lg with
      | true => simp at lim ⊢; omega
      | false => simp at lim ⊢; omega
    have z := psum_sm (b := b) ps hps
    have s5 : Sm 3000 (psum ps).1 := z.1.mono (by omega)
    have s6 : Sm 3000 (psum ps).2 := z.2.mono (by omega)
    have sums := I4.sums hps (by omega) (by omega) (by omega)
    have hRow := I4.hR
    have kk : ∀ {H'}, But [] H4 H' → Q (.bl true) H' := fun {H'} b' => k H' (But.drop hT (But.drop hR (B4.trans (b'.mono (by simp)))))
    walk_at "rd"
    intro l1 hl1
    walk_at "rd"
    have b5 : But [] H4 (upd H4 l1 (.lst (as.map V.ref))) := But.new hl1
    refine ⟨l1, as, ps, rfl, SqL.of upd_same, sums.k b5, fun r5 H5 hr5 hb5 hv5 => ?_⟩
    replace b5 := b5.trans hb5
    have hRow5 := b5 _ _ hRow (by simp)
    walk_at "rd"
    refine ⟨_, _, _, rfl, r5, _, _, rfl, rfl, rfl, hv5, s5, s6, ?_⟩
    walk_at "rd"
    refine ⟨R, _, rfl, .inl ⟨SqL.of hRow5, fun t1 ht1 => ?_⟩⟩
    walk_at "rd"
    have bt : But [] H5 (upd H5 t1 (.tup (as.map V.ref))) := But.new ht1
    refine ⟨t1, as, ps, rfl, SqT.of upd_same, sums.k (b5.trans bt), fun r6 H6 hr6 hb6 hv6 => ?_⟩
    have b6 := (b5.trans bt).trans hb6
    walk_at "rd"
    refine ⟨_, _, _, rfl, r6, _, _, rfl, rfl, rfl, hv6, s5, s6, ?_⟩
    walk_at "rd"
    refine ⟨R, as, ps, rfl, SqL.of (b6 _ _ hRow (by simp)), sums.k b6, fun r7 H7 hr7 hb7 hv7 => ?_⟩
    replace b6 := b6.trans hb7
    have hRow7 := b6 _ _ hRow (by simp)
    have hT7 := b6 _ _ I4.hT (by simp)
    have I7 := I4.k b6
    walk_at "rd"
    refine ⟨_, _, _, rfl, r7, _, _, rfl, rfl, rfl, hv7, s5, s6, ?_⟩
    walk_at "rd"
    refine iteN (fun c => absurd (by rw [List.length_map, List.length_map, I4.e1, I4.e2]) c) (fun _ => ?_)
    walk_at "rd"
    refine ⟨R, T, _, _, rfl, SqL.of hRow7, SqL.of hT7, ?_⟩
    refine ⟨fun i m σ H' => ∃ y2 y3, σ = [some (.ref st), some (.ref p1), some (.ref l), some (.int (psum ps).1), some (.int (psum ps).2), some (.ref R), some (.ref T), some (.int n), some (.bl lg), y1, y2, y3] ∧ i + m = ps.length ∧ But [] H7 H', ⟨ps.length, y2, y3, rfl, by omega, But.refl _ _⟩, fun i m σ H8 hW => ?_⟩
    obtain ⟨z2, z3, rfl, em, b8⟩ := hW
    have I8 := I7.k b8
    by_cases hi : i < ps.length
    · have ia : i < as.length := by rw [I4.e1]; exact hi
      have il : i < ls.length := by rw [I4.e2]; exact hi
      have q1 : (as.map V.ref)[i]? = some (.ref as[i]) := by
        rw [List.getElem?_map, List.getElem?_eq_getElem ia]
        rfl
      have q2 : (ls.map V.ref)[i]? = some (.ref ls[i]) := by
        rw [List.getElem?_map, List.getElem?_eq_getElem il]
        rfl
      have va := I8.va i as[i] ps[i] (List.getElem?_eq_getElem ia) (List.getElem?_eq_getElem hi)
      have vl := I8.vl i ls[i] ps[i] (List.getElem?_eq_getElem il) (List.getElem?_eq_getElem hi)
      have sb := hps ps[i] (List.getElem_mem hi)
      refine .inr ⟨⟨_, _, _, _, SqL.of I8.hR, SqL.of I8.hT, q1, q2⟩, fun σ' H' => ∃ y2 y3, σ' = [some (.ref st), some (.ref p1), some (.ref l), some (.int (psum ps).1), some (.int (psum ps).2), some (.ref R), some (.ref T), some (.int n), some (.bl lg), y1, y2, y3] ∧ But [] H7 H', fun σ' H' hN => ?_, fun x H' hy => ?_⟩
      · obtain ⟨w2, w3, e, b9⟩ := hN
        exact ⟨m - 1, by omega, w2, w3, e, by omega, b9⟩
      · obtain ⟨tt, x1, x2, rfl, nT, rfl, f1, f2⟩ := hy
        have ex1 : x1 = .ref as[i] := Option.some.inj ((f1 _ (SqL.of I8.hR)).symm.trans q1)
        have ex2 : x2 = .ref ls[i] := Option.some.inj ((f2 _ (SqL.of I8.hT)).symm.trans q2)
        subst ex1 ex2
        have b9 : But [] H8 (upd H8 tt (.tup [.ref as[i], .ref ls[i]])) := But.new nT
        have vl9 := b9 _ _ vl (by simp)
        refine ⟨tt, [.ref as[i], .ref ls[i]], rfl, .inl (.inl upd_same), rfl, _, _, rfl, _, _, rfl, rfl, ?_⟩
        walk_at "rd"
        refine ⟨_, _, _, rfl, as[i], _, _, rfl, rfl, rfl, va.but b9 (by simp), sb.1.mono (by omega), sb.2.mono (by omega), ?_⟩
        walk_at "rd"
        exact b8.trans b9
    · refine .inl ⟨⟨_, _, SqL.of I8.hR, SqL.of I8.hT, .inr ?_⟩, ?_⟩
      · rw [List.length_map, I4.e2]
        omega
      · walk_at "rd"
        intro l2 hl2
        walk_at "rd"
        have b9 : But [] H8 (upd H8 l2 (.lst [])) := But.new hl2
        refine ⟨l2, [], [], rfl, SqL.of upd_same, ⟨rfl, by decide, fun i p v h => by simp at h, fun i hi => ⟨by rw [List.take_nil]; exact Sm.lit (by decide), by rw [List.take_nil]; exact Sm.lit (by decide)⟩⟩, fun r8 H9 hr8 hb8 hv8 => ?_⟩
        walk_at "rd"
        refine ⟨_, _, _, rfl, r8, _, _, rfl, rfl, rfl, hv8, Sm.lit (by decide), Sm.lit (by decide), ?_⟩
        exact kk (((b6.trans b8).trans b9).trans hb8)
theorem Two.swap {CS : Addr} {H : Hp} {p q l m : Addr} {o1 u1 o2 u2 : Int} (t : Two CS H p q l m o1 u1 o2 u2) : Two CS H q p m l o2 u2 o1 u1 := ⟨t.v2, t.v1, t.h2, t.h1, t.s3, t.s4, t.s1, t.s2⟩
def sp_law_body (K : PySem.W.Frag) : Sp := sp1 fun a H Q _ => ∃ (s : Addr) (ns : List Int), a = .ref s ∧ SqL K H s (ns.map V.int) ∧ ns.length ≤ 63 ∧ ∀ H', Q (.bl true) H'
theorem ok_law_body {f : Addr} {fd : FuncData} (F : Fun K "_law_body" "_law_body" s_law_body f fd) (T : Txt K mg CS CI) (D_law_start : Df P w K mg base 1 "_law_start" s_law_start ["script"] (sp_law_start (K := K))) (D_law_fraction : Df P w K mg base 4 "_law_fraction" s_law_fraction ["state"] sp_law_fraction) (D_law_second : Df P w K mg base 5 "_law_second" s_law_second ["state", "over", "under"] sp_law_second) (D_Share_init : Dk P w K mg base 4 CS "Share" "Share.__init__" s_Share_init ["self", "over", "under"] (sp_Share_init CS CI)) (D_law_signed : Df P w K mg base 1 "_law_signed" s_law_signed ["over", "under"] sp_law_signed) (D_law_pair : Df P w K mg base 8 "_law_pair" s_law_pair ["first", "second", "one", "other"] (sp_law_pair CS)) (D_law_unlike : Df P w K mg base 3 "_law_unlike" s_law_unlike ["share", "over", "under"] (sp_law_unlike CS)) (D_law_no_under : Df P w K mg base 6 "_law_no_under" s_law_no_under ["over"] sp_law_no_under) (D_law_row : Df P w K mg base 8 "_law_row" s_law_row ["state", "first", "one"] (sp_law_row CS)) : FnOk P w K mg base (L2.CX P w) 9 f fd ["script"] (sp_law_body K) := by
  have nd := sc_law_body.nd
  refine F.okX sc_law_body (fun vs H Q E h => ?_) (fun cdv A outer s H vs Q E hr h => ?_)
  · obtain ⟨_, rfl, _⟩ := h
    rfl
  · obtain ⟨_, rfl, sc, ns, rfl, hs, hl, k⟩ := h
    refine ⟨_, (pss_cons (ps_set (i := 1) nd rfl (Or.inl rfl) (pe_d D_law_start hr (by decide) (by rfl) passL (pa_cons (pv 0) pa_nil)))
(pss_cons (ps_set (i := 2) nd rfl (Or.inl rfl) (pe_d D_law_fraction hr (by decide) (by rfl) passL (pa_cons (pv 1) pa_nil)))
(pss_cons (ps_set (i := 3) nd rfl (Or.inl rfl) (pe_d D_law_second hr (by decide) (by rfl) passL (pa_cons (pv 1) (pa_cons (pe_ix ix_list (pv 2) pe_int (fun _ _ => rfl)) (pa_cons (pe_ix ix_list (pv 2) pe_int (fun _ _ => rfl)) pa_nil)))))
(pss_cons (ps_set (i := 4) nd rfl (Or.inl rfl) (pe_k D_Share_init hr (by decide) (by rfl) passL (pa_cons (pe_ix ix_list (pv 2) pe_int (fun _ _ => rfl)) (pa_cons (pe_ix ix_list (pv 2) pe_int (fun _ _ => rfl)) pa_nil))))
(pss_cons (ps_set (i := 5) nd rfl (Or.inl rfl) (pe_kK0 (ks := (["under", "over"] : List Str)) (g := fun a b => a ++ b.reverse) D_Share_init hr (by decide) (by rfl) passL (fun r1 r2 => r1.append (vals_rev r2)) (fun _ _ _ _ _ _ us ws h1 h2 => match us, ws, h1, h2 with | [_], [_, _], _, _ => rfl) (pk_cons (pe_ix ix_list (pv 3) pe_int (fun _ _ => rfl)) (pk_cons (pe_ix ix_list (pv 3) pe_int (fun _ _ => rfl)) pk_nil))))
(pss_cons (ps_set (i := 6) nd rfl (Or.inl rfl) (pe_d D_law_signed hr (by decide) (by rfl) passL (pa_cons (pe_ix ix_list (pv 2) pe_int (fun _ _ => rfl)) (pa_cons (pe_ix ix_list (pv 2) pe_int (fun _ _ => rfl)) pa_nil))))
(pss_cons (ps_set (i := 7) nd rfl (Or.inl rfl) (pe_d D_law_signed hr (by decide) (by rfl) passL (pa_cons (pe_ix ix_list (pv 3) pe_int (fun _ _ => rfl)) (pa_cons (pe_ix ix_list (pv 3) pe_int (fun _ _ => rfl)) pa_nil))))
(pss_cons (ps_for (passes_of rfl) rfl (pi_range1 (by rfl) T.range (pa_cons pe_int pa_nil)) (pg_name (i := 8) nd rfl (Or.inl rfl))
(pss_cons (ps_if (PW.pt (pw_or (pt_not (pt_val (pe_d D_law_pair hr (by decide) (by rfl) passL (pa_cons (pv 4) (pa_cons (pv 5) (pa_cons (pv 6) (pa_cons (pv 7) pa_nil))))))) (pw_or1 (pt_not (pt_val (pe_d D_law_pair hr (by decide) (by rfl) passL (pa_cons (pv 5) (pa_cons (pv 4) (pa_cons (pv 7) (pa_cons (pv 6) pa_nil))))))))))
(pss_one (ps_ret pe_bl))
pss_nil)
(pss_one (ps_if (PW.pt (pw_or (pt_not (pt_val (pe_d D_law_unlike hr (by decide) (by rfl) passL (pa_cons (pv 4) (pa_cons (pe_ix ix_list (pv 6) pe_int (fun _ _ => rfl)) (pa_cons (pe_ix ix_list (pv 6) pe_int (fun _ _ => rfl)) pa_nil)))))) (pw_or1 (pt_not (pt_val (pe_d D_law_no_under hr (by decide) (by rfl) passL (pa_cons (pe_ix ix_list (pv 2) pe_int (fun _ _ => rfl)) pa_nil)))))))
(pss_one (ps_ret pe_bl))
pss_nil))))
(pss_one (ps_ret (pe_and (pe_d D_law_row hr (by decide) (by rfl) passL (pa_cons (pv 1) (pa_cons (pv 4) (pa_cons (pv 6) pa_nil)))) (pe_one (pe_d D_law_pair hr (by decide) (by rfl) passL (pa_cons (pv 4) (pa_cons (pv 5) (pa_cons (pv 6) (pa_cons (pv 7) pa_nil))))))))))))))))), ?_⟩
    walk_at "rd"
    refine ⟨sc, ns, rfl, hs, hl, fun st q H1 _ _ B1 S1 => ?_⟩
    walk_at "rd"
    refine ⟨st, q, rfl, S1, fun f1 H2 X1 Y1 n2 S2 B2 hf1 hY1 hX1' hY1' => ?_⟩
    walk_at "rd"
    refine ⟨_, _, _, rfl, st, q, X1, Y1, rfl, rfl, rfl, S2, hY1, hX1', hY1', fun f2 H3 X2 Y2 n3 S3 B3 hf2 hY2 hX2' hY2' => ?_⟩
    have hf1 := B3 _ _ hf1 (by simpa using ne_st S2 hf1)
    have sX1 := ten40 hX1'
    have sY1 := ten40 hY1'
    have sX2 := ten40 hX2'
    have sY2 := ten40 hY2'
    clear B1 B2 B3 n2 n3 S1 S2
    walk_at "rd"
    intro p dx hx hd hne
    refine ⟨_, _, _, rfl, p, dx, X1, Y1, rfl, rfl, rfl, upd_same, sX1.mono (by decide), sY1.mono (by decide), fun _ H4 hb4 hv4 => ⟨rfl, ?_⟩, fun z => absurd z hY1⟩
    have B4 := made_but hx hd hb4
    have hf1 := B4 _ _ hf1 (by simp)
    have hf2 := B4 _ _ hf2 (by simp)
    have S4 := S3.but B4 (by simp) (by simp)
    clear hx hd hne hb4
    walk_at "rd"
    intro p2 dx2 hx hd hne
    refine ⟨_, _, _, rfl, p2, dx2, X2, Y2, rfl, rfl, rfl, upd_same, sX2.mono (by decide), sY2.mono (by decide), fun _ H5 hb5 hv5 => ⟨rfl, ?_⟩, fun z => absurd z hY2⟩
    have B5 := made_but hx hd hb5
    have hf1 := B5 _ _ hf1 (by simp)
    have hf2 := B5 _ _ hf2 (by simp)
    have S5 := S4.but B5 (by simp) (by simp)
    have hv4 := hv4.but B5 (by simp)
    clear hx hd hne hb5
    walk_at "rd"
    intro l hl
    have B6 : But [] H5 (upd H5 l (.lst [.int (sgn X1 Y1).1, .int (sgn X1 Y1).2])) := But.new hl
    have hf1 := B6 _ _ hf1 (by simp)
    have hf2 := B6 _ _ hf2 (by simp)
    have S6 := S5.but B6 (by simp) (by simp)
    have hv4 := hv4.but B6 (by simp)
    have hv5 := hv5.but B6 (by simp)
    have gl : (upd H5 l (.lst [.int (sgn X1 Y1).1, .int (sgn X1 Y1).2])) l = some (.lst [.int (sgn X1 Y1).1, .int (sgn X1 Y1).2]) := upd_same
    generalize upd H5 l (.lst [.int (sgn X1 Y1).1, .int (sgn X1 Y1).2]) = H6 at *
    walk_at "rd"
    intro m hm
    have B7 : But [] H6 (upd H6 m (.lst [.int (sgn X2 Y2).1, .int (sgn X2 Y2).2])) := But.new hm
    have hf1 := B7 _ _ hf1 (by simp)
    have S7 := S6.but B7 (by simp) (by simp)
    have t7 : Two CS (upd H6 m (.lst [.int (sgn X2 Y2).1, .int (sgn X2 Y2).2])) p p2 l m (sgn X1 Y1).1 (sgn X1 Y1).2 (sgn X2 Y2).1 (sgn X2 Y2).2 :=
      ⟨hv4.but B7 (by simp), hv5.but B7 (by simp), B7 _ _ gl (by simp), upd_same, (sX1.le (Nat.le_of_eq (sgn_abs X1 Y1).1)).mono (by decide), (sY1.le (Nat.le_of_eq (sgn_abs X1 Y1).2)).mono (by decide), (sX2.le (Nat.le_of_eq (sgn_abs X2 Y2).1)).mono (by decide), (sY2.le (Nat.le_of_eq (sgn_abs X2 Y2).2)).mono (by decide)⟩
    have z1 : Sm 133 (sgn X1 Y1).1 := sX1.le (Nat.le_of_eq (sgn_abs X1 Y1).1)
    have z2 : Sm 133 (sgn X1 Y1).2 := sY1.le (Nat.le_of_eq (sgn_abs X1 Y1).2)
    generalize upd H6 m (.lst [.int (sgn X2 Y2).1, .int (sgn X2 Y2).2]) = H7 at *
    clear hv4 hv5 gl hf2 S3 S4 S5 S6 B4 B5 B6 B7
    generalize (sgn X1 Y1).1 = o1 at *
    generalize (sgn X1 Y1).2 = u1 at *
    generalize (sgn X2 Y2).1 = o2 at *
    generalize (sgn X2 Y2).2 = u2 at *
    walk_at "rd"
    refine for_range (lo := 0) (n := 2) (fun i σ H' => ∃ y, σ = [some (.ref sc), some (.ref st), some (.ref f1), some (.ref f2), some (.ref p), some (.ref p2), some (.ref l), some (.ref m), y] ∧ But [] H7 H') ⟨none, rfl, But.refl _ _⟩ ?_ ?_
    · rintro i σ H8 hi ⟨y, rfl, B8⟩
      have t8 := t7.k B8
      have hl8 := t8.h1
      have hf8 := B8 _ _ hf1 (by simp)
      walk_at "rd"
      refine ⟨_, _, _, _, rfl, p, p2, l, m, o1, u1, o2, u2, rfl, rfl, rfl, rfl, t8, fun H9 B9 => ?_⟩
      have t9 := t8.k B9
      walk_at "rd"
      refine ⟨_, _, _, _, rfl, p2, p, m, l, o2, u2, o1, u1, rfl, rfl, rfl, rfl, t9.swap, fun H10 B10 => ?_⟩
      have t10 := t9.k B10
      have hl10 := t10.h1
      have hf10 := B10 _ _ (B9 _ _ hf8 (by simp)) (by simp)
      walk_at "rd"
      refine ⟨_, _, _, rfl, p, o1, u1, rfl, rfl, rfl, t10.v1, z1.mono (by decide), fun H11 B11 => ?_⟩
      have hf11 := B11 _ _ hf10 (by simp)
      walk_at "rd"
      refine ⟨sX1.mono (by decide), fun H12 B12 => ?_⟩
      walk_at "rd"
      exact (((B8.trans B9).trans B10).trans B11).trans B12
    · rintro σ H8 ⟨y, rfl, B8⟩
      have t8 := t7.k B8
      have S8 := S7.but B8 (by simp) (by simp)
      walk_at "rd"
      refine ⟨_, _, _, rfl, st, q, p, l, o1, u1, rfl, rfl, rfl, S8, t8.v1, t8.h1, z1, z2, fun H9 B9 => ?_⟩
      obtain ⟨_, _, _, _, _, g1, _⟩ := id S8.ex
      have t9 := t8.but B9 (by simpa using t8.v1.ne g1) (by simpa using t8.v2.ne g1) (by simpa using ne_st S8 t8.h1) (by simpa using ne_st S8 t8.h2)
      walk_at "rd"
      exact ⟨_, _, _, _, rfl, p, p2, l, m, o1, u1, o2, u2, rfl, rfl, rfl, rfl, t9, fun H' _ => k H'⟩
def sp_law (K : PySem.W.Frag) : Sp := fun vs H Q _ => ∃ (s : Addr) (ns : List Int), vs = [.ref s] ∧ SqL K H s (ns.map V.int) ∧ ns.length ≤ 63 ∧ ∀ H', Q (.bl true) H'
theorem ok_law {f : Addr} {fd : FuncData} (F : Fun K "law" "law" s_law f fd) (D_law_body : Df P w K mg base 9 "_law_body" s_law_body ["script"] (sp_law_body K)) : FnOk P w K mg base CX0 10 f fd ["script"] (sp_law K) := by
  have nd := sc_law.nd
  refine F.ok sc_law (fun vs H Q E h => ?_) (fun cdv A outer s H vs Q E hr h => ?_)
  · obtain ⟨_, _, rfl, _⟩ := h
    rfl
  · obtain ⟨sc, ns, rfl, hs, hl, k⟩ := h
    refine ⟨_, (pss_one (ps_try_thru0 (pss_one (ps_ret (pe_d D_law_body hr (by decide) (by rfl) passL (pa_cons (pv 0) pa_nil)))))), ?_⟩
    walk_at "rd"
    exact ⟨sc, ns, rfl, hs, hl, k⟩
end
theorem k1_self {K : PySem.W.Frag} {C : Addr} : PySem.W.kitOne K (.ref C) (.ref C) = some true := by
  unfold PySem.W.kitOne
  exact if_pos (beq_self_eq_true _)
theorem k1_ref {K : PySem.W.Frag} {C : Addr} {s : String} {b : Bool} (hd : PySem.W.hasDictIn K C = true) (ht : PySem.W.typeIn K (.ref C) = some (.type "type")) (h : PySem.W.subIn K (.type s) (.ref C) = some b) : PySem.W.kitOne K (.type s) (.ref C) = some b := by
  obtain ⟨cd, hc, _⟩ := PySem.W.any_some hd
  have e2 : ((PySem.W.clsIn K C).isSome && PySem.W.typeIn K (.ref C) == some (.type "type")) = true := by rw [hc, ht] <;> rfl
  have e1 : ¬ (Value.type s == Value.ref C) = true := fun z => Value.noConfusion (beq_iff_eq.mp z)
  unfold PySem.W.kitOne PySem.W.kitCls
  rw [if_neg e1]
  show (if ((PySem.W.clsIn K C).isSome && PySem.W.typeIn K (.ref C) == some (.type "type")) = true then PySem.W.subIn K (.type s) (.ref C) else none) = some b
  rw [if_pos e2]
  exact h
theorem k1_ve {K : PySem.W.Frag} {C : Addr} {b : Bool} (h : PySem.W.subIn K (.ref C) (.type "ValueError") = some b) : PySem.W.kitOne K (.ref C) (.type "ValueError") = some b := by
  have e1 : ¬ (Value.ref C == Value.type "ValueError") = true := fun z => Value.noConfusion (beq_iff_eq.mp z)
  have e2 : PySem.W.kitMeta "ValueError" = true := by decide +kernel
  unfold PySem.W.kitOne PySem.W.kitCls
  rw [if_neg e1]
  show (if PySem.W.kitMeta "ValueError" = true then PySem.W.subIn K (.ref C) (.type "ValueError") else none) = some b
  rw [if_pos e2]
  exact h
theorem all_mk {P : Program} {w : World} {K : PySem.W.Frag} {h : Heap} {mg : Str → Option Value} {fa CS CI CM : Addr} (X : K.In h) (G : h.Ns mainGlobals mg) (hfa : mg "law" = some (.ref fa))
    {nm q : Str} {N : Addr} {bs : List Value} {sn : List Str} {sub : List Value} {ab : Bool} {col : Option Bool} {dd : Option Addr} {m0 m1 m2 m3 m5 : Option Value}
    {f_kept f_InvalidNumber_init f_Share_init f_Share_add f_Share_sub f_Share_mul f_Share_eq f_Share_by f_Share_is_below f_lesser_of f_sum_of f_law_integer f_law_flag f_law_gcd f_law_start f_law_draw f_law_wide f_law_is f_law_number f_law_fraction f_law_second f_law_signed f_law_zero f_law_quotient f_law_pair f_law_unlike f_law_no_under f_law_row f_law_body f_law : Addr} {od_kept an_kept od_InvalidNumber_init an_InvalidNumber_init od_Share_init an_Share_init od_Share_add an_Share_add od_Share_sub an_Share_sub od_Share_mul an_Share_mul od_Share_eq an_Share_eq od_Share_by an_Share_by od_Share_is_below an_Share_is_below od_lesser_of an_lesser_of od_sum_of an_sum_of od_law_integer an_law_integer od_law_flag an_law_flag od_law_gcd an_law_gcd od_law_start an_law_start od_law_draw an_law_draw od_law_wide an_law_wide od_law_is an_law_is od_law_number an_law_number od_law_fraction an_law_fraction od_law_second an_law_second od_law_signed an_law_signed od_law_zero an_law_zero od_law_quotient an_law_quotient od_law_pair an_law_pair od_law_unlike an_law_unlike od_law_no_under an_law_no_under od_law_row an_law_row od_law_body an_law_body od_law an_law : Option Addr} {sl_kept sl_InvalidNumber_init sl_Share_init sl_Share_add sl_Share_sub sl_Share_mul sl_Share_eq sl_Share_by sl_Share_is_below sl_lesser_of sl_sum_of sl_law_integer sl_law_flag sl_law_gcd sl_law_start sl_law_draw sl_law_wide sl_law_is sl_law_number sl_law_fraction sl_law_second sl_law_signed sl_law_zero sl_law_quotient sl_law_pair sl_law_unlike sl_law_no_under sl_law_row sl_law_body sl_law : Array (Option Value)} {oc_kept kV_kept dc_kept pm_kept cd_kept ct_kept oc_InvalidNumber_init kV_InvalidNumber_init dc_InvalidNumber_init pm_InvalidNumber_init cd_InvalidNumber_init ct_InvalidNumber_init oc_Share_init kV_Share_init dc_Share_init pm_Share_init cd_Share_init ct_Share_init oc_Share_add kV_Share_add dc_Share_add pm_Share_add cd_Share_add ct_Share_add oc_Share_sub kV_Share_sub dc_Share_sub pm_Share_sub cd_Share_sub ct_Share_sub oc_Share_mul kV_Share_mul dc_Share_mul pm_Share_mul cd_Share_mul ct_Share_mul oc_Share_eq kV_Share_eq dc_Share_eq pm_Share_eq cd_Share_eq ct_Share_eq oc_Share_by kV_Share_by dc_Share_by pm_Share_by cd_Share_by ct_Share_by oc_Share_is_below kV_Share_is_below dc_Share_is_below pm_Share_is_below cd_Share_is_below ct_Share_is_below oc_lesser_of kV_lesser_of dc_lesser_of pm_lesser_of cd_lesser_of ct_lesser_of oc_sum_of kV_sum_of dc_sum_of pm_sum_of cd_sum_of ct_sum_of oc_law_integer kV_law_integer dc_law_integer pm_law_integer cd_law_integer ct_law_integer oc_law_flag kV_law_flag dc_law_flag pm_law_flag cd_law_flag ct_law_flag oc_law_gcd kV_law_gcd dc_law_gcd pm_law_gcd cd_law_gcd ct_law_gcd oc_law_start kV_law_start dc_law_start pm_law_start cd_law_start ct_law_start oc_law_draw kV_law_draw dc_law_draw pm_law_draw cd_law_draw ct_law_draw oc_law_wide kV_law_wide dc_law_wide pm_law_wide cd_law_wide ct_law_wide oc_law_is kV_law_is dc_law_is pm_law_is cd_law_is ct_law_is oc_law_number kV_law_number dc_law_number pm_law_number cd_law_number ct_law_number oc_law_fraction kV_law_fraction dc_law_fraction pm_law_fraction cd_law_fraction ct_law_fraction oc_law_second kV_law_second dc_law_second pm_law_second cd_law_second ct_law_second oc_law_signed kV_law_signed dc_law_signed pm_law_signed cd_law_signed ct_law_signed oc_law_zero kV_law_zero dc_law_zero pm_law_zero cd_law_zero ct_law_zero oc_law_quotient kV_law_quotient dc_law_quotient pm_law_quotient cd_law_quotient ct_law_quotient oc_law_pair kV_law_pair dc_law_pair pm_law_pair cd_law_pair ct_law_pair oc_law_unlike kV_law_unlike dc_law_unlike pm_law_unlike cd_law_unlike ct_law_unlike oc_law_no_under kV_law_no_under dc_law_no_under pm_law_no_under cd_law_no_under ct_law_no_under oc_law_row kV_law_row dc_law_row pm_law_row cd_law_row ct_law_row oc_law_body kV_law_body dc_law_body pm_law_body cd_law_body ct_law_body oc_law kV_law dc_law pm_law cd_law ct_law : Value}
    (aCS : PySem.W.nsIn K mainGlobals "Share" = some (some (.ref CS)))
    (aCI : PySem.W.nsIn K mainGlobals "InvalidNumber" = some (some (.ref CI)))
    (a_kept : PySem.W.nsIn K mainGlobals "_kept" = some (some (.ref f_kept)))
    (l_kept : K.lookup f_kept = some ⟨oc_kept, od_kept, .func (PySem.W.fnOf "_kept" "_kept" (defArgs s_kept) (defBody s_kept) (defScope s_kept) .none kV_kept dc_kept pm_kept an_kept cd_kept ct_kept), sl_kept⟩)
    (c_kept : PySem.W.codeIn K cd_kept "_kept" = true)
    (k_kept : PySem.W.keepIn K (.ref f_kept) = true)
    (a_InvalidNumber_init : PySem.W.findIn K (.ref CI) "__init__" = some (some (.ref f_InvalidNumber_init)))
    (i_InvalidNumber_init : PySem.W.isFn K (.ref f_InvalidNumber_init) = true)
    (l_InvalidNumber_init : K.lookup f_InvalidNumber_init = some ⟨oc_InvalidNumber_init, od_InvalidNumber_init, .func (PySem.W.fnOf "__init__" "InvalidNumber.__init__" (defArgs s_InvalidNumber_init) (defBody s_InvalidNumber_init) (defScope s_InvalidNumber_init) .none kV_InvalidNumber_init dc_InvalidNumber_init pm_InvalidNumber_init an_InvalidNumber_init cd_InvalidNumber_init ct_InvalidNumber_init), sl_InvalidNumber_init⟩)
    (c_InvalidNumber_init : PySem.W.codeIn K cd_InvalidNumber_init "InvalidNumber.__init__" = true)
    (k_InvalidNumber_init : PySem.W.keepIn K (.ref f_InvalidNumber_init) = true)
    (a_Share_init : PySem.W.findIn K (.ref CS) "__init__" = some (some (.ref f_Share_init)))
    (i_Share_init : PySem.W.isFn K (.ref f_Share_init) = true)
    (l_Share_init : K.lookup f_Share_init = some ⟨oc_Share_init, od_Share_init, .func (PySem.W.fnOf "__init__" "Share.__init__" (defArgs s_Share_init) (defBody s_Share_init) (defScope s_Share_init) .none kV_Share_init dc_Share_init pm_Share_init an_Share_init cd_Share_init ct_Share_init), sl_Share_init⟩)
    (c_Share_init : PySem.W.codeIn K cd_Share_init "Share.__init__" = true)
    (k_Share_init : PySem.W.keepIn K (.ref f_Share_init) = true)
    (a_Share_add : PySem.W.findIn K (.ref CS) "__add__" = some (some (.ref f_Share_add)))
    (i_Share_add : PySem.W.isFn K (.ref f_Share_add) = true)
    (l_Share_add : K.lookup f_Share_add = some ⟨oc_Share_add, od_Share_add, .func (PySem.W.fnOf "__add__" "Share.__add__" (defArgs s_Share_add) (defBody s_Share_add) (defScope s_Share_add) .none kV_Share_add dc_Share_add pm_Share_add an_Share_add cd_Share_add ct_Share_add), sl_Share_add⟩)
    (c_Share_add : PySem.W.codeIn K cd_Share_add "Share.__add__" = true)
    (k_Share_add : PySem.W.keepIn K (.ref f_Share_add) = true)
    (a_Share_sub : PySem.W.findIn K (.ref CS) "__sub__" = some (some (.ref f_Share_sub)))
    (i_Share_sub : PySem.W.isFn K (.ref f_Share_sub) = true)
    (l_Share_sub : K.lookup f_Share_sub = some ⟨oc_Share_sub, od_Share_sub, .func (PySem.W.fnOf "__sub__" "Share.__sub__" (defArgs s_Share_sub) (defBody s_Share_sub) (defScope s_Share_sub) .none kV_Share_sub dc_Share_sub pm_Share_sub an_Share_sub cd_Share_sub ct_Share_sub), sl_Share_sub⟩)
    (c_Share_sub : PySem.W.codeIn K cd_Share_sub "Share.__sub__" = true)
    (k_Share_sub : PySem.W.keepIn K (.ref f_Share_sub) = true)
    (a_Share_mul : PySem.W.findIn K (.ref CS) "__mul__" = some (some (.ref f_Share_mul)))
    (i_Share_mul : PySem.W.isFn K (.ref f_Share_mul) = true)
    (l_Share_mul : K.lookup f_Share_mul = some ⟨oc_Share_mul, od_Share_mul, .func (PySem.W.fnOf "__mul__" "Share.__mul__" (defArgs s_Share_mul) (defBody s_Share_mul) (defScope s_Share_mul) .none kV_Share_mul dc_Share_mul pm_Share_mul an_Share_mul cd_Share_mul ct_Share_mul), sl_Share_mul⟩)
    (c_Share_mul : PySem.W.codeIn K cd_Share_mul "Share.__mul__" = true)
    (k_Share_mul : PySem.W.keepIn K (.ref f_Share_mul) = true)
    (a_Share_eq : PySem.W.findIn K (.ref CS) "__eq__" = some (some (.ref f_Share_eq)))
    (i_Share_eq : PySem.W.isFn K (.ref f_Share_eq) = true)
    (l_Share_eq : K.lookup f_Share_eq = some ⟨oc_Share_eq, od_Share_eq, .func (PySem.W.fnOf "__eq__" "Share.__eq__" (defArgs s_Share_eq) (defBody s_Share_eq) (defScope s_Share_eq) .none kV_Share_eq dc_Share_eq pm_Share_eq an_Share_eq cd_Share_eq ct_Share_eq), sl_Share_eq⟩)
    (c_Share_eq : PySem.W.codeIn K cd_Share_eq "Share.__eq__" = true)
    (k_Share_eq : PySem.W.keepIn K (.ref f_Share_eq) = true)
    (a_Share_by : PySem.W.findIn K (.ref CS) "by" = some (some (.ref f_Share_by)))
    (i_Share_by : PySem.W.isFn K (.ref f_Share_by) = true)
    (l_Share_by : K.lookup f_Share_by = some ⟨oc_Share_by, od_Share_by, .func (PySem.W.fnOf "by" "Share.by" (defArgs s_Share_by) (defBody s_Share_by) (defScope s_Share_by) .none kV_Share_by dc_Share_by pm_Share_by an_Share_by cd_Share_by ct_Share_by), sl_Share_by⟩)
    (c_Share_by : PySem.W.codeIn K cd_Share_by "Share.by" = true)
    (k_Share_by : PySem.W.keepIn K (.ref f_Share_by) = true)
    (a_Share_is_below : PySem.W.findIn K (.ref CS) "is_below" = some (some (.ref f_Share_is_below)))
    (i_Share_is_below : PySem.W.isFn K (.ref f_Share_is_below) = true)
    (l_Share_is_below : K.lookup f_Share_is_below = some ⟨oc_Share_is_below, od_Share_is_below, .func (PySem.W.fnOf "is_below" "Share.is_below" (defArgs s_Share_is_below) (defBody s_Share_is_below) (defScope s_Share_is_below) .none kV_Share_is_below dc_Share_is_below pm_Share_is_below an_Share_is_below cd_Share_is_below ct_Share_is_below), sl_Share_is_below⟩)
    (c_Share_is_below : PySem.W.codeIn K cd_Share_is_below "Share.is_below" = true)
    (k_Share_is_below : PySem.W.keepIn K (.ref f_Share_is_below) = true)
    (a_lesser_of : PySem.W.nsIn K mainGlobals "lesser_of" = some (some (.ref f_lesser_of)))
    (l_lesser_of : K.lookup f_lesser_of = some ⟨oc_lesser_of, od_lesser_of, .func (PySem.W.fnOf "lesser_of" "lesser_of" (defArgs s_lesser_of) (defBody s_lesser_of) (defScope s_lesser_of) .none kV_lesser_of dc_lesser_of pm_lesser_of an_lesser_of cd_lesser_of ct_lesser_of), sl_lesser_of⟩)
    (c_lesser_of : PySem.W.codeIn K cd_lesser_of "lesser_of" = true)
    (k_lesser_of : PySem.W.keepIn K (.ref f_lesser_of) = true)
    (a_sum_of : PySem.W.nsIn K mainGlobals "sum_of" = some (some (.ref f_sum_of)))
    (l_sum_of : K.lookup f_sum_of = some ⟨oc_sum_of, od_sum_of, .func (PySem.W.fnOf "sum_of" "sum_of" (defArgs s_sum_of) (defBody s_sum_of) (defScope s_sum_of) .none kV_sum_of dc_sum_of pm_sum_of an_sum_of cd_sum_of ct_sum_of), sl_sum_of⟩)
    (c_sum_of : PySem.W.codeIn K cd_sum_of "sum_of" = true)
    (k_sum_of : PySem.W.keepIn K (.ref f_sum_of) = true)
    (a_law_integer : PySem.W.nsIn K mainGlobals "_law_integer" = some (some (.ref f_law_integer)))
    (l_law_integer : K.lookup f_law_integer = some ⟨oc_law_integer, od_law_integer, .func (PySem.W.fnOf "_law_integer" "_law_integer" (defArgs s_law_integer) (defBody s_law_integer) (defScope s_law_integer) .none kV_law_integer dc_law_integer pm_law_integer an_law_integer cd_law_integer ct_law_integer), sl_law_integer⟩)
    (c_law_integer : PySem.W.codeIn K cd_law_integer "_law_integer" = true)
    (k_law_integer : PySem.W.keepIn K (.ref f_law_integer) = true)
    (a_law_flag : PySem.W.nsIn K mainGlobals "_law_flag" = some (some (.ref f_law_flag)))
    (l_law_flag : K.lookup f_law_flag = some ⟨oc_law_flag, od_law_flag, .func (PySem.W.fnOf "_law_flag" "_law_flag" (defArgs s_law_flag) (defBody s_law_flag) (defScope s_law_flag) .none kV_law_flag dc_law_flag pm_law_flag an_law_flag cd_law_flag ct_law_flag), sl_law_flag⟩)
    (c_law_flag : PySem.W.codeIn K cd_law_flag "_law_flag" = true)
    (k_law_flag : PySem.W.keepIn K (.ref f_law_flag) = true)
    (a_law_gcd : PySem.W.nsIn K mainGlobals "_law_gcd" = some (some (.ref f_law_gcd)))
    (l_law_gcd : K.lookup f_law_gcd = some ⟨oc_law_gcd, od_law_gcd, .func (PySem.W.fnOf "_law_gcd" "_law_gcd" (defArgs s_law_gcd) (defBody s_law_gcd) (defScope s_law_gcd) .none kV_law_gcd dc_law_gcd pm_law_gcd an_law_gcd cd_law_gcd ct_law_gcd), sl_law_gcd⟩)
    (c_law_gcd : PySem.W.codeIn K cd_law_gcd "_law_gcd" = true)
    (k_law_gcd : PySem.W.keepIn K (.ref f_law_gcd) = true)
    (a_law_start : PySem.W.nsIn K mainGlobals "_law_start" = some (some (.ref f_law_start)))
    (l_law_start : K.lookup f_law_start = some ⟨oc_law_start, od_law_start, .func (PySem.W.fnOf "_law_start" "_law_start" (defArgs s_law_start) (defBody s_law_start) (defScope s_law_start) .none kV_law_start dc_law_start pm_law_start an_law_start cd_law_start ct_law_start), sl_law_start⟩)
    (c_law_start : PySem.W.codeIn K cd_law_start "_law_start" = true)
    (k_law_start : PySem.W.keepIn K (.ref f_law_start) = true)
    (a_law_draw : PySem.W.nsIn K mainGlobals "_law_draw" = some (some (.ref f_law_draw)))
    (l_law_draw : K.lookup f_law_draw = some ⟨oc_law_draw, od_law_draw, .func (PySem.W.fnOf "_law_draw" "_law_draw" (defArgs s_law_draw) (defBody s_law_draw) (defScope s_law_draw) .none kV_law_draw dc_law_draw pm_law_draw an_law_draw cd_law_draw ct_law_draw), sl_law_draw⟩)
    (c_law_draw : PySem.W.codeIn K cd_law_draw "_law_draw" = true)
    (k_law_draw : PySem.W.keepIn K (.ref f_law_draw) = true)
    (a_law_wide : PySem.W.nsIn K mainGlobals "_law_wide" = some (some (.ref f_law_wide)))
    (l_law_wide : K.lookup f_law_wide = some ⟨oc_law_wide, od_law_wide, .func (PySem.W.fnOf "_law_wide" "_law_wide" (defArgs s_law_wide) (defBody s_law_wide) (defScope s_law_wide) .none kV_law_wide dc_law_wide pm_law_wide an_law_wide cd_law_wide ct_law_wide), sl_law_wide⟩)
    (c_law_wide : PySem.W.codeIn K cd_law_wide "_law_wide" = true)
    (k_law_wide : PySem.W.keepIn K (.ref f_law_wide) = true)
    (a_law_is : PySem.W.nsIn K mainGlobals "_law_is" = some (some (.ref f_law_is)))
    (l_law_is : K.lookup f_law_is = some ⟨oc_law_is, od_law_is, .func (PySem.W.fnOf "_law_is" "_law_is" (defArgs s_law_is) (defBody s_law_is) (defScope s_law_is) .none kV_law_is dc_law_is pm_law_is an_law_is cd_law_is ct_law_is), sl_law_is⟩)
    (c_law_is : PySem.W.codeIn K cd_law_is "_law_is" = true)
    (k_law_is : PySem.W.keepIn K (.ref f_law_is) = true)
    (a_law_number : PySem.W.nsIn K mainGlobals "_law_number" = some (some (.ref f_law_number)))
    (l_law_number : K.lookup f_law_number = some ⟨oc_law_number, od_law_number, .func (PySem.W.fnOf "_law_number" "_law_number" (defArgs s_law_number) (defBody s_law_number) (defScope s_law_number) .none kV_law_number dc_law_number pm_law_number an_law_number cd_law_number ct_law_number), sl_law_number⟩)
    (c_law_number : PySem.W.codeIn K cd_law_number "_law_number" = true)
    (k_law_number : PySem.W.keepIn K (.ref f_law_number) = true)
    (a_law_fraction : PySem.W.nsIn K mainGlobals "_law_fraction" = some (some (.ref f_law_fraction)))
    (l_law_fraction : K.lookup f_law_fraction = some ⟨oc_law_fraction, od_law_fraction, .func (PySem.W.fnOf "_law_fraction" "_law_fraction" (defArgs s_law_fraction) (defBody s_law_fraction) (defScope s_law_fraction) .none kV_law_fraction dc_law_fraction pm_law_fraction an_law_fraction cd_law_fraction ct_law_fraction), sl_law_fraction⟩)
    (c_law_fraction : PySem.W.codeIn K cd_law_fraction "_law_fraction" = true)
    (k_law_fraction : PySem.W.keepIn K (.ref f_law_fraction) = true)
    (a_law_second : PySem.W.nsIn K mainGlobals "_law_second" = some (some (.ref f_law_second)))
    (l_law_second : K.lookup f_law_second = some ⟨oc_law_second, od_law_second, .func (PySem.W.fnOf "_law_second" "_law_second" (defArgs s_law_second) (defBody s_law_second) (defScope s_law_second) .none kV_law_second dc_law_second pm_law_second an_law_second cd_law_second ct_law_second), sl_law_second⟩)
    (c_law_second : PySem.W.codeIn K cd_law_second "_law_second" = true)
    (k_law_second : PySem.W.keepIn K (.ref f_law_second) = true)
    (a_law_signed : PySem.W.nsIn K mainGlobals "_law_signed" = some (some (.ref f_law_signed)))
    (l_law_signed : K.lookup f_law_signed = some ⟨oc_law_signed, od_law_signed, .func (PySem.W.fnOf "_law_signed" "_law_signed" (defArgs s_law_signed) (defBody s_law_signed) (defScope s_law_signed) .none kV_law_signed dc_law_signed pm_law_signed an_law_signed cd_law_signed ct_law_signed), sl_law_signed⟩)
    (c_law_signed : PySem.W.codeIn K cd_law_signed "_law_signed" = true)
    (k_law_signed : PySem.W.keepIn K (.ref f_law_signed) = true)
    (a_law_zero : PySem.W.nsIn K mainGlobals "_law_zero" = some (some (.ref f_law_zero)))
    (l_law_zero : K.lookup f_law_zero = some ⟨oc_law_zero, od_law_zero, .func (PySem.W.fnOf "_law_zero" "_law_zero" (defArgs s_law_zero) (defBody s_law_zero) (defScope s_law_zero) .none kV_law_zero dc_law_zero pm_law_zero an_law_zero cd_law_zero ct_law_zero), sl_law_zero⟩)
    (c_law_zero : PySem.W.codeIn K cd_law_zero "_law_zero" = true)
    (k_law_zero : PySem.W.keepIn K (.ref f_law_zero) = true)
    (a_law_quotient : PySem.W.nsIn K mainGlobals "_law_quotient" = some (some (.ref f_law_quotient)))
    (l_law_quotient : K.lookup f_law_quotient = some ⟨oc_law_quotient, od_law_quotient, .func (PySem.W.fnOf "_law_quotient" "_law_quotient" (defArgs s_law_quotient) (defBody s_law_quotient) (defScope s_law_quotient) .none kV_law_quotient dc_law_quotient pm_law_quotient an_law_quotient cd_law_quotient ct_law_quotient), sl_law_quotient⟩)
    (c_law_quotient : PySem.W.codeIn K cd_law_quotient "_law_quotient" = true)
    (k_law_quotient : PySem.W.keepIn K (.ref f_law_quotient) = true)
    (a_law_pair : PySem.W.nsIn K mainGlobals "_law_pair" = some (some (.ref f_law_pair)))
    (l_law_pair : K.lookup f_law_pair = some ⟨oc_law_pair, od_law_pair, .func (PySem.W.fnOf "_law_pair" "_law_pair" (defArgs s_law_pair) (defBody s_law_pair) (defScope s_law_pair) .none kV_law_pair dc_law_pair pm_law_pair an_law_pair cd_law_pair ct_law_pair), sl_law_pair⟩)
    (c_law_pair : PySem.W.codeIn K cd_law_pair "_law_pair" = true)
    (k_law_pair : PySem.W.keepIn K (.ref f_law_pair) = true)
    (a_law_unlike : PySem.W.nsIn K mainGlobals "_law_unlike" = some (some (.ref f_law_unlike)))
    (l_law_unlike : K.lookup f_law_unlike = some ⟨oc_law_unlike, od_law_unlike, .func (PySem.W.fnOf "_law_unlike" "_law_unlike" (defArgs s_law_unlike) (defBody s_law_unlike) (defScope s_law_unlike) .none kV_law_unlike dc_law_unlike pm_law_unlike an_law_unlike cd_law_unlike ct_law_unlike), sl_law_unlike⟩)
    (c_law_unlike : PySem.W.codeIn K cd_law_unlike "_law_unlike" = true)
    (k_law_unlike : PySem.W.keepIn K (.ref f_law_unlike) = true)
    (a_law_no_under : PySem.W.nsIn K mainGlobals "_law_no_under" = some (some (.ref f_law_no_under)))
    (l_law_no_under : K.lookup f_law_no_under = some ⟨oc_law_no_under, od_law_no_under, .func (PySem.W.fnOf "_law_no_under" "_law_no_under" (defArgs s_law_no_under) (defBody s_law_no_under) (defScope s_law_no_under) .none kV_law_no_under dc_law_no_under pm_law_no_under an_law_no_under cd_law_no_under ct_law_no_under), sl_law_no_under⟩)
    (c_law_no_under : PySem.W.codeIn K cd_law_no_under "_law_no_under" = true)
    (k_law_no_under : PySem.W.keepIn K (.ref f_law_no_under) = true)
    (a_law_row : PySem.W.nsIn K mainGlobals "_law_row" = some (some (.ref f_law_row)))
    (l_law_row : K.lookup f_law_row = some ⟨oc_law_row, od_law_row, .func (PySem.W.fnOf "_law_row" "_law_row" (defArgs s_law_row) (defBody s_law_row) (defScope s_law_row) .none kV_law_row dc_law_row pm_law_row an_law_row cd_law_row ct_law_row), sl_law_row⟩)
    (c_law_row : PySem.W.codeIn K cd_law_row "_law_row" = true)
    (k_law_row : PySem.W.keepIn K (.ref f_law_row) = true)
    (a_law_body : PySem.W.nsIn K mainGlobals "_law_body" = some (some (.ref f_law_body)))
    (l_law_body : K.lookup f_law_body = some ⟨oc_law_body, od_law_body, .func (PySem.W.fnOf "_law_body" "_law_body" (defArgs s_law_body) (defBody s_law_body) (defScope s_law_body) .none kV_law_body dc_law_body pm_law_body an_law_body cd_law_body ct_law_body), sl_law_body⟩)
    (c_law_body : PySem.W.codeIn K cd_law_body "_law_body" = true)
    (k_law_body : PySem.W.keepIn K (.ref f_law_body) = true)
    (a_law : PySem.W.nsIn K mainGlobals "law" = some (some (.ref f_law)))
    (l_law : K.lookup f_law = some ⟨oc_law, od_law, .func (PySem.W.fnOf "law" "law" (defArgs s_law) (defBody s_law) (defScope s_law) .none kV_law dc_law pm_law an_law cd_law ct_law), sl_law⟩)
    (c_law : PySem.W.codeIn K cd_law "law" = true)
    (k_law : PySem.W.keepIn K (.ref f_law) = true)
    (z_len : PySem.W.nsIn K mainGlobals "len" = some none)
    (z_abs : PySem.W.nsIn K mainGlobals "abs" = some none)
    (z_int : PySem.W.nsIn K mainGlobals "int" = some none)
    (z_bool : PySem.W.nsIn K mainGlobals "bool" = some none)
    (z_str : PySem.W.nsIn K mainGlobals "str" = some none)
    (z_list : PySem.W.nsIn K mainGlobals "list" = some none)
    (z_tuple : PySem.W.nsIn K mainGlobals "tuple" = some none)
    (z_ValueError : PySem.W.nsIn K mainGlobals "ValueError" = some none)
    (z_max : PySem.W.nsIn K mainGlobals "max" = some none)
    (z_isinstance : PySem.W.nsIn K mainGlobals "isinstance" = some none)
    (z_range : PySem.W.nsIn K mainGlobals "range" = some none)
    (z_zip : PySem.W.nsIn K mainGlobals "zip" = some none)
    (z_gcd : PySem.W.nsIn K mainGlobals "gcd" = some (some (.builtin "math.gcd")))
    (sf : PySem.W.selfFirst K CS = true)
    (pg : PySem.W.plainGet K CS Str.empty = true)
    (hd : PySem.W.hasDictIn K CS = true)
    (po : PySem.W.plainOver K CS = true)
    (sa : PySem.W.findIn K (.ref CS) "__setattr__" = some (some (.builtin "object.__setattr__")))
    (mk : PySem.W.makesIn K CS = true)
    (kc : PySem.W.keepIn K (.ref CS) = true)
    (nO : PySem.W.findIn K (.ref CS) "over" = some none)
    (nU : PySem.W.findIn K (.ref CS) "under" = some none)
    (iCls : PySem.W.findIn K (.ref CS) "__class__" = some (some (.builtin "object.__class__")))
    (iGet : PySem.W.specialIn K (.builtin "object.__class__") "__get__" = some (some (.builtin "getset_descriptor.__get__")))
    (iTak : PySem.W.takesIn K (.builtin "object.__class__") = some true)
    (iObj : PySem.W.mroIn K CS (.type "object") = some true)
    (tyS : PySem.W.typeIn K (.ref CS) = some (.type "type"))
    (kI : PySem.W.subIn K (.type "int") (.ref CS) = some false)
    (kT : PySem.W.subIn K (.type "tuple") (.ref CS) = some false)
    (kL : PySem.W.subIn K (.type "list") (.ref CS) = some false)
    (kX : PySem.W.subIn K (.type "str") (.ref CS) = some false)
    (nfS : PySem.W.notFirst K CS (.ref CS) = true)
    (nfI : PySem.W.notFirst K CS (.type "int") = true)
    (nfT : PySem.W.notFirst K CS (.type "tuple") = true)
    (nfL : PySem.W.notFirst K CS (.type "list") = true)
    (nfX : PySem.W.notFirst K CS (.type "str") = true)
    (ne : PySem.W.findIn K (.ref CS) "__ne__" = some (some (.builtin "object.__ne__")))
    (ob : PySem.W.subIn K (.ref CS) (.type "object") = some true)
    (xL : K.lookup CI = some (excClassObj nm q CI N bs [.ref CM, .type "ValueError", .type "Exception", .type "BaseException", .type "object"] true sn sub ab col dd m0 m1 m2 m3 m5 "ValueError.__new__"))
    (xsa : PySem.W.findIn K (.ref CI) "__setattr__" = some (some (.builtin "object.__setattr__")))
    (xex : PySem.W.subIn K (.ref CI) (.type "BaseException") = some true)
    (xty : PySem.W.typeIn K (.ref CI) = some (.type "type"))
    (xk : PySem.W.keepIn K (.ref CI) = true)
    (xno : PySem.W.findIn K (.ref CI) "number" = some none)
    (xga : PySem.W.findIn K (.ref CI) "__getattribute__" = some (some (.builtin "BaseException.__getattribute__")))
    (xgg : PySem.W.findIn K (.ref CI) "__getattr__" = some none)
    (xhd : PySem.W.hasDictIn K CI = true)
    (xcl : PySem.W.findIn K (.ref CI) "__class__" = some (some (.builtin "object.__class__")))
    (xmr : PySem.W.mroIn K CI (.type "object") = some true)
    (xti : PySem.W.typeIn K (.ref f_InvalidNumber_init) = some (.type "function"))
    (kVE : PySem.W.subIn K (.ref CI) (.type "ValueError") = some true)
    (xss : PySem.W.subIn K (.ref CI) (.ref CI) = some true) :
    ∃ fd : FuncData, (∀ (s : Shared) (v : Value), BindsTo s fd ⟨[v], []⟩ [("script", v)]) ∧ ∀ base : Heap, K.In base → base.Ns mainGlobals mg → FnOk P w K mg base CX0 10 fa fd ["script"] (sp_law K) := by
  have e := hfa.symm.trans (PySem.W.mg_of X G a_law)
  cases e
  have cS : Cls K CS := ⟨pg, hd, po, sa⟩
  have oX : OexC K CI := ⟨⟨nm, q, N, bs, _, sn, sub, ab, col, dd, m0, m1, m2, m3, m5, xL, rfl⟩, xsa, xex, xty, xk⟩
  have T : Txt K mg CS CI :=
    { len := PySem.W.mg_none_of X G z_len, abs := PySem.W.mg_none_of X G z_abs, int := PySem.W.mg_none_of X G z_int, bool := PySem.W.mg_none_of X G z_bool, str := PySem.W.mg_none_of X G z_str, list := PySem.W.mg_none_of X G z_list, tuple := PySem.W.mg_none_of X G z_tuple, ValueError := PySem.W.mg_none_of X G z_ValueError, max := PySem.W.mg_none_of X G z_max, isinstance := PySem.W.mg_none_of X G z_isinstance, range := PySem.W.mg_none_of X G z_range, zip := PySem.W.mg_none_of X G z_zip, gcd := PySem.W.mg_of X G z_gcd, mgShare := PySem.W.mg_of X G aCS, mgInvalidNumber := PySem.W.mg_of X G aCI, sf := sf, cl := cS, nO := nO, nU := nU, iCls := iCls, iGet := iGet, iTak := iTak, iObj := iObj, nfS := nfS, nfI := nfI, nfT := nfT, nfL := nfL, nfX := nfX, ne := ne, ob := ob, kSS := k1_self, kVE := k1_ve kVE, kI := k1_ref hd tyS kI, kT := k1_ref hd tyS kT, kL := k1_ref hd tyS kL, kX := k1_ref hd tyS kX, oex := oX, no_number := xno, xf := ⟨xga, xgg, xex, xhd⟩, excC := ⟨xga, xgg, xex, xhd, xcl, iGet, iTak, xmr⟩, exm := PySem.W.exm_ref xex xhd xty xss }
  have F_kept := fun_mk (st := s_kept) l_kept c_kept k_kept
  have b_kept := F_kept.binds (ps := ["value"]) fun _ _ _ _ _ _ us hl => match us, hl with | [_], _ => rfl
  have F_InvalidNumber_init := fun_mk (st := s_InvalidNumber_init) l_InvalidNumber_init c_InvalidNumber_init k_InvalidNumber_init
  have b_InvalidNumber_init := F_InvalidNumber_init.binds (ps := ["self", "number"]) fun _ _ _ _ _ _ us hl => match us, hl with | [_, _], _ => rfl
  have F_Share_init := fun_mk (st := s_Share_init) l_Share_init c_Share_init k_Share_init
  have b_Share_init := F_Share_init.binds (ps := ["self", "over", "under"]) fun _ _ _ _ _ _ us hl => match us, hl with | [_, _, _], _ => rfl
  have F_Share_add := fun_mk (st := s_Share_add) l_Share_add c_Share_add k_Share_add
  have b_Share_add := F_Share_add.binds (ps := ["self", "other"]) fun _ _ _ _ _ _ us hl => match us, hl with | [_, _], _ => rfl
  have F_Share_sub := fun_mk (st := s_Share_sub) l_Share_sub c_Share_sub k_Share_sub
  have b_Share_sub := F_Share_sub.binds (ps := ["self", "other"]) fun _ _ _ _ _ _ us hl => match us, hl with | [_, _], _ => rfl
  have F_Share_mul := fun_mk (st := s_Share_mul) l_Share_mul c_Share_mul k_Share_mul
  have b_Share_mul := F_Share_mul.binds (ps := ["self", "other"]) fun _ _ _ _ _ _ us hl => match us, hl with | [_, _], _ => rfl
  have F_Share_eq := fun_mk (st := s_Share_eq) l_Share_eq c_Share_eq k_Share_eq
  have b_Share_eq := F_Share_eq.binds (ps := ["self", "other"]) fun _ _ _ _ _ _ us hl => match us, hl with | [_, _], _ => rfl
  have F_Share_by := fun_mk (st := s_Share_by) l_Share_by c_Share_by k_Share_by
  have b_Share_by := F_Share_by.binds (ps := ["self", "other"]) fun _ _ _ _ _ _ us hl => match us, hl with | [_, _], _ => rfl
  have F_Share_is_below := fun_mk (st := s_Share_is_below) l_Share_is_below c_Share_is_below k_Share_is_below
  have b_Share_is_below := F_Share_is_below.binds (ps := ["self", "other"]) fun _ _ _ _ _ _ us hl => match us, hl with | [_, _], _ => rfl
  have F_lesser_of := fun_mk (st := s_lesser_of) l_lesser_of c_lesser_of k_lesser_of
  have b_lesser_of := F_lesser_of.binds (ps := ["share", "other"]) fun _ _ _ _ _ _ us hl => match us, hl with | [_, _], _ => rfl
  have F_sum_of := fun_mk (st := s_sum_of) l_sum_of c_sum_of k_sum_of
  have b_sum_of := F_sum_of.binds (ps := ["shares"]) fun _ _ _ _ _ _ us hl => match us, hl with | [_], _ => rfl
  have F_law_integer := fun_mk (st := s_law_integer) l_law_integer c_law_integer k_law_integer
  have b_law_integer := F_law_integer.binds (ps := ["value"]) fun _ _ _ _ _ _ us hl => match us, hl with | [_], _ => rfl
  have F_law_flag := fun_mk (st := s_law_flag) l_law_flag c_law_flag k_law_flag
  have b_law_flag := F_law_flag.binds (ps := ["got", "due"]) fun _ _ _ _ _ _ us hl => match us, hl with | [_, _], _ => rfl
  have F_law_gcd := fun_mk (st := s_law_gcd) l_law_gcd c_law_gcd k_law_gcd
  have b_law_gcd := F_law_gcd.binds (ps := ["one", "other"]) fun _ _ _ _ _ _ us hl => match us, hl with | [_, _], _ => rfl
  have F_law_start := fun_mk (st := s_law_start) l_law_start c_law_start k_law_start
  have b_law_start := F_law_start.binds (ps := ["script"]) fun _ _ _ _ _ _ us hl => match us, hl with | [_], _ => rfl
  have F_law_draw := fun_mk (st := s_law_draw) l_law_draw c_law_draw k_law_draw
  have b_law_draw := F_law_draw.binds (ps := ["state", "limit"]) fun _ _ _ _ _ _ us hl => match us, hl with | [_, _], _ => rfl
  have F_law_wide := fun_mk (st := s_law_wide) l_law_wide c_law_wide k_law_wide
  have b_law_wide := F_law_wide.binds (ps := ["state"]) fun _ _ _ _ _ _ us hl => match us, hl with | [_], _ => rfl
  have F_law_is := fun_mk (st := s_law_is) l_law_is c_law_is k_law_is
  have b_law_is := F_law_is.binds (ps := ["got", "over", "under"]) fun _ _ _ _ _ _ us hl => match us, hl with | [_, _, _], _ => rfl
  have F_law_number := fun_mk (st := s_law_number) l_law_number c_law_number k_law_number
  have b_law_number := F_law_number.binds (ps := ["state"]) fun _ _ _ _ _ _ us hl => match us, hl with | [_], _ => rfl
  have F_law_fraction := fun_mk (st := s_law_fraction) l_law_fraction c_law_fraction k_law_fraction
  have b_law_fraction := F_law_fraction.binds (ps := ["state"]) fun _ _ _ _ _ _ us hl => match us, hl with | [_], _ => rfl
  have F_law_second := fun_mk (st := s_law_second) l_law_second c_law_second k_law_second
  have b_law_second := F_law_second.binds (ps := ["state", "over", "under"]) fun _ _ _ _ _ _ us hl => match us, hl with | [_, _, _], _ => rfl
  have F_law_signed := fun_mk (st := s_law_signed) l_law_signed c_law_signed k_law_signed
  have b_law_signed := F_law_signed.binds (ps := ["over", "under"]) fun _ _ _ _ _ _ us hl => match us, hl with | [_, _], _ => rfl
  have F_law_zero := fun_mk (st := s_law_zero) l_law_zero c_law_zero k_law_zero
  have b_law_zero := F_law_zero.binds (ps := ["error"]) fun _ _ _ _ _ _ us hl => match us, hl with | [_], _ => rfl
  have F_law_quotient := fun_mk (st := s_law_quotient) l_law_quotient c_law_quotient k_law_quotient
  have b_law_quotient := F_law_quotient.binds (ps := ["first", "second", "one", "other"]) fun _ _ _ _ _ _ us hl => match us, hl with | [_, _, _, _], _ => rfl
  have F_law_pair := fun_mk (st := s_law_pair) l_law_pair c_law_pair k_law_pair
  have b_law_pair := F_law_pair.binds (ps := ["first", "second", "one", "other"]) fun _ _ _ _ _ _ us hl => match us, hl with | [_, _, _, _], _ => rfl
  have F_law_unlike := fun_mk (st := s_law_unlike) l_law_unlike c_law_unlike k_law_unlike
  have b_law_unlike := F_law_unlike.binds (ps := ["share", "over", "under"]) fun _ _ _ _ _ _ us hl => match us, hl with | [_, _, _], _ => rfl
  have F_law_no_under := fun_mk (st := s_law_no_under) l_law_no_under c_law_no_under k_law_no_under
  have b_law_no_under := F_law_no_under.binds (ps := ["over"]) fun _ _ _ _ _ _ us hl => match us, hl with | [_], _ => rfl
  have F_law_row := fun_mk (st := s_law_row) l_law_row c_law_row k_law_row
  have b_law_row := F_law_row.binds (ps := ["state", "first", "one"]) fun _ _ _ _ _ _ us hl => match us, hl with | [_, _, _], _ => rfl
  have F_law_body := fun_mk (st := s_law_body) l_law_body c_law_body k_law_body
  have b_law_body := F_law_body.binds (ps := ["script"]) fun _ _ _ _ _ _ us hl => match us, hl with | [_], _ => rfl
  have F_law := fun_mk (st := s_law) l_law c_law k_law
  have b_law := F_law.binds (ps := ["script"]) fun _ _ _ _ _ _ us hl => match us, hl with | [_], _ => rfl
  refine ⟨PySem.W.fnOf "law" "law" (defArgs s_law) (defBody s_law) (defScope s_law) .none kV_law dc_law pm_law an_law cd_law ct_law, fun s v => .of_eq rfl, fun base _ _ => ?_⟩
  have D_law_start : Df P w K mg base 1 "_law_start" s_law_start ["script"] (sp_law_start (K := K)) := ⟨⟨_, _, F_law_start, ok_law_start F_law_start T, PySem.W.mg_of X G a_law_start, b_law_start⟩⟩
  have D_law_draw : Df P w K mg base 1 "_law_draw" s_law_draw ["state", "limit"] sp_law_draw := ⟨⟨_, _, F_law_draw, ok_law_draw F_law_draw T, PySem.W.mg_of X G a_law_draw, b_law_draw⟩⟩
  have D_law_wide : Df P w K mg base 2 "_law_wide" s_law_wide ["state"] sp_law_wide := ⟨⟨_, _, F_law_wide, ok_law_wide F_law_wide T D_law_draw, PySem.W.mg_of X G a_law_wide, b_law_wide⟩⟩
  have D_law_number : Df P w K mg base 3 "_law_number" s_law_number ["state"] sp_law_number := ⟨⟨_, _, F_law_number, ok_law_number F_law_number T D_law_draw D_law_wide, PySem.W.mg_of X G a_law_number, b_law_number⟩⟩
  have D_law_fraction : Df P w K mg base 4 "_law_fraction" s_law_fraction ["state"] sp_law_fraction := ⟨⟨_, _, F_law_fraction, ok_law_fraction F_law_fraction T D_law_number D_law_draw, PySem.W.mg_of X G a_law_fraction, b_law_fraction⟩⟩
  have D_law_second : Df P w K mg base 5 "_law_second" s_law_second ["state", "over", "under"] sp_law_second := ⟨⟨_, _, F_law_second, ok_law_second F_law_second T D_law_draw D_law_fraction, PySem.W.mg_of X G a_law_second, b_law_second⟩⟩
  have D_kept : Df P w K mg base 1 "_kept" s_kept ["value"] sp_kept := ⟨⟨_, _, F_kept, ok_kept F_kept T, PySem.W.mg_of X G a_kept, b_kept⟩⟩
  have D_InvalidNumber_init : Dx P w K mg base 2 CI "InvalidNumber" "InvalidNumber.__init__" s_InvalidNumber_init ["self", "number"] (sp_InvalidNumber_init CI) := ⟨⟨_, _, F_InvalidNumber_init, ok_InvalidNumber_init F_InvalidNumber_init T D_kept, oX, a_InvalidNumber_init, xti, PySem.W.mg_of X G aCI, b_InvalidNumber_init⟩⟩
  have D_Share_init : Dk P w K mg base 4 CS "Share" "Share.__init__" s_Share_init ["self", "over", "under"] (sp_Share_init CS CI) := ⟨⟨_, _, F_Share_init, ok_Share_init F_Share_init T D_InvalidNumber_init, ⟨mk, a_Share_init, i_Share_init, kc⟩, PySem.W.mg_of X G aCS, b_Share_init⟩⟩
  have D_law_signed : Df P w K mg base 1 "_law_signed" s_law_signed ["over", "under"] sp_law_signed := ⟨⟨_, _, F_law_signed, ok_law_signed F_law_signed T, PySem.W.mg_of X G a_law_signed, b_law_signed⟩⟩
  have D_law_integer : Df P w K mg base 1 "_law_integer" s_law_integer ["value"] sp_law_integer := ⟨⟨_, _, F_law_integer, ok_law_integer F_law_integer T, PySem.W.mg_of X G a_law_integer, b_law_integer⟩⟩
  have D_law_gcd : Df P w K mg base 1 "_law_gcd" s_law_gcd ["one", "other"] sp_law_gcd := ⟨⟨_, _, F_law_gcd, ok_law_gcd F_law_gcd T, PySem.W.mg_of X G a_law_gcd, b_law_gcd⟩⟩
  have D_law_is : Df P w K mg base 2 "_law_is" s_law_is ["got", "over", "under"] (sp_law_is CS) := ⟨⟨_, _, F_law_is, ok_law_is F_law_is T D_law_integer D_law_gcd, PySem.W.mg_of X G a_law_is, b_law_is⟩⟩
  have D_Share_add : Dm P w K mg base 6 CS "__add__" "Share.__add__" s_Share_add ["self", "other"] (sp_Share_add CS) := ⟨⟨_, _, F_Share_add, ok_Share_add F_Share_add T D_Share_init, cS, ⟨a_Share_add, i_Share_add, k_Share_add⟩, b_Share_add⟩⟩
  have D_Share_mul : Dm P w K mg base 6 CS "__mul__" "Share.__mul__" s_Share_mul ["self", "other"] (sp_Share_mul CS) := ⟨⟨_, _, F_Share_mul, ok_Share_mul F_Share_mul T D_Share_init, cS, ⟨a_Share_mul, i_Share_mul, k_Share_mul⟩, b_Share_mul⟩⟩
  have D_Share_sub : Dm P w K mg base 6 CS "__sub__" "Share.__sub__" s_Share_sub ["self", "other"] (sp_Share_sub CS) := ⟨⟨_, _, F_Share_sub, ok_Share_sub F_Share_sub T D_Share_init, cS, ⟨a_Share_sub, i_Share_sub, k_Share_sub⟩, b_Share_sub⟩⟩
  have D_law_flag : Df P w K mg base 1 "_law_flag" s_law_flag ["got", "due"] sp_law_flag := ⟨⟨_, _, F_law_flag, ok_law_flag F_law_flag T, PySem.W.mg_of X G a_law_flag, b_law_flag⟩⟩
  have D_Share_is_below : Dm P w K mg base 1 CS "is_below" "Share.is_below" s_Share_is_below ["self", "other"] (sp_Share_is_below CS) := ⟨⟨_, _, F_Share_is_below, ok_Share_is_below F_Share_is_below T, cS, ⟨a_Share_is_below, i_Share_is_below, k_Share_is_below⟩, b_Share_is_below⟩⟩
  have D_Share_eq : Dm P w K mg base 1 CS "__eq__" "Share.__eq__" s_Share_eq ["self", "other"] (sp_Share_eq K CS) := ⟨⟨_, _, F_Share_eq, ok_Share_eq F_Share_eq T, cS, ⟨a_Share_eq, i_Share_eq, k_Share_eq⟩, b_Share_eq⟩⟩
  have D_lesser_of : Df P w K mg base 2 "lesser_of" s_lesser_of ["share", "other"] (sp_lesser_of CS) := ⟨⟨_, _, F_lesser_of, ok_lesser_of F_lesser_of T D_Share_is_below, PySem.W.mg_of X G a_lesser_of, b_lesser_of⟩⟩
  have D_Share_by : Dm P w K mg base 6 CS "by" "Share.by" s_Share_by ["self", "other"] (sp_Share_by CS CI) := ⟨⟨_, _, F_Share_by, ok_Share_by F_Share_by T D_Share_init, cS, ⟨a_Share_by, i_Share_by, k_Share_by⟩, b_Share_by⟩⟩
  have E_law_integer : De P w K mg base 1 "_law_integer" ["value"] spE_law_integer := ⟨⟨_, _, okE_law_integer F_law_integer T, PySem.W.mg_of X G a_law_integer, k_law_integer, b_law_integer⟩⟩
  have E_law_zero : De P w K mg base 2 "_law_zero" ["error"] (spE_law_zero CI) := ⟨⟨_, _, okE_law_zero F_law_zero T E_law_integer, PySem.W.mg_of X G a_law_zero, k_law_zero, b_law_zero⟩⟩
  have D_law_quotient : Df P w K mg base 7 "_law_quotient" s_law_quotient ["first", "second", "one", "other"] (sp_law_quotient CS) := ⟨⟨_, _, F_law_quotient, ok_law_quotient F_law_quotient T D_law_signed D_law_is D_Share_by E_law_zero, PySem.W.mg_of X G a_law_quotient, b_law_quotient⟩⟩
  have D_law_pair : Df P w K mg base 8 "_law_pair" s_law_pair ["first", "second", "one", "other"] (sp_law_pair CS) := ⟨⟨_, _, F_law_pair, ok_law_pair F_law_pair T D_law_is D_Share_add D_Share_mul D_Share_sub D_law_flag D_Share_is_below D_Share_eq D_lesser_of D_law_quotient, PySem.W.mg_of X G a_law_pair, b_law_pair⟩⟩
  have D_law_unlike : Df P w K mg base 3 "_law_unlike" s_law_unlike ["share", "over", "under"] (sp_law_unlike CS) := ⟨⟨_, _, F_law_unlike, ok_law_unlike F_law_unlike T D_law_flag D_Share_eq, PySem.W.mg_of X G a_law_unlike, b_law_unlike⟩⟩
  have D_law_no_under : Df P w K mg base 6 "_law_no_under" s_law_no_under ["over"] sp_law_no_under := ⟨⟨_, _, F_law_no_under, ok_law_no_under F_law_no_under T D_Share_init E_law_zero, PySem.W.mg_of X G a_law_no_under, b_law_no_under⟩⟩
  have D_sum_of : Df P w K mg base 7 "sum_of" s_sum_of ["shares"] (sp_sum_of K CS) := ⟨⟨_, _, F_sum_of, ok_sum_of F_sum_of T D_Share_init D_Share_add, PySem.W.mg_of X G a_sum_of, b_sum_of⟩⟩
  have D_sum_of_t : Df P w K mg base 7 "sum_of" s_sum_of_t ["shares"] (sp_sum_of_t K CS) := ⟨⟨_, _, F_sum_of, ok_sum_of_t F_sum_of T D_Share_init D_Share_add, PySem.W.mg_of X G a_sum_of, b_sum_of⟩⟩
  have D_law_row : Df P w K mg base 8 "_law_row" s_law_row ["state", "first", "one"] (sp_law_row CS) := ⟨⟨_, _, F_law_row, ok_law_row F_law_row T D_law_draw D_law_fraction D_Share_init D_law_signed D_law_is D_sum_of D_sum_of_t, PySem.W.mg_of X G a_law_row, b_law_row⟩⟩
  have D_law_body : Df P w K mg base 9 "_law_body" s_law_body ["script"] (sp_law_body K) := ⟨⟨_, _, F_law_body, ok_law_body F_law_body T D_law_start D_law_fraction D_law_second D_Share_init D_law_signed D_law_pair D_law_unlike D_law_no_under D_law_row, PySem.W.mg_of X G a_law_body, b_law_body⟩⟩
  exact ok_law F_law D_law_body
end K01
open PySem PySem.W PyProof.Rows
set_option maxRecDepth 100000 in
set_option maxHeartbeats 0 in
theorem PySem.Challenge.cw_marktruly_k01_shares_holds : PySem.Challenge.rw_marktruly_k01_shares.Holds := by
  w_on; o_law; k_head; (case hw => w_witness2)
  k_fill
  refine L2.walk_of (l := PySem.Challenge.rw_marktruly_k01_shares) (n := 63) (k := 10) (x := "script") (CX := fun _ => L2.CX0) (sp := fun w => K01.sp_law _) rfl (by decide) rfl ⟨rfl, by decide, by decide⟩ (fun w h Y => PySem.W.kIn_of Y) ?F (fun _ _ a ns hl _ hS => ⟨a, ns, rfl, hS, hl, fun _ => rfl⟩) (fun _ _ _ _ _ z => z)
  case F =>
    intro w mg fa h KX G hmg
    refine' K01.all_mk KX G hmg ?aCS ?aCI ?a_kept ?l_kept ?c_kept ?k_kept ?a_InvalidNumber_init ?i_InvalidNumber_init ?l_InvalidNumber_init ?c_InvalidNumber_init ?k_InvalidNumber_init ?a_Share_init ?i_Share_init ?l_Share_init ?c_Share_init ?k_Share_init ?a_Share_add ?i_Share_add ?l_Share_add ?c_Share_add ?k_Share_add ?a_Share_sub ?i_Share_sub ?l_Share_sub ?c_Share_sub ?k_Share_sub ?a_Share_mul ?i_Share_mul ?l_Share_mul ?c_Share_mul ?k_Share_mul ?a_Share_eq ?i_Share_eq ?l_Share_eq ?c_Share_eq ?k_Share_eq ?a_Share_by ?i_Share_by ?l_Share_by ?c_Share_by ?k_Share_by ?a_Share_is_below ?i_Share_is_below ?l_Share_is_below ?c_Share_is_below ?k_Share_is_below ?a_lesser_of ?l_lesser_of ?c_lesser_of ?k_lesser_of ?a_sum_of ?l_sum_of ?c_sum_of ?k_sum_of ?a_law_integer ?l_law_integer ?c_law_integer ?k_law_integer ?a_law_flag ?l_law_flag ?c_law_flag ?k_law_flag ?a_law_gcd ?l_law_gcd ?c_law_gcd ?k_law_gcd ?a_law_start ?l_law_start ?c_law_start ?k_law_start ?a_law_draw ?l_law_draw ?c_law_draw ?k_law_draw ?a_law_wide ?l_law_wide ?c_law_wide ?k_law_wide ?a_law_is ?l_law_is ?c_law_is ?k_law_is ?a_law_number ?l_law_number ?c_law_number ?k_law_number ?a_law_fraction ?l_law_fraction ?c_law_fraction ?k_law_fraction ?a_law_second ?l_law_second ?c_law_second ?k_law_second ?a_law_signed ?l_law_signed ?c_law_signed ?k_law_signed ?a_law_zero ?l_law_zero ?c_law_zero ?k_law_zero ?a_law_quotient ?l_law_quotient ?c_law_quotient ?k_law_quotient ?a_law_pair ?l_law_pair ?c_law_pair ?k_law_pair ?a_law_unlike ?l_law_unlike ?c_law_unlike ?k_law_unlike ?a_law_no_under ?l_law_no_under ?c_law_no_under ?k_law_no_under ?a_law_row ?l_law_row ?c_law_row ?k_law_row ?a_law_body ?l_law_body ?c_law_body ?k_law_body ?a_law ?l_law ?c_law ?k_law ?z_len ?z_abs ?z_int ?z_bool ?z_str ?z_list ?z_tuple ?z_ValueError ?z_max ?z_isinstance ?z_range ?z_zip ?z_gcd ?sf ?pg ?hd ?po ?sa ?mk ?kc ?nO ?nU ?iCls ?iGet ?iTak ?iObj ?tyS ?kI ?kT ?kL ?kX ?nfS ?nfI ?nfT ?nfL ?nfX ?ne ?ob ?xL ?xsa ?xex ?xty ?xk ?xno ?xga ?xgg ?xhd ?xcl ?xmr ?xti ?kVE ?xss
    (case aCS => k_is)
    (case aCI => k_is)
    (case a_kept => k_is)
    (case l_kept => k_is)
    (case c_kept => k_is)
    (case k_kept => k_is)
    (case a_InvalidNumber_init => k_is)
    (case i_InvalidNumber_init => k_is)
    (case l_InvalidNumber_init => k_is)
    (case c_InvalidNumber_init => k_is)
    (case k_InvalidNumber_init => k_is)
    (case a_Share_init => k_is)
    (case i_Share_init => k_is)
    (case l_Share_init => k_is)
    (case c_Share_init => k_is)
    (case k_Share_init => k_is)
    (case a_Share_add => k_is)
    (case i_Share_add => k_is)
    (case l_Share_add => k_is)
    (case c_Share_add => k_is)
    (case k_Share_add => k_is)
    (case a_Share_sub => k_is)
    (case i_Share_sub => k_is)
    (case l_Share_sub => k_is)
    (case c_Share_sub => k_is)
    (case k_Share_sub => k_is)
    (case a_Share_mul => k_is)
    (case i_Share_mul => k_is)
    (case l_Share_mul => k_is)
    (case c_Share_mul => k_is)
    (case k_Share_mul => k_is)
    (case a_Share_eq => k_is)
    (case i_Share_eq => k_is)
    (case l_Share_eq => k_is)
    (case c_Share_eq => k_is)
    (case k_Share_eq => k_is)
    (case a_Share_by => k_is)
    (case i_Share_by => k_is)
    (case l_Share_by => k_is)
    (case c_Share_by => k_is)
    (case k_Share_by => k_is)
    (case a_Share_is_below => k_is)
    (case i_Share_is_below => k_is)
    (case l_Share_is_below => k_is)
    (case c_Share_is_below => k_is)
    (case k_Share_is_below => k_is)
    (case a_lesser_of => k_is)
    (case l_lesser_of => k_is)
    (case c_lesser_of => k_is)
    (case k_lesser_of => k_is)
    (case a_sum_of => k_is)
    (case l_sum_of => k_is)
    (case c_sum_of => k_is)
    (case k_sum_of => k_is)
    (case a_law_integer => k_is)
    (case l_law_integer => k_is)
    (case c_law_integer => k_is)
    (case k_law_integer => k_is)
    (case a_law_flag => k_is)
    (case l_law_flag => k_is)
    (case c_law_flag => k_is)
    (case k_law_flag => k_is)
    (case a_law_gcd => k_is)
    (case l_law_gcd => k_is)
    (case c_law_gcd => k_is)
    (case k_law_gcd => k_is)
    (case a_law_start => k_is)
    (case l_law_start => k_is)
    (case c_law_start => k_is)
    (case k_law_start => k_is)
    (case a_law_draw => k_is)
    (case l_law_draw => k_is)
    (case c_law_draw => k_is)
    (case k_law_draw => k_is)
    (case a_law_wide => k_is)
    (case l_law_wide => k_is)
    (case c_law_wide => k_is)
    (case k_law_wide => k_is)
    (case a_law_is => k_is)
    (case l_law_is => k_is)
    (case c_law_is => k_is)
    (case k_law_is => k_is)
    (case a_law_number => k_is)
    (case l_law_number => k_is)
    (case c_law_number => k_is)
    (case k_law_number => k_is)
    (case a_law_fraction => k_is)
    (case l_law_fraction => k_is)
    (case c_law_fraction => k_is)
    (case k_law_fraction => k_is)
    (case a_law_second => k_is)
    (case l_law_second => k_is)
    (case c_law_second => k_is)
    (case k_law_second => k_is)
    (case a_law_signed => k_is)
    (case l_law_signed => k_is)
    (case c_law_signed => k_is)
    (case k_law_signed => k_is)
    (case a_law_zero => k_is)
    (case l_law_zero => k_is)
    (case c_law_zero => k_is)
    (case k_law_zero => k_is)
    (case a_law_quotient => k_is)
    (case l_law_quotient => k_is)
    (case c_law_quotient => k_is)
    (case k_law_quotient => k_is)
    (case a_law_pair => k_is)
    (case l_law_pair => k_is)
    (case c_law_pair => k_is)
    (case k_law_pair => k_is)
    (case a_law_unlike => k_is)
    (case l_law_unlike => k_is)
    (case c_law_unlike => k_is)
    (case k_law_unlike => k_is)
    (case a_law_no_under => k_is)
    (case l_law_no_under => k_is)
    (case c_law_no_under => k_is)
    (case k_law_no_under => k_is)
    (case a_law_row => k_is)
    (case l_law_row => k_is)
    (case c_law_row => k_is)
    (case k_law_row => k_is)
    (case a_law_body => k_is)
    (case l_law_body => k_is)
    (case c_law_body => k_is)
    (case k_law_body => k_is)
    (case a_law => k_is)
    (case l_law => k_is)
    (case c_law => k_is)
    (case k_law => k_is)
    (case z_len => k_is)
    (case z_abs => k_is)
    (case z_int => k_is)
    (case z_bool => k_is)
    (case z_str => k_is)
    (case z_list => k_is)
    (case z_tuple => k_is)
    (case z_ValueError => k_is)
    (case z_max => k_is)
    (case z_isinstance => k_is)
    (case z_range => k_is)
    (case z_zip => k_is)
    (case z_gcd => k_is)
    (case sf => k_is)
    (case pg => k_is)
    (case hd => k_is)
    (case po => k_is)
    (case sa => k_is)
    (case mk => k_is)
    (case kc => k_is)
    (case nO => k_is)
    (case nU => k_is)
    (case iCls => k_is)
    (case iGet => k_is)
    (case iTak => k_is)
    (case iObj => k_is)
    (case tyS => k_is)
    (case kI => k_is)
    (case kT => k_is)
    (case kL => k_is)
    (case kX => k_is)
    (case nfS => k_is)
    (case nfI => k_is)
    (case nfT => k_is)
    (case nfL => k_is)
    (case nfX => k_is)
    (case ne => k_is)
    (case ob => k_is)
    (case xL => k_is)
    (case xsa => k_is)
    (case xex => k_is)
    (case xty => k_is)
    (case xk => k_is)
    (case xno => k_is)
    (case xga => k_is)
    (case xgg => k_is)
    (case xhd => k_is)
    (case xcl => k_is)
    (case xmr => k_is)
    (case xti => k_is)
    (case kVE => k_is)
    (case xss => k_is)
