import PyProof.Rows.All
import Wide.All
import OpenK.AllK
import Wide.FinOn
import PyProof.InstNe
import HandS.ForMost
import HandS.ForExc
import HandS.Wide
import HandS.WideBits
import HandS.Gcd
import HandS.IsInst
import HandS.NoneIn
import HandS.Zip
import HandS.Defaults
import HandS.MakeKw
import HandS.MakeKwOnly
import HandS.OwnEq
import HandS.ExcInit
import HandS.ExcField
import HandS.ExcIs
import HandS.HotCalls
import KE.KExcIs
import KE.KDictSum
import HandS.Conv
import HandS.Iter
import HandS.DictComp
import KE.GoesMore
import KE.GoesEnum
import KE.GoesRaise
import HandS.ExcOwn
import HandS.DictEq
import HandS.List
import HandS.Comp
import HandS.SetBool
import HandS.SetTxt0
import HandS.SetKeys
import PyProof.TupleOfSeq
import KE.GoesZip
import HandS.TupSets
import HandS.Star
import HandS.SortOrd
import HandS.TupAny
import HandS.StrMore
import HandS.FStr
import HandS.Steps
import HandS.Codes
import PyProof.StrLawsAffix
import PySem.Challenge.RW_marktruly_k06_shares_written
set_option Elab.async false
set_option linter.all false
set_option maxRecDepth 100000
set_option maxHeartbeats 4000000
set_option synthInstance.maxHeartbeats 4000000
set_option synthInstance.maxSize 100000
namespace R9M
/-! ### Euclid's steps -/
/-- how often (a, b) is followed by (b, a % b) until b is 0 -/
def euc (a b : Nat) : Nat := if h : b = 0 then 0 else euc b (a % b) + 1
termination_by b
decreasing_by exact Nat.mod_lt _ (Nat.pos_of_ne_zero h)
theorem euc_zero (a : Nat) : euc a 0 = 0 := by rw [euc]; exact dif_pos rfl
theorem euc_step {a b : Nat} (h : b ≠ 0) : euc a b = euc b (a % b) + 1 := by
  rw [euc]; exact dif_neg h
/-- the number of binary digits -/
def bits (n : Nat) : Nat := if n = 0 then 0 else n.log2 + 1
theorem bits_half {m n : Nat} (h : 2 * m < n) : bits m + 1 ≤ bits n := by
  have hn : n ≠ 0 := by omega
  by_cases hm : m = 0
  · subst hm
    unfold bits
    rw [if_pos rfl, if_neg hn]; omega
  · unfold bits
    rw [if_neg hm, if_neg hn]
    have h1 : 2 ^ m.log2 ≤ m := Nat.log2_self_le hm
    have h2 : m.log2 + 1 ≤ n.log2 := (Nat.le_log2 hn).mpr (by rw [Nat.pow_succ]; omega)
    omega
theorem half_mod {b r : Nat} (hr : r ≠ 0) (h : r < b) : 2 * (b % r) < b := by
  have h0 : b % r < r := Nat.mod_lt _ (Nat.pos_of_ne_zero hr)
  by_cases c : 2 * r ≤ b
  · omega
  · have e : b % r = b - r := by
      rw [Nat.mod_eq_sub_mod (Nat.le_of_lt h)]
      exact Nat.mod_eq_of_lt (by omega)
    omega
theorem euc_le : ∀ (n a b : Nat), b ≤ n → euc a b ≤ 2 * bits b + 1 := by
  intro n
  induction n using Nat.strongRecOn with
  | ind n ih =>
    intro a b hb
    by_cases h : b = 0
    · rw [h, euc_zero]; omega
    · rw [euc_step h]
      by_cases h1 : a % b = 0
      · rw [h1, euc_zero]; omega
      · rw [euc_step h1]
        have l1 : a % b < b := Nat.mod_lt _ (Nat.pos_of_ne_zero h)
        have l2 := half_mod h1 l1
        have l3 := bits_half l2
        have l4 := ih (b % (a % b)) (by omega) (a % b) (b % (a % b)) (Nat.le_refl _)
        omega
theorem euc_turns (a b : Nat) : euc a b < 2 * (bits a + bits b) + 4 := by
  have := euc_le b a b (Nat.le_refl _)
  omega
theorem gcd_step (a b : Nat) : Nat.gcd b (a % b) = Nat.gcd a b := by
  rw [Nat.gcd_comm b, ← Nat.gcd_rec, Nat.gcd_comm]
/-! ### lowest terms -/
/-- n / d in lowest terms -/
def Low (n d : Int) : Prop := 0 < d ∧ Nat.gcd n.natAbs d.natAbs = 1
theorem low_of {n d o u : Int} (l : Low n d) (hu : 0 < u) (h : n * u = o * d) : n * (Nat.gcd o.natAbs u.natAbs : Nat) = o ∧ d * (Nat.gcd o.natAbs u.natAbs : Nat) = u := by
  obtain ⟨hd, g⟩ := l
  have e : n.natAbs * u.natAbs = o.natAbs * d.natAbs := by
    rw [← Int.natAbs_mul, ← Int.natAbs_mul, h]
  have dv : d.natAbs ∣ u.natAbs := by
    have c : Nat.Coprime d.natAbs n.natAbs := by
      show Nat.gcd _ _ = 1
      rw [Nat.gcd_comm]; exact g
    exact c.dvd_of_dvd_mul_left ⟨o.natAbs, by rw [e, Nat.mul_comm]⟩
  obtain ⟨k, hk⟩ := dv
  have dp : 0 < d.natAbs := by omega
  have ho : o.natAbs = n.natAbs * k := by
    have : o.natAbs * d.natAbs = (n.natAbs * k) * d.natAbs := by
      rw [← e, hk, Nat.mul_comm d.natAbs k, Nat.mul_assoc]
    exact Nat.eq_of_mul_eq_mul_right dp this
  have gk : Nat.gcd o.natAbs u.natAbs = k := by
    rw [ho, hk, Nat.gcd_mul_right, g, Nat.one_mul]
  rw [gk]
  have hku : u = d * (k : Int) := by
    have h1 : (u.natAbs : Int) = u := Int.natAbs_of_nonneg (Int.le_of_lt hu)
    have h2 : (d.natAbs : Int) = d := Int.natAbs_of_nonneg (Int.le_of_lt hd)
    rw [← h1, hk, Int.natCast_mul, h2]
  refine ⟨?_, hku.symm⟩
  have : (n * (k : Int)) * d = o * d := by
    rw [← h, hku, Int.mul_assoc, Int.mul_comm (k : Int) d]
  exact Int.eq_of_mul_eq_mul_right (by omega) this
/-- what Share's __init__ makes -/
def red (o u : Int) : Int × Int :=
  let g : Int := (Nat.gcd o.natAbs u.natAbs : Nat)
  let d := if u < 0 then -g else g
  (o.fdiv d, u.fdiv d)
theorem red_ok {o u : Int} (hu : u ≠ 0) : Low (red o u).1 (red o u).2 ∧ (red o u).1 * u = o * (red o u).2 ∧ (red o u).1.natAbs ≤ o.natAbs ∧ (red o u).2.natAbs ≤ u.natAbs := by
  have gp : 0 < Nat.gcd o.natAbs u.natAbs := Nat.gcd_pos_of_pos_right _ (by omega)
  obtain ⟨g, hg⟩ : ∃ g, Nat.gcd o.natAbs u.natAbs = g := ⟨_, rfl⟩
  have d1 : g ∣ o.natAbs := hg ▸ Nat.gcd_dvd_left _ _
  have d2 : g ∣ u.natAbs := hg ▸ Nat.gcd_dvd_right _ _
  rw [hg] at gp
  have z1 : (g : Int) ∣ o := Int.ofNat_dvd_left.mpr d1
  have z2 : (g : Int) ∣ u := Int.ofNat_dvd_left.mpr d2
  obtain ⟨a, ha⟩ := z1
  obtain ⟨b, hb⟩ := z2
  have gne : (g : Int) ≠ 0 := by omega
  have cop : Nat.gcd a.natAbs b.natAbs = 1 := by
    have : Nat.gcd o.natAbs u.natAbs = g * Nat.gcd a.natAbs b.natAbs := by
      rw [ha, hb, Int.natAbs_mul, Int.natAbs_mul, Int.natAbs_natCast, Nat.gcd_mul_left]
    rw [hg] at this
    have h2 : g * 1 = g * Nat.gcd a.natAbs b.natAbs := by rw [Nat.mul_one]; exact this
    exact (Nat.eq_of_mul_eq_mul_left gp h2).symm
  have bne : b ≠ 0 := fun z => hu (by rw [hb, z, Int.mul_zero])
  have la : a.natAbs ≤ o.natAbs := by
    rw [ha, Int.natAbs_mul, Int.natAbs_natCast]
    exact Nat.le_mul_of_pos_left _ gp
  have lb : b.natAbs ≤ u.natAbs := by
    rw [hb, Int.natAbs_mul, Int.natAbs_natCast]
    exact Nat.le_mul_of_pos_left _ gp
  by_cases c : u < 0
  · have e1 : red o u = (-a, -b) := by
      unfold red
      rw [hg]
      dsimp only
      rw [if_pos c]
      have x1 : o.fdiv (-(g : Int)) = -a := by
        rw [ha, show (g : Int) * a = (-(g : Int)) * (-a) by rw [Int.neg_mul_neg]]
        exact Int.mul_fdiv_cancel_left _ (by omega)
      have x2 : u.fdiv (-(g : Int)) = -b := by
        rw [hb, show (g : Int) * b = (-(g : Int)) * (-b) by rw [Int.neg_mul_neg]]
        exact Int.mul_fdiv_cancel_left _ (by omega)
      rw [x1, x2]
    rw [e1]
    have bneg : b < 0 := by
      apply Decidable.byContradiction
      intro z
      have z' : 0 ≤ (g : Int) * b := Int.mul_nonneg (by omega) (by omega)
      omega
    refine ⟨⟨by show 0 < -b; omega, by show Nat.gcd (-a).natAbs (-b).natAbs = 1; rw [Int.natAbs_neg, Int.natAbs_neg]; exact cop⟩, ?_, by show (-a).natAbs ≤ _; rw [Int.natAbs_neg]; exact la, by show (-b).natAbs ≤ _; rw [Int.natAbs_neg]; exact lb⟩
    show -a * u = o * -b
    rw [ha, hb, Int.neg_mul, Int.mul_neg, Int.mul_comm (g : Int) a, Int.mul_assoc]
  · have e1 : red o u = (a, b) := by
      unfold red
      rw [hg]
      dsimp only
      rw [if_neg c]
      have x1 : o.fdiv (g : Int) = a := by
        rw [ha]; exact Int.mul_fdiv_cancel_left _ (by omega)
      have x2 : u.fdiv (g : Int) = b := by
        rw [hb]; exact Int.mul_fdiv_cancel_left _ (by omega)
      rw [x1, x2]
    rw [e1]
    have bpos : 0 < b := by
      apply Decidable.byContradiction
      intro z
      have z' : (g : Int) * b ≤ 0 := Int.mul_nonpos_of_nonneg_of_nonpos (by omega) (by omega)
      omega
    refine ⟨⟨bpos, cop⟩, ?_, la, lb⟩
    show a * u = o * b
    rw [ha, hb, Int.mul_comm (g : Int) a, Int.mul_assoc]
end R9M
namespace R9M
/-! ### fractions: n / d stands for o / u -/
theorem can {k a b : Int} (hk : 0 < k) (h : k * a = k * b) : a = b := Int.eq_of_mul_eq_mul_left (by omega) h
theorem fr_add {n d m e o1 u1 o2 u2 n' d' : Int} (hd : 0 < d) (he : 0 < e) (h1 : n * u1 = o1 * d) (h2 : m * u2 = o2 * e) (h : n' * (d * e) = (n * e + m * d) * d') : n' * (u1 * u2) = (o1 * u2 + o2 * u1) * d' := by
  have : (d * e) * (n' * (u1 * u2)) = (d * e) * ((o1 * u2 + o2 * u1) * d') := by grind
  exact can (Int.mul_pos hd he) this
theorem fr_sub {n d m e o1 u1 o2 u2 n' d' : Int} (hd : 0 < d) (he : 0 < e) (h1 : n * u1 = o1 * d) (h2 : m * u2 = o2 * e) (h : n' * (d * e) = (n * e - m * d) * d') : n' * (u1 * u2) = (o1 * u2 - o2 * u1) * d' := by
  have : (d * e) * (n' * (u1 * u2)) = (d * e) * ((o1 * u2 - o2 * u1) * d') := by grind
  exact can (Int.mul_pos hd he) this
theorem fr_mul {n d m e o1 u1 o2 u2 n' d' : Int} (hd : 0 < d) (he : 0 < e) (h1 : n * u1 = o1 * d) (h2 : m * u2 = o2 * e) (h : n' * (d * e) = (n * m) * d') : n' * (u1 * u2) = (o1 * o2) * d' := by
  have : (d * e) * (n' * (u1 * u2)) = (d * e) * ((o1 * o2) * d') := by grind
  exact can (Int.mul_pos hd he) this
/-- the sign put above -/
def sgn (x y : Int) : Int × Int := if y < 0 then (0 - x, 0 - y) else (x, y)
theorem sgn_pos {x y : Int} (h : y ≠ 0) : 0 < (sgn x y).2 := by
  unfold sgn
  split
  · show 0 < 0 - y
    omega
  · show 0 < y
    omega
theorem sgn_eq {x y a b : Int} (h : a * y = x * b) : a * (sgn x y).2 = (sgn x y).1 * b := by
  unfold sgn
  split
  · show a * (0 - y) = (0 - x) * b
    grind
  · exact h
theorem sgn_abs (x y : Int) : (sgn x y).1.natAbs = x.natAbs ∧ (sgn x y).2.natAbs = y.natAbs := by
  unfold sgn
  split
  · exact ⟨by show (0 - x).natAbs = _; omega, by show (0 - y).natAbs = _; omega⟩
  · exact ⟨rfl, rfl⟩
theorem fr_by {n d m e o1 u1 o2 u2 n' d' : Int} (hd : 0 < d) (he : 0 < e) (h1 : n * u1 = o1 * d) (h2 : m * u2 = o2 * e) (h : n' * (d * m) = (n * e) * d') : n' * (sgn (o1 * u2) (u1 * o2)).2 = (sgn (o1 * u2) (u1 * o2)).1 * d' := by
  refine sgn_eq ?_
  have : (d * e) * (n' * (u1 * o2)) = (d * e) * ((o1 * u2) * d') := by grind
  exact can (Int.mul_pos hd he) this
theorem fr_zero {m e o2 u2 : Int} (he : 0 < e) (hu : 0 < u2) (h2 : m * u2 = o2 * e) : m = 0 ↔ o2 = 0 := by
  constructor
  · intro h
    rw [h, Int.zero_mul] at h2
    rcases Int.mul_eq_zero.mp h2.symm with z | z
    · exact z
    · omega
  · intro h
    rw [h, Int.zero_mul] at h2
    rcases Int.mul_eq_zero.mp h2 with z | z
    · exact z
    · omega
theorem fr_lt {n d m e o1 u1 o2 u2 : Int} (hd : 0 < d) (he : 0 < e) (p1 : 0 < u1) (p2 : 0 < u2) (h1 : n * u1 = o1 * d) (h2 : m * u2 = o2 * e) : n * e < m * d ↔ o1 * u2 < o2 * u1 := by
  have e1 : (u1 * u2) * (n * e) = (d * e) * (o1 * u2) := by grind
  have e2 : (u1 * u2) * (m * d) = (d * e) * (o2 * u1) := by grind
  have q1 : 0 < u1 * u2 := Int.mul_pos p1 p2
  have q2 : 0 < d * e := Int.mul_pos hd he
  constructor
  · intro h
    have := Int.mul_lt_mul_of_pos_left h q1
    rw [e1, e2] at this
    exact Int.lt_of_mul_lt_mul_left this (Int.le_of_lt q2)
  · intro h
    have := Int.mul_lt_mul_of_pos_left h q2
    rw [← e1, ← e2] at this
    exact Int.lt_of_mul_lt_mul_left this (Int.le_of_lt q1)
theorem fr_eq {n d m e o1 u1 o2 u2 : Int} (l1 : Low n d) (l2 : Low m e) (p1 : 0 < u1) (p2 : 0 < u2) (h1 : n * u1 = o1 * d) (h2 : m * u2 = o2 * e) : (n = m ∧ d = e) ↔ o1 * u2 = o2 * u1 := by
  have hd := l1.1
  have he := l2.1
  have e1 : (u1 * u2) * (n * e) = (d * e) * (o1 * u2) := by grind
  have e2 : (u1 * u2) * (m * d) = (d * e) * (o2 * u1) := by grind
  have q1 : 0 < u1 * u2 := Int.mul_pos p1 p2
  have q2 : 0 < d * e := Int.mul_pos hd he
  constructor
  · rintro ⟨a, b⟩
    refine can q2 ?_
    rw [← e1, ← e2, a, b]
  · intro h
    have x : n * e = m * d := by
      refine can q1 ?_
      rw [e1, e2, h]
    obtain ⟨y1, y2⟩ := low_of l1 he x
    rw [l2.2] at y1 y2
    omega
theorem low_le {n d o u : Int} (l : Low n d) (hu : 0 < u) (h : n * u = o * d) : n.natAbs ≤ o.natAbs ∧ d.natAbs ≤ u.natAbs := by
  obtain ⟨y1, y2⟩ := low_of l hu h
  have gp : 0 < Nat.gcd o.natAbs u.natAbs := Nat.gcd_pos_of_pos_right _ (by omega)
  generalize Nat.gcd o.natAbs u.natAbs = g at *
  constructor
  · rw [← y1, Int.natAbs_mul, Int.natAbs_natCast]
    exact Nat.le_mul_of_pos_right _ gp
  · rw [← y2, Int.natAbs_mul, Int.natAbs_natCast]
    exact Nat.le_mul_of_pos_right _ gp
end R9M
namespace R9M
open PySem PyProof.Rows
/-! ### texts in order: one row alone -/
def leS (a b : Str) : Prop := a.cps.toList ≤ b.cps.toList
theorem leS_anti {a b : Str} (h : leS a b) (g : leS b a) : a = b := by
  have e : a.cps.toList = b.cps.toList := List.le_antisymm h g
  cases a; cases b
  congr 1
  exact Array.toList_inj.mp e
theorem rise_pair : ∀ (l : List Str) (p : Str), risingS p l = true → (p :: l).Pairwise leS
  | [], p, _ => List.pairwise_singleton _ _
  | x :: r, p, h => by
    have h' : (!Spec.ltCps x.cps.toList p.cps.toList && risingS x r) = true := h
    obtain ⟨h1, h2⟩ := Bool.and_eq_true_iff.mp h'
    have ih := rise_pair r x h2
    have px : leS p x := by
      rw [ltCps_eq, Bool.not_eq_true', decide_eq_false_iff_not] at h1
      exact List.not_lt.mp h1
    refine List.pairwise_cons.mpr ⟨fun b hb => ?_, ih⟩
    rcases List.mem_cons.mp hb with e | e
    · rw [e]; exact px
    · exact List.le_trans px ((List.pairwise_cons.mp ih).1 b e)
theorem sorted_pair : ∀ (l : List Str), sortedS l = true → l.Pairwise leS
  | [], _ => List.Pairwise.nil
  | x :: r, h => rise_pair r x h
theorem sorted_one {a b : List Str} (h : sortedS a = true) (g : sortedS b = true) (p : a.Perm b) : a = b :=
  List.Perm.eq_of_pairwise (fun _ _ _ _ x y => leS_anti x y) (sorted_pair a h) (sorted_pair b g) p
/-- a sum of weights -/
theorem sum_le {B : Int} : ∀ (ws : List Int), (∀ w ∈ ws, 0 ≤ w ∧ w ≤ B) → 0 ≤ ws.sum ∧ ws.sum ≤ ws.length * B
  | [], _ => by simp
  | w :: r, h => by
    obtain ⟨h1, h2⟩ := h w List.mem_cons_self
    obtain ⟨g1, g2⟩ := sum_le r fun x hx => h x (List.mem_cons_of_mem _ hx)
    rw [List.sum_cons, List.length_cons]
    refine ⟨by omega, ?_⟩
    have : ((r.length + 1 : Nat) : Int) * B = r.length * B + B := by
      rw [Int.natCast_add, Int.add_mul]
      omega
    omega
end R9M
namespace R9
open PySem PySem.Spec PyProof.Rows L2
/-! ### whole numbers -/
def CDivX (_ j : Int) : Prop := j ≠ 0 ∧ j.natAbs.log2 < 9000
section
variable {X : Cx}
theorem op_fdivX : OpR X (binaryOp .FloorDiv) (rI CDivX fun i j => .int (i.fdiv j)) := opI fun _ _ _ _ _ _ _ hc q => floordiv_int hc.1 q (.inl (PyProof.noPylong_of_log2 hc.2))
end
/-! ### an own operator, an own == -/
section
variable {X : Cx} {CX : CXT} {C f : Addr} {fd : FuncData} {ps : List Str} {sp : Sp} {E : XK} {n : Nat}
def rOwn (C : Addr) (sp : Sp) (E : XK) : R2 := fun x y H Q => ∃ a b dx dy fs gs, x = .ref a ∧ y = .ref b ∧ H a = some (.ins C dx fs) ∧ H b = some (.ins C dy gs) ∧ sp [.ref a, .ref b] H Q E
theorem not_ni {v : V} {u : Value} (r : RelV v u) {P : Value → Shared → Prop} {s : Shared} (h : P u s) : PySem.W.CmpBack P u s := by
  cases v with
  | non => cases (show u = Value.none from r); exact h
  | bl b => cases (show u = Value.bool b from r); exact h
  | int i => obtain ⟨t, e⟩ := (show ∃ t, u = Value.int i t from r); cases e; exact h
  | str x => obtain ⟨t, e⟩ := (show ∃ t, u = Value.str x t from r); cases e; exact h
  | byt b => obtain ⟨t, e⟩ := (show ∃ t, u = Value.bytes b t from r); cases e; exact h
  | flt b => obtain ⟨t, e⟩ := (show ∃ t, u = Value.float b t from r); cases e; exact h
  | ref a => cases (show u = Value.ref a from r); exact h
  | ty m => cases (show u = Value.type m from r); exact h
theorem op_own {op : Operator} (F : FnOk X.prog X.w X.K X.mg X.base CX n f fd ps sp) (hr : Room n X.A) (sf : PySem.W.selfFirst X.K C = true)
    (hs : PySem.W.findIn X.K (.ref C) (PySem.dunder op.info.2) = some (some (.ref f))) (hf : PySem.W.isFn X.K (.ref f) = true) (hb : Binds X.K fd ps []) (hx : Passes CX X E) : OpR X (binaryOp op) (rOwn C sp E) := by
  intro pins s σ H x y u v Q I rx ry h
  obtain ⟨a, b, dx, dy, fs, gs, rfl, rfl, ha, hb', hq⟩ := h
  cases rx
  cases ry
  obtain ⟨mA, J, _⟩ := ins_get I.hok ha
  obtain ⟨mB, J', _⟩ := ins_get I.hok hb'
  obtain ⟨od, J, _⟩ := J.look
  obtain ⟨od', J', _⟩ := J'.look
  obtain ⟨m, hF⟩ := I.fr
  refine PySem.W.binop_K hF I.ok.mod.kin J J'.type sf hs hf ?_
  refine wpAny_mono (run_fn (us := [.ref a, .ref b]) (vs := [.ref a, .ref b]) F hr hb .nil hx I (.cons rfl (.cons rfl .nil)) hq) (fun r s' z => ?_) fun _ _ z => z
  obtain ⟨v, H', I', rv, q⟩ := z
  exact not_ni rv ⟨v, H', I', rv, q⟩
def rOwnEq (K : PySem.W.Frag) (C : Addr) (sp : Sp) (E : XK) : R2 := fun x y H Q => ∃ a dx fs t, x = .ref a ∧ H a = some (.ins C dx fs) ∧ TyX K H y t ∧ PySem.W.notFirst K C t = true ∧ sp [.ref a, y] H Q E
theorem op_ownEq (F : FnOk X.prog X.w X.K X.mg X.base CX n f fd ps sp) (hr : Room n X.A)
    (hs : PySem.W.findIn X.K (.ref C) "__eq__" = some (some (.ref f))) (hf : PySem.W.isFn X.K (.ref f) = true) (hb : Binds X.K fd ps []) (hx : Passes CX X E) : OpR X (compareOp .Eq) (rOwnEq X.K C sp E) := by
  intro pins s σ H x y u v Q I rx ry h
  obtain ⟨a, dx, fs, t, rfl, ha, ty, nf, hq⟩ := h
  cases rx
  obtain ⟨mA, J, _⟩ := ins_get I.hok ha
  obtain ⟨od, J, _⟩ := J.look
  obtain ⟨m, hF⟩ := I.fr
  obtain ⟨P, Z, p, _⟩ := kit_of I ry ty
  show wpAny (model X.prog X.w) X.A (richCompare .Eq (.ref a) v) (EP X pins σ Q) X.xe s
  refine PySem.W.cmp_K (op := .Eq) (tb := t) hr.units0 hF I.ok.mod.kin J (Z.ty _ _ I.kIn p) nf hs hf ?_
  refine wpAny_mono (run_fn (us := [.ref a, v]) (vs := [.ref a, y]) F hr hb .nil hx I (.cons rfl (.cons ry .nil)) hq) (fun r s' z => ?_) fun _ _ z => z
  obtain ⟨v, H', I', rv, q⟩ := z
  exact not_ni rv ⟨v, H', I', rv, q⟩
end
end R9
namespace R9
open PySem PySem.Spec PyProof.Rows L2
/-! ### != by an own ==, no own != -/
theorem ne_bind (self : Value) : bindSpecial (.builtin "object.__ne__") self = pure (.builtin "object.__ne__", [self]) := by first | rfl | kernel_rfl
section
open PySem.W
variable {prog : Program} {w : World} {A A₀ : Around} {E : Value → Shared → Prop} {s : Shared} {K : Frag} {x C L f : Addr} {h₀ : Heap} {m : Str → Option Value} {ox : Obj} {od : Option Obj} {name : Str} {b tb : Value}
theorem ifBound_B {M : Model} {args : List Value} {id : String} {Q : Option Value → Shared → Prop} (X : K.In s.heap) (I : InstAt s.heap x ox C od) (hs : findIn K (.ref C) name = some (some (.builtin id))) (hb : ∀ self, bindSpecial (.builtin id) self = pure (.builtin id, [self]))
    (h : wpAny M A (call (.builtin id) (.ref x :: args)) (fun v => Q (some v)) E s) : wpAny M A (callSpecialIfBound? (.ref x) name args) Q E s := by
  simp only [callSpecialIfBound?, bindSpecialIfBound?]
  refine wpAny_holding (wpAny_bind (wpAny_bind (wpAny_bind (I.type.here ((looks_findIn X hs).here ?_)))))
  refine wpAny_bind (wpAny_askSetting (wpAny_ite ?_))
  have fin : wpAny M A (call (.builtin id) ([.ref x] ++ args) >>= fun v => pure (some v)) Q E s := wpAny_bind (wpAny_mono h (fun v s' h' => wpAny_pure h') fun _ _ h' => h')
  have B : Looks M s.heap (bindSpecial (.builtin id) (.ref x)) (.builtin id, [.ref x]) := Looks.of_pure (hb _)
  split
  · exact wpAny_bind (B.here (wpAny_pure (by exact fin)))
  · exact wpAny_tryCatch (wpAny_bind (B.here (wpAny_pure (by exact fin))))
theorem ne_entry {Q : Fin → Shared → Prop} {v : Value} (hu : A.units < cLine) (X : K.In s.heap) (I : InstAt s.heap x ox C od) (hs : findIn K (.ref C) "__eq__" = some (some (.ref f))) (hf : isFn K (.ref f) = true)
    (h : wpAny (model prog w) A (call (.ref f) [.ref x, v]) (fun r s' => ∃ b, r = .bool b ∧ Q (.done (.ret (.bool (!b)))) s') E s) :
    wpAny (model prog w) A (Builtin.«object.__ne__» ⟨[.ref x, v], []⟩) Q E s := by
  unfold Builtin.«object.__ne__»
  refine wpAny_bind (wpAny_of_eq (a := ((Value.ref x : Value), [v])) (by first | rfl | (simp only [slotArgs]; rfl)) ?_)
  refine wpAny_bind (wpAny_cRoomFor hu ?_)
  refine wpAny_bind (ifBound_K X I hs hf (wpAny_mono h (fun r s' hr => ?_) fun _ _ e => e))
  obtain ⟨b, rfl, hq⟩ := hr
  exact wpAny_bind (wpAny_truthy_bool (wpAny_pure hq))
theorem ne_K {Q : Value → Shared → Prop} {v : Value} (hu : A.units + 1 < cLine) (X : K.In s.heap) (I : InstAt s.heap x ox C od) (hb : Looks (model prog w) s.heap (typeOf v) tb) (hn : notFirst K C tb = true)
    (hne : findIn K (.ref C) "__ne__" = some (some (.builtin "object.__ne__"))) (hs : findIn K (.ref C) "__eq__" = some (some (.ref f))) (hf : isFn K (.ref f) = true) (hob : subIn K (.ref C) (.type "object") = some true)
    (h : wpAny (model prog w) A.in1 (call (.ref f) [.ref x, v]) (fun r s' => ∃ b, r = .bool b ∧ Q (.bool (!b)) s') E s) : wpAny (model prog w) A (richCompare .NotEq (.ref x) v) Q E s := by
  have sub : Looks (model prog w) s.heap (isInstance (.ref x) (.type "object")) true := I.type.andThen (looks_subIn X hob)
  have one : wpAny (model prog w) A (tryCompare (.ref x) "__ne__" v) (fun r s' => ∃ v, r = some v ∧ Q v s') E s := by
    unfold tryCompare
    refine wpAny_bind (ifBound_B X I hne ne_bind (wpAny_call (codeAny_call_builtin (by decide +kernel) F.cmpEntry_ne (check_slot F.cmpKind_ne F.cmpSplit_ne sub (F.cmpArgs_ne _ _) (ne_entry (A := A.in1) (Nat.lt_of_le_of_lt (Nat.le_refl _) (show A.in1.units < cLine from hu)) X I hs hf (wpAny_mono h (fun r s' hr => ?_) fun _ _ e => e))))))
    obtain ⟨b, rfl, hq⟩ := hr
    exact ⟨b, rfl, wpAny_pure ⟨_, rfl, hq⟩⟩
  unfold richCompare
  simp only [oneThing_ref]
  refine wpAny_holding (wpAny_bind (wpAny_cRoomFor (Nat.lt_of_succ_lt hu) ?_))
  rw [cmpInfo_NotEq]
  dsimp only
  refine wpAny_bind (I.type.here (wpAny_bind (hb.here ?_)))
  split
  · rename_i q
    have e : subIn K tb (.ref C) = some false := by
      rcases Bool.or_eq_true_iff.mp hn with e | e
      · rw [beq_iff_eq.mp e] at q; simp at q
      · exact beq_iff_eq.mp e
    refine wpAny_bind ((looks_subIn X e).here ?_)
    simp only [Bool.false_eq_true, if_false]
    refine wpAny_bind (wpAny_mono one (fun r s' z => ?_) fun _ _ e => e)
    obtain ⟨v, rfl, hq⟩ := z
    exact wpAny_pure hq
  · refine wpAny_bind (wpAny_pure ?_)
    simp only [Bool.false_eq_true, if_false]
    refine wpAny_bind (wpAny_mono one (fun r s' z => ?_) fun _ _ e => e)
    obtain ⟨v, rfl, hq⟩ := z
    exact wpAny_pure hq
end
end R9
namespace R9
open PySem PySem.Spec PyProof.Rows L2
section
variable {X : Cx} {CX : CXT} {C f : Addr} {fd : FuncData} {ps : List Str} {sp : Sp} {E : XK} {n : Nat}
def rOwnNe (K : PySem.W.Frag) (C : Addr) (sp : Sp) (E : XK) : R2 := fun x y H Q => ∃ a dx fs t, x = .ref a ∧ H a = some (.ins C dx fs) ∧ TyX K H y t ∧ PySem.W.notFirst K C t = true ∧ sp [.ref a, y] H (fun v H' => ∃ b, v = .bl b ∧ Q (.bl (!b)) H') E
theorem op_ownNe (F : FnOk X.prog X.w X.K X.mg X.base CX n f fd ps sp) (hr : Room (n + 1) X.A)
    (hs : PySem.W.findIn X.K (.ref C) "__eq__" = some (some (.ref f))) (hf : PySem.W.isFn X.K (.ref f) = true) (hb : Binds X.K fd ps []) (hx : Passes CX X E)
    (hne : PySem.W.findIn X.K (.ref C) "__ne__" = some (some (.builtin "object.__ne__"))) (hob : PySem.W.subIn X.K (.ref C) (.type "object") = some true) : OpR X (compareOp .NotEq) (rOwnNe X.K C sp E) := by
  intro pins s σ H x y u v Q I rx ry h
  obtain ⟨a, dx, fs, t, rfl, ha, ty, nf, hsp⟩ := h
  cases rx
  obtain ⟨mA, J, _⟩ := ins_get I.hok ha
  obtain ⟨od, J, _⟩ := J.look
  obtain ⟨P, Z, p, _⟩ := kit_of I ry ty
  show wpAny (model X.prog X.w) X.A (richCompare .NotEq (.ref a) v) (EP X pins σ Q) X.xe s
  have hu : X.A.units + 1 < cLine := hu_of hr
  refine ne_K (tb := t) hu I.kIn J (Z.ty _ _ I.kIn p) nf hne hs hf hob ?_
  have e0 : Env0 X.prog X.w X.K X.mg X.base X.A.in1 X.stack s H := by
    have e := I.env0
    exact ⟨e.frames, e.mod, e.bs, e.bsz, e.funs, e.frf, e.hok, e.bare⟩
  have hl := F.len _ _ _ _ hsp
  have r2 : Vals [V.ref a, y] [Value.ref a, v] := .cons rfl (.cons ry .nil)
  refine wpAny_call (codeAny_mono (F.run X.A.in1 X.stack s H ⟨[.ref a, v], []⟩ [.ref a, v] [.ref a, y] _ E hr.in1 e0 (by
    have := hb s [.ref a, v] I.kIn (by simpa using hl)
    simpa using this) r2 hsp) fun r s' hq => ?_)
  cases r with
  | error e => exact hx pins σ H s e s' I hq
  | ok fl =>
    cases fl with
    | ret w =>
      obtain ⟨z, H', I', rz, b, ez, q⟩ := I.after hq
      subst ez
      cases rz
      exact ⟨b, rfl, ⟨.bl (!b), H', I', rfl, q⟩⟩
    | next => exact False.elim hq
    | brk => exact False.elim hq
    | cont => exact False.elim hq
end
/-! ### defs, methods, classes, packed -/
/-- how the arguments come to the parameters, for every way the text's own defs are called -/
abbrev fo (x qual : Str) (st : Stmt) (kV doc pm : Value) (an : Option Addr) (cdv ct : Value) : FuncData := PySem.W.fnOf x qual (defArgs st) (defBody st) (defScope st) .none kV doc pm an cdv ct
structure Df (P : Program) (w : World) (K : PySem.W.Frag) (mg : Str → Option Value) (base : Heap) (k : Nat) (x : Str) (st : Stmt) (ps : List Str) (sp : Sp) : Prop where
  ex : ∃ (f : Addr) (fd : FuncData), Fun K x x st f fd ∧ FnOk P w K mg base (L2.CX P w) k f fd ps sp ∧ mg x = some (.ref f) ∧ Binds K fd ps []
structure Dm (P : Program) (w : World) (K : PySem.W.Frag) (mg : Str → Option Value) (base : Heap) (k : Nat) (C : Addr) (m qual : Str) (st : Stmt) (ps : List Str) (sp : Sp) : Prop where
  ex : ∃ (f : Addr) (fd : FuncData), Fun K m qual st f fd ∧ FnOk P w K mg base (L2.CX P w) k f fd ps sp ∧ Cls K C ∧ Meth K C m f ∧ Binds K fd ps []
structure Dk (P : Program) (w : World) (K : PySem.W.Frag) (mg : Str → Option Value) (base : Heap) (k : Nat) (C : Addr) (x qual : Str) (st : Stmt) (ps : List Str) (sp : Sp) : Prop where
  ex : ∃ (f : Addr) (fd : FuncData), Fun K "__init__" qual st f fd ∧ FnOk P w K mg base (L2.CX P w) k f fd ps sp ∧ Mk K C f ∧ mg x = some (.ref C) ∧ Binds K fd ps []
section
variable {X : Cx} {j k : Nat} {x m qual : Str} {st : Stmt} {ps : List Str} {sp : Sp} {C : Addr} {p pos apos : Pos} {e o : Expr} {es : List Expr} {kws : List Keyword} {t tk : TA} {ta : TE} {ks : List Str} {E : XK}
theorem pe_d (D : Df X.prog X.w X.K X.mg X.base k x st ps sp) (hr : Room j X.A) (hk : k ≤ j) (hg : Gl X x) (hx : Passes (L2.CX X.prog X.w) X E) (ha : PA X (e :: es) t)
    (hdb : (x == ("__debug__" : Str)) = false := by decide) (he : starEach (e :: es) X.env = (false, eval e X.env) :: starEach es X.env := by rfl) (hpl : (backTo pos (starEach es X.env)).any (·.1) = false := by rfl) :
    PE X (.Call (.Name x p) (e :: es) [] pos) (tCall sp [] E t) := by
  obtain ⟨f, fd, F, G, hm, b⟩ := D.ex
  exact pe_call G (hr.mono hk) hg hm F.kp b .nil hx ha hdb he hpl
theorem pe_d0 (D : Df X.prog X.w X.K X.mg X.base k x st ps sp) (hr : Room j X.A) (hk : k ≤ j) (hg : Gl X x) (hx : Passes (L2.CX X.prog X.w) X E)
    (hdb : (x == ("__debug__" : Str)) = false := by decide) :
    PE X (.Call (.Name x p) [] [] pos) (tCall sp [] E tNil) := by
  obtain ⟨f, fd, F, G, hm, b⟩ := D.ex
  exact pe_call0 G (hr.mono hk) hg hm F.kp b .nil hx hdb
theorem pe_m {pl : Sem Bool} (D : Dm X.prog X.w X.K X.mg X.base k C m qual st ps sp) (hr : Room j X.A) (hk : k ≤ j) (hx : Passes (L2.CX X.prog X.w) X E) (he : PE X o ta) (ha : PA X (e :: es) t)
    (hst : starEach (e :: es) X.env = (false, eval e X.env) :: starEach es X.env := by rfl) (hpl : (backTo pos (starEach es X.env)).any (·.1) = false := by rfl)
    (ht : eval (.Call (.Attribute o m apos) (e :: es) [] pos) X.env = (do
      let ov ← eval o X.env
      standAt apos.atName
      let (f, first) ← holding [ov] (getMethod ov m pl)
      callWith pos f first (backTo pos (starEach (e :: es) X.env)) (backToKw pos (keywordEach [] X.env))) := by rfl) :
    PE X (.Call (.Attribute o m apos) (e :: es) [] pos) (tMeth C m sp [] E ta t) := by
  obtain ⟨f, fd, F, G, hc, hm, b⟩ := D.ex
  exact pe_meth (pl := pl) he hc hm G (hr.mono hk) b .nil hx ha hst hpl ht
theorem pe_m0 {pl : Sem Bool} (D : Dm X.prog X.w X.K X.mg X.base k C m qual st ps sp) (hr : Room j X.A) (hk : k ≤ j) (hx : Passes (L2.CX X.prog X.w) X E) (he : PE X o ta)
    (ht : eval (.Call (.Attribute o m apos) [] [] pos) X.env = (do
      let ov ← eval o X.env
      standAt apos.atName
      let (f, first) ← holding [ov] (getMethod ov m pl)
      callWith pos f first (backTo pos (starEach [] X.env)) (backToKw pos (keywordEach [] X.env))) := by rfl) :
    PE X (.Call (.Attribute o m apos) [] [] pos) (tMeth C m sp [] E ta tNil) := by
  obtain ⟨f, fd, F, G, hc, hm, b⟩ := D.ex
  exact pe_meth0 (pl := pl) he hc hm G (hr.mono hk) b .nil hx ht
theorem pe_k (D : Dk X.prog X.w X.K X.mg X.base k C x qual st ps sp) (hr : Room j X.A) (hk : k + 1 ≤ j) (hg : Gl X x) (hx : Passes (L2.CX X.prog X.w) X E) (ha : PA X (e :: es) t)
    (hdb : (x == ("__debug__" : Str)) = false := by decide) (he : starEach (e :: es) X.env = (false, eval e X.env) :: starEach es X.env := by rfl) (hpl : (backTo pos (starEach es X.env)).any (·.1) = false := by rfl) :
    PE X (.Call (.Name x p) (e :: es) [] pos) (tMake C sp [] E t) := by
  obtain ⟨f, fd, F, G, M, hm, b⟩ := D.ex
  exact pe_make M G (hr.mono hk) hg hm b .nil hx ha hdb he hpl
/-- keywords: the parameters' order of what the call gives -/
theorem kb_of {f : Addr} {fd : FuncData} {n : Nat} {g : {α : Type} → List α → List α → List α} (F : Fun X.K x qual st f fd)
    (hrel : ∀ {vs zs : List V} {us ws : List Value}, Vals vs us → Vals zs ws → Vals (g vs zs) (g us ws))
    (h : ∀ (kV doc pm : Value) (an : Option Addr) (cdv ct : Value) (us ws : List Value), us.length = n → ws.length = ks.length → bindArgs (fo x qual st kV doc pm an cdv ct) ⟨us, ks.zip ws⟩ = pure (ps.zip (g us ws))) : KBn X.K fd ps n ks (fun us ws => g us ws) (fun vs zs => g vs zs) := by
  obtain ⟨oc, od, kV, doc, pm, an, cdv, ct, osl, rfl, lk, hcd⟩ := F.ex
  exact ⟨fun s us ws _ l1 l2 => .of_eq (h kV doc pm an cdv ct us ws l1 l2), hrel⟩
theorem pe_dK0 {g : {α : Type} → List α → List α → List α} (D : Df X.prog X.w X.K X.mg X.base k x st ps sp) (hr : Room j X.A) (hk : k ≤ j) (hg : Gl X x) (hx : Passes (L2.CX X.prog X.w) X E)
    (hrel : ∀ {vs zs : List V} {us ws : List Value}, Vals vs us → Vals zs ws → Vals (g vs zs) (g us ws))
    (hb : ∀ (kV doc pm : Value) (an : Option Addr) (cdv ct : Value) (us ws : List Value), us.length = 0 → ws.length = ks.length → bindArgs (fo x x st kV doc pm an cdv ct) ⟨us, ks.zip ws⟩ = pure (ps.zip (g us ws)))
    (hkw : PK X kws tk) (hall : (backToKw pos (keywordEach kws X.env)).all (·.1.isSome) = true := by rfl) (hks : (backToKw pos (keywordEach kws X.env)).filterMap (·.1) = ks := by rfl)
    (hdb : (x == ("__debug__" : Str)) = false := by decide)
    (hpl : ((backTo pos (starEach [] X.env)).any (·.1) || (backToKw pos (keywordEach kws X.env)).any (·.1.isNone)) = false := by rfl) :
    PE X (.Call (.Name x p) [] kws pos) (tCallN 0 ks.length sp (fun vs zs => g vs zs) E tNil tk) := by
  obtain ⟨f, fd, F, G, hm, b⟩ := D.ex
  refine ⟨fun pins s σ H Q I h => ?_⟩
  refine wpAny_Call_Name_kw (ld_glob I hg hm ?_ hdb)
  refine PySem.W.callWith_KW0 (h₀ := X.base) I.ok.mod.kin F.kp hall ?_ hpl
  refine thn (hkw.run pos pins s σ H _ I h) fun ws s2 ⟨zs, H2, I2, rz, l1, l2, q2⟩ => ⟨I2.kIn, ?_⟩
  rw [hks]
  exact run_fnN (us := []) (vs := []) G (hr.mono hk) (kb_of F hrel hb) hx I2 .nil rz rfl l2 q2
theorem pe_dK {n : Nat} {g : {α : Type} → List α → List α → List α} (D : Df X.prog X.w X.K X.mg X.base k x st ps sp) (hr : Room j X.A) (hk : k ≤ j) (hg : Gl X x) (hx : Passes (L2.CX X.prog X.w) X E)
    (hrel : ∀ {vs zs : List V} {us ws : List Value}, Vals vs us → Vals zs ws → Vals (g vs zs) (g us ws))
    (hb : ∀ (kV doc pm : Value) (an : Option Addr) (cdv ct : Value) (us ws : List Value), us.length = n → ws.length = ks.length → bindArgs (fo x x st kV doc pm an cdv ct) ⟨us, ks.zip ws⟩ = pure (ps.zip (g us ws)))
    (ha : PA X (e :: es) t) (hkw : PK X kws tk) (hall : (backToKw pos (keywordEach kws X.env)).all (·.1.isSome) = true := by rfl) (hks : (backToKw pos (keywordEach kws X.env)).filterMap (·.1) = ks := by rfl)
    (hdb : (x == ("__debug__" : Str)) = false := by decide) (he : starEach (e :: es) X.env = (false, eval e X.env) :: starEach es X.env := by rfl)
    (hpl : ((backTo pos (starEach (e :: es) X.env)).any (·.1) || (backToKw pos (keywordEach kws X.env)).any (·.1.isNone)) = false := by rfl) :
    PE X (.Call (.Name x p) (e :: es) kws pos) (tCallN n ks.length sp (fun vs zs => g vs zs) E t tk) := by
  obtain ⟨f, fd, F, G, hm, b⟩ := D.ex
  exact pe_callN G (hr.mono hk) hg hm F.kp (kb_of F hrel hb) hx ha hkw hall hks hdb he hpl
theorem pe_kK0 {g : {α : Type} → List α → List α → List α} (D : Dk X.prog X.w X.K X.mg X.base k C x qual st ps sp) (hr : Room j X.A) (hk : k + 1 ≤ j) (hg : Gl X x) (hx : Passes (L2.CX X.prog X.w) X E)
    (hrel : ∀ {vs zs : List V} {us ws : List Value}, Vals vs us → Vals zs ws → Vals (g vs zs) (g us ws))
    (hb : ∀ (kV doc pm : Value) (an : Option Addr) (cdv ct : Value) (us ws : List Value), us.length = 1 → ws.length = ks.length → bindArgs (fo "__init__" qual st kV doc pm an cdv ct) ⟨us, ks.zip ws⟩ = pure (ps.zip (g us ws)))
    (hkw : PK X kws tk) (hall : (backToKw pos (keywordEach kws X.env)).all (·.1.isSome) = true := by rfl) (hks : (backToKw pos (keywordEach kws X.env)).filterMap (·.1) = ks := by rfl)
    (hdb : (x == ("__debug__" : Str)) = false := by decide)
    (hpl : ((backTo pos (starEach [] X.env)).any (·.1) || (backToKw pos (keywordEach kws X.env)).any (·.1.isNone)) = false := by rfl) :
    PE X (.Call (.Name x p) [] kws pos) (tMakeK C 0 ks.length sp (fun vs zs => g vs zs) E tNil tk) := by
  obtain ⟨f, fd, F, G, M, hm, b⟩ := D.ex
  exact pe_makeK0 M G (hr.mono hk) hg hm (kb_of F hrel hb) hx hkw hall hks hdb hpl
/-- o.m(k = v, ..) -/
def tMethK (C : Addr) (m : Str) (n : Nat) (sp : Sp) (gV : List V → List V → List V) (E : XK) (ta : TE) (tk : TA) : TE := fun σ H Q => ta σ H fun x H1 => ∃ a dx fs, x = .ref a ∧ H1 a = some (.ins C dx fs) ∧ fs.lookup m = none ∧
  tk σ H1 fun zs H2 => zs.length = n ∧ sp (gV [x] zs) H2 Q E
theorem pe_mK0 {pl : Sem Bool} {g : {α : Type} → List α → List α → List α} (D : Dm X.prog X.w X.K X.mg X.base k C m qual st ps sp) (hr : Room j X.A) (hk : k ≤ j) (hx : Passes (L2.CX X.prog X.w) X E) (he : PE X o ta)
    (hrel : ∀ {vs zs : List V} {us ws : List Value}, Vals vs us → Vals zs ws → Vals (g vs zs) (g us ws))
    (hb : ∀ (kV doc pm : Value) (an : Option Addr) (cdv ct : Value) (us ws : List Value), us.length = 1 → ws.length = ks.length → bindArgs (fo m qual st kV doc pm an cdv ct) ⟨us, ks.zip ws⟩ = pure (ps.zip (g us ws)))
    (hkw : PK X kws tk) (hall : (backToKw pos (keywordEach kws X.env)).all (·.1.isSome) = true := by rfl) (hks : (backToKw pos (keywordEach kws X.env)).filterMap (·.1) = ks := by rfl)
    (hpl : ((backTo pos (starEach [] X.env)).any (·.1) || (backToKw pos (keywordEach kws X.env)).any (·.1.isNone)) = false := by rfl)
    (ht : eval (.Call (.Attribute o m apos) [] kws pos) X.env = (do
      let ov ← eval o X.env
      standAt apos.atName
      let (f, first) ← holding [ov] (getMethod ov m pl)
      callWith pos f first (backTo pos (starEach [] X.env)) (backToKw pos (keywordEach kws X.env))) := by rfl) :
    PE X (.Call (.Attribute o m apos) [] kws pos) (tMethK C m ks.length sp (fun vs zs => g vs zs) E ta tk) := by
  obtain ⟨f, fd, F, G, hc, hm, b⟩ := D.ex
  refine ⟨fun pins s σ H Q I h => ?_⟩
  refine PySem.W.methodCall_KW (pl := pl) (thn (he.run pins s σ H _ I h) fun u s1 ⟨x, H1, I1, rx, a, dx, fs, ex, ea, l, q⟩ => ?_) ht
  subst ex
  obtain rfl : u = Value.ref a := rx
  refine getmeth_ok I1 ea hc hm l ?_
  refine PySem.W.callWith_KW0 (first := [.ref a]) (h₀ := X.base) I1.ok.mod.kin hm.kp hall ?_ hpl
  refine thn (hkw.run pos pins s1 σ H1 _ I1 q) fun ws s2 ⟨zs, H2, I2, rz, l2, q2⟩ => ⟨I2.kIn, ?_⟩
  rw [hks]
  exact run_fnN (us := [.ref a]) (vs := [.ref a]) G (hr.mono hk) (kb_of F hrel hb) hx I2 (.cons rfl .nil) rz rfl l2 q2
end
end R9
namespace R9
open PySem PySem.Spec PyProof.Rows L2
open L2H (RoomH PinOk cxH inv_startH)
/-! ### defs that run while an exception is handled, the exception among their arguments -/
/-- p: the handled exception's object, cls its class, d its own dict -/
def Exo (p : Addr × Obj) (cls : Value) (d : Option Addr) : Prop := Zc cls d p.2 ∧ ∃ fv, p.2.data = .fields fv
abbrev SpE := Addr → Value → Option Addr → Sp
structure FnE (P : Program) (w : World) (K : PySem.W.Frag) (mg : Str → Option Value) (base : Heap) (k : Nat) (f : Addr) (fd : FuncData) (ps : List Str) (sp : SpE) : Prop where
  len : ∀ a cls d vs H Q E, sp a cls d vs H Q E → vs.length = ps.length
  run : ∀ (A : Around) (outer : List Env) (s : Shared) (H : Hp) (args : Args) (us : List Value) (vs : List V) (Q : VK) (E : XK) (p : Addr × Obj) (cls : Value) (d : Option Addr),
    RoomH k A → PinOk outer H s p → Exo p cls d → Env0 P w K mg base A outer s H → BindsTo s fd args (ps.zip us) → Vals vs us → sp p.1 cls d vs H Q E → codeAny (model P w) A (.call (.ref f) args) (CR (L2.CX P w) outer P w H s Q E) s
section
variable {P : Program} {w : World} {K : PySem.W.Frag} {mg : Str → Option Value} {base : Heap}
theorem okE {x qual : Str} {st : Stmt} {f : Addr} {fd : FuncData} {N ps : List Str} {k : Nat} {sp : SpE} (F : Fun K x qual st f fd) (S : FnScope N ps (defScope st)) (len : ∀ a cls d vs H Q E, sp a cls d vs H Q E → vs.length = ps.length)
    (body : ∀ (cdv : Value) (A : Around) (outer : List Env) (s : Shared) (H : Hp) (vs : List V) (Q : VK) (E : XK) (p : Addr × Obj) (cls : Value) (d : Option Addr), Exo p cls d → RoomH k (A.deeper (envOfC qual (defScope st) s.heap.objs.size f cdv)) → sp p.1 cls d vs H Q E →
      ∃ t, PSs (cxH (L2.CX P w) P w K mg base N qual (defScope st) f cdv A outer s H E p) (defBody st) t ∧ t { nx := fun _ H' => Q .non H', rt := Q } (L2.start N vs) H) : FnE P w K mg base (k + 1) f fd ps sp := by
  obtain ⟨oc, od, kV, doc, pm, an, cdv, ct, osl, rfl, lk, hcd⟩ := F.ex
  refine ⟨len, fun A outer s H args us vs Q E p cls d room pin exo e0 bind rel want => ?_⟩
  have all : ∀ b o, base.get? b = some o → s.heap.get? b = some o := fun b o e => (e0.bs b o e).1
  have KX : K.In s.heap := e0.mod.kin.keeps all
  have par : ∀ y ∈ ps.zip us, (defScope st).names.lookup y.1 = some .local ∨ ((defScope st).names.lookup y.1 = some .cell ∧ ((cellsFrom (s.heap.objs.size + 1) (defScope st).names []).lookup y.1).isSome = true) := by
    rintro ⟨n, v⟩ hy
    exact (S.par n (List.of_mem_zip hy).1).imp id fun q => ⟨q, PySem.W.cellsFrom_some _ _ _ (.inl q)⟩
  refine codeAny_call_function room.depth (KX _ _ lk) rfl S.co S.gen rfl (PySem.W.codeRec_of KX hcd) (bind _ _ _ _ ?_)
  refine wpAny_newFunctionEnv_cells S.kind par fun env henv s1 inC => ?_
  cases henv
  refine ⟨(e0.mod.nolimit.keeps all).keeps inC.toInCall.keep, codeAny_func ?_⟩
  obtain ⟨t, ht, hq⟩ := body cdv A outer s H vs Q E p cls d exo (room.deeper _) want
  have I := inv_startH (CX := L2.CX P w) (E := E) S pin e0 (len _ _ _ _ _ _ _ want) rel inC
  refine wpAny_mono (ht.run [] s1 (L2.start N vs) H _ I hq) (fun fl s' z => ?_) fun _ _ z => z
  cases fl with
  | ret u =>
    obtain ⟨v, σ', H', J, rv, q⟩ := z
    exact ⟨v, H', J.os, J.bare, J.base, J.hok, rv, q⟩
  | next =>
    obtain ⟨σ', H', J, q⟩ := z
    exact ⟨.non, H', J.os, J.bare, J.base, J.hok, rfl, q⟩
  | brk =>
    obtain ⟨_, _, _, no⟩ := z
    exact no.elim
  | cont =>
    obtain ⟨_, _, _, no⟩ := z
    exact no.elim
end
/-- such a def, packed -/
structure De (P : Program) (w : World) (K : PySem.W.Frag) (mg : Str → Option Value) (base : Heap) (k : Nat) (x : Str) (ps : List Str) (sp : SpE) : Prop where
  ex : ∃ (f : Addr) (fd : FuncData), FnE P w K mg base k f fd ps sp ∧ mg x = some (.ref f) ∧ PySem.W.keepIn K (.ref f) = true ∧ Binds K fd ps []
/-- where a handled exception stands -/
structure HotX (X : Cx) (p : Addr × Obj) (cls : Value) (d : Option Addr) : Prop where
  pin : p ∈ X.pn
  exo : Exo p cls d
section
variable {X : Cx} {j k : Nat} {x m : Str} {ps : List Str} {sp : SpE} {p : Addr × Obj} {cls : Value} {d : Option Addr} {q pos : Pos} {e : Expr} {es : List Expr} {t : TA} {te : TE} {C : Addr}
theorem hot_suite {X : Cx} {a : Addr} {oe : Obj} {pn : List (Addr × Obj)} (hz : Zc cls d oe) (hf : ∃ fv, oe.data = .fields fv) : HotX (X.suite a ((a, oe) :: pn)) (a, oe) cls d := ⟨List.mem_cons_self, hz, hf⟩
theorem hot_def {CX : CXT} {P : Program} {w : World} {K : PySem.W.Frag} {mg : Str → Option Value} {base : Heap} {N : List Str} {qual : Str} {scope : Scope} {f : Addr} {cd : Value} {A : Around} {outer : List Env} {s : Shared} {H : Hp} {E : XK} (ex : Exo p cls d) :
    HotX (cxH CX P w K mg base N qual scope f cd A outer s H E p) p cls d := ⟨List.mem_cons_self, ex⟩
/-- a call, nothing let out -/
theorem pe_e {a : Addr} {oe : Obj} (D : De X.prog X.w X.K X.mg X.base k x ps sp) (hot : HotX X (a, oe) cls d) (hr : RoomH j X.A) (hk : k ≤ j) (hg : Gl X x) (ha : PA X (e :: es) t) (hdb : (x == ("__debug__" : Str)) = false := by decide)
    (he : starEach (e :: es) X.env = (false, eval e X.env) :: starEach es X.env := by rfl) (hpl : (backTo pos (starEach es X.env)).any (·.1) = false := by rfl) :
    PE X (.Call (.Name x q) (e :: es) [] pos) (fun σ H Q => t σ H fun vs H1 => sp a cls d vs H1 Q E0) := by
  obtain ⟨f, fd, F, hm, kp, b⟩ := D.ex
  refine ⟨fun pins s σ H Q I h => wpAny_Call_Name_kw (ld_glob I hg hm ?_ hdb)⟩
  refine PySem.W.callWith_K (h₀ := X.base) I.ok.mod.kin kp (thn (ha.run pos pins s σ H _ I h) fun us s1 ⟨vs, H1, I1, rel, want⟩ => ⟨I1.kIn, ?_⟩) he hpl
  have hl : us.length = ps.length := rel.length.symm.trans (F.len _ _ _ _ _ _ _ want)
  have bt := b s1 us I1.kIn (by rw [List.append_nil]; exact hl)
  rw [List.append_nil] at bt
  obtain ⟨g1, g2, g3, g4, g5⟩ := I1.pin (a, oe) (List.mem_append_left _ hot.pin)
  have pin : PinOk X.stack H1 s1 (a, oe) := ⟨g1, g2, fun z => (List.mem_cons.mp (I1.stkSub a z)).elim g3 g4, g5⟩
  refine wpAny_call (codeAny_mono (F.run X.A X.stack s1 H1 ⟨us, []⟩ us vs Q E0 (a, oe) cls d (hr.mono hk) pin hot.exo I1.env0 bt rel want) fun r s' z => ?_)
  cases r with
  | ok fl =>
    cases fl with
    | ret u => exact I1.after z
    | next => exact z.elim
    | brk => exact z.elim
    | cont => exact z.elim
  | error er =>
    obtain ⟨_, _, _, _, _, _, _, _, _, _, _, _, no⟩ := z
    exact no.elim
/-- e.f, e the handled exception -/
theorem pe_xfP {a : Addr} {oe : Obj} {n : Str} (hot : HotX X (a, oe) cls d) (T : XfC X.K C) (hno : PySem.W.findIn X.K (.ref C) n = some none) (he : PE X e te) (hb : attributeBase e n X.env (eval e X.env) = eval e X.env := by rfl) :
    PE X (.Attribute e n pos) (fun σ H Q => te σ H fun x H1 => x = .ref a ∧ cls = .ref C ∧ ∃ (dd : Addr) (fs : List (Str × V)) (v : V), d = some dd ∧ H1 dd = some (.xd fs) ∧ fs.lookup n = some v ∧ Q v H1) := by
  refine ⟨fun pins s σ H Q I h => attr_of hb (thn (he.run pins s σ H _ I h) ?_)⟩
  rintro u s1 ⟨x, H1, I1, rx, rfl, rfl, dd, fs, v, rfl, ea, l, q⟩
  obtain rfl : u = Value.ref a := rx
  obtain ⟨⟨hc, hd⟩, fv, hv⟩ := hot.exo
  have ha := (I1.pin (a, oe) (List.mem_append_left _ hot.pin)).1
  obtain ⟨mA, hns, hr⟩ := (show ObjOk X.prog X.w H1 s1.heap dd (.xd fs) from I1.hok dd _ ea)
  obtain ⟨od, ho, hl⟩ := lookIn_ns hns
  obtain ⟨u, hu, ru⟩ := RelO.some_of (v := v) (o := mA n) (by rw [← l]; exact hr n)
  have J : PySem.W.InstAt s1.heap a oe C (some od) := ⟨ha, hc, by unfold PySem.W.notCls; rw [hv] <;> rfl, by rw [hd]; exact ho⟩
  exact HandSPX.exc_get I1.kIn J T.ga T.gg T.exC (PySem.W.findObj_own T.hdC hno rfl (by rw [hl, hu])) (handed_of ru) ⟨v, H1, I1.tok _, ru, q⟩
end
end R9
namespace PySem.W
open PySem PySem.Spec PySem.Calls PyProof.Rows
/-- isinstance, asked of an own exception with or without a dict of its own -/
theorem r9_kit {K : Frag} {x D : Addr} {ox : Obj} (C : L2.ExcC K D) : KitX K (.ref x) (.ref D) (fun h => ∃ od, InstAt h x ox D od) := by
  obtain ⟨cd, hcd, _⟩ := any_some C.hd
  have cls : ∃ c' d' sl', K.lookup D = some ⟨c', d', .cls cd, sl'⟩ := by
    unfold clsIn at hcd
    split at hcd
    · rename_i c' d' cd' sl' ho
      cases hcd
      exact ⟨c', d', sl', ho⟩
    · cases hcd
  obtain ⟨c', d', sl', ho⟩ := cls
  refine ⟨fun _ _ _ ⟨_, I⟩ => I.type, fun _ h X _ => ?_, fun h tp dd its n sl X htp => ?_, fun X ⟨od, I⟩ k => ?_⟩
  · intro A' Q' E' s' k q
    unfold isType loadHead
    exact wpAny_bind (wpAny_loadPart (k _ _ (X _ _ ho)) (wpAny_pure q))
  · refine Bool.eq_false_iff.mpr fun q => ?_
    cases (Value.ref.inj (beq_iff_eq.mp q))
    cases (X _ _ ho).symm.trans htp
  · exact kx_classE X I C.hg C.hk C.hs (findObj_dataE (by rw [hcd] <;> rfl) C.ha C.hn C.ht) C.hm k
end PySem.W
namespace R9
open PySem PySem.Spec PyProof.Rows L2
/-- isinstance(e, c), e the handled exception -/
theorem call_isP {X : Cx} {a : Addr} {oe : Obj} {D : Addr} {d : Option Addr} (hot : HotX X (a, oe) (.ref D) d) (C : ExcC X.K D) :
    CallR X (.builtin "isinstance") (fun xs H Q => ∃ (c : V) (cv : Value) (b : Bool), xs = [.ref a, c] ∧ ClsV c cv ∧ PySem.W.kitOne X.K (.ref D) cv = some b ∧ (∀ dd, d = some dd → ∃ fs, H dd = some (.xd fs)) ∧ Q (.bl b) H) := by
  rintro pins s σ H xs us Q I r ⟨c, cv, b, rfl, hcv, e, hdd, q⟩
  obtain ⟨u1, u2, rfl, r1, r2⟩ := vals2 r
  cases (show u1 = Value.ref a from r1)
  cases hcv.eq r2
  obtain ⟨⟨hc, hd⟩, fv, hv⟩ := hot.exo
  have ha := (I.pin (a, oe) (List.mem_append_left _ hot.pin)).1
  have J : ∃ od, PySem.W.InstAt s.heap a oe D od := by
    cases d with
    | none => exact ⟨none, ha, hc, by unfold PySem.W.notCls; rw [hv] <;> rfl, by rw [hd]; trivial⟩
    | some dd =>
      obtain ⟨fs, hfs⟩ := hdd dd rfl
      obtain ⟨mA, hns, hr⟩ := (show ObjOk X.prog X.w H s.heap dd (.xd fs) from I.hok dd _ hfs)
      obtain ⟨od, ho, hl⟩ := lookIn_ns hns
      exact ⟨some od, ha, hc, by unfold PySem.W.notCls; rw [hv] <;> rfl, by rw [hd]; exact ho⟩
  exact PySem.W.kia_one (PySem.W.r9_kit C) I.kIn J e (fun z => nomatch z) fun tk => ⟨.bl b, H, I.kept (t' := tk) fun _ _ z => z, rfl, q⟩
end R9
namespace R9
open PySem PySem.Spec PyProof.Rows L2
open L2H (RoomH)
/-! ### promises by the number of arguments -/
def sp1 (R : V → Hp → VK → XK → Prop) : Sp := fun vs H Q E => ∃ a, vs = [a] ∧ R a H Q E
def sp2 (R : V → V → Hp → VK → XK → Prop) : Sp := fun vs H Q E => ∃ a b, vs = [a, b] ∧ R a b H Q E
def sp3 (R : V → V → V → Hp → VK → XK → Prop) : Sp := fun vs H Q E => ∃ a b c, vs = [a, b, c] ∧ R a b c H Q E
def sp4 (R : V → V → V → V → Hp → VK → XK → Prop) : Sp := fun vs H Q E => ∃ a b c d, vs = [a, b, c, d] ∧ R a b c d H Q E
def sp5 (R : V → V → V → V → V → Hp → VK → XK → Prop) : Sp := fun vs H Q E => ∃ a b c d e, vs = [a, b, c, d, e] ∧ R a b c d e H Q E
theorem vals_rev {vs : List V} {us : List Value} (r : Vals vs us) : Vals vs.reverse us.reverse := by
  induction r with
  | nil => exact .nil
  | cons h t ih =>
    rw [List.reverse_cons, List.reverse_cons]
    exact ih.append (.cons h .nil)
theorem roomH_mark {X : Cx} {k : Nat} {a : Addr} {pn : List (Addr × Obj)} (r : Room k X.A) : RoomH k (X.suite a pn).A := ⟨(L2H.roomH_of r).dp, (L2H.roomH_of r).un⟩
/-! ### what is kept -/
/-- all is kept but what stands at the addresses S -/
def But (S : List Addr) (H H' : Hp) : Prop := ∀ c o, H c = some o → c ∉ S → H' c = some o
theorem But.refl (S : List Addr) (H : Hp) : But S H H := fun _ _ e _ => e
theorem But.trans {S : List Addr} {H H1 H2 : Hp} (a : But S H H1) (b : But S H1 H2) : But S H H2 := fun c o e n => b c o (a c o e n) n
theorem But.mono {S T : List Addr} {H H' : Hp} (a : But S H H') (h : ∀ x ∈ S, x ∈ T) : But T H H' := fun c o e n => a c o e fun z => n (h c z)
theorem But.new {S : List Addr} {H : Hp} {p : Addr} {o : HO} (h : H p = none) : But S H (upd H p o) := fun c u e _ => by
  rw [upd_ne (ne_of_none e h)]
  exact e
theorem But.put {S : List Addr} {H : Hp} {p : Addr} {o : HO} (h : p ∈ S) : But S H (upd H p o) := fun c u e n => by
  rw [upd_ne fun z => n (by rw [z]; exact h)]
  exact e
/-- an address that was free at the start needs no mention -/
theorem But.drop {S : List Addr} {H H' : Hp} {r : Addr} (h : H r = none) (a : But (r :: S) H H') : But S H H' := fun c o e n => a c o e fun z => by
  rcases List.mem_cons.mp z with z | z
  · rw [z, h] at e
    cases e
  · exact n z
theorem But.of_same {S : List Addr} {H H' : Hp} (a : Same H H') : But S H H' := fun c o e _ => a c o e
theorem But.same {H H' : Hp} (a : But [] H H') : Same H H' := fun c o e => a c o e (fun z => by cases z)
theorem But.at {S : List Addr} {H H' : Hp} {c : Addr} {o : HO} (a : But S H H') (e : H c = some o) (n : c ∉ S) : H' c = some o := a c o e n
theorem But.nil_at {S : List Addr} {H H' : Hp} {c : Addr} (a : But S H H') (n : c ∉ S) (e : H' c = none) : H c = none := by
  cases h : H c with
  | none => rfl
  | some o => rw [a c o h n] at e; cases e
theorem Same.but {H H' : Hp} (a : Same H H') : But [] H H' := But.of_same a
/-! ### packed operators, packed exceptions -/
structure Dx (P : Program) (w : World) (K : PySem.W.Frag) (mg : Str → Option Value) (base : Heap) (k : Nat) (C : Addr) (x qual : Str) (st : Stmt) (ps : List Str) (sp : Sp) : Prop where
  ex : ∃ (f : Addr) (fd : FuncData), Fun K "__init__" qual st f fd ∧ FnOk P w K mg base (L2.CX P w) k f fd ps sp ∧ OexC K C ∧ PySem.W.findIn K (.ref C) "__init__" = some (some (.ref f)) ∧ PySem.W.typeIn K (.ref f) = some (.type "function") ∧ mg x = some (.ref C) ∧ Binds K fd ps []
section
variable {X : Cx} {j k : Nat} {x m qual : Str} {st : Stmt} {ps : List Str} {sp : Sp} {C : Addr} {p pos : Pos} {e : Expr} {es : List Expr} {t : TA}
theorem pmk_x (D : Dx X.prog X.w X.K X.mg X.base k C x qual st ps sp) (hr : Room j X.A) (hk : k + 1 ≤ j) (hg : Gl X x) (ha : PA X (e :: es) t) (hdb : (x == ("__debug__" : Str)) = false := by decide)
    (he : starEach (e :: es) X.env = (false, eval e X.env) :: starEach es X.env := by rfl) (hpl : (backTo pos (starEach es X.env)).any (·.1) = false := by rfl) :
    PMk X (.Call (.Name x p) (e :: es) [] pos) (tMkO C sp [] t) := by
  obtain ⟨f, fd, F, G, T, i1, i2, hm, b⟩ := D.ex
  exact pmk_oex T i1 i2 G (hr.mono hk) b .nil passL hg hm ha hdb he hpl
theorem op_d {op : Operator} (D : Dm X.prog X.w X.K X.mg X.base k C m qual st ps sp) (hr : Room j X.A) (hk : k ≤ j) (sf : PySem.W.selfFirst X.K C = true) (hm : PySem.dunder op.info.2 = m) : OpR X (binaryOp op) (rOwn C sp E0) := by
  obtain ⟨f, fd, F, G, hc, me, b⟩ := D.ex
  subst hm
  exact op_own G (hr.mono hk) sf me.at_ me.fn b passL
theorem op_dE (D : Dm X.prog X.w X.K X.mg X.base k C "__eq__" qual st ps sp) (hr : Room j X.A) (hk : k ≤ j) : OpR X (compareOp .Eq) (rOwnEq X.K C sp E0) := by
  obtain ⟨f, fd, F, G, hc, me, b⟩ := D.ex
  exact op_ownEq G (hr.mono hk) me.at_ me.fn b passL
theorem op_dN (D : Dm X.prog X.w X.K X.mg X.base k C "__eq__" qual st ps sp) (hr : Room j X.A) (hk : k + 1 ≤ j) (hne : PySem.W.findIn X.K (.ref C) "__ne__" = some (some (.builtin "object.__ne__"))) (hob : PySem.W.subIn X.K (.ref C) (.type "object") = some true) :
    OpR X (compareOp .NotEq) (rOwnNe X.K C sp E0) := by
  obtain ⟨f, fd, F, G, hc, me, b⟩ := D.ex
  exact op_ownNe G (hr.mono hk) me.at_ me.fn b passL hne hob
end
/-! ### a word between a statement and the rest -/
def tMid (t u : TS) : TS := fun D σ H => ∃ M : L2.St → Hp → Prop, t { D with nx := M } σ H ∧ ∀ σ' H', M σ' H' → u D σ' H'
theorem pss_mid {X : Cx} {st : Stmt} {rest : List Stmt} {t u : TS} (one : PS X st t) (more : PSs X rest u) : PSs X (st :: rest) (tMid t u) := by
  refine ⟨fun pins s σ H D I ⟨M, h1, h2⟩ => wpAny_execs_cons (wpAny_mono (one.run pins s σ H { D with nx := M } I h1) (fun fl s1 z => ?_) fun _ _ z => z)⟩
  cases fl with
  | next =>
    obtain ⟨σ', H', J, m⟩ := z
    exact more.run pins s1 σ' H' D J (h2 σ' H' m)
  | ret v => exact z
  | brk => exact z
  | cont => exact z
/-- what a callee lets out, told where the number of slots is known -/
theorem passes_len {X : Cx} {W : WX} {E : XK} (tk : Takes X W) (hW : ∀ cls d σ H, σ.length = X.N.length → E cls d H → W cls d σ H) : Passes (L2.CX X.prog X.w) X E :=
  fun _ σ _ _ e s' I c => tk e s' (XE.of_call I (fun cls d H' h => hW cls d σ H' I.len h) c)
end R9
namespace R9
open PySem PySem.Spec PyProof.Rows L2
/-! ### one of two ways -/
theorem pi_or {X : Cx} {tg iter : Expr} {w1 w2 : TI} (a : PI X tg iter w1) (b : PI X tg iter w2) : PI X tg iter (fun σ H R => w1 σ H R ∨ w2 σ H R) := ⟨fun pins s σ H R I h => h.elim (a.run pins s σ H R I) (b.run pins s σ H R I)⟩
theorem pg_or {X : Cx} {tg : Expr} {g1 g2 : TG} (a : PG X tg g1) (b : PG X tg g2) : PG X tg (fun v σ H Q => g1 v σ H Q ∨ g2 v σ H Q) := ⟨fun pins s σ H v u Q I r h => h.elim (a.run pins s σ H v u Q I r) (b.run pins s σ H v u Q I r)⟩
theorem pe_or {X : Cx} {e : Expr} {t1 t2 : TE} (a : PE X e t1) (b : PE X e t2) : PE X e (fun σ H Q => t1 σ H Q ∨ t2 σ H Q) := ⟨fun pins s σ H Q I h => h.elim (a.run pins s σ H Q I) (b.run pins s σ H Q I)⟩
/-! ### tuple(d), sorted(d), sum(d.values()) of a dict -/
section
variable {prog : Program} {w : World} {A : Around} {E : Value → Shared → Prop} {s : Shared} {r d : Addr} {n : Nat} {P : Nat → Value → Prop} {OK : Heap → Prop} {Q : Value → Shared → Prop}
theorem tupleNew (K : PySem.W.KdlSrc prog w "dict" r d n P OK) (hh : A.handled = none) (hok : OK s.heap) (hn : n ≤ sizeLine)
    (h : ∀ (g : Heap) (tk : Nat) (acc : Array Value), (∀ b o, s.heap.get? b = some o → g.get? b = some o) → ItemsOf P acc n → Q (.ref g.objs.size) { s with heap := g.push { cls := .type "tuple", data := .seq acc }, toks := tk }) :
    codeAny (model prog w) A (.call (.builtin "tuple.__new__") ⟨[.type "tuple", .ref r], []⟩) (wants Q E) s := by
  refine codeAny_of_tree ?_
  show wpAny _ A.in1 (do checkBuiltinCall "tuple.__new__" ⟨[.type "tuple", .ref r], []⟩; again (.builtin "tuple.__new__" ⟨[.type "tuple", .ref r], []⟩)) _ _ s
  refine wpAny_bind (wpAny_of_eq (F.newCall_tuple_1 _) (wpAny_pure ⟨plainId_quiet F.plain_tuple_new _, codeAny_builtin F.entry_tuple_new ?_⟩))
  rw [Around.under_plainId F.plain_tuple_new _]
  have x1 := sub_tuple_self
  have x2 := init_tuple_lookup
  have x3 := madeHere_tuple
  have ty : s.TypeIs (.ref r) "dict" := K.type s hok
  have h1 : A.in1.handled = none := hh
  wp_walk using wpAny_typeOf ty, PySem.W.kdu_collect (A := A.in1) K h1 hok hn
  intro g tk acc hk hacc
  show wpAny _ _ (Builtin.Tuple.tupleExact acc.toList.toArray >>= fun v => ret v) _ _ _
  unfold Builtin.Tuple.tupleExact
  refine wpAny_bind (wpAny_newObj_type ?_ (by show acc.toList.toArray.size ≤ sizeLine; rw [Array.toArray_toList, hacc.1]; exact hn))
  refine wpAny_pure ?_
  rw [show acc.toList.toArray = acc from Array.toArray_toList]
  exact h g tk acc hk hacc
theorem tupleCall (K : PySem.W.KdlSrc prog w "dict" r d n P OK) (hh : A.handled = none) (hok : OK s.heap) (hn : n ≤ sizeLine)
    (h : ∀ (g : Heap) (tk : Nat) (acc : Array Value), (∀ b o, s.heap.get? b = some o → g.get? b = some o) → ItemsOf P acc n → Q (.ref g.objs.size) { s with heap := g.push { cls := .type "tuple", data := .seq acc }, toks := tk }) :
    wpAny (model prog w) A (call (.type "tuple") [.ref r]) Q E s := by
  refine callType_codes (Q₁ := fun obj z => z.TypeIs obj "tuple" ∧ Q obj z) F.called_tuple (F.typeCall_tuple_1 _) F.entry_object_init
    (tupleNew (A := A.in1) K hh hok hn fun g tk acc hk hacc => ⟨⟨_, Heap.get?_push_size _ rfl, rfl⟩, h g tk acc hk hacc⟩) fun obj z hz => ?_
  exact ⟨hz.1, F.args_object_init_2 obj _, object_init_meets F.called_tuple.init.lookup F.called_tuple.made (by decide) prog w A.in1 _ z ⟨hz.1, rfl, hz.2⟩⟩
theorem sumCall {T : String} (K : PySem.W.KdlSrc prog w T r d n P OK) (hh : A.handled = none) (hok : OK s.heap) (val : Nat → Int) (hval : ∀ (i : Nat) (v : Value), P i v → ∃ t : Tok, v = Value.int (val i) t)
    (h : ∀ (g : Heap) (tk : Nat) (t : Tok), (∀ b o, s.heap.get? b = some o → g.get? b = some o) → Q (.int (preSum val n) t) { s with heap := g, toks := tk }) :
    wpAny (model prog w) A (call (.builtin "sum") [.ref r]) Q E s := by
  refine call_sum_walkAnyS ?_
  obtain ⟨oI, St, hit, W, st⟩ := K.iter A.in1 s hh hok
  refine hit _ _ ⟨s.heap.objs.size, _, _, _, n, P, _, val, rfl, W.toS, st, fun b hb => ?_, hval, fun z t hm => ?_⟩
  · show b < (s.heap.push oI).objs.size
    rw [size_push']
    rcases List.mem_cons.mp hb with e | hb
    · rw [e]; exact Nat.lt_succ_self _
    · rw [List.mem_singleton.mp hb]; exact Nat.lt_succ_of_lt (K.there _ hok).2
  · have hk : ∀ b o, s.heap.get? b = some o → z.heap.get? b = some o := fun b o e =>
      hm.heap b o (fun hI => absurd (Heap.lt_size e) (by rw [List.mem_singleton.mp hI]; exact Nat.lt_irrefl _)) (Heap.get?_push_of_some _ e)
    rw [Moved.eq_with hm]
    exact h z.heap z.toks t hk
end
theorem pair_left {α β : Type} {F : α → β → Prop} : ∀ {xs : List α} {ys : List β}, Paired F xs ys → ∀ {i : Nat} {y : β}, ys[i]? = some y → ∃ x, xs[i]? = some x ∧ F x y
  | _, _, .nil, _, _, h => by cases h
  | _, _, .cons a _, 0, _, h => ⟨_, rfl, Option.some.inj h ▸ a⟩
  | _, _, .cons _ b, i + 1, _, h => pair_left b h
theorem key_vals {kvs : List (Key × V)} {vs : List (Key × Value)} {acc : Array Value} {P : Program} {w : World} (rk : KV kvs vs) (h : ItemsOf (fun i v => ∃ k x, vs[i]? = some (k, x) ∧ (mixKind P w).is k v = true) acc vs.length) : Vals (kvs.map fun kv => kV kv.1) acc.toList := by
  have hl : kvs.length = vs.length := Paired.length rk
  refine vals_of_at (by rw [List.length_map, hl]; exact h.1.symm) fun j x u h1 h2 => ?_
  obtain ⟨k, y, hky, hi⟩ := h.2 j u (by rw [← Array.getElem?_toList]; exact h2)
  have e1 : (kvs.map (·.1))[j]? = some k := by rw [KV.keys rk, List.getElem?_map, hky] <;> rfl
  have e2 : (kvs.map fun kv => kV kv.1)[j]? = some (kV k) := by
    rw [show (kvs.map fun kv => kV kv.1) = (kvs.map (·.1)).map kV by rw [List.map_map] <;> rfl, List.getElem?_map, e1] <;> rfl
  rw [e2] at h1
  cases h1
  exact keyIs_rel hi
section
variable {X : Cx}
def rTupD : List V → Hp → VK → Prop := fun xs H Q => ∃ p kvs, xs = [.ref p] ∧ H p = some (.dK kvs) ∧ ∀ q, H q = none → Q (.ref q) (upd H q (.tup (kvs.map fun kv => kV kv.1)))
theorem call_tupD (hc : X.calm = true) : CallR X (.type "tuple") rTupD := by
  intro pins s σ H xs us Q I r h
  obtain ⟨p, kvs, rfl, hk, q⟩ := h
  rw [Vals.ref1 r]
  obtain ⟨z, lo, vs, rk, hd⟩ := I.hok p _ hk
  obtain ⟨ep, hat⟩ := hd.dictAt
  have hl : kvs.length = vs.length := Paired.length rk
  refine tupleCall (PySem.W.kdl_dict (knd := mixKind X.prog X.w) (kvs := vs) (ep := ep) lo) (I.ok.hd hc) hat (by rw [← hl]; exact z) fun g tk acc hk2 hacc => ?_
  have I2 : Inv X pins σ H { s with heap := g, toks := tk } := I.kept hk2
  refine ⟨.ref g.objs.size, upd H g.objs.size (.tup (kvs.map fun kv => kV kv.1)), I2.laid (t' := tk) (fun c o e => Heap.get?_push_of_some _ e) (Nat.le_refl _) (show ObjOk X.prog X.w _ _ _ (.tup (kvs.map fun kv => kV kv.1)) from ⟨?_, acc.toList, key_vals rk hacc, ?_⟩), rfl, q _ (I2.hok.fresh (Nat.le_refl _))⟩
  · rw [List.length_map]; exact z
  · rw [Array.toArray_toList]; exact IsTup.new _ _
def rSortedD : List V → Hp → VK → Prop := fun xs H Q => ∃ (p : Addr) (kvs : List (Key × V)) (ss : List Str), xs = [.ref p] ∧ H p = some (.dK kvs) ∧ kvs.map (·.1) = ss.map Sum.inr ∧ ss.length < 64 ∧ ∀ (ys : List Str) (q : Addr), ys.Perm ss → sortedS ys = true → H q = none → Q (.ref q) (upd H q (.lst (ys.map V.str)))
theorem cr_sortedD (hc : X.calm = true) : CallR X (.builtin "sorted") rSortedD := by
  intro pins s σ H xs us Q I r h
  obtain ⟨p, kvs, ss, rfl, hk, hss, h64, q⟩ := h
  rw [Vals.ref1 r]
  obtain ⟨z, lo, vs, rk, hd⟩ := I.hok p _ hk
  obtain ⟨ep, hat⟩ := hd.dictAt
  have hl : kvs.length = vs.length := Paired.length rk
  have hls : kvs.length = ss.length := by
    have := congrArg List.length hss
    rw [List.length_map, List.length_map] at this
    exact this
  refine PySem.Calls.call_function_entry PyProof.Rows.kind_sorted PyProof.Rows.plain_sorted PyProof.Rows.entry_sorted (PyProof.Rows.args_sorted1 _) ?_
  unfold Builtin.«sorted»
  refine wpAny_bind (m := checkCount "sorted" 1 1 _) (wpAny_pure ?_)
  refine wpAny_bind (PySem.W.kdu_collect (A := X.A.in1) (PySem.W.kdl_dict (knd := mixKind X.prog X.w) (kvs := vs) (ep := ep) lo) (I.ok.hd hc) hat (by rw [← hl]; exact z) fun g tk acc hkeep hacc => ?_)
  have vv := key_vals rk hacc
  have ek : (kvs.map fun kv => kV kv.1) = ss.map V.str := by
    rw [show (kvs.map fun kv => kV kv.1) = (kvs.map (·.1)).map kV by rw [List.map_map] <;> rfl, hss, List.map_map]
    rfl
  rw [ek] at vv
  have sa := vv.strs
  have la : acc.toList.length = ss.length := by rw [← vv.length, List.length_map]
  refine wpAny_bind (wpAny_newList ?_ (by rw [la, sizeLine_eq]; omega))
  have hoL : (g.push (PyProof.Rows.seqObj "list" acc.toList.toArray 0)).get? g.objs.size = some (PyProof.Rows.seqObj "list" acc.toList.toArray 0) := Heap.get?_push_size _ rfl
  refine wpAny_bind (wpAny_holding (wpAny_call_entry PyProof.Rows.slot_list_sort ⟨_, hoL, rfl⟩ PyProof.Rows.entry_list_sort (PyProof.Rows.list_sort_treeK PyProof.Rows.strKind_oneLt hoL sa.keysOf (fun v₁ v₂ rest e => PyProof.Rows.keyKind_strs (by rw [← e]; exact sa)) (by rw [la]; exact h64) fun st' hp hs => ⟨_, rfl, ?_⟩) (PyProof.Rows.args_list_sort _)))
  refine wpAny_pure ⟨_, rfl, ?_⟩
  obtain ⟨ys, h1, h2, h3⟩ := PyProof.Rows.sorted_out_str sa hp hs
  obtain ⟨e2, he⟩ := PyProof.Rows.sortedHeap_at (vs := acc.toList) (out := (arrOf st').map (·.2)) hoL
  have hlen : (ys.map V.str).length ≤ sizeLine := by rw [List.length_map, h2.length_eq, sizeLine_eq]; omega
  have I2 : Inv X pins σ H { s with heap := g, toks := tk } := I.kept hkeep
  exact ⟨.ref g.objs.size, upd H g.objs.size (.lst (ys.map V.str)), I2.laid (t' := tk) (fun b o e => by
    rw [PyProof.Rows.sortedHeap_old (Nat.ne_of_lt (Heap.lt_size e)) (by rw [PyProof.Rows.size_push']; exact Nat.lt_succ_of_lt (Heap.lt_size e))]
    exact Heap.get?_push_of_some _ e) (Nat.le_refl _) ⟨hlen, _, e2, vals_of_strs h1, he⟩, rfl, q ys _ h2 h3 (I2.hok.fresh (Nat.le_refl _))⟩
variable {e : Expr} {te : TE} {p apos cpos pos : Pos}
theorem sum_pre : ∀ (ns : List Int) (val : Nat → Int), (∀ (i : Nat) (x : Int), ns[i]? = some x → val i = x) → preSum val ns.length = ns.sum := by
  intro ns val h
  have key : ∀ n, n ≤ ns.length → preSum val n = (ns.take n).sum := by
    intro n
    induction n with
    | zero => intro _; rw [List.take_zero]; rfl
    | succ n ih =>
      intro hn
      have hx : ns[n]? = some ns[n] := List.getElem?_eq_getElem (by omega)
      show preSum val n + val n = _
      rw [ih (by omega), h n _ hx, List.take_add_one, hx, List.sum_append]
      simp
  rw [key _ (Nat.le_refl _), List.take_length]
/-- sum(e.values()), whole numbers -/
def tSumVals (te : TE) : TE := fun σ H Q => te σ H fun x H1 => ∃ (d : Addr) (kvs : List (Key × V)) (ns : List Int), x = .ref d ∧ H1 d = some (.dK kvs) ∧ kvs.map (·.2) = ns.map V.int ∧ Q (.int ns.sum) H1
theorem pe_sumVals (hc : X.calm = true) (he : PE X e te) (hg : Gl X "sum") (hm : X.mg "sum" = none) (hv : bootBuiltins "sum" = some (.builtin "sum")) (hbase : attributeBase e "values" X.env (eval e X.env) = eval e X.env := by rfl) (hline : (apos.endLine == cpos.line) = true := by rfl)
    (hs : starEach [.Call (.Attribute e "values" apos) [] [] cpos] X.env = (false, eval (.Call (.Attribute e "values" apos) [] [] cpos) X.env) :: starEach [] X.env := by rfl) :
    PE X (.Call (.Name "sum" p) [.Call (.Attribute e "values" apos) [] [] cpos] [] pos) (tSumVals te) := by
  refine ⟨fun pins s σ H Q I hq => ?_⟩
  refine wpAny_Call_Name_kw (ld_blt I hg hm hv ?_)
  refine PyProof.Rows.callWith_builtin1 ?_ hs rfl
  rw [hs]
  show wpAny _ _ (spliced ((false, eval (.Call (.Attribute e "values" apos) [] [] cpos) X.env) :: backTo pos (starEach [] X.env))) _ _ s
  refine Calls.spliced_cons ?_
  refine wpAny_Call_method (T := "dict") (id := "dict.values") hbase rfl hline F.plainAttrs_dict F.slot_dict_values F.type_dict_values (thn (he.run pins s σ H _ I hq) fun u s1 ⟨x, H1, I1, rx, d, kvs, ns, ex, hd, hns, q⟩ => ?_)
  subst ex
  obtain rfl : u = Value.ref d := rx
  obtain ⟨hz, hs0, vs, kv, hdo⟩ := I1.hok d _ hd
  obtain ⟨ep, hat⟩ := hdo.dictAt
  have lk : kvs.length = vs.length := Paired.length kv
  have I2 : Inv X pins σ H1 { s1 with heap := s1.heap.push { cls := .type "dict_values", data := .fields #[.ref d] } } := I1.kept (t' := s1.toks) fun b ob z => Heap.get?_push_of_some _ z
  refine ⟨hdo.typeIs, hdo.mapOf.noDict, ?_⟩
  show wpAny _ _ (callWith cpos (.builtin "dict.values") [.ref d] [] []) _ X.xe s1
  refine method_meetsIn F.slot_dict_values F.entry_dict_values rfl (PySem.evalArgs_none ⟨rfl, hdo.typeIs, F.args_dict_values_1 _, _, meets_dict_values (mixKind X.prog X.w) d hs0, ⟨vs, hdo⟩, ?_⟩)
  refine Calls.spliced_nil ?_
  have lz : ns.length = vs.length := by
    have := congrArg List.length hns
    rw [List.length_map, List.length_map] at this
    omega
  refine sumCall (PySem.W.kdl_values (knd := mixKind X.prog X.w) (kvs := vs) (ep := ep)) (I1.ok.hd hc) ⟨⟨_, Heap.get?_push_size _ rfl, rfl, rfl⟩, hat.push _⟩ (fun i => ns.getD i 0) (fun i v hv => ?_) fun g tk t hk => ?_
  · obtain ⟨k, hi⟩ := hv
    obtain ⟨pr, h1, _, h2⟩ := pair_left kv hi
    have h3 : (kvs.map (·.2))[i]? = some pr.2 := by rw [List.getElem?_map, h1]; rfl
    rw [hns, List.getElem?_map] at h3
    cases h4 : ns[i]? with
    | none => rw [h4] at h3; cases h3
    | some z =>
      rw [h4] at h3
      have h5 : pr.2 = V.int z := (Option.some.inj h3).symm
      rw [h5] at h2
      obtain ⟨t, ht⟩ := h2
      refine ⟨t, ?_⟩
      show v = Value.int (ns.getD i 0) t
      rw [List.getD_eq_getElem?_getD, h4]
      exact ht
  · rw [← lz, sum_pre ns _ fun i x hx => by rw [List.getD_eq_getElem?_getD, hx]; rfl]
    exact ⟨.int ns.sum, H1, I2.kept hk, ⟨t, rfl⟩, q⟩
end
end R9
/-! ### enumerate over a tuple -/
namespace PySem
open Sem (wp)
open AutoSeq1 (wpAny_loadPart')
theorem newT_enum (l : Addr) (items : Array Value) (n : Nat) (dct : Option Addr) (sl : Array (Option Value)) :
    Meets (Builtin.«enumerate.__new__» ⟨[.type "enumerate", .ref l], []⟩) (fun _ R s => s.heap.get? l = some { cls := .type "tuple", dict := dct, data := .seq items n, slots := sl } ∧
      R (.ok (.ret (.ref (s.heap.push { cls := .type "tuple_iterator", data := .fields #[.ref l, .int 0 0] }).objs.size)))
        { s with heap := (s.heap.push { cls := .type "tuple_iterator", data := .fields #[.ref l, .int 0 0] }).push { cls := .type "enumerate", data := .fields #[.none, .bool false, .ref s.heap.objs.size, rawInt 0, .none, .none] } }) :=
  .of_wp fun prog w A R s h => by
    obtain ⟨hp, g, d, tk, os⟩ := s; obtain ⟨hl, h⟩ := h
    have sub := sub_enumerate
    have hL : Heap.IsTuple (Shared.heap ⟨hp, g, d, tk, os⟩) l items := ⟨_, hl, rfl, n, rfl⟩
    wp_walk using wpAny_loadPart' hl
    refine wpAny_stack_any fun st => wpAny_pure ?_
    split
    · rename_i c _ _ _ _ _
      cases (c == Value.type "enumerate")
      · wp_walk using wpAny_loadPart' hl, wpAny_pyIter_tuple hL
        exact ⟨_, rfl, h⟩
      · wp_walk using wpAny_loadPart' hl, wpAny_pyIter_tuple hL
        exact ⟨_, rfl, h⟩
    · wp_walk using wpAny_loadPart' hl, wpAny_pyIter_tuple hL
      exact ⟨_, rfl, h⟩
section
variable {prog : Program} {w : World} {A : Around} {E : Value → Shared → Prop} {s : Shared}
theorem call_enumT {l : Addr} {items : Array Value} {Q : Value → Shared → Prop} (hL : s.heap.IsTuple l items)
    (h : ∀ g, IsEnum g (s.heap.objs.size + 1) s.heap.objs.size 0 .none → g.get? s.heap.objs.size = some { cls := .type "tuple_iterator", data := .fields #[.ref l, .int 0 0] } → 
      (∀ b o, s.heap.get? b = some o → g.get? b = some o) → Q (.ref (s.heap.objs.size + 1)) { s with heap := g }) :
    wpAny (model prog w) A (call (.type "enumerate") [.ref l]) Q E s := by
  obtain ⟨⟨c, dct, dt, sl⟩, hl, hc, n, hd⟩ := hL
  replace hc : c = .type "tuple" := hc
  replace hd : dt = .seq items n := hd
  subst hc hd
  refine callType_new F.called_enumerate (by decide) (F.typeCall_enumerate_1 _) (F.newCall_enumerate_1 _) (fun obj => F.args_object_init_2 obj _) F.entry_enumerate_new
    (newT_enum l items n dct sl) ⟨hl, ?_⟩
  have hz : (s.heap.push { cls := .type "tuple_iterator", data := .fields #[.ref l, .int 0 0] }).objs.size = s.heap.objs.size + 1 := Heap.size_push ..
  show _ ∧ _
  rw [hz]
  have he : IsEnum ((s.heap.push { cls := .type "tuple_iterator", data := .fields #[.ref l, .int 0 0] }).push
      { cls := .type "enumerate", data := .fields #[.none, .bool false, .ref s.heap.objs.size, rawInt 0, .none, .none] }) (s.heap.objs.size + 1) s.heap.objs.size 0 .none := by
    have := Heap.get?_push_size (s.heap.push { cls := .type "tuple_iterator", data := .fields #[.ref l, .int 0 0] })
      (o := { cls := .type "enumerate", data := .fields #[.none, .bool false, .ref s.heap.objs.size, rawInt 0, .none, .none] }) rfl
    rw [hz] at this; exact this
  exact ⟨⟨_, he, rfl⟩, h _ he (Heap.get?_push_of_some _ (Heap.get?_push_size _ rfl)) fun b o y => Heap.get?_push_of_some _ (Heap.get?_push_of_some _ y)⟩
theorem enumT_end {e it l : Addr} {i : Nat} {items : Array Value} {old : Value} {Q : Option Value → Shared → Prop} (hh : A.handled = none)
    (he : IsEnum s.heap e it i old) (hit : s.heap.IsTupleIter it l i) (hl : s.heap.IsTuple l items) (hx : items[i]? = none)
    (hQ : ∀ g, Heap.ExtBut it s.heap g → Q none { s with heap := g }) : wpAny (model prog w) A (pyNext (.ref e)) Q E s := by
  have ty : s.TypeIs (.ref e) "enumerate" := ⟨_, he, rfl⟩
  unfold pyNext
  refine wpAny_bind (wpAny_attempt (wpAny_callSpecial?_slot (name := Str.ofString "__next__") ty F.slot_enumerate_next
    (wpAny_call_entry F.slot_enumerate_next ty F.entry_enumerate_next ?_ (F.args_enumerate_next_1 _))))
  show wpAny _ _ (field (.ref e) 2 >>= _) _ _ _
  refine wpAny_bind (wpAny_field he rfl (x := .ref it) rfl ?_)
  refine wpAny_bind (wpAny_nextOf_tuple_end hh hit hl hx fun g x he' hx' => ?_)
  obtain ⟨o, ho, hc⟩ := hx'
  refine wpAny_bind (wpAny_isInstance (T := "StopIteration") (b := true) ⟨o, ho, hc⟩ isSubtype_stop ?_)
  exact wpAny_pure (hQ _ he')
end
end PySem
namespace R9
open PySem PySem.Spec PyProof.Rows L2
/-- the tuple at a, each item in a new pair -/
def IteT (K : PySem.W.Frag) (a : Addr) : It :=
  ⟨fun i H => ∃ (xs : List V) (x : V), SqT K H a xs ∧ xs[i]? = some x, fun i H v H' => ∃ T x, v = .ref T ∧ H T = none ∧ H' = upd H T (.tup [.int (i : Nat), x]) ∧ ∀ xs, SqT K H a xs → xs[i]? = some x, fun i H => ∃ xs : List V, SqT K H a xs ∧ xs.length ≤ i⟩
theorem turn_enumT {P : Program} {w : World} {K : PySem.W.Frag} {elts : List Expr} {kk : Nat} {tpos : Pos} (a e it : Addr) :
    Turn P w K (.Tuple elts kk tpos) (IteT K a) [e, it] e (fun i h => (∃ old, IsEnum h e it ((i : Nat) : Int) old) ∧ h.IsTupleIter it a i ∧ e ≠ it) where
  mem := by simp
  obj := fun i h st b hb => by
    obtain ⟨⟨old, he⟩, ⟨o, ho, hc, hd⟩, _⟩ := st
    rcases (show b = e ∨ b = it by simpa using hb) with z | z
    · rw [z]; exact ⟨_, he, fun v q => nomatch q⟩
    · rw [z]; exact ⟨o, ho, fun v q => by rw [hd] at q; cases q⟩
  keep := fun i h g st k => let ⟨⟨old, he⟩, hi, hne⟩ := st; ⟨⟨old, k e (by simp) _ he⟩, hi.at fun o q => k it (by simp) o q, hne⟩
  item := by
    intro X hP hw hK hc i pins s σ H E I hf st hg
    subst hP hw hK
    obtain ⟨⟨old, he⟩, hit, hne⟩ := st
    obtain ⟨xs, x, hq, hx⟩ := hg
    obtain ⟨its, rv, p, hz⟩ := I.tuple hq
    obtain ⟨u, hu, ru⟩ := rv.get hx
    have ht : s.heap.IsTuple a its.toArray := p
    have ea : e ≠ a := fun z => by
      obtain ⟨o, h1, h2, _⟩ := ht
      rw [← z, he] at h1
      cases h1
      exact absurd (show Value.type "enumerate" = Value.type "tuple" from h2) (by decide)
    have ai : a ≠ it := fun z => by
      obtain ⟨o, h1, h2, _⟩ := ht
      obtain ⟨o', g1, g2, _⟩ := hit
      rw [z, g1] at h1
      cases h1
      rw [g2] at h2
      exact absurd h2 (by decide)
    have hel : e < s.heap.objs.size := Heap.lt_size he
    have hil : it < s.heap.objs.size := by obtain ⟨_, q, _⟩ := hit; exact Heap.lt_size q
    refine wpAny_pyNext_enum_itemD (Draws.tuple (A := X.A.in1) (I.ok.hd hc) it a ai its.toArray) he ⟨hit, ht⟩ (by
      have := (List.getElem?_eq_some_iff.mp hu).1
      simpa using this) hne (by simp [hne, ea]) fun y g tk hy ho hst hT hsz hk => ?_
    have hyu : y = u := by
      have : its[i]? = some y := by simpa using hy
      rw [hu] at this
      exact (Option.some.inj this).symm
    subst hyu
    refine ⟨_, rfl, wpAny_letOwnedTupleGo_enum (s := { s with heap := g, toks := tk + 1 }) ho fun g2 he2 sb => ?_⟩
    have hT2 : g2.get? s.heap.objs.size = some { cls := .type "tuple", data := .seq #[.int i tk, y] } := (sb.2 _ (Nat.ne_of_gt hel)).trans hT
    have new : ObjOk X.prog X.w (upd H s.heap.objs.size (.tup [.int (i : Nat), x])) g2 s.heap.objs.size (.tup [.int (i : Nat), x]) :=
      ⟨by show 2 ≤ sizeLine; decide, [.int i tk, y], .cons ⟨_, rfl⟩ (.cons ru .nil), ⟨_, hT2, rfl, _, rfl⟩⟩
    have I1 : Inv X pins σ (upd H s.heap.objs.size (.tup [.int (i : Nat), x])) { s with heap := g2, toks := tk + 1 } :=
      I.turnedNew (ch := [e, it]) (fun b ob hb q => (sb.2 b (fun z => hb (by simp [z]))).trans (hk b ob (fun z => hb (by simp [z])) (fun z => hb (by simp [z])) q)) hf (Nat.le_refl _) new
    refine ⟨.ref s.heap.objs.size, _, I1, rfl, ⟨_, x, rfl, I.hok.fresh (Nat.le_refl _), rfl, fun ys hy => by rw [I.tuple_inj hy hq]; exact hx⟩, ⟨⟨y, ?_⟩, hst.1.at fun o q => (sb.2 it (Ne.symm hne)).trans q, hne⟩, fun b hb => ?_⟩
    · rw [show ((i + 1 : Nat) : Int) = (i : Int) + 1 by omega]
      exact he2
    · have hb' : b < s.heap.objs.size := by
        rcases (show b = e ∨ b = it by simpa using hb) with z | z
        · rw [z]; exact hel
        · rw [z]; exact hil
      rw [upd_ne (Nat.ne_of_lt hb')]
      exact (hf b hb).1
  done := by
    intro X hP hw hK hc i pins s σ H E I hf st hg
    subst hP hw hK
    obtain ⟨⟨old, he⟩, hit, hne⟩ := st
    obtain ⟨xs, hq, hx⟩ := hg
    obtain ⟨its, rv, p, hz⟩ := I.tuple hq
    have ht : s.heap.IsTuple a its.toArray := p
    have ai : a ≠ it := fun z => by
      obtain ⟨o, h1, h2, _⟩ := ht
      obtain ⟨o', g1, g2, _⟩ := hit
      rw [z, g1] at h1
      cases h1
      rw [g2] at h2
      exact absurd h2 (by decide)
    obtain ⟨f0, f1, f2, f3, f4, f5⟩ := hf it (by simp)
    have hl := rv.length
    exact enumT_end (I.ok.hd hc) he hit ht (by simp; omega) fun g eb => ⟨rfl, I.turned (t' := s.toks) (fun b o hb e => eb b o hb e) f0 f1 f3 f4 f5⟩
  self := fun A i s Q E st h => let ⟨⟨_, he⟩, _⟩ := st; wpAny_pyIter_enum he h
def iEnumT (K : PySem.W.Frag) (ta : TA) : TI := fun σ H R => ta σ H fun vs H1 => ∃ a xs, vs = [.ref a] ∧ SqT K H1 a xs ∧ R (IteT K a) H1
theorem pi_enumT {X : Cx} {e : Expr} {ta : TA} {p pos tpos : Pos} {elts : List Expr} {kk : Nat} (hg : Gl X "enumerate") (hm : X.mg "enumerate" = none) (ha : PA X [e] ta) (hs : starEach [e] X.env = [(false, eval e X.env)] := by rfl) :
    PI X (.Tuple elts kk tpos) (.Call (.Name "enumerate" p) [e] [] pos) (iEnumT X.K ta) := by
  refine ⟨fun pins s σ H R I h => ?_⟩
  refine Call_ (ld_blt I hg hm boot_enumerate (PyProof.Rows.callWith_type1 (thn (ha.run pos pins s σ H _ I h) fun us s1 ⟨vs, H1, I1, r1, a, xs, ex, hq, q⟩ => ?_) hs rfl))
  subst ex
  cases r1 with
  | cons r rr =>
    cases rr
    cases r
    obtain ⟨its, rv, pt, hz⟩ := I1.tuple hq
    refine call_enumT (show s1.heap.IsTuple a its.toArray from pt) fun g he hit hk => wpAny_pyIter_enum he ?_
    have I2 : Inv X pins σ H1 { s1 with heap := g } := I1.kept (t' := s1.toks) hk
    refine ⟨s1.heap.objs.size + 1, [s1.heap.objs.size + 1, s1.heap.objs.size], _, _, H1, rfl, I2, turn_enumT a (s1.heap.objs.size + 1) s1.heap.objs.size, ⟨⟨.none, he⟩, ⟨_, hit, rfl, rfl⟩, Nat.succ_ne_self _⟩, fun b hb => ?_, q⟩
    have hle : s1.heap.objs.size ≤ b := by
      rcases (show b = s1.heap.objs.size + 1 ∨ b = s1.heap.objs.size by simpa using hb) with z | z
      · rw [z]; exact Nat.le_add_right _ _
      · rw [z]; exact Nat.le_refl _
    exact I1.fpOk hle (I1.hok.fresh hle)
end R9
namespace R9
open PySem PySem.Spec PyProof.Rows L2
/-! ### calls that may raise, where they stand -/
section
variable {X : Cx} {j k : Nat} {x m qual : Str} {st : Stmt} {ps : List Str} {sp : Sp} {C : Addr} {p pos apos : Pos} {e o : Expr} {es : List Expr} {t : TA} {ta : TE} {W : WX}
abbrev Lets (X : Cx) (W : WX) : Prop := ∀ σ, PassesAt (L2.CX X.prog X.w) X σ (WE W σ)
theorem pe_dS (D : Df X.prog X.w X.K X.mg X.base k x st ps sp) (hr : Room j X.A) (hk : k ≤ j) (hg : Gl X x) (hx : Lets X W) (ha : PA X (e :: es) t)
    (hdb : (x == ("__debug__" : Str)) = false := by decide) (he : starEach (e :: es) X.env = (false, eval e X.env) :: starEach es X.env := by rfl) (hpl : (backTo pos (starEach es X.env)).any (·.1) = false := by rfl) :
    PE X (.Call (.Name x p) (e :: es) [] pos) (tCallS sp (WE W) t) := by
  obtain ⟨f, fd, F, G, hm, b⟩ := D.ex
  exact pe_callS G (hr.mono hk) hg hm F.kp b hx ha hdb he hpl
def tMethX (C : Addr) (m : Str) (sp : Sp) (E : L2.St → XK) (ta : TE) (t : TA) : TE := fun σ H Q => ta σ H fun x H1 => ∃ a dx fs, x = .ref a ∧ H1 a = some (.ins C dx fs) ∧ fs.lookup m = none ∧ t σ H1 fun vs H2 => sp (.ref a :: vs) H2 Q (E σ)
theorem pe_mS {pl : Sem Bool} (D : Dm X.prog X.w X.K X.mg X.base k C m qual st ps sp) (hr : Room j X.A) (hk : k ≤ j) (hx : Lets X W) (he : PE X o ta) (ha : PA X (e :: es) t)
    (hst : starEach (e :: es) X.env = (false, eval e X.env) :: starEach es X.env := by rfl) (hpl : (backTo pos (starEach es X.env)).any (·.1) = false := by rfl)
    (ht : eval (.Call (.Attribute o m apos) (e :: es) [] pos) X.env = (do
      let ov ← eval o X.env
      standAt apos.atName
      let (f, first) ← holding [ov] (getMethod ov m pl)
      callWith pos f first (backTo pos (starEach (e :: es) X.env)) (backToKw pos (keywordEach [] X.env))) := by rfl) :
    PE X (.Call (.Attribute o m apos) (e :: es) [] pos) (tMethX C m sp (WE W) ta t) := by
  obtain ⟨f, fd, F, G, hc, hm, b⟩ := D.ex
  refine ⟨fun pins s σ H Q I h => ?_⟩
  refine PySem.W.methodCall_KW (pl := pl) (thn (he.run pins s σ H _ I h) fun u s1 ⟨x, H1, I1, rx, a, dx, fs, ex, ea, l, q⟩ => ?_) ht
  subst ex
  obtain rfl : u = Value.ref a := rx
  refine getmeth_ok I1 ea hc hm l ?_
  refine PySem.W.callWith_K (first := [.ref a]) (h₀ := X.base) I.ok.mod.kin hm.kp (thn (ha.run pos pins s1 σ H1 _ I1 q) fun us s2 ⟨vs, H2, I2, r, q2⟩ => ⟨I2.kIn, ?_⟩) hst hpl
  exact run_fnS (us := .ref a :: us) (vs := .ref a :: vs) G (hr.mono hk) b (hx σ) I2 (.cons rfl r) q2
theorem pe_m0S {pl : Sem Bool} (D : Dm X.prog X.w X.K X.mg X.base k C m qual st ps sp) (hr : Room j X.A) (hk : k ≤ j) (hx : Lets X W) (he : PE X o ta)
    (ht : eval (.Call (.Attribute o m apos) [] [] pos) X.env = (do
      let ov ← eval o X.env
      standAt apos.atName
      let (f, first) ← holding [ov] (getMethod ov m pl)
      callWith pos f first (backTo pos (starEach [] X.env)) (backToKw pos (keywordEach [] X.env))) := by rfl) :
    PE X (.Call (.Attribute o m apos) [] [] pos) (tMethX C m sp (WE W) ta tNil) := by
  obtain ⟨f, fd, F, G, hc, hm, b⟩ := D.ex
  refine ⟨fun pins s σ H Q I h => ?_⟩
  refine PySem.W.methodCall_KW (pl := pl) (thn (he.run pins s σ H _ I h) fun u s1 ⟨x, H1, I1, rx, a, dx, fs, ex, ea, l, q⟩ => ?_) ht
  subst ex
  obtain rfl : u = Value.ref a := rx
  refine getmeth_ok I1 ea hc hm l ?_
  refine PySem.W.callWith_K0 (first := [.ref a]) I1.kIn hm.kp ?_
  exact run_fnS (us := [.ref a]) (vs := [.ref a]) G (hr.mono hk) b (hx σ) I1 (.cons rfl .nil) q
end
/-! ### a dict comprehension whose value may raise -/
abbrev blkX (X : Cx) (s : Shared) (H : Hp) (scope : Scope) (cenv : Env) (fp : List Addr) (xe : Value → Shared → Prop) : Cx := (X.blk s H scope cenv fp).tr [] xe
section
variable {X : Cx}
theorem comp_fails {pins pins' : List (Addr × Obj)} {σ σ' : L2.St} {H3 H' : Hp} {s3 sA s' : Shared} {scope : Scope} {ce : Env} {fp : List Addr} {xe : Value → Shared → Prop} {W : WX} {E : XK} {u : Value}
    (hs : X.stack = X.env :: X.outer) (hf : X.env.frame = some X.env.locals) (tk : Takes X W) (I3 : Inv X pins σ H3 s3) (cL : ce.locals = s3.heap.objs.size) (cF : ce.frame = X.env.frame)
    (hfp : ∀ b ∈ fp, FpOk X pins H3 b) (I' : Inv (blkX X s3 H3 scope ce fp xe) pins' σ' H' sA) (hW : ∀ cls d H, E cls d H → W cls d σ H)
    (c : L2.CX X.prog X.w X.stack H' sA E u s') : notedBy (model X.prog X.w) X.A ce (CompFails (model X.prog X.w) X.A X.xe ce) u s' := by
  obtain ⟨a, B, H'', cls, d, rfl, fl, hok, ub, na, os, ag, hE⟩ := c
  have hfr : X.A.frames = some (X.env :: X.outer) := by rw [I3.ok.frames, hs]
  have fl' : HandSPX.FlyingZ B (X.env :: X.outer) a (Zc cls d) s'.heap := by rw [← hs]; exact fl
  have C3 : s3.heap.get? ce.locals = none := by
    cases e : s3.heap.get? ce.locals with
    | none => rfl
    | some o => have := Heap.lt_size e; rw [cL] at this; exact absurd this (Nat.lt_irrefl _)
  have Cfs : ce.locals ∉ frs X.stack := fun hm => by
    obtain ⟨_, o, e, _⟩ := I3.stack.mem hm
    rw [C3] at e; cases e
  obtain ⟨m, hn, _⟩ := I'.loc
  have hn : sA.heap.Ns ce.locals m := hn
  have HC : H' ce.locals = none := I'.free
  have BC : ∀ o, sA.heap.get? ce.locals = some o → B.get? ce.locals = some o := fun o e => ub.keep _ o e HC Cfs
  show wpAny _ _ (noteFrame (.ref a) ce) _ _ s'
  rw [noteFrame_env _ cF]
  refine HandSPX.looks_onZ Zc.steady hfr hf fl' fun h1 hd1 up1 => ?_
  have hn1 : h1.Ns ce.locals m := by
    obtain ⟨oL, es, ep, ho, hdL, r⟩ := hn
    obtain ⟨sl, e⟩ := up1 _ _ (fl.1 _ _ (BC _ ho)) (fun vs q => by rw [hdL] at q; cases q)
    exact ⟨_, es, ep, e, hdL, r⟩
  refine ⟨m, hn1, fun h2 m2 hn2 sb2 => ?_⟩
  -- the ground without the block's names
  obtain ⟨B2, g1, g2⟩ := restrict B fun b => decide (b ≠ ce.locals)
  have B2s : ∀ b o, B2.get? b = some o → B.get? b = some o ∧ b ≠ ce.locals := fun b o e => by
    by_cases hb : b = ce.locals
    · rw [g2 b (by simp [hb])] at e; cases e
    · rw [g1 b (by simp [hb])] at e; exact ⟨e, hb⟩
  have B2m : ∀ b o, B.get? b = some o → b ≠ ce.locals → B2.get? b = some o := fun b o e hb => by rw [g1 b (by simp [hb])]; exact e
  obtain ⟨k1, k2, k3, k4⟩ := hd1
  obtain ⟨oC, esC, epC, hoC, hdC, _⟩ := id hn1
  have f2 : h2.FunFrames B2 (X.env :: X.outer) := funFrames_none (Heap.FunFrames.sameBut sb2 hn2 k3) fun L hL => by
    obtain ⟨e, _⟩ := k3.mem hL
    cases q : B2.get? L with
    | none => rfl
    | some o => rw [(B2s _ _ q).1] at e; cases e
  have t2 : HandSPX.TracedZ h2 B2 a (Zc cls d) (rawInt X.env.locals) := by
    obtain ⟨oe, vs, T, oT, ts, he, hz, hd, h1', hnT, hTe, hT, hdT, h3⟩ := k4
    have na' : a ≠ ce.locals := fun z => by rw [z, hoC] at he; cases he; rw [hdC] at hd; cases hd
    have nT' : T ≠ ce.locals := fun z => by rw [z, hoC] at hT; cases hT; rw [hdC] at hdT; cases hdT
    refine ⟨oe, vs, T, oT, ts, (sb2.2 a na').trans he, hz, hd, h1', ?_, hTe, (sb2.2 T nT').trans hT, hdT, h3⟩
    cases q : B2.get? T with
    | none => rfl
    | some o => rw [(B2s _ _ q).1] at hnT; cases hnT
  have hd2 : HandSPX.HeldZ B2 (X.env :: X.outer) a (Zc cls d) X.env.locals h2 := by
    refine ⟨fun b o e => ?_, ?_, f2, t2⟩
    · obtain ⟨e1, e2⟩ := B2s _ _ e
      exact (sb2.2 b e2).trans (k1 b o e1)
    · cases q : B2.get? a with
      | none => rfl
      | some o => rw [(B2s _ _ q).1] at k2; cases k2
  obtain ⟨oe, vs, T, oT, ts, he, hz, hdd, h1', hr⟩ := id t2
  unfold PySem.passOn
  refine wpAny_bind (wpAny_field he hdd h1' ?_)
  rw [if_neg (show ¬ ((Value.ref T == Value.none) = true) from by simp)]
  rw [cF, hf]
  refine wpAny_bind (HandSPX.setFlight_onZ (s := { s' with heap := h2 }) hd2 fun h3 hd3 up3 => wpAny_throw (tk _ _ ?_))
  -- the def's state, the exception in its air
  obtain ⟨G, q1, q2⟩ := restrict h3 fun b => (B2.get? b).isSome || decide (b ∈ frs X.stack)
  have st : B2.StaysIn h3 := hd3.1
  have gB : ∀ b o, B2.get? b = some o → G.get? b = some o := fun b o e => by
    rw [q1 b (by simp [e])]
    exact st b o e
  have gF : ∀ b, b ∈ frs X.stack → G.get? b = h3.get? b := fun b hb => q1 b (by simp [hb])
  have og : ∀ b o, G.get? b = some o → h3.get? b = some o ∧ ((B2.get? b).isSome = true ∨ b ∈ frs X.stack) := fun b o e => by
    cases q : ((B2.get? b).isSome || decide (b ∈ frs X.stack)) with
    | false => rw [q2 b q] at e; cases e
    | true =>
      rw [q1 b q] at e
      exact ⟨e, by simpa [Bool.or_eq_true] using q⟩
  have nC : ∀ b o, s3.heap.get? b = some o → b ≠ ce.locals := fun b o e z => by rw [z, C3] at e; cases e
  have HC2 : H'' ce.locals = none := by
    obtain ⟨oL, _, _, ho, _⟩ := id hn
    exact ub.free _ _ ho HC
  have base : Un (frs X.stack) fp H3 H' s3.heap sA.heap := I'.base
  have slots : ∀ b o, s3.heap.get? b = some o → (∀ vs, o.data ≠ .fields vs) → b ∈ frs X.stack → (∃ sl, s'.heap.get? b = some { o with slots := sl }) → ∃ sl, G.get? b = some { o with slots := sl } := fun b o e hnf hb ⟨sl, e1⟩ => by
    obtain ⟨sl1, e2⟩ := up1 b _ e1 hnf
    have e3 := (sb2.2 b (nC b o e)).trans e2
    obtain ⟨sl2, e4⟩ := up3 b _ e3 hnf
    exact ⟨sl2, by rw [gF b hb]; exact e4⟩
  have I'' : Inv X pins σ H'' { s3 with heap := G, gens := s'.gens, drawn := s'.drawn, toks := s'.toks } := by
    refine I3.call' (ch := fp) rfl ⟨fun b o e n hb hx => ?_, fun b o e n hb hx => ?_, fun b o e n hx => ?_, fun b o e hx => ?_, fun b xs e => ub.tups _ _ (base.tups _ _ e), fun b o x e => ub.frzs _ _ _ (base.frzs _ _ _ e), fun b ps e => ?_⟩ (fun b o q => ?_) ag fun b hb => ?_
    · exact gB b o (B2m _ _ (ub.keep b o (base.keep b o e n hb hx) (base.free b o e n hx) hb) (nC b o e))
    · obtain ⟨_, o', e', hnf⟩ := I3.stack.mem hb
      rw [e] at e'; cases e'
      obtain ⟨sl, e1⟩ := base.slot b o e n hb hx
      obtain ⟨sl2, e2⟩ := ub.slot b _ e1 hb
      exact slots b o e hnf hb ⟨sl2, e2⟩
    · obtain ⟨o', e1⟩ := base.there b o e hx
      exact ub.free b o' e1 (base.free b o e n hx)
    · obtain ⟨o1, e1⟩ := base.there b o e hx
      by_cases hb : b ∈ frs X.stack
      · obtain ⟨_, o', e', hnf⟩ := I3.stack.mem hb
        rw [e] at e'; cases e'
        have n : H3 b = none := I3.stkFree b hb
        obtain ⟨sl, e1⟩ := base.slot b o e n hb hx
        obtain ⟨sl2, e2⟩ := ub.slot b _ e1 hb
        obtain ⟨sl3, e3⟩ := slots b o e hnf hb ⟨sl2, e2⟩
        exact ⟨_, e3⟩
      · obtain ⟨o2, e2⟩ := ub.there b o1 e1 hb
        exact ⟨o2, gB _ _ (B2m _ _ e2 (nC b o e))⟩
    · obtain ⟨m1, e1⟩ := base.tbls b ps e
      obtain ⟨m2, e2⟩ := ub.tbls b _ e1
      exact ⟨m1 ++ m2, by rw [e2, Array.append_assoc]⟩
    · refine (hok b o q).stay (fun c u hc r => gB _ _ (B2m _ _ r fun z => ?_)) (fun _ z => z) fun _ _ z => z
      subst z
      rcases hc with hc | hc
      · rw [← hc, HC2] at q; cases q
      · rw [HC2] at hc; cases hc
    · obtain ⟨_, f1, _, f3, f4, f5⟩ := hfp b hb
      exact ⟨f3, f1, f4, f5⟩
  refine ⟨a, B2, _, pins, σ, H'', cls, d, rfl, I'', fun b o e hb => ?_, Heap.UpToSlots.of_keeps fun b o e => (og b o e).1, .inr (.inr (by rw [hs]; exact hd3)), na, ?_, ag, hW _ _ _ hE⟩
  · obtain ⟨e', h⟩ := og b o e
    rcases h with h | h
    · obtain ⟨o', q⟩ := Option.isSome_iff_exists.mp h
      have z := st b o' q
      rw [e'] at z; cases z
      exact q
    · exact absurd h hb
  · show s'.os = s3.os
    rw [os]; exact I'.os
theorem thnX {α : Type} {t : Sem α} {Q Q' : α → Shared → Prop} {M : Model} {A : Around} {E E' : Value → Shared → Prop} {s : Shared} (h : wpAny M A t Q E s) (hE : ∀ u s, E u s → E' u s) (hQ : ∀ a s, Q a s → Q' a s) : wpAny M A t Q' E' s := wpAny_mono h hQ hE
theorem dc_coreX {pins : List (Addr × Obj)} {s : Shared} {σ : L2.St} {H : Hp} {Q : VK} {kx vx tg iter : Expr} {ifs : List Expr} {scope : Scope} {own : List (Str × Nat)} {pos pos' : Pos} {wi : TI} {g : TG} {tt : TT} {tk : TE} {use : Option (Value → Sem Unit)} {Qf : Value → Shared → Prop}
    {Wx : WX} {tvX : WX → TE} (hst : X.stack = X.env :: X.outer) (hff : X.env.frame = some X.env.locals) (tk0 : Takes X Wx) (hc : X.calm = true) (hN : X.N.Nodup) (I : Inv X pins σ H s) (hi : PI X tg iter wi) (ok : BlkOk X.N X.env.scope scope own)
    (hg : ∀ (s : Shared) (H : Hp) (C : Addr) (cl : List (Str × Addr)) (fp : List Addr) (xe : Value → Shared → Prop), PG (blkX X s H scope (compEnvC scope cl C X.env) fp xe) tg g) (ht : ∀ (s : Shared) (H : Hp) (C : Addr) (cl : List (Str × Addr)) (fp : List Addr) (xe : Value → Shared → Prop), PTs (blkX X s H scope (compEnvC scope cl C X.env) fp xe) ifs tt)
    (hk : ∀ (s : Shared) (H : Hp) (C : Addr) (cl : List (Str × Addr)) (fp : List Addr) (xe : Value → Shared → Prop), PE (blkX X s H scope (compEnvC scope cl C X.env) fp xe) kx tk)
    (he : ∀ (s : Shared) (H : Hp) (C : Addr) (cl : List (Str × Addr)) (fp : List Addr) (xe : Value → Shared → Prop) (Wb : WX), Lets (blkX X s H scope (compEnvC scope cl C X.env) fp xe) Wb → PE (blkX X s H scope (compEnvC scope cl C X.env) fp xe) vx (tvX Wb)) (hs : ∀ x, foldedSetIterable iter X.env x = pure x)
    (h : tDc wi g tt tk (tvX fun cls d _ H' => Wx cls d σ H') (own.map (·.2)) σ H Q)
    (hRR : ∀ D C s' m H', Inv X pins σ H' s' → Q (.ref D) H' → s'.heap.Ns C m → FpOk X pins H' C → ∀ ce : Env, ce.locals = C → compEnds (model X.prog X.w) X.A X.xe use Qf (.ref D) ce (.ok .next) s') :
    wpAny (model X.prog X.w) X.A (comprehension (.DictComp kx vx [⟨tg, iter, ifs, 0⟩] scope pos) scope X.env pos' newDict false (eval iter X.env) use) Qf X.xe s := by
  have hfree : ∀ y ∈ scope.names, y.2 = .free → ∃ c, X.env.cells.lookup y.1 = some c := fun y hy e => by
    rcases ok.free y hy e with k | k
    · exact I.ok.has _ (.inl k)
    · exact I.ok.has _ (.inr k)
  refine comprehension_at (use := use) rfl hs (closure_ok hfree) ok.kind (fun y hy e => by rw [ok.uniq y hy, e])
    (thn (hi.run pins s σ H _ I h) fun xv s1 hx => thn hx fun itv s2 h2 => ?_)
  obtain ⟨it, fp, tn, J, H2, e, I2, T, st2, f2, q⟩ := h2
  subst e
  refine wpAny_newObj_type (newEnv_comp ?_)
  generalize hD : s2.heap.objs.size = D
  have hDn : H2 D = none := I2.hok.fresh (Nat.le_of_eq hD)
  obtain ⟨W, ⟨m0, w0⟩, turn⟩ := q D hDn
  -- the new list
  generalize hs3 : ({ s2 with heap := s2.heap.push { cls := .type "dict", data := .dict #[] } } : Shared) = s3
  have I3 : Inv X pins σ (upd H2 D (.dK [])) s3 := by
    rw [← hs3]
    refine I2.laid (t' := s2.toks) (fun b o e => Heap.get?_push_of_some _ e) (Nat.le_of_eq hD) ?_
    rw [← hD]
    exact dk_empty s2.heap I2.big
  have h3 : s3.heap = s2.heap.push { cls := .type "dict", data := .dict #[] } := by rw [← hs3]
  have sz : ∀ b ∈ fp, b < s2.heap.objs.size := fun b hb => by
    obtain ⟨o, e, _⟩ := T.obj _ _ st2 b hb
    exact Heap.lt_size e
  have f3 : ∀ b ∈ fp, FpOk X pins (upd H2 D (.dK [])) b ∧ b < s3.heap.objs.size := fun b hb => by
    have hlt := sz b hb
    refine ⟨⟨?_, (f2 b hb).2⟩, by rw [h3, Heap.size_push]; exact Nat.lt_succ_of_lt hlt⟩
    rw [upd_ne (by rw [← hD]; exact Nat.ne_of_lt hlt)]
    exact (f2 b hb).1
  have st3 : tn 0 s3.heap := T.keep _ _ _ st2 fun b _ o e => by rw [h3]; exact Heap.get?_push_of_some _ e
  have I40 := block_start I3 ok hN f3
  have pg := fun xe => hg s3 (upd H2 D (.dK [])) s3.heap.objs.size (cellsFrom (s3.heap.objs.size + 1) scope.names (cloFrom X.env.cells scope.names [])) fp xe
  have pt := fun xe => ht s3 (upd H2 D (.dK [])) s3.heap.objs.size (cellsFrom (s3.heap.objs.size + 1) scope.names (cloFrom X.env.cells scope.names [])) fp xe
  have pk := fun xe => hk s3 (upd H2 D (.dK [])) s3.heap.objs.size (cellsFrom (s3.heap.objs.size + 1) scope.names (cloFrom X.env.cells scope.names [])) fp xe
  have pe := fun xe => he s3 (upd H2 D (.dK [])) s3.heap.objs.size (cellsFrom (s3.heap.objs.size + 1) scope.names (cloFrom X.env.cells scope.names [])) fp xe
  show codeAny _ _ (.compStart (.DictComp kx vx [⟨tg, iter, ifs, 0⟩] scope pos) 0 (.ref it) (.ref D) (compEnvC scope (cellsFrom (s3.heap.objs.size + 1) scope.names (cloFrom X.env.cells scope.names [])) s3.heap.objs.size X.env)) (compEnds (model X.prog X.w) X.A X.xe use Qf (.ref D) (compEnvC scope (cellsFrom (s3.heap.objs.size + 1) scope.names (cloFrom X.env.cells scope.names [])) s3.heap.objs.size X.env)) { s3 with heap := pushCells (s3.heap.push { cls := .type "dict", data := .dict #[] }) scope.names }
  have nfp : ∀ b ∈ fp, (upd H2 D (.dK [])) b = none := fun b hb => (f3 b hb).1.1
  generalize hce : compEnvC scope (cellsFrom (s3.heap.objs.size + 1) scope.names (cloFrom X.env.cells scope.names [])) s3.heap.objs.size X.env = ce at I40 pg pt pk pe ⊢
  have cL : ce.locals = s3.heap.objs.size := by subst hce; rfl
  have cF : ce.frame = X.env.frame := by subst hce; rfl
  generalize hxe : (fun u s' => notedBy (model X.prog X.w) X.A ce (CompFails (model X.prog X.w) X.A X.xe ce) u s') = xe
  generalize hH3 : upd H2 D (.dK []) = H3 at I3 I40 pg pt pk pe w0 nfp f3
  generalize hs4 : ({ s3 with heap := pushCells (s3.heap.push { cls := .type "dict", data := .dict #[] }) scope.names } : Shared) = s4 at I40 ⊢
  have I4 : Inv (blkX X s3 H3 scope ce fp xe) [] (wipe σ (own.map (·.2))) H3 s4 := I40.toTry xe
  replace pg := pg xe
  replace pt := pt xe
  replace pk := pk xe
  have lets : Lets (blkX X s3 H3 scope ce fp xe) (fun cls d _ H' => Wx cls d σ H') := fun σ' pins' H' sA e s' I' c => by
    show xe e s'
    rw [← hxe]
    exact comp_fails hst hff tk0 I3 cL cF (fun b hb => (f3 b hb).1) I' (fun _ _ _ h => h) c
  replace pe := pe xe _ lets
  have st4 : tn 0 s4.heap := T.keep _ _ _ st3 fun b _ o e => by rw [← hs4]; exact pushCells_keeps _ _ _ _ (Heap.get?_push_of_some _ e)
  have stat : ∀ {σ' : L2.St} {H' : Hp} {s' : Shared}, Inv (blkX X s3 H3 scope ce fp xe) [] σ' H' s' → (∀ b ∈ fp, H' b = none) → ∀ b ∈ fp, FpOk (blkX X s3 H3 scope ce fp xe) [] H' b := fun {σ' H' s'} I' hn b hb =>
    ⟨hn b hb, (I'.ok.exf b hb).1, I'.ok.exfs b hb, .inl hb, fun x c e => (I'.ok.exf b hb).2 x c e, fun p hp => absurd (show p ∈ ([] : List (Addr × Obj)) ++ [] from hp) (by simp)⟩
  have loop : codeAny (model X.prog X.w) X.A (.compLoop (.DictComp kx vx [⟨tg, iter, ifs, 0⟩] scope pos) 0 (.ref it) (.ref D) ce) (compEnds (model X.prog X.w) X.A X.xe use Qf (.ref D) ce) s4 := by
    refine compLoop_anyD (fun n s' => ∃ i H', Inv (blkX X s3 H3 scope ce fp xe) [] (wipe σ (own.map (·.2))) H' s' ∧ tn i s'.heap ∧ (∀ b ∈ fp, H' b = none) ∧ W i n H') ?_ m0 ⟨0, H3, I4, st4, nfp, w0⟩
    rintro n s5 ⟨i, H5, I5, st5, n5, w5⟩
    have hE : ∀ u s', xe u s' → notedBy (model X.prog X.w) X.A ce (fun e s' => compEnds (model X.prog X.w) X.A X.xe use Qf (.ref D) ce (.error e) s') u s' := fun u s' z => by
      rw [← hxe] at z; cases use <;> exact z
    rcases turn i n H5 w5 with ⟨stop, qq⟩ | ⟨go, Nx, hNx, step⟩
    · have td := T.done (blkX X s3 H3 scope ce fp xe) rfl rfl rfl hc i [] s5 _ H5 (fun _ _ => False) I5 (stat I5 n5) st5 stop
      refine thnF td fun r s6 ⟨hr, I6⟩ => ?_
      subst hr
      -- back in the def's context
      have I7 : Inv X pins σ H5 s6 := I3.call' (ch := fp) I6.os I6.base I6.hok I6.bare fun b hb => ⟨(f3 b hb).1.2.2.2.1, (f3 b hb).1.2.1, (f3 b hb).1.2.2.2.2.1, (f3 b hb).1.2.2.2.2.2⟩
      have nC : H5 s3.heap.objs.size = none := by
        have z : H5 ce.locals = none := I6.free
        rw [cL] at z
        exact z
      obtain ⟨m, hn, _⟩ := I6.loc
      have hn : s6.heap.Ns ce.locals m := hn
      rw [cL] at hn
      exact hRR D s3.heap.objs.size s6 m H5 I7 qq hn (I3.fpOk (Nat.le_refl _) nC) ce cL
    · have ti := T.item (blkX X s3 H3 scope ce fp xe) rfl rfl rfl hc i [] s5 _ H5 (fun _ _ => False) I5 (stat I5 n5) st5 go
      refine thnF ti fun r s6 ⟨u, hr, h6⟩ => ?_
      subst hr
      refine thnF h6 fun _ s7 ⟨x, H7, I7, r7, y7, st7, n7⟩ => ?_
      have I7' := I7.pinned (stat I7 n7) (T.obj _ _ st7)
      refine thnX (pg.run _ s7 _ H7 x u _ I7' r7 (step x H7 y7)) hE fun _ s8 ⟨σ8, H8, I8, hw8, q8⟩ => ?_
      refine thnX (pt.run _ s8 σ8 H8 _ I8 q8) hE fun b s9 ⟨H9, I9, q9⟩ => ?_
      -- the turn's end
      have fin : ∀ {s' : Shared} {H' : Hp}, Inv (blkX X s3 H3 scope ce fp xe) ([] ++ pinsAt fp s7.heap) σ8 H' s' → Nx H' → ∃ m, m < n ∧ ∃ i H', Inv (blkX X s3 H3 scope ce fp xe) [] (wipe σ (own.map (·.2))) H' s' ∧ tn i s'.heap ∧ (∀ b ∈ fp, H' b = none) ∧ W i m H' := fun {s' H'} I' nx => by
        obtain ⟨m', hm, w'⟩ := hNx H' nx
        have pin' : ∀ b ∈ fp, ∀ o, s7.heap.get? b = some o → s'.heap.get? b = some o ∧ H' b = none := fun b hb o e =>
          let z := I'.pin (b, o) (List.mem_append_right _ (List.mem_append_right _ (mem_pinsAt hb e)))
          ⟨z.1, z.2.1⟩
        have hl : (wipe σ (own.map (·.2))).length = σ8.length := by rw [← hw8, wipe_length]
        refine ⟨m', hm, i + 1, H', (I'.unpinned (pins := [])).weak hl (fun j v e => ?_), T.keep _ _ _ st7 fun b hb o e => (pin' b hb o e).1, fun b hb => ?_, w'⟩
        · rw [← hw8] at e
          exact (wipe_some e).1
        · obtain ⟨o, e, _⟩ := T.obj _ _ st7 b hb
          exact (pin' b hb o e).2
      cases b with
      | false =>
        simp only [Bool.false_eq_true, if_false] at q9 ⊢
        exact fin I9 q9
      | true =>
        simp only [if_true] at q9 ⊢
        refine thnX (pk.run _ s9 σ8 H9 _ I9 q9) hE fun z s10 ⟨yk, H10, I10, r10, q10⟩ => ?_
        refine thnX (pe.run _ s10 σ8 H10 _ I10 q10) hE fun z2 s11 ⟨yv, H11, I11, r11, kvs, k, ek, hD11, hz11, nx⟩ => ?_
        subst ek
        exact d_dictSet (X := blkX X s3 H3 scope ce fp xe) I11 hD11 hz11 r10 r11 fun s12 I12 => fin I12 nx
  exact codeAny_compStart_dict loop (T.self X.A 0 _ _ _ st4 loop)
/-- .. as a value -/
def tDcX (W : WX) (wi : TI) (g : TG) (tt : TT) (tk : TE) (tvX : WX → TE) (vs : List Nat) : TE := fun σ H Q => tDc wi g tt tk (tvX fun cls d _ H' => W cls d σ H') vs σ H Q
theorem pe_dcX {kx vx tg iter : Expr} {ifs : List Expr} {scope : Scope} {own : List (Str × Nat)} {pos : Pos} {wi : TI} {g : TG} {tt : TT} {tk : TE} {W : WX} {tvX : WX → TE} (hst : X.stack = X.env :: X.outer) (hff : X.env.frame = some X.env.locals) (tk0 : Takes X W) (hc : X.calm = true) (hN : X.N.Nodup) (hi : PI X tg iter wi) (ok : BlkOk X.N X.env.scope scope own)
    (hg : ∀ (s : Shared) (H : Hp) (C : Addr) (cl : List (Str × Addr)) (fp : List Addr) (xe : Value → Shared → Prop), PG (blkX X s H scope (compEnvC scope cl C X.env) fp xe) tg g) (ht : ∀ (s : Shared) (H : Hp) (C : Addr) (cl : List (Str × Addr)) (fp : List Addr) (xe : Value → Shared → Prop), PTs (blkX X s H scope (compEnvC scope cl C X.env) fp xe) ifs tt)
    (hk : ∀ (s : Shared) (H : Hp) (C : Addr) (cl : List (Str × Addr)) (fp : List Addr) (xe : Value → Shared → Prop), PE (blkX X s H scope (compEnvC scope cl C X.env) fp xe) kx tk)
    (he : ∀ (s : Shared) (H : Hp) (C : Addr) (cl : List (Str × Addr)) (fp : List Addr) (xe : Value → Shared → Prop) (Wb : WX), Lets (blkX X s H scope (compEnvC scope cl C X.env) fp xe) Wb → PE (blkX X s H scope (compEnvC scope cl C X.env) fp xe) vx (tvX Wb)) (hs : ∀ x, foldedSetIterable iter X.env x = pure x := by intro _; rfl) :
    PE X (.DictComp kx vx [⟨tg, iter, ifs, 0⟩] scope pos) (tDcX W wi g tt tk tvX (own.map (·.2))) := by
  refine ⟨fun pins s σ H Q I h => ?_⟩
  rw [arm_eval_DictComp]
  refine dc_coreX hst hff tk0 hc hN I hi ok hg ht hk he hs h fun D C s' m H' I' q hn f ce hce => ?_
  subst hce
  refine ⟨m, hn, fun h'' sb => ?_⟩
  obtain ⟨f0, f1, f2, f3, f4, f5⟩ := f
  exact ⟨.ref D, H', I'.turned (t' := s'.toks) (fun b o hb e => (sb.2 b hb).trans e) f0 f1 f3 f4 f5, rfl, q⟩
end
end R9
namespace R9
open PySem PySem.Spec PyProof.Rows L2
/-! ### raise, try .. except .. as, an exception's field: readings by name -/
def tRaise (W : WX) (t : L2.St → Hp → XK → Prop) : TS := fun _ σ H => t σ H fun cls d H' => W cls d σ H'
theorem ps_raiseT {X : Cx} {W : WX} {e : Expr} {t : L2.St → Hp → XK → Prop} {pos : Pos} (hc : X.calm = true) (tk : Takes X W) (he : PMk X e t) : PS X (.Raise (some e) none pos) (tRaise W t) := ps_raise hc tk he
def tTryAs (K : PySem.W.Frag) (c : Value) (i : Nat) (tb : WX → TS) (ts : Addr → Value → Option Addr → TS) (Wout : WX) : TS := fun D σ H => ∃ W : WX, (∀ cls d σ' H', W cls d σ' H' → wAs K c i ts Wout D cls d σ' H') ∧ tb W D σ H
section
variable {X : Cx} {x n : Str} {c : Value} {i : Nat} {body suite : List Stmt} {b₀ : Stmt} {np pos pos' : Pos} {tb : WX → TS} {ts : Addr → Value → Option Addr → TS} {Wout : WX}
theorem ps_try_asT (hs : X.stack = X.env :: X.outer) (hf : X.env.frame = some X.env.locals) (hN : X.N.Nodup) (hi : X.N[i]? = some n) (hln : X.env.kindOf n = some .local) (hc : Names X x c) (tk : Takes X Wout)
    (hb : ∀ (W : WX) (pn : List (Addr × Obj)) (xe : Value → Shared → Prop), Takes (X.tr pn xe) W → PassesOwn (model X.prog X.w) X.A X.env xe → PSs (X.tr pn xe) body (tb W))
    (hsu : ∀ (a : Addr) (oe : Obj) (cls : Value) (d : Option Addr) (pn : List (Addr × Obj)), Zc cls d oe → (∃ vs, oe.data = .fields vs) → PSs (X.suite a ((a, oe) :: pn)) (b₀ :: suite) (ts a cls d)) :
    PS X (.Try body [.ExceptHandler (some (.Name x np)) (some n) (b₀ :: suite) pos'] [] [] pos) (tTryAs X.K c i tb ts Wout) :=
  ps_try_as (tb := fun W' D σ H => ∃ W : WX, (∀ cls d σ' H', W cls d σ' H' → W' cls d σ' H') ∧ tb W D σ H) hs hf hN hi hln hc tk (fun W' pn xe tk' po => ⟨fun pins s σ H D I ⟨W, hW, h⟩ => (hb W pn xe (tk'.imp fun c d σ H h => hW c d σ H h) po).run pins s σ H D I h⟩) hsu
end
section
variable {X : Cx} {cls : Value} {d : Option Addr} {pos : Pos} {e : Expr} {te : TE} {C : Addr}
def tXf (C a : Addr) (cls : Value) (d : Option Addr) (n : Str) (te : TE) : TE := fun σ H Q => te σ H fun x H1 => x = .ref a ∧ cls = .ref C ∧ ∃ (dd : Addr) (fs : List (Str × V)) (v : V), d = some dd ∧ H1 dd = some (.xd fs) ∧ fs.lookup n = some v ∧ Q v H1
theorem pe_xfT {a : Addr} {oe : Obj} {n : Str} (hot : HotX X (a, oe) cls d) (T : XfC X.K C) (hno : PySem.W.findIn X.K (.ref C) n = some none) (he : PE X e te) (hb : attributeBase e n X.env (eval e X.env) = eval e X.env := by rfl) :
    PE X (.Attribute e n pos) (tXf C a cls d n te) := pe_xfP hot T hno he hb
def rIsP (K : PySem.W.Frag) (D a : Addr) (cls : Value) (d : Option Addr) : List V → Hp → VK → Prop := fun xs H Q => ∃ (c : V) (cv : Value) (b : Bool), xs = [.ref a, c] ∧ cls = .ref D ∧ ClsV c cv ∧ PySem.W.kitOne K (.ref D) cv = some b ∧ (∀ dd, d = some dd → ∃ fs, H dd = some (.xd fs)) ∧ Q (.bl b) H
theorem call_isT {a : Addr} {oe : Obj} {D : Addr} (hot : HotX X (a, oe) cls d) (E : ExcC X.K D) : CallR X (.builtin "isinstance") (rIsP X.K D a cls d) := by
  rintro pins s σ H xs us Q I r ⟨c, cv, b, e1, rfl, hcv, e, hdd, q⟩
  exact call_isP hot E pins s σ H xs us Q I r ⟨c, cv, b, e1, hcv, e, hdd, q⟩
end
/-! ### a class made whose __init__ may raise -/
section
variable {X : Cx} {j k : Nat} {x qual : Str} {st : Stmt} {ps : List Str} {sp : Sp} {C : Addr} {p pos : Pos} {e : Expr} {es : List Expr} {t : TA} {W : WX}
def tMakeX (C : Addr) (sp : Sp) (E : L2.St → XK) (t : TA) : TE := fun σ H Q => t σ H fun vs H1 => ∀ x dx, H1 x = none → H1 dx = none → dx ≠ x → sp (.ref x :: vs) (upd (upd H1 dx (.own x)) x (.ins C dx [])) (fun v H2 => v = .non ∧ Q (.ref x) H2) (E σ)
theorem pe_kS (D : Dk X.prog X.w X.K X.mg X.base k C x qual st ps sp) (hr : Room j X.A) (hk : k + 1 ≤ j) (hg : Gl X x) (hx : Lets X W) (ha : PA X (e :: es) t)
    (hdb : (x == ("__debug__" : Str)) = false := by decide) (he : starEach (e :: es) X.env = (false, eval e X.env) :: starEach es X.env := by rfl) (hpl : (backTo pos (starEach es X.env)).any (·.1) = false := by rfl) :
    PE X (.Call (.Name x p) (e :: es) [] pos) (tMakeX C sp (WE W) t) := by
  obtain ⟨f, fd, F, G, M, hm, b⟩ := D.ex
  refine ⟨fun pins s σ H Q I h => ?_⟩
  refine wpAny_Call_Name_kw (ld_glob I hg hm ?_ hdb)
  refine PySem.W.callWith_K (h₀ := X.base) I.ok.mod.kin M.kp (thn (ha.run pos pins s σ H _ I h) fun us s1 ⟨vs, H1, I1, r, q⟩ => ⟨I1.kIn, ?_⟩) he hpl
  have hq := q (s1.heap.objs.size + 1) s1.heap.objs.size (I1.hok.fresh (Nat.le_succ _)) (I1.hok.fresh (Nat.le_refl _)) (Nat.ne_of_lt (Nat.lt_succ_self _))
  have I2 := Inv.made (C := C) I1
  have r2 : Vals (V.ref (s1.heap.objs.size + 1) :: vs) (Value.ref (s1.heap.objs.size + 1) :: us) := .cons rfl r
  have hl : (Value.ref (s1.heap.objs.size + 1) :: us ++ ([] : List Value)).length = ps.length := by
    have e := r2.length
    rw [G.len _ _ _ _ hq] at e
    rw [List.append_nil]
    exact e.symm
  have bb := b _ (Value.ref (s1.heap.objs.size + 1) :: us) I2.kIn hl
  rw [List.append_nil] at bb
  refine wpAny_call (make_map (f := f) I1.kIn M.makes M.init (beq_iff_eq.mp M.fn) (codeAny_mono (G.run _ X.stack _ _ ⟨Value.ref (s1.heap.objs.size + 1) :: us, []⟩ (Value.ref (s1.heap.objs.size + 1) :: us) _ _ (WE W σ) ((hr.mono hk).make C us [])
    (I2.env0.make C us []) bb r2 hq) fun r s' hq' => ?_))
  cases r with
  | error e => exact hx σ pins _ _ e s' I2 hq'
  | ok fl =>
    cases fl with
    | ret u =>
      obtain ⟨v, H', I3, rv, ev, q3⟩ := I2.after hq'
      subst ev
      exact ⟨rv, ⟨V.ref (s1.heap.objs.size + 1), H', I3, rfl, q3⟩⟩
    | next => exact False.elim hq'
    | brk => exact False.elim hq'
    | cont => exact False.elim hq'
end
/-! ### a dict comprehension whose value may raise, the wish at choice -/
def tW (tv : WX → TE) (Wb : WX) : TE := fun σ H Q => ∃ W : WX, (∀ cls d σ' H', W cls d σ' H' → Wb cls d σ' H') ∧ tv W σ H Q
theorem Lets.imp {X : Cx} {W Wb : WX} (l : Lets X Wb) (h : ∀ cls d σ' H', W cls d σ' H' → Wb cls d σ' H') : Lets X W := fun σ pins H s e s' I ⟨a, B, H', cls, d, e1, fl, hok, ub, na, os, ag, hE⟩ => l σ pins H s e s' I ⟨a, B, H', cls, d, e1, fl, hok, ub, na, os, ag, h _ _ _ _ hE⟩
theorem pe_dcW {X : Cx} {kx vx tg iter : Expr} {ifs : List Expr} {scope : Scope} {own : List (Str × Nat)} {pos : Pos} {wi : TI} {g : TG} {tt : TT} {tk : TE} {W : WX} {tvX : WX → TE} (hst : X.stack = X.env :: X.outer) (hff : X.env.frame = some X.env.locals) (tk0 : Takes X W) (hc : X.calm = true) (hN : X.N.Nodup) (hi : PI X tg iter wi) (ok : BlkOk X.N X.env.scope scope own)
    (hg : ∀ (s : Shared) (H : Hp) (C : Addr) (cl : List (Str × Addr)) (fp : List Addr) (xe : Value → Shared → Prop), PG (blkX X s H scope (compEnvC scope cl C X.env) fp xe) tg g) (ht : ∀ (s : Shared) (H : Hp) (C : Addr) (cl : List (Str × Addr)) (fp : List Addr) (xe : Value → Shared → Prop), PTs (blkX X s H scope (compEnvC scope cl C X.env) fp xe) ifs tt)
    (hk : ∀ (s : Shared) (H : Hp) (C : Addr) (cl : List (Str × Addr)) (fp : List Addr) (xe : Value → Shared → Prop), PE (blkX X s H scope (compEnvC scope cl C X.env) fp xe) kx tk)
    (he : ∀ (s : Shared) (H : Hp) (C : Addr) (cl : List (Str × Addr)) (fp : List Addr) (xe : Value → Shared → Prop) (Wb : WX), Lets (blkX X s H scope (compEnvC scope cl C X.env) fp xe) Wb → PE (blkX X s H scope (compEnvC scope cl C X.env) fp xe) vx (tvX Wb)) (hs : ∀ x, foldedSetIterable iter X.env x = pure x := by intro _; rfl) :
    PE X (.DictComp kx vx [⟨tg, iter, ifs, 0⟩] scope pos) (tDcX W wi g tt tk (tW tvX) (own.map (·.2))) :=
  pe_dcX (tvX := tW tvX) hst hff tk0 hc hN hi ok hg ht hk (fun s H C cl fp xe Wb l => ⟨fun pins s σ H Q I ⟨W', hW, h⟩ => (he _ _ _ _ _ _ W' (l.imp hW)).run pins s σ H Q I h⟩) hs
/-! ### a dict that stays as it is -/
section
variable {X : Cx}
def tKeep (t : TE) : TE := fun σ H Q => t σ H fun x H1 => ∃ (d : Addr) (kvs : List (Key × V)), x = .ref d ∧ H1 d = some (.dK kvs) ∧ ∀ o, Q x (upd H1 d (.frz o (.dK kvs)))
theorem pe_keep {e : Expr} {t : TE} (h : PE X e t) : PE X e (tKeep t) := by
  refine ⟨fun pins s σ H Q I hw => thn (h.run pins s σ H _ I hw) fun v s1 ⟨x, H1, I2, r, d, kvs, ex, hd, q⟩ => ?_⟩
  obtain ⟨od, I3⟩ := I2.lock hd trivial
  exact ⟨x, _, I3, r, q od⟩
def rTupDR : List V → Hp → VK → Prop := fun xs H Q => ∃ p kvs, xs = [.ref p] ∧ Rd H p (.dK kvs) ∧ ∀ q, H q = none → Q (.ref q) (upd H q (.tup (kvs.map fun kv => kV kv.1)))
theorem call_tupDR (hc : X.calm = true) : CallR X (.type "tuple") rTupDR := by
  intro pins s σ H xs us Q I r h
  obtain ⟨p, kvs, rfl, hk, q⟩ := h
  rw [Vals.ref1 r]
  obtain ⟨z, lo, vs, rk, hd⟩ := hk.ok I.hok
  obtain ⟨ep, hat⟩ := hd.dictAt
  have hl : kvs.length = vs.length := Paired.length rk
  refine tupleCall (PySem.W.kdl_dict (knd := mixKind X.prog X.w) (kvs := vs) (ep := ep) lo) (I.ok.hd hc) hat (by rw [← hl]; exact z) fun g tk acc hk2 hacc => ?_
  have I2 : Inv X pins σ H { s with heap := g, toks := tk } := I.kept hk2
  refine ⟨.ref g.objs.size, upd H g.objs.size (.tup (kvs.map fun kv => kV kv.1)), I2.laid (t' := tk) (fun c o e => Heap.get?_push_of_some _ e) (Nat.le_refl _) (show ObjOk X.prog X.w _ _ _ (.tup (kvs.map fun kv => kV kv.1)) from ⟨?_, acc.toList, key_vals rk hacc, ?_⟩), rfl, q _ (I2.hok.fresh (Nat.le_refl _))⟩
  · rw [List.length_map]; exact z
  · rw [Array.toArray_toList]; exact IsTup.new _ _
def rSortedDR : List V → Hp → VK → Prop := fun xs H Q => ∃ (p : Addr) (kvs : List (Key × V)) (ss : List Str), xs = [.ref p] ∧ Rd H p (.dK kvs) ∧ kvs.map (·.1) = ss.map Sum.inr ∧ ss.length < 64 ∧ ∀ (ys : List Str) (q : Addr), ys.Perm ss → sortedS ys = true → H q = none → Q (.ref q) (upd H q (.lst (ys.map V.str)))
theorem cr_sortedDR (hc : X.calm = true) : CallR X (.builtin "sorted") rSortedDR := by
  intro pins s σ H xs us Q I r h
  obtain ⟨p, kvs, ss, rfl, hk, hss, h64, q⟩ := h
  rw [Vals.ref1 r]
  obtain ⟨z, lo, vs, rk, hd⟩ := hk.ok I.hok
  obtain ⟨ep, hat⟩ := hd.dictAt
  have hl : kvs.length = vs.length := Paired.length rk
  have hls : kvs.length = ss.length := by
    have := congrArg List.length hss
    rw [List.length_map, List.length_map] at this
    exact this
  refine PySem.Calls.call_function_entry PyProof.Rows.kind_sorted PyProof.Rows.plain_sorted PyProof.Rows.entry_sorted (PyProof.Rows.args_sorted1 _) ?_
  unfold Builtin.«sorted»
  refine wpAny_bind (m := checkCount "sorted" 1 1 _) (wpAny_pure ?_)
  refine wpAny_bind (PySem.W.kdu_collect (A := X.A.in1) (PySem.W.kdl_dict (knd := mixKind X.prog X.w) (kvs := vs) (ep := ep) lo) (I.ok.hd hc) hat (by rw [← hl]; exact z) fun g tk acc hkeep hacc => ?_)
  have vv := key_vals rk hacc
  have ek : (kvs.map fun kv => kV kv.1) = ss.map V.str := by
    rw [show (kvs.map fun kv => kV kv.1) = (kvs.map (·.1)).map kV by rw [List.map_map] <;> rfl, hss, List.map_map]
    rfl
  rw [ek] at vv
  have sa := vv.strs
  have la : acc.toList.length = ss.length := by rw [← vv.length, List.length_map]
  refine wpAny_bind (wpAny_newList ?_ (by rw [la, sizeLine_eq]; omega))
  have hoL : (g.push (PyProof.Rows.seqObj "list" acc.toList.toArray 0)).get? g.objs.size = some (PyProof.Rows.seqObj "list" acc.toList.toArray 0) := Heap.get?_push_size _ rfl
  refine wpAny_bind (wpAny_holding (wpAny_call_entry PyProof.Rows.slot_list_sort ⟨_, hoL, rfl⟩ PyProof.Rows.entry_list_sort (PyProof.Rows.list_sort_treeK PyProof.Rows.strKind_oneLt hoL sa.keysOf (fun v₁ v₂ rest e => PyProof.Rows.keyKind_strs (by rw [← e]; exact sa)) (by rw [la]; exact h64) fun st' hp hs => ⟨_, rfl, ?_⟩) (PyProof.Rows.args_list_sort _)))
  refine wpAny_pure ⟨_, rfl, ?_⟩
  obtain ⟨ys, h1, h2, h3⟩ := PyProof.Rows.sorted_out_str sa hp hs
  obtain ⟨e2, he⟩ := PyProof.Rows.sortedHeap_at (vs := acc.toList) (out := (arrOf st').map (·.2)) hoL
  have hlen : (ys.map V.str).length ≤ sizeLine := by rw [List.length_map, h2.length_eq, sizeLine_eq]; omega
  have I2 : Inv X pins σ H { s with heap := g, toks := tk } := I.kept hkeep
  exact ⟨.ref g.objs.size, upd H g.objs.size (.lst (ys.map V.str)), I2.laid (t' := tk) (fun b o e => by
    rw [PyProof.Rows.sortedHeap_old (Nat.ne_of_lt (Heap.lt_size e)) (by rw [PyProof.Rows.size_push']; exact Nat.lt_succ_of_lt (Heap.lt_size e))]
    exact Heap.get?_push_of_some _ e) (Nat.le_refl _) ⟨hlen, _, e2, vals_of_strs h1, he⟩, rfl, q ys _ h2 h3 (I2.hok.fresh (Nat.le_refl _))⟩

end
section
variable {X : Cx}
def tTrV (K : PySem.W.Frag) (ta : TE) : TT := fun σ H Q => ta σ H fun x H' => ∃ k, TruV K x H' k ∧ Q k H'
theorem pt_truthT {a : Expr} {ta : TE} (ha : PE X a ta) (he : ∀ whole, isTrue a X.env whole = (do let v ← whole; standAt a.pos; holding [v] (truthy v))) : PT X a (tTrV X.K ta) := pt_truth ha he
end
end R9
namespace R9
open PySem PySem.Spec PyProof.Rows L2
/-! ### == of dicts whose values are data -/
inductive DKs (K : PySem.W.Frag) (H : Hp) : List (Key × V) → List (Key × PyData) → Prop
  | nil : DKs K H [] []
  | cons {k : Key} {v : V} {d : PyData} {ks : List (Key × V)} {ds : List (Key × PyData)} : Dp K H v d → DKs K H ks ds → DKs K H ((k, v) :: ks) ((k, d) :: ds)
def lkD (ds : List (Key × PyData)) (k : Key) : Option PyData := (ds.find? fun p => decide (p.1 = k)).map (·.2)
def eqKD (db : List (Key × PyData)) (p : Key × PyData) : Bool := match lkD db p.1 with
  | some y => PyData.eqv p.2 y
  | none => false
theorem DKs.len {K : PySem.W.Frag} {H : Hp} {ks : List (Key × V)} {ds : List (Key × PyData)} (h : DKs K H ks ds) : ks.length = ds.length := by
  induction h with
  | nil => rfl
  | cons _ _ ih => rw [List.length_cons, List.length_cons, ih]
theorem DKs.look {K : PySem.W.Frag} {H : Hp} {ks : List (Key × V)} {ds : List (Key × PyData)} (h : DKs K H ks ds) (k : Key) : (valV ks k = none ∧ lkD ds k = none) ∨ ∃ v d, valV ks k = some v ∧ lkD ds k = some d ∧ Dp K H v d ∧ (k, d) ∈ ds := by
  induction h with
  | nil => exact .inl ⟨rfl, rfl⟩
  | @cons k' v d ks ds a _ ih =>
    by_cases e : k' = k
    · subst e
      exact .inr ⟨v, d, valV_pos rfl, by simp [lkD], a, List.mem_cons_self⟩
    · have h1 : lkD ((k', d) :: ds) k = lkD ds k := by simp [lkD, List.find?_cons, e]
      rcases ih with ⟨i1, i2⟩ | ⟨v', d', i1, i2, i3, i4⟩
      · exact .inl ⟨by rw [valV_neg e]; exact i1, by rw [h1]; exact i2⟩
      · exact .inr ⟨v', d', by rw [valV_neg e]; exact i1, by rw [h1]; exact i2, i3, List.mem_cons_of_mem _ i4⟩
section
variable {X : Cx} {pins : List (Addr × Obj)} {σ : L2.St} {H : Hp} {s : Shared}
def ShK (ds : List (Key × PyData)) : Prop := ∀ p ∈ ds, p.2.canLay0 = true ∧ p.2.depth ≤ 30
theorem hits_data (I : Inv X pins σ H s) (hu : X.A.units + 64 < cLine) {kb : List (Key × V)} {vb : List (Key × Value)} {db : List (Key × PyData)} (rb : KV kb vb) (hb : DKs X.K H kb db) (sb : ShK db) :
    ∀ {ka : List (Key × V)} {va : List (Key × Value)} {da : List (Key × PyData)}, KV ka va → DKs X.K H ka da → ShK da → PySem.W.KeqHitsP X.prog X.w X.A.in1 s vb va (da.all (eqKD db)) := by
  intro ka va da ra
  unfold KV at ra
  induction ra generalizing da with
  | nil =>
    intro h _
    cases h
    exact .nil
  | @cons p q ps qs hpq _ ih =>
    obtain ⟨h1, h2⟩ := hpq
    obtain ⟨k, u⟩ := q
    intro h sh
    cases h with
    | @cons k' v d ks ds a t =>
      simp only at h1 h2
      subst h1
      have rest := ih t fun x hx => sh x (List.mem_cons_of_mem _ hx)
      have rv := rb.val k'
      rcases hb.look k' with ⟨i1, i2⟩ | ⟨v', d', i1, i2, i3, i4⟩
      · rw [i1] at rv
        have e0 : valueAt vb k' = none := by
          cases z : valueAt vb k' with
          | none => rfl
          | some x => rw [z] at rv; exact rv.elim
        have : (((k', d) :: ds).all (eqKD db)) = false := by
          rw [List.all_cons, show eqKD db (k', d) = false by unfold eqKD; rw [i2], Bool.false_and]
        rw [this]
        exact .miss e0
      · rw [i1] at rv
        obtain ⟨y, hy, ry⟩ := RelO.some_of (v := v') (o := valueAt vb k') rv
        obtain ⟨as, r1⟩ := Dp.reads I d v u a h2
        obtain ⟨bs, r2⟩ := Dp.reads I d' v' y i3 ry
        have s1 := sh (k', d) List.mem_cons_self
        have s2 := sb (k', d') i4
        have room : X.A.in1.units + min d.depth d'.depth < cLine := by
          have : X.A.in1.units = X.A.units + 1 := rfl
          have := s1.2
          simp only at this
          omega
        have eq := SeqAt.EqAt.eqP (prog := X.prog) (w := X.w) (SeqAt.eqAt_reads d d' X.A.in1 s u y as bs r1 r2 s1.1 s2.1 room)
        have : (((k', d) :: ds).all (eqKD db)) = (PyData.eqv d d' && ds.all (eqKD db)) := by
          rw [List.all_cons, show eqKD db (k', d) = PyData.eqv d d' by unfold eqKD; rw [i2]]
        rw [this]
        exact .hit hy eq rest
def rEqKD (K : PySem.W.Frag) : R2 := fun x y H Q => ∃ a b ks ls da db, x = .ref a ∧ y = .ref b ∧ Rd H a (.dK ks) ∧ Rd H b (.dK ls) ∧ DKs K H ks da ∧ DKs K H ls db ∧ ShK da ∧ ShK db ∧ Q (.bl (da.length == db.length && da.all (eqKD db))) H
theorem op_eqKD (hu : X.A.units + 64 < cLine) : OpR X (compareOp .Eq) (rEqKD X.K) := by
  intro pins s σ H x y v u Q I rx ry h
  obtain ⟨a, b, ks, ls, da, db, rfl, rfl, ea, eb, ha, hb, sa, sb, q⟩ := h
  obtain rfl : v = Value.ref a := rx
  obtain rfl : u = Value.ref b := ry
  obtain ⟨_, na, va, ra, dva⟩ := dk_rd I.hok ea
  obtain ⟨_, nb, vb, rb, dvb⟩ := dk_rd I.hok eb
  have l1 : va.length = da.length := ra.length.symm.trans ha.len
  have l2 : vb.length = db.length := rb.length.symm.trans hb.len
  refine PySem.W.rcP_dicts (knd := mixKind X.prog X.w) na nb dva dvb (by omega) (fun _ => hits_data I hu rb hb sb ra ha sa) _ _ ?_
  rw [l1, l2]
  exact ⟨.bl _, H, I, rfl, q⟩
end
end R9
namespace R9
open PySem PySem.Spec PyProof.Rows L2
/-! ### calls with keywords that may raise, where they stand -/
section
variable {X : Cx} {j k : Nat} {x m qual : Str} {st : Stmt} {ps ks : List Str} {sp : Sp} {C : Addr} {p pos apos : Pos} {e o : Expr} {es : List Expr} {kws : List Keyword} {t tk : TA} {ta : TE} {W : WX}
theorem run_fnNS {CX : CXT} {f : Addr} {fd : FuncData} {n : Nat} {E : L2.St → XK} {g : List Value → List Value → List Value} {gV : List V → List V → List V} {pins : List (Addr × Obj)} {σ : L2.St} {H : Hp} {s : Shared} {Q : VK} {us ws : List Value} {vs zs : List V} (F : FnOk X.prog X.w X.K X.mg X.base CX k f fd ps sp) (hr : Room k X.A) (hb : KBn X.K fd ps n ks g gV) (hx : PassesAt CX X σ (E σ))
    (I : Inv X pins σ H s) (r : Vals vs us) (rz : Vals zs ws) (l1 : vs.length = n) (l2 : zs.length = ks.length) (h : sp (gV vs zs) H Q (E σ)) : wpAny (model X.prog X.w) X.A (call (.ref f) us (ks.zip ws)) (EP X pins σ Q) X.xe s := by
  have r2 := hb.rel r rz
  refine wpAny_call (codeAny_mono (F.run X.A X.stack s H ⟨us, ks.zip ws⟩ (g us ws) (gV vs zs) Q (E σ) hr I.env0 (hb.to s us ws I.kIn (r.length.symm.trans l1) (rz.length.symm.trans l2)) r2 h) fun r s' hq => ?_)
  cases r with
  | error e => exact hx pins H s e s' I hq
  | ok fl =>
    cases fl with
    | ret u => exact I.after hq
    | next => exact False.elim hq
    | brk => exact False.elim hq
    | cont => exact False.elim hq
def tCallNS (n m : Nat) (sp : Sp) (gV : List V → List V → List V) (E : L2.St → XK) (t tk : TA) : TE := fun σ H Q => t σ H fun vs H1 => tk σ H1 fun zs H2 => vs.length = n ∧ zs.length = m ∧ sp (gV vs zs) H2 Q (E σ)
theorem pe_dK0S {g : {α : Type} → List α → List α → List α} (D : Df X.prog X.w X.K X.mg X.base k x st ps sp) (hr : Room j X.A) (hk : k ≤ j) (hg : Gl X x) (hx : Lets X W)
    (hrel : ∀ {vs zs : List V} {us ws : List Value}, Vals vs us → Vals zs ws → Vals (g vs zs) (g us ws))
    (hb : ∀ (kV doc pm : Value) (an : Option Addr) (cdv ct : Value) (us ws : List Value), us.length = 0 → ws.length = ks.length → bindArgs (fo x x st kV doc pm an cdv ct) ⟨us, ks.zip ws⟩ = pure (ps.zip (g us ws)))
    (hkw : PK X kws tk) (hall : (backToKw pos (keywordEach kws X.env)).all (·.1.isSome) = true := by rfl) (hks : (backToKw pos (keywordEach kws X.env)).filterMap (·.1) = ks := by rfl)
    (hdb : (x == ("__debug__" : Str)) = false := by decide)
    (hpl : ((backTo pos (starEach [] X.env)).any (·.1) || (backToKw pos (keywordEach kws X.env)).any (·.1.isNone)) = false := by rfl) :
    PE X (.Call (.Name x p) [] kws pos) (tCallNS 0 ks.length sp (fun vs zs => g vs zs) (WE W) tNil tk) := by
  obtain ⟨f, fd, F, G, hm, b⟩ := D.ex
  refine ⟨fun pins s σ H Q I h => ?_⟩
  refine wpAny_Call_Name_kw (ld_glob I hg hm ?_ hdb)
  refine PySem.W.callWith_KW0 (h₀ := X.base) I.ok.mod.kin F.kp hall ?_ hpl
  refine thn (hkw.run pos pins s σ H _ I h) fun ws s2 ⟨zs, H2, I2, rz, l1, l2, q2⟩ => ⟨I2.kIn, ?_⟩
  rw [hks]
  exact run_fnNS (E := WE W) (us := []) (vs := []) G (hr.mono hk) (kb_of F hrel hb) (hx σ) I2 .nil rz rfl l2 q2
theorem pe_dKS {n : Nat} {g : {α : Type} → List α → List α → List α} (D : Df X.prog X.w X.K X.mg X.base k x st ps sp) (hr : Room j X.A) (hk : k ≤ j) (hg : Gl X x) (hx : Lets X W)
    (hrel : ∀ {vs zs : List V} {us ws : List Value}, Vals vs us → Vals zs ws → Vals (g vs zs) (g us ws))
    (hb : ∀ (kV doc pm : Value) (an : Option Addr) (cdv ct : Value) (us ws : List Value), us.length = n → ws.length = ks.length → bindArgs (fo x x st kV doc pm an cdv ct) ⟨us, ks.zip ws⟩ = pure (ps.zip (g us ws)))
    (ha : PA X (e :: es) t) (hkw : PK X kws tk) (hall : (backToKw pos (keywordEach kws X.env)).all (·.1.isSome) = true := by rfl) (hks : (backToKw pos (keywordEach kws X.env)).filterMap (·.1) = ks := by rfl)
    (hdb : (x == ("__debug__" : Str)) = false := by decide) (he : starEach (e :: es) X.env = (false, eval e X.env) :: starEach es X.env := by rfl)
    (hpl : ((backTo pos (starEach (e :: es) X.env)).any (·.1) || (backToKw pos (keywordEach kws X.env)).any (·.1.isNone)) = false := by rfl) :
    PE X (.Call (.Name x p) (e :: es) kws pos) (tCallNS n ks.length sp (fun vs zs => g vs zs) (WE W) t tk) := by
  obtain ⟨f, fd, F, G, hm, b⟩ := D.ex
  refine ⟨fun pins s σ H Q I h => ?_⟩
  refine wpAny_Call_Name_kw (ld_glob I hg hm ?_ hdb)
  refine PySem.W.callWith_KW (h₀ := X.base) I.ok.mod.kin F.kp hall (thn (ha.run pos pins s σ H _ I h) fun us s1 ⟨vs, H1, I1, r, q⟩ => ?_) hpl he
  refine thn (hkw.run pos pins s1 σ H1 _ I1 q) fun ws s2 ⟨zs, H2, I2, rz, l1, l2, q2⟩ => ⟨I2.kIn, ?_⟩
  rw [hks]
  exact run_fnNS (E := WE W) G (hr.mono hk) (kb_of F hrel hb) (hx σ) I2 r rz l1 l2 q2
def tMethKX (C : Addr) (m : Str) (n : Nat) (sp : Sp) (gV : List V → List V → List V) (E : L2.St → XK) (ta : TE) (tk : TA) : TE := fun σ H Q => ta σ H fun x H1 => ∃ a dx fs, x = .ref a ∧ H1 a = some (.ins C dx fs) ∧ fs.lookup m = none ∧
  tk σ H1 fun zs H2 => zs.length = n ∧ sp (gV [x] zs) H2 Q (E σ)
theorem pe_mK0S {pl : Sem Bool} {g : {α : Type} → List α → List α → List α} (D : Dm X.prog X.w X.K X.mg X.base k C m qual st ps sp) (hr : Room j X.A) (hk : k ≤ j) (hx : Lets X W) (he : PE X o ta)
    (hrel : ∀ {vs zs : List V} {us ws : List Value}, Vals vs us → Vals zs ws → Vals (g vs zs) (g us ws))
    (hb : ∀ (kV doc pm : Value) (an : Option Addr) (cdv ct : Value) (us ws : List Value), us.length = 1 → ws.length = ks.length → bindArgs (fo m qual st kV doc pm an cdv ct) ⟨us, ks.zip ws⟩ = pure (ps.zip (g us ws)))
    (hkw : PK X kws tk) (hall : (backToKw pos (keywordEach kws X.env)).all (·.1.isSome) = true := by rfl) (hks : (backToKw pos (keywordEach kws X.env)).filterMap (·.1) = ks := by rfl)
    (hpl : ((backTo pos (starEach [] X.env)).any (·.1) || (backToKw pos (keywordEach kws X.env)).any (·.1.isNone)) = false := by rfl)
    (ht : eval (.Call (.Attribute o m apos) [] kws pos) X.env = (do
      let ov ← eval o X.env
      standAt apos.atName
      let (f, first) ← holding [ov] (getMethod ov m pl)
      callWith pos f first (backTo pos (starEach [] X.env)) (backToKw pos (keywordEach kws X.env))) := by rfl) :
    PE X (.Call (.Attribute o m apos) [] kws pos) (tMethKX C m ks.length sp (fun vs zs => g vs zs) (WE W) ta tk) := by
  obtain ⟨f, fd, F, G, hc, hm, b⟩ := D.ex
  refine ⟨fun pins s σ H Q I h => ?_⟩
  refine PySem.W.methodCall_KW (pl := pl) (thn (he.run pins s σ H _ I h) fun u s1 ⟨x, H1, I1, rx, a, dx, fs, ex, ea, l, q⟩ => ?_) ht
  subst ex
  obtain rfl : u = Value.ref a := rx
  refine getmeth_ok I1 ea hc hm l ?_
  refine PySem.W.callWith_KW0 (first := [.ref a]) (h₀ := X.base) I1.ok.mod.kin hm.kp hall ?_ hpl
  refine thn (hkw.run pos pins s1 σ H1 _ I1 q) fun ws s2 ⟨zs, H2, I2, rz, l2, q2⟩ => ⟨I2.kIn, ?_⟩
  rw [hks]
  exact run_fnNS (E := WE W) (us := [.ref a]) (vs := [.ref a]) G (hr.mono hk) (kb_of F hrel hb) (hx σ) I2 (.cons rfl .nil) rz rfl l2 q2
end
end R9
namespace K01
open PySem PySem.Spec PyProof.Rows L2 R9 R9M
open L2H (RoomH)
/-! ### data -/
/-- smaller than 2 ^ k -/
def Sm (k : Nat) (n : Int) : Prop := n.natAbs < 2 ^ k
theorem Sm.mono {j k : Nat} {n : Int} (h : Sm j n) (l : j ≤ k) : Sm k n := Nat.lt_of_lt_of_le h (Nat.pow_le_pow_right (by decide) l)
theorem Sm.le {k : Nat} {m n : Int} (h : Sm k n) (l : m.natAbs ≤ n.natAbs) : Sm k m := Nat.lt_of_le_of_lt l h
theorem Sm.mul {j k : Nat} {m n : Int} (a : Sm j m) (b : Sm k n) : Sm (j + k) (m * n) := wide_lt a b
theorem Sm.add {j k : Nat} {m n : Int} (a : Sm j m) (b : Sm k n) : Sm (max j k + 1) (m + n) := by
  have a' : Sm (max j k) m := a.mono (Nat.le_max_left _ _)
  have b' : Sm (max j k) n := b.mono (Nat.le_max_right _ _)
  unfold Sm at *
  rw [Nat.pow_succ]
  omega
theorem Sm.neg {k : Nat} {n : Int} (a : Sm k n) : Sm k (-n) := by
  unfold Sm at *
  rw [Int.natAbs_neg]; exact a
theorem Sm.sub {j k : Nat} {m n : Int} (a : Sm j m) (b : Sm k n) : Sm (max j k + 1) (m - n) := by
  rw [Int.sub_eq_add_neg]
  exact a.add b.neg
theorem Sm.m {j k : Nat} {m n : Int} (a : Sm j m) (b : Sm k n) (h0 : 0 < j := by decide) (h1 : 0 < k := by decide) (h : j + k ≤ 1000000 := by decide) : CMulW m n := wide_mul a b h0 h1 h
theorem Sm.d {k : Nat} {m n : Int} (a : Sm k n) (h : n ≠ 0) (h0 : 0 < k := by decide) (h1 : k ≤ 9000 := by decide) : CDivX m n := ⟨h, Nat.lt_of_lt_of_le (PySem.Flt.log2_lt_of h0 a) h1⟩
theorem Sm.lit {k : Nat} {n : Int} (h : n.natAbs < 2 ^ k) : Sm k n := h
/-- the script's state: a list at p, its first item the copy of the script at q -/
structure StA (H : Hp) (p q : Addr) : Prop where
  ex : ∃ (ns : List Int) (i b c d : Int), H p = some (.lst [.ref q, .int i, .int b, .int c, .int d]) ∧ H q = some (.lst (ns.map V.int)) ∧ ns.length ≤ 63 ∧ 0 ≤ i ∧ i ≤ 63 ∧ 0 ≤ b ∧ c ≤ 60 ∧ 0 ≤ d ∧ d < 2147483647
theorem StA.ne {H : Hp} {p q : Addr} (h : StA H p q) : q ≠ p := fun z => by
  obtain ⟨ns, i, b, c, d, h1, h2, _⟩ := h.ex
  rw [z, h1] at h2
  have e := HO.lst.inj (Option.some.inj h2)
  cases ns with
  | nil => cases e
  | cons x r => cases (List.cons.inj e).1
theorem StA.but {S : List Addr} {H H' : Hp} {p q : Addr} (h : StA H p q) (b : But S H H') (h1 : p ∉ S) (h2 : q ∉ S) : StA H' p q := by
  obtain ⟨ns, i, x, c, d, e1, e2, r⟩ := h.ex
  exact ⟨ns, i, x, c, d, b _ _ e1 h1, b _ _ e2 h2, r⟩
/-- a Share at a -/
def shF (n d : Int) : List (Str × V) := [("over", .int n), ("under", .int d)]
def ShA (CS : Addr) (H : Hp) (a : Addr) (n d : Int) : Prop := (∃ dx, H a = some (.ins CS dx (shF n d))) ∧ Low n d
theorem ShA.but {CS : Addr} {S : List Addr} {H H' : Hp} {a : Addr} {n d : Int} (h : ShA CS H a n d) (b : But S H H') (h1 : a ∉ S) : ShA CS H' a n d := by
  obtain ⟨⟨dx, e⟩, l⟩ := h
  exact ⟨⟨dx, b _ _ e h1⟩, l⟩
theorem sh_over (n d : Int) : (shF n d).lookup ("over" : Str) = some (.int n) := rfl
theorem sh_under (n d : Int) : (shF n d).lookup ("under" : Str) = some (.int d) := by first | rfl | decide +kernel
theorem iteD {p A B : Prop} [Decidable p] (h1 : p → A) (h2 : ¬ p → B) : if decide p = true then A else B := by
  by_cases h : p
  · rw [decide_eq_true h, if_pos rfl]; exact h1 h
  · rw [decide_eq_false h, if_neg Bool.false_ne_true]; exact h2 h
theorem iteN {p A B : Prop} [Decidable p] (h1 : ¬ p → A) (h2 : p → B) : if (!decide p) = true then A else B := by
  by_cases h : p
  · rw [decide_eq_true h]; exact h2 h
  · rw [decide_eq_false h]; exact h1 h
theorem szl {xs : List V} (h : Nat.ble xs.length 1000 = true) : xs.length ≤ sizeLine := Nat.le_trans (Nat.le_of_ble_eq_true h) (by decide)
theorem kt_ii {K : PySem.W.Frag} : PySem.W.kitOne K (.type "int") (.type "int") = some true := kit_ty (by decide +kernel)
theorem kt_ib {K : PySem.W.Frag} : PySem.W.kitOne K (.type "int") (.type "bool") = some false := kit_ty (by decide +kernel)
theorem kt_il {K : PySem.W.Frag} : PySem.W.kitOne K (.type "int") (.type "list") = some false := kit_ty (by decide +kernel)
theorem kt_it {K : PySem.W.Frag} : PySem.W.kitOne K (.type "int") (.type "tuple") = some false := kit_ty (by decide +kernel)
theorem kt_bb {K : PySem.W.Frag} : PySem.W.kitOne K (.type "bool") (.type "bool") = some true := kit_ty (by decide +kernel)
theorem upd_free {H : Hp} {a b : Addr} {o : HO} (h : upd H a o b = none) : H b = none ∧ b ≠ a := by
  by_cases e : b = a
  · rw [e, upd_same] at h; cases h
  · rw [upd_ne e] at h; exact ⟨h, e⟩
theorem szlt {n : Nat} (h : n ≤ 1000) : n < sizeLine := Nat.lt_of_le_of_lt h (by decide)

def sp0 (R : Hp → VK → XK → Prop) : Sp := fun vs H Q E => vs = [] ∧ R H Q E
/-- a short text of signs -/
def Tx (n : Nat) (t : Str) : Prop := t.length ≤ n ∧ PyData.strOk t = true
theorem Tx.mono {m n : Nat} {t : Str} (h : Tx m t) (l : m ≤ n) : Tx n t := ⟨Nat.le_trans h.1 l, h.2⟩
theorem Tx.lit {n : Nat} {s : Str} (h : (Nat.ble s.length n && PyData.strOk s) = true) : Tx n s :=
  ⟨Nat.le_of_ble_eq_true (Bool.and_eq_true_iff.mp h).1, (Bool.and_eq_true_iff.mp h).2⟩
theorem ok_mem {t : Str} (h : PyData.strOk t = true) {c : Nat} (m : c ∈ t.cps.toList) : c < 0x110000 := by
  have h' : t.cps.all (· < 0x110000) = true := h
  rw [← Array.all_toList, List.all_eq_true] at h'
  exact of_decide_eq_true (h' c m)
theorem ok_of {t : Str} (h : ∀ c ∈ t.cps.toList, c < 0x110000) : PyData.strOk t = true := by
  show t.cps.all (· < 0x110000) = true
  rw [← Array.all_toList, List.all_eq_true]
  exact fun c m => decide_eq_true (h c m)
theorem Tx.app {m n : Nat} {s t : Str} (a : Tx m s) (b : Tx n t) : Tx (m + n) (s ++ t) := by
  refine ⟨?_, ok_of fun c hc => ?_⟩
  · rw [PySem.Str.length_append]
    exact Nat.add_le_add a.1 b.1
  · rw [PySem.Str.cps_append, Array.toList_append] at hc
    rcases List.mem_append.mp hc with h | h
    · exact ok_mem a.2 h
    · exact ok_mem b.2 h
theorem Tx.one {c : Nat} (h : c < 0x110000) : Tx 1 ⟨#[c]⟩ := ⟨Nat.le_refl 1, ok_of fun d hd => by rw [List.mem_singleton.mp hd]; exact h⟩
theorem Tx.cut {n : Nat} {t : Str} (h : Tx n t) {lo hi : Option Int} : Tx n (cutS t lo hi) := by
  refine ⟨Nat.le_trans (cutS_length t lo hi) h.1, ok_of fun c hc => ok_mem h.2 ?_⟩
  unfold cutS at hc
  exact List.mem_of_mem_drop (List.mem_of_mem_take hc)
theorem Tx.sz {n : Nat} {t : Str} (h : Tx n t) (l : Nat.ble n 1000 = true) : t.length ≤ sizeLine := Nat.le_trans h.1 (Nat.le_trans (Nat.le_of_ble_eq_true l) (by decide))
theorem Tx.sz2 {m n : Nat} {s t : Str} (a : Tx m s) (b : Tx n t) (l : Nat.ble (m + n) 1000 = true) : s.length + t.length ≤ sizeLine := Nat.le_trans (Nat.add_le_add a.1 b.1) (Nat.le_trans (Nat.le_of_ble_eq_true l) (by decide))
theorem at_str {z : Str} {r : Int} (h0 : 0 ≤ r) (h : r < (z.length : Int)) : ∃ c, atI z.cps.toList r = some c ∧ (PyData.strOk z = true → c < 0x110000) := by
  obtain ⟨n, rfl⟩ := Int.eq_ofNat_of_zero_le h0
  have hn : n < z.cps.toList.length := by
    have : n < z.cps.size := by
      have e : z.length = z.cps.size := rfl
      omega
    rw [Array.length_toList]
    exact this
  exact ⟨z.cps.toList[n], atI_nat (List.getElem?_eq_getElem hn), fun h => ok_mem h (List.getElem_mem hn)⟩
theorem Sm.small {n : Int} {k : Nat} (h0 : 0 ≤ n) (h : n < 1000) (hk : 10 ≤ k := by decide) : Sm k n := Sm.mono (k := k) (j := 10) (by unfold Sm; omega) hk

end K01
namespace K01
open PySem PySem.Spec PyProof.Rows L2 R9
/-! ### what stays: a part F of the heap that is never changed again -/
def Fz (F H : Hp) : Prop := ∀ a o, F a = some o → H a = some o
theorem Fz.refl (F : Hp) : Fz F F := fun _ _ e => e
theorem Fz.trans {F G H : Hp} (a : Fz F G) (b : Fz G H) : Fz F H := fun x o e => b x o (a x o e)
/-- from (F, H) to (F', H'): all that stood but at S stands, what is new in F' is new -/
structure Up (S : List Addr) (F H F' H' : Hp) : Prop where
  sub : Fz F F'
  on : Fz F' H'
  new : ∀ a, F a = none → F' a ≠ none → H a = none
  but : But S H H'
  liv : ∀ a, H a ≠ none → H' a ≠ none
theorem Up.refl {S : List Addr} {F H : Hp} (h : Fz F H) : Up S F H F H := ⟨.refl F, h, fun _ a b => absurd a b, .refl _ _, fun _ h => h⟩
theorem Up.mono {S T : List Addr} {F H F' H' : Hp} (u : Up S F H F' H') (h : ∀ x ∈ S, x ∈ T) : Up T F H F' H' := ⟨u.sub, u.on, u.new, u.but.mono h, u.liv⟩
theorem Up.trans {S : List Addr} {F H F1 H1 F2 H2 : Hp} (u : Up S F H F1 H1) (v : Up S F1 H1 F2 H2) : Up S F H F2 H2 := by
  refine ⟨u.sub.trans v.sub, v.on, fun a h1 h2 => ?_, u.but.trans v.but, fun a h => v.liv a (u.liv a h)⟩
  by_cases c : F1 a = none
  · have h3 := v.new a c h2
    cases e : H a with
    | none => rfl
    | some o => exact absurd h3 (u.liv a (by rw [e]; exact Option.some_ne_none o))
  · exact u.new a h1 c
theorem Up.at {S : List Addr} {F H F' H' : Hp} (u : Up S F H F' H') {a : Addr} {o : HO} (e : F a = some o) : F' a = some o := u.sub a o e
theorem Up.nn {S : List Addr} {F H F' H' : Hp} (u : Up S F H F' H') {a : Addr} (e : F a = none) (h : H a ≠ none) : F' a = none := by
  cases c : F' a with
  | none => rfl
  | some o => exact absurd (u.new a e (by rw [c]; exact Option.some_ne_none o)) h
/-- a new thing that stays -/
theorem Up.fresh {S : List Addr} {F H : Hp} (h : Fz F H) {a : Addr} (ha : H a = none) (o : HO) : Up S F H (upd F a o) (upd H a o) := by
  have fa : F a = none := by
    cases c : F a with
    | none => rfl
    | some x => rw [h a x c] at ha; cases ha
  refine ⟨fun b x e => ?_, fun b x e => ?_, fun b h1 h2 => ?_, But.new ha, fun b hb => ?_⟩
  · rw [upd_ne (fun z => by rw [z, fa] at e; cases e)]; exact e
  · by_cases c : b = a
    · subst c; rw [upd_same] at e ⊢; exact e
    · rw [upd_ne c] at e ⊢; exact h b x e
  · by_cases c : b = a
    · rw [c]; exact ha
    · rw [upd_ne c] at h2; exact absurd h1 h2
  · by_cases c : b = a
    · rw [c, upd_same]; exact Option.some_ne_none _
    · rw [upd_ne c]; exact hb
theorem Fz.no {F H : Hp} (h : Fz F H) {l : Addr} (e : H l = none) : F l = none := by
  cases c : F l with
  | none => rfl
  | some x => rw [h l x c] at e; cases e
theorem Up.old {S : List Addr} {F0 H0 F H : Hp} {a : Addr} (u : Up S F0 H0 F H) (h : H a = none) : H0 a = none := by
  cases c : H0 a with
  | none => rfl
  | some o => exact absurd h (u.liv a (by rw [c]; exact Option.some_ne_none o))
theorem Up.drop {S : List Addr} {F0 H0 F H : Hp} {l : Addr} (u : Up (l :: S) F0 H0 F H) (e : H0 l = none) : Up S F0 H0 F H := ⟨u.sub, u.on, u.new, But.drop e u.but, u.liv⟩
theorem Up.of0 {S : List Addr} {F0 H0 F H : Hp} (u : Up [] F0 H0 F H) : Up S F0 H0 F H := u.mono fun _ h => by cases h
theorem Up.more {S S1 : List Addr} {F0 H0 F H F1 H1 : Hp} (u : Up S F0 H0 F H) (v : Up S1 F H F1 H1) (h : ∀ x ∈ S1, x ∈ S) : Up S F0 H0 F1 H1 := u.trans (v.mono h)
/-- a thing of one's own, new since H0, that may still change -/
structure Ow (H0 F H : Hp) (l : Addr) (o : HO) : Prop where
  at_ : H l = some o
  no : F l = none
  new : H0 l = none
theorem Ow.up {S : List Addr} {H0 F H F' H' : Hp} {l : Addr} {o : HO} (c : Ow H0 F H l o) (u : Up S F H F' H') (n : ∀ s ∈ S, H0 s ≠ none) : Ow H0 F' H' l o :=
  ⟨u.but _ _ c.at_ (fun z => n l z c.new), u.nn c.no (by rw [c.at_]; exact Option.some_ne_none o), c.new⟩
theorem Ow.up0 {H0 F H F' H' : Hp} {l : Addr} {o : HO} (c : Ow H0 F H l o) (u : Up [] F H F' H') : Ow H0 F' H' l o := c.up u fun _ h => by cases h
/-- another one of one's own changed -/
theorem Ow.ne {H0 F H F' H' : Hp} {l m : Addr} {o o' : HO} (c : Ow H0 F H l o) (d : Ow H0 F H m o') (u : Up [m] F H F' H') (n : l ≠ m) : Ow H0 F' H' l o :=
  ⟨u.but _ _ c.at_ (by simpa using n), u.nn c.no (by rw [c.at_]; exact Option.some_ne_none o), c.new⟩
/-- it begins -/
theorem Up.begin {S : List Addr} {F0 H0 F H : Hp} (u : Up S F0 H0 F H) {l : Addr} (e : H l = none) (o : HO) : Up [] F H F (upd H l o) ∧ Up S F0 H0 F (upd H l o) ∧ Ow H0 F (upd H l o) l o := by
  have b : Up [] F H F (upd H l o) := ⟨.refl F, fun b x c => by rw [upd_ne (fun z => by rw [z, u.on.no e] at c; cases c)]; exact u.on b x c, fun _ a b => absurd a b, But.new e, fun b hb => by
    by_cases c : b = l
    · rw [c, upd_same]; exact Option.some_ne_none _
    · rw [upd_ne c]; exact hb⟩
  exact ⟨b, u.trans b.of0, upd_same, u.on.no e, u.old e⟩
/-- it changes -/
theorem Up.put {S : List Addr} {F0 H0 F H : Hp} {l : Addr} {o : HO} (u : Up S F0 H0 F H) (c : Ow H0 F H l o) (o' : HO) : Up [l] F H F (upd H l o') ∧ Up S F0 H0 F (upd H l o') ∧ Ow H0 F (upd H l o') l o' := by
  have b : Up [l] F H F (upd H l o') := ⟨.refl F, fun b x e => by rw [upd_ne (fun z => by rw [z, c.no] at e; cases e)]; exact u.on b x e, fun _ a b => absurd a b, But.put List.mem_cons_self, fun b hb => by
    by_cases d : b = l
    · rw [d, upd_same]; exact Option.some_ne_none _
    · rw [upd_ne d]; exact hb⟩
  exact ⟨b, Up.drop ((u.mono fun x h => List.mem_cons_of_mem _ h).trans (b.mono fun x h => by rw [List.mem_singleton.mp h]; exact List.mem_cons_self)) c.new, upd_same, c.no, c.new⟩
/-- what is in S changes -/
theorem Up.set {S : List Addr} {F0 H0 F H : Hp} {m : Addr} (u : Up S F0 H0 F H) (mS : m ∈ S) (fm : F m = none) (o' : HO) : Up [m] F H F (upd H m o') ∧ Up S F0 H0 F (upd H m o') := by
  have b : Up [m] F H F (upd H m o') := ⟨.refl F, fun b x e => by rw [upd_ne (fun z => by rw [z, fm] at e; cases e)]; exact u.on b x e, fun _ a b => absurd a b, But.put List.mem_cons_self, fun b hb => by
    by_cases d : b = m
    · rw [d, upd_same]; exact Option.some_ne_none _
    · rw [upd_ne d]; exact hb⟩
  exact ⟨b, u.trans (b.mono fun x h => by rw [List.mem_singleton.mp h]; exact mS)⟩
/-- it stays from now on -/
theorem Up.keep {S : List Addr} {F0 H0 F H : Hp} {l : Addr} {o : HO} (u : Up S F0 H0 F H) (c : Ow H0 F H l o) : Up S F0 H0 (upd F l o) H ∧ Fz F (upd F l o) ∧ (upd F l o) l = some o := by
  have s : Fz F (upd F l o) := fun b x d => by rw [upd_ne (fun z => by rw [z, c.no] at d; cases d)]; exact d
  refine ⟨⟨u.sub.trans s, fun b x d => ?_, fun b h1 h2 => ?_, u.but, u.liv⟩, s, upd_same⟩
  · by_cases z : b = l
    · subst z; rw [upd_same] at d; rw [c.at_]; exact d
    · rw [upd_ne z] at d; exact u.on _ _ d
  · by_cases z : b = l
    · rw [z]; exact c.new
    · rw [upd_ne z] at h2; exact u.new b h1 h2
theorem Ow.kept {H0 F H : Hp} {l m : Addr} {o o' : HO} (c : Ow H0 F H l o) (n : l ≠ m) : Ow H0 (upd F m o') H l o := ⟨c.at_, by rw [upd_ne n]; exact c.no, c.new⟩
/-- nothing stays yet -/
def Nil : Hp := fun _ => none
theorem Up.nil {S : List Addr} (H : Hp) : Up S Nil H Nil H := .refl fun _ _ e => by cases e
/-- what G has where H0 had nothing -/
def Nw (H0 H G : Hp) : Prop := ∀ a, H0 a = none → G a = H a
theorem Up.nw {S : List Addr} {H0 F H G : Hp} (u : Up S Nil H0 F H) (n : Nw H0 H G) : Fz F G := fun a o e => by
  rw [n a (u.new a rfl (by rw [e]; exact Option.some_ne_none o))]
  exact u.on a o e
/-! ### data that stays -/
theorem sql_fz {K : PySem.W.Frag} {F G : Hp} (h : Fz F G) {a : Addr} {xs : List V} (s : SqL K F a xs) : SqL K G a xs := by
  rcases s with (s | ⟨o, s⟩) | s
  · exact .inl (.inl (h _ _ s))
  · exact .inl (.inr ⟨o, h _ _ s⟩)
  · exact .inr s
theorem sqt_fz {K : PySem.W.Frag} {F G : Hp} (h : Fz F G) {a : Addr} {xs : List V} (s : SqT K F a xs) : SqT K G a xs := by
  rcases s with (s | ⟨o, s⟩) | s
  · exact .inl (.inl (h _ _ s))
  · exact .inl (.inr ⟨o, h _ _ s⟩)
  · exact .inr s
mutual
theorem Dp.fz {K : PySem.W.Frag} {F G : Hp} (h : Fz F G) : ∀ {d : PyData} {v : V}, Dp K F v d → Dp K G v d
  | .none, _, .non => .non
  | .bool _, _, .bl b => .bl b
  | .int _, _, .int i => .int i
  | .str _, _, .str x => .str x
  | .list _, _, .lst s a => .lst (sql_fz h s) (Dp.fzAll h a)
  | .tuple _, _, .tup s a => .tup (sqt_fz h s) (Dp.fzAll h a)
theorem Dp.fzAll {K : PySem.W.Frag} {F G : Hp} (h : Fz F G) : ∀ {ds : List PyData} {vs : List V}, DpAll K F vs ds → DpAll K G vs ds
  | [], _, .nil => .nil
  | _ :: _, _, .cons a b => .cons (Dp.fz h a) (Dp.fzAll h b)
end
end K01
namespace K01
open PySem PySem.Spec PyProof.Rows L2 R9
/-! ### comprehensions, by what is known of the items made so far -/

theorem lcg_list {K : PySem.W.Frag} {a : Addr} {xs : List V} {g : TG} {tt : TT} {te : TE} {vs : List Nat} {σ : L2.St} {H1 : Hp} {D : Addr} {Qd : Hp → Prop} {S S1 : List Addr} {F0 H0 F : Hp}
    (J : Hp → Prop) (I : Nat → List V → Hp → Prop) (u0 : Up S F0 H0 F H1) (j0 : J H1) (hD : H1 D = none) (hJ : ∀ H o, J H → J (upd H D o)) (hS : ∀ x ∈ S1, x ∈ S ∧ H0 x ≠ none) (hs : ∀ F2 H2, Up S F0 H0 F2 H2 → Fz F F2 → Up (D :: S1) F H1 F2 H2 → SqL K H2 a xs) (sz : xs.length ≤ 100000)
    (i0 : I 0 [] F) (im : ∀ i ys F1 F2, Fz F1 F2 → I i ys F1 → I i ys F2)
    (turn : ∀ i x F2 H2 acc, xs[i]? = some x → Up S F0 H0 F2 H2 → Fz F F2 → Up (D :: S1) F H1 F2 H2 → J H2 → I i acc F2 → ∀ (T : V → Hp → Prop) (N : Hp → Prop), (∀ y F5 H5, Up S1 F2 H2 F5 H5 → J H5 → I (i + 1) (acc ++ [y]) F5 → T y H5) → (∀ F5 H5, Up S1 F2 H2 F5 H5 → J H5 → I (i + 1) acc F5 → N H5) →
      g x (wipe σ vs) H2 fun σ2 H3 => wipe σ2 vs = wipe σ vs ∧ tt σ2 H3 fun b H4 => if b = true then te σ2 H4 T else N H4)
    (after : ∀ ys F2 H2, Up S F0 H0 F2 H2 → Fz F F2 → Up S1 F H1 F2 H2 → J H2 → Ow H0 F2 H2 D (.lst ys) → ys.length ≤ xs.length → I xs.length ys F2 → Qd H2) :
    ∃ W : Nat → Nat → Hp → Prop, (∃ m, W 0 m (upd H1 D (.lst []))) ∧ ∀ i m H, W i m H →
      ((Itl K a).stop i H ∧ Qd H) ∨ ((Itl K a).go i H ∧ ∃ Nx : Hp → Prop, (∀ H', Nx H' → ∃ m', m' < m ∧ W (i + 1) m' H') ∧ ∀ x H', (Itl K a).yld i H x H' → g x (wipe σ vs) H' fun σ2 H2 => wipe σ2 vs = wipe σ vs ∧ tt σ2 H2 fun b H3 =>
        if b = true then te σ2 H3 fun y H4 => ∃ acc, H4 D = some (.lst acc) ∧ acc.length < sizeLine ∧ Nx (upd H4 D (.lst (acc ++ [y]))) else Nx H3) := by
  have sz2 : (100000 : Nat) < sizeLine := by decide
  refine lc_list (K := K) (a := a) (xs := xs) (fun i H => ∃ F2 acc, Up S F0 H0 F2 H ∧ Fz F F2 ∧ Up (D :: S1) F H1 F2 H ∧ J H ∧ Ow H0 F2 H D (.lst acc) ∧ acc.length ≤ i ∧ I i acc F2) ?_ (fun i H _ h => ?_) ?_ ?_
  · obtain ⟨v, u, c⟩ := u0.begin hD (.lst [])
    exact ⟨F, [], u, .refl F, v.of0, hJ _ _ j0, c, Nat.le_refl _, i0⟩
  · obtain ⟨F2, acc, u, f, v, _⟩ := h
    exact hs F2 H u f v
  · rintro i x H2 hx ⟨F2, acc, u, f, v, j, c, l, inv⟩
    have il : i < xs.length := (List.getElem?_eq_some_iff.mp hx).1
    refine turn i x F2 H2 acc hx u f v j inv _ _ (fun y F5 H5 u5 j5 inv5 => ?_) (fun F5 H5 u5 j5 inv5 => ?_)
    · have c5 := c.up u5 fun x h => (hS x h).2
      have U5 := u.more u5 fun x h => (hS x h).1
      have V5 := v.more u5 fun x h => List.mem_cons_of_mem _ h
      obtain ⟨v6, u6, c6⟩ := U5.put c5 (.lst (acc ++ [y]))
      exact ⟨acc, c5.at_, Nat.lt_of_le_of_lt l (Nat.lt_of_lt_of_le il (Nat.le_trans sz (Nat.le_of_lt sz2))), F5, acc ++ [y], u6, f.trans u5.sub, V5.more v6 (fun x h => by rw [List.mem_singleton.mp h]; exact List.mem_cons_self), hJ _ _ j5, c6, by rw [List.length_append]; exact Nat.succ_le_succ l, inv5⟩
    · exact ⟨F5, acc, u.more u5 fun x h => (hS x h).1, f.trans u5.sub, v.more u5 fun x h => List.mem_cons_of_mem _ h, j5, c.up u5 fun x h => (hS x h).2, Nat.le_succ_of_le l, inv5⟩
  · rintro H2 ⟨F2, acc, u, f, v, j, c, l, inv⟩
    exact after acc F2 H2 u f (v.drop hD) j c l inv

theorem lcg_tup {K : PySem.W.Frag} {a : Addr} {xs : List V} {g : TG} {tt : TT} {te : TE} {vs : List Nat} {σ : L2.St} {H1 : Hp} {D : Addr} {Qd : Hp → Prop} {S S1 : List Addr} {F0 H0 F : Hp}
    (J : Hp → Prop) (I : Nat → List V → Hp → Prop) (u0 : Up S F0 H0 F H1) (j0 : J H1) (hD : H1 D = none) (hJ : ∀ H o, J H → J (upd H D o)) (hS : ∀ x ∈ S1, x ∈ S ∧ H0 x ≠ none) (hs : ∀ F2 H2, Up S F0 H0 F2 H2 → Fz F F2 → Up (D :: S1) F H1 F2 H2 → SqT K H2 a xs) (sz : xs.length ≤ 100000)
    (i0 : I 0 [] F) (im : ∀ i ys F1 F2, Fz F1 F2 → I i ys F1 → I i ys F2)
    (turn : ∀ i x F2 H2 acc, xs[i]? = some x → Up S F0 H0 F2 H2 → Fz F F2 → Up (D :: S1) F H1 F2 H2 → J H2 → I i acc F2 → ∀ (T : V → Hp → Prop) (N : Hp → Prop), (∀ y F5 H5, Up S1 F2 H2 F5 H5 → J H5 → I (i + 1) (acc ++ [y]) F5 → T y H5) → (∀ F5 H5, Up S1 F2 H2 F5 H5 → J H5 → I (i + 1) acc F5 → N H5) →
      g x (wipe σ vs) H2 fun σ2 H3 => wipe σ2 vs = wipe σ vs ∧ tt σ2 H3 fun b H4 => if b = true then te σ2 H4 T else N H4)
    (after : ∀ ys F2 H2, Up S F0 H0 F2 H2 → Fz F F2 → Up S1 F H1 F2 H2 → J H2 → Ow H0 F2 H2 D (.lst ys) → ys.length ≤ xs.length → I xs.length ys F2 → Qd H2) :
    ∃ W : Nat → Nat → Hp → Prop, (∃ m, W 0 m (upd H1 D (.lst []))) ∧ ∀ i m H, W i m H →
      ((Itt K a).stop i H ∧ Qd H) ∨ ((Itt K a).go i H ∧ ∃ Nx : Hp → Prop, (∀ H', Nx H' → ∃ m', m' < m ∧ W (i + 1) m' H') ∧ ∀ x H', (Itt K a).yld i H x H' → g x (wipe σ vs) H' fun σ2 H2 => wipe σ2 vs = wipe σ vs ∧ tt σ2 H2 fun b H3 =>
        if b = true then te σ2 H3 fun y H4 => ∃ acc, H4 D = some (.lst acc) ∧ acc.length < sizeLine ∧ Nx (upd H4 D (.lst (acc ++ [y]))) else Nx H3) := by
  have sz2 : (100000 : Nat) < sizeLine := by decide
  refine lc_tup (K := K) (a := a) (xs := xs) (fun i H => ∃ F2 acc, Up S F0 H0 F2 H ∧ Fz F F2 ∧ Up (D :: S1) F H1 F2 H ∧ J H ∧ Ow H0 F2 H D (.lst acc) ∧ acc.length ≤ i ∧ I i acc F2) ?_ (fun i H _ h => ?_) ?_ ?_
  · obtain ⟨v, u, c⟩ := u0.begin hD (.lst [])
    exact ⟨F, [], u, .refl F, v.of0, hJ _ _ j0, c, Nat.le_refl _, i0⟩
  · obtain ⟨F2, acc, u, f, v, _⟩ := h
    exact hs F2 H u f v
  · rintro i x H2 hx ⟨F2, acc, u, f, v, j, c, l, inv⟩
    have il : i < xs.length := (List.getElem?_eq_some_iff.mp hx).1
    refine turn i x F2 H2 acc hx u f v j inv _ _ (fun y F5 H5 u5 j5 inv5 => ?_) (fun F5 H5 u5 j5 inv5 => ?_)
    · have c5 := c.up u5 fun x h => (hS x h).2
      have U5 := u.more u5 fun x h => (hS x h).1
      have V5 := v.more u5 fun x h => List.mem_cons_of_mem _ h
      obtain ⟨v6, u6, c6⟩ := U5.put c5 (.lst (acc ++ [y]))
      exact ⟨acc, c5.at_, Nat.lt_of_le_of_lt l (Nat.lt_of_lt_of_le il (Nat.le_trans sz (Nat.le_of_lt sz2))), F5, acc ++ [y], u6, f.trans u5.sub, V5.more v6 (fun x h => by rw [List.mem_singleton.mp h]; exact List.mem_cons_self), hJ _ _ j5, c6, by rw [List.length_append]; exact Nat.succ_le_succ l, inv5⟩
    · exact ⟨F5, acc, u.more u5 fun x h => (hS x h).1, f.trans u5.sub, v.more u5 fun x h => List.mem_cons_of_mem _ h, j5, c.up u5 fun x h => (hS x h).2, Nat.le_succ_of_le l, inv5⟩
  · rintro H2 ⟨F2, acc, u, f, v, j, c, l, inv⟩
    exact after acc F2 H2 u f (v.drop hD) j c l inv

/-! ### the world of a law's body: what stays, what may change, the script's state -/
structure Wr (F0 H0 F H : Hp) (p q : Addr) : Prop where
  up : Up [p] F0 H0 F H
  fp : F p = none
  fq : F q = none
  st : StA H p q
  lp : H0 p ≠ none
  lq : H0 q ≠ none
theorem StA.lv {H : Hp} {p q : Addr} (h : StA H p q) : H p ≠ none ∧ H q ≠ none := by
  obtain ⟨_, _, _, _, _, e1, e2, _⟩ := h.ex
  exact ⟨by rw [e1]; exact Option.some_ne_none _, by rw [e2]; exact Option.some_ne_none _⟩
theorem StA.off {H : Hp} {p q l : Addr} (h : StA H p q) (hl : H l = none) : l ≠ p ∧ l ≠ q := ⟨fun z => h.lv.1 (z ▸ hl), fun z => h.lv.2 (z ▸ hl)⟩
theorem Wr.start {H : Hp} {p q : Addr} (s : StA H p q) : Wr Nil H Nil H p q := ⟨.nil H, rfl, rfl, s, s.lv.1, s.lv.2⟩
section
variable {F0 H0 F H : Hp} {p q : Addr}
theorem Wr.fz (W : Wr F0 H0 F H p q) : Fz F H := W.up.on
theorem Wr.at {a : Addr} {o : HO} (W : Wr F0 H0 F H p q) (e : F a = some o) : H a = some o := W.up.on _ _ e
theorem Wr.step {F1 H1 : Hp} (W : Wr F0 H0 F H p q) (u : Up [p] F H F1 H1) (s : StA H1 p q) : Wr F0 H0 F1 H1 p q :=
  ⟨W.up.trans u, u.nn W.fp W.st.lv.1, u.nn W.fq W.st.lv.2, s, W.lp, W.lq⟩
theorem Wr.step0 {F1 H1 : Hp} (W : Wr F0 H0 F H p q) (u : Up [] F H F1 H1) : Wr F0 H0 F1 H1 p q := W.step u.of0 (W.st.but u.but (by simp) (by simp))
theorem Wr.draws {H1 : Hp} (W : Wr F0 H0 F H p q) (s : StA H1 p q) (b : But [p] H H1) : Up [p] F H F H1 :=
  ⟨.refl F, fun a o e => b a o (W.up.on a o e) (by simpa using fun z => by rw [z, W.fp] at e; cases e), fun _ a b => absurd a b, b, fun a h => by
    by_cases c : a = p
    · rw [c]; exact s.lv.1
    · cases e : H a with
      | none => exact absurd e h
      | some o => rw [b a o e (by simpa using c)]; exact Option.some_ne_none o⟩
theorem Wr.draw {H1 : Hp} (W : Wr F0 H0 F H p q) (s : StA H1 p q) (b : But [p] H H1) : Wr F0 H0 F H1 p q := W.step (W.draws s b) s
end
/-- all that is new stays -/
def allNew (F H H1 : Hp) : Hp := fun a => match F a with | some o => some o | none => match H a with | none => H1 a | some _ => none
theorem allNew_new {F H H1 : Hp} (f : Fz F H) {a : Addr} (h : H a = none) : allNew F H H1 a = H1 a := by
  unfold allNew
  rw [f.no h, h]
theorem Up.all {S : List Addr} {F H H1 : Hp} (u : Up S F H F H1) (f : Fz F H) : Up S F H (allNew F H H1) H1 := by
  refine ⟨fun a o e => ?_, fun a o e => ?_, fun a h1 h2 => ?_, u.but, u.liv⟩
  · unfold allNew; rw [e]
  · unfold allNew at e
    cases c : F a with
    | some x => rw [c] at e; exact u.on _ _ (c.trans e)
    | none =>
      rw [c] at e
      cases d : H a with
      | none => rw [d] at e; exact e
      | some x => rw [d] at e; cases e
  · cases d : H a with
    | none => rfl
    | some x =>
      unfold allNew at h2
      rw [h1, d] at h2
      exact absurd rfl h2
theorem But.up {F H H1 : Hp} (f : Fz F H) (b : But [] H H1) : Up [] F H F H1 :=
  ⟨.refl F, fun a o e => b a o (f a o e) (by simp), fun _ a b => absurd a b, b, fun a h => by
    cases e : H a with
    | none => exact absurd e h
    | some o => rw [b a o e (by simp)]; exact Option.some_ne_none o⟩
/-- a callee made new things, which stay -/
theorem But.take {F H H1 : Hp} (f : Fz F H) (b : But [] H H1) : ∃ F1, Up [] F H F1 H1 ∧ Nw H H1 F1 := ⟨_, (But.up f b).all f, fun _ h => allNew_new f h⟩
section
variable {F0 H0 F H : Hp} {p q : Addr}
theorem Wr.take {H1 : Hp} (W : Wr F0 H0 F H p q) (s : StA H1 p q) (b : But [p] H H1) : ∃ F1, Up [p] F H F1 H1 ∧ Wr F0 H0 F1 H1 p q ∧ Nw H H1 F1 :=
  ⟨_, (W.draws s b).all W.fz, W.step ((W.draws s b).all W.fz) s, fun a h => allNew_new W.fz h⟩
theorem Wr.take0 {H1 : Hp} (W : Wr F0 H0 F H p q) (b : But [] H H1) : ∃ F1, Up [p] F H F1 H1 ∧ Wr F0 H0 F1 H1 p q ∧ Nw H H1 F1 := by
  obtain ⟨F1, u, n⟩ := But.take W.fz b
  exact ⟨F1, u.of0, W.step0 u, n⟩
/-- a new thing that stays -/
theorem Wr.new {a : Addr} (W : Wr F0 H0 F H p q) (ha : H a = none) (o : HO) : Up [p] F H (upd F a o) (upd H a o) ∧ Wr F0 H0 (upd F a o) (upd H a o) p q ∧ (upd F a o) a = some o :=
  ⟨.fresh W.fz ha o, W.step0 (.fresh W.fz ha o), upd_same⟩
theorem Ow.st {F' H' : Hp} {l : Addr} {o : HO} (c : Ow H0 F H l o) (W : Wr F0 H0 F H p q) (u : Up [p] F H F' H') : Ow H0 F' H' l o := c.up u fun s h => by rw [List.mem_singleton.mp h]; exact W.lp
/-- a thing of one's own begins, changes, stays -/
theorem Wr.begin {l : Addr} (W : Wr F0 H0 F H p q) (hl : H l = none) (o : HO) : Up [p] F H F (upd H l o) ∧ Wr F0 H0 F (upd H l o) p q ∧ Ow H0 F (upd H l o) l o := by
  obtain ⟨b, u, c⟩ := W.up.begin hl o
  exact ⟨b.of0, W.step0 b, c⟩
theorem Wr.put {l : Addr} {o : HO} (W : Wr F0 H0 F H p q) (c : Ow H0 F H l o) (o' : HO) : Up [l] F H F (upd H l o') ∧ Wr F0 H0 F (upd H l o') p q ∧ Ow H0 F (upd H l o') l o' := by
  obtain ⟨b, u, c'⟩ := W.up.put c o'
  have lp : p ≠ l := fun z => W.lp (z ▸ c.new)
  have lq : q ≠ l := fun z => W.lq (z ▸ c.new)
  exact ⟨b, ⟨u, W.fp, W.fq, W.st.but b.but (by simpa using lp) (by simpa using lq), W.lp, W.lq⟩, c'⟩
theorem Wr.keep {l : Addr} {o : HO} (W : Wr F0 H0 F H p q) (c : Ow H0 F H l o) : Wr F0 H0 (upd F l o) H p q ∧ Fz F (upd F l o) ∧ (upd F l o) l = some o := by
  obtain ⟨u, f, e⟩ := W.up.keep c
  have lp : p ≠ l := fun z => W.lp (z ▸ c.new)
  have lq : q ≠ l := fun z => W.lq (z ▸ c.new)
  exact ⟨⟨u, by rw [upd_ne lp]; exact W.fp, by rw [upd_ne lq]; exact W.fq, W.st, W.lp, W.lq⟩, f, e⟩
end
end K01
namespace K01
open PySem PySem.Spec PyProof.Rows L2 R9 R9M
/-! ### rows of values, each what an item tells -/
def Each {α : Type} (R : α → V → Prop) (xs : List α) (vs : List V) : Prop := vs.length = xs.length ∧ ∀ (j : Nat) (x : α) (v : V), xs[j]? = some x → vs[j]? = some v → R x v
theorem Each.nil {α : Type} {R : α → V → Prop} : Each R [] [] := ⟨rfl, fun j x v h => by simp at h⟩
theorem Each.mono {α : Type} {R R' : α → V → Prop} {xs : List α} {vs : List V} (e : Each R xs vs) (h : ∀ x v, R x v → R' x v) : Each R' xs vs := ⟨e.1, fun j x v a b => h x v (e.2 j x v a b)⟩
theorem Each.get {α : Type} {R : α → V → Prop} {xs : List α} {vs : List V} (e : Each R xs vs) {j : Nat} {x : α} (h : xs[j]? = some x) : ∃ v, vs[j]? = some v ∧ R x v := by
  have l : j < vs.length := by rw [e.1]; exact (List.getElem?_eq_some_iff.mp h).1
  exact ⟨_, List.getElem?_eq_getElem l, e.2 j x _ h (List.getElem?_eq_getElem l)⟩
theorem Each.back {α : Type} {R : α → V → Prop} {xs : List α} {vs : List V} (e : Each R xs vs) {j : Nat} {v : V} (h : vs[j]? = some v) : ∃ x, xs[j]? = some x ∧ R x v := by
  have l : j < xs.length := by rw [← e.1]; exact (List.getElem?_eq_some_iff.mp h).1
  exact ⟨_, List.getElem?_eq_getElem l, e.2 j _ v (List.getElem?_eq_getElem l) h⟩
theorem Each.snoc {α : Type} {R : α → V → Prop} {xs : List α} {vs : List V} {x : α} {v : V} (e : Each R xs vs) (h : R x v) : Each R (xs ++ [x]) (vs ++ [v]) := by
  refine ⟨by rw [List.length_append, List.length_append, e.1]; rfl, fun j y u a b => ?_⟩
  by_cases c : j < xs.length
  · rw [List.getElem?_append_left c] at a
    rw [List.getElem?_append_left (by rw [e.1]; exact c)] at b
    exact e.2 j y u a b
  · rw [List.getElem?_append_right (by omega)] at a
    rw [List.getElem?_append_right (by rw [e.1]; omega), e.1] at b
    have z : j - xs.length = 0 := by
      have := (List.getElem?_eq_some_iff.mp a).1
      simp only [List.length_singleton] at this
      omega
    rw [z] at a b
    cases a; cases b
    exact h
theorem Each.take {α : Type} {R : α → V → Prop} {xs : List α} {vs : List V} {i : Nat} {x : α} {v : V} (e : Each R (xs.take i) vs) (hx : xs[i]? = some x) (h : R x v) : Each R (xs.take (i + 1)) (vs ++ [v]) := by
  rw [List.take_add_one, hx]
  exact e.snoc h
theorem take_add {α : Type} {xs : List α} {i : Nat} {x : α} (h : xs[i]? = some x) : xs.take (i + 1) = xs.take i ++ [x] := by rw [List.take_add_one, h]; rfl
theorem lt_of_at {α : Type} {xs : List α} {i : Nat} {x : α} (h : xs[i]? = some x) : i < xs.length := (List.getElem?_eq_some_iff.mp h).1
/-! ### texts in a list -/
def Tls (H : Hp) (l : Addr) (ts : List Str) : Prop := H l = some (.lst (ts.map V.str))
/-- an entry: weight, text, accused -/
structure Ent where
  w : Int
  t : Str
  acc : List Str
def EnR (H : Hp) (e : Ent) (v : V) : Prop := ∃ a c, v = .ref a ∧ H a = some (.tup [.int e.w, .str e.t, .ref c]) ∧ H c = some (.lst (e.acc.map V.str))
def EnX (H : Hp) (e : Ent) (v : V) : Prop := ∃ a c, v = .ref a ∧ (H a = some (.tup [.int e.w, .str e.t, .ref c]) ∨ H a = some (.lst [.int e.w, .str e.t, .ref c])) ∧ (H c = some (.lst (e.acc.map V.str)) ∨ H c = some (.tup (e.acc.map V.str)))
def MkR (H : Hp) (e : Ent) (v : V) : Prop := ∃ a c ys, v = .ref a ∧ H a = some (.tup [.int e.w, .str e.t, .ref c]) ∧ H c = some (.tup (ys.map V.str)) ∧ ys.Perm e.acc ∧ sortedS ys = true
theorem EnR.fz {F G : Hp} (h : Fz F G) {e : Ent} {v : V} (r : EnR F e v) : EnR G e v := by obtain ⟨a, c, r1, r2, r3⟩ := r; exact ⟨a, c, r1, h _ _ r2, h _ _ r3⟩
theorem MkR.fz {F G : Hp} (h : Fz F G) {e : Ent} {v : V} (r : MkR F e v) : MkR G e v := by obtain ⟨a, c, ys, r1, r2, r3, r4⟩ := r; exact ⟨a, c, ys, r1, h _ _ r2, h _ _ r3, r4⟩
structure EnsA (H : Hp) (l : Addr) (vs : List V) (es : List Ent) : Prop where
  at_ : H l = some (.lst vs)
  it : Each (EnR H) es vs
theorem EnsA.fz {F G : Hp} (h : Fz F G) {l : Addr} {vs : List V} {es : List Ent} (r : EnsA F l vs es) : EnsA G l vs es := ⟨h _ _ r.at_, r.it.mono fun _ _ => EnR.fz h⟩
structure EnsX (H : Hp) (l : Addr) (vs : List V) (es : List Ent) : Prop where
  src : H l = some (.lst vs) ∨ H l = some (.tup vs)
  it : Each (EnX H) es vs
def wsum (es : List Ent) : Int := (es.map (·.w)).sum
structure MarkA (CM : Addr) (H : Hp) (m t : Addr) (vs : List V) (es : List Ent) : Prop where
  at_ : ∃ dx, H m = some (.ins CM dx [("entries", .ref t), ("whole", .int (wsum es))])
  en : H t = some (.tup vs)
  it : Each (MkR H) es vs
theorem MarkA.fz {CM : Addr} {F G : Hp} (h : Fz F G) {m t : Addr} {vs : List V} {es : List Ent} (r : MarkA CM F m t vs es) : MarkA CM G m t vs es := by
  obtain ⟨dx, e⟩ := r.at_
  exact ⟨⟨dx, h _ _ e⟩, h _ _ r.en, r.it.mono fun _ _ => MkR.fz h⟩
structure EnOk (es : List Ent) : Prop where
  len : es.length ≤ 60
  pos : 1 ≤ es.length
  each : ∀ e ∈ es, 1 ≤ e.w ∧ e.w ≤ 10 ^ 40 ∧ Tx 30 e.t ∧ e.acc.length ≤ 30 ∧ ∀ u ∈ e.acc, Tx 30 u
theorem EnOk.wts {es : List Ent} (h : ∀ e ∈ es, 1 ≤ e.w ∧ e.w ≤ 10 ^ 40) (hl : es.length ≤ 60) : 0 ≤ wsum es ∧ Sm 200 (wsum es) ∧ (1 ≤ es.length → 1 ≤ wsum es) := by
  have a : ∀ w ∈ es.map (·.w), 0 ≤ w ∧ w ≤ 10 ^ 40 := fun w hw => by
    obtain ⟨e, he, rfl⟩ := List.mem_map.mp hw
    have := h e he
    exact ⟨by omega, this.2⟩
  obtain ⟨s1, s2⟩ := sum_le _ a
  rw [List.length_map] at s2
  have l2 : ((es.length : Nat) : Int) * 10 ^ 40 ≤ 60 * 10 ^ 40 := Int.mul_le_mul_of_nonneg_right (by omega) (by decide)
  have c : (60 : Int) * 10 ^ 40 < 2 ^ 200 := by decide +kernel
  have s1' : 0 ≤ wsum es := s1
  have s2' : wsum es ≤ es.length * 10 ^ 40 := s2
  refine ⟨s1', by unfold Sm; omega, fun hp => ?_⟩
  cases es with
  | nil => simp at hp
  | cons e r =>
    have h1 := (h e List.mem_cons_self).1
    have : 0 ≤ (r.map (·.w)).sum := (sum_le (B := 10 ^ 40) _ fun w hw => a w (List.mem_cons_of_mem _ hw)).1
    show 1 ≤ ((e :: r).map (·.w)).sum
    rw [List.map_cons, List.sum_cons]
    omega
theorem EnOk.sum {es : List Ent} (h : EnOk es) : 1 ≤ wsum es ∧ Sm 200 (wsum es) :=
  have z := EnOk.wts (fun e he => ⟨(h.each e he).1, (h.each e he).2.1⟩) h.len
  ⟨z.2.2 h.pos, z.2.1⟩
/-! ### sums of some -/
theorem sum_snoc (xs : List Int) (x : Int) : (xs ++ [x]).sum = xs.sum + x := by rw [List.sum_append, List.sum_singleton]
theorem ints_snoc (ns : List Int) (n : Int) : ns.map V.int ++ [.int n] = (ns ++ [n]).map V.int := by rw [List.map_append]; rfl
theorem strs_snoc (ns : List Str) (n : Str) : ns.map V.str ++ [.str n] = (ns ++ [n]).map V.str := by rw [List.map_append]; rfl
theorem filter_take {α : Type} {p : α → Bool} {xs : List α} {i : Nat} {x : α} (h : xs[i]? = some x) : (xs.take (i + 1)).filter p = (xs.take i).filter p ++ (if p x = true then [x] else []) := by
  rw [take_add h, List.filter_append, List.filter_cons, List.filter_nil]
/-! ### blocks -/
/-- where a number lies: the place of the block, the place within it -/
def blk : List Int → Int → Nat × Int
  | [], n => (0, n)
  | w :: r, n => if n < w then (0, n) else ((blk r (n - w)).1 + 1, (blk r (n - w)).2)
theorem blk_lt : ∀ {ws : List Int} {n : Int}, (∀ w ∈ ws, 1 ≤ w) → 0 ≤ n → n < ws.sum → (blk ws n).1 < ws.length ∧ 0 ≤ (blk ws n).2 ∧ ∃ w, ws[(blk ws n).1]? = some w ∧ (blk ws n).2 < w
  | [], n, _, h0, h => by simp at h; omega
  | w :: r, n, hp, h0, h => by
    unfold blk
    by_cases c : n < w
    · rw [if_pos c]
      exact ⟨Nat.zero_lt_succ _, h0, w, rfl, c⟩
    · rw [if_neg c]
      rw [List.sum_cons] at h
      obtain ⟨a, b, w', e, d⟩ := blk_lt (ws := r) (n := n - w) (fun x hx => hp x (List.mem_cons_of_mem _ hx)) (by omega) (by omega)
      exact ⟨Nat.succ_lt_succ a, b, w', by rw [List.getElem?_cons_succ]; exact e, d⟩
end K01
namespace K01
open PySem PySem.Spec PyProof.Rows L2 R9 R9M
theorem Up.new0 {S : List Addr} {F0 H0 F H : Hp} {a : Addr} (u : Up S F0 H0 F H) (ha : H a = none) (o : HO) : Up [] F H (upd F a o) (upd H a o) ∧ Up S F0 H0 (upd F a o) (upd H a o) ∧ (upd F a o) a = some o :=
  ⟨.fresh u.on ha o, u.trans (Up.fresh u.on ha o), upd_same⟩
/-- an iterator that gives (0, vs[0]), (1, vs[1]), .. while inv stands -/
structure EnV (J : It) (vs : List V) (inv : Hp → Prop) : Prop where
  go : ∀ i H, inv H → i < vs.length → J.go i H
  stop : ∀ i H, inv H → vs.length ≤ i → J.stop i H
  yld : ∀ i H x H', inv H → J.yld i H x H' → ∃ T v, x = .ref T ∧ H T = none ∧ vs[i]? = some v ∧ H' = upd H T (.tup [.int (i : Nat), v])
theorem env_l {K : PySem.W.Frag} {l : Addr} {vs : List V} : EnV (Ite K l) vs (fun H => SqL K H l vs) where
  go := fun i H h hi => ⟨_, vs[i], h, List.getElem?_eq_getElem hi⟩
  stop := fun i H h hi => ⟨_, h, hi⟩
  yld := fun i H x H' h y => by
    obtain ⟨T, z, rfl, hT, rfl, hz⟩ := y
    exact ⟨T, z, rfl, hT, hz _ h, rfl⟩
theorem env_t {K : PySem.W.Frag} {l : Addr} {vs : List V} : EnV (IteT K l) vs (fun H => SqT K H l vs) where
  go := fun i H h hi => ⟨_, vs[i], h, List.getElem?_eq_getElem hi⟩
  stop := fun i H h hi => ⟨_, h, hi⟩
  yld := fun i H x H' h y => by
    obtain ⟨T, z, rfl, hT, rfl, hz⟩ := y
    exact ⟨T, z, rfl, hT, hz _ h, rfl⟩
theorem for_env {J : It} {vs : List V} {inv : Hp → Prop} (E : EnV J vs inv) {nx : L2.St → Hp → Prop} {G : (L2.St → Hp → Prop) → V → L2.St → Hp → Prop} {σ0 : L2.St} {H0 : Hp} (Pv : Nat → L2.St → Hp → Prop) (h0 : Pv 0 σ0 H0) (hinv : ∀ i σ H, Pv i σ H → inv H)
    (turn : ∀ i σ H v T, vs[i]? = some v → Pv i σ H → H T = none → G (Pv (i + 1)) (.ref T) σ (upd H T (.tup [.int (i : Nat), v]))) (after : ∀ σ H, Pv vs.length σ H → nx σ H) :
    ∃ W : Nat → Nat → L2.St → Hp → Prop, (∃ m, W 0 m σ0 H0) ∧ ∀ i m σ H, W i m σ H → (J.stop i H ∧ nx σ H) ∨ (J.go i H ∧ ∃ N : L2.St → Hp → Prop, (∀ σ' H', N σ' H' → ∃ m', m' < m ∧ W (i + 1) m' σ' H') ∧ ∀ x H', J.yld i H x H' → G N x σ H') := by
  refine ⟨fun i m σ H => m = vs.length - i ∧ i ≤ vs.length ∧ Pv i σ H, ⟨vs.length, rfl, Nat.zero_le _, h0⟩, fun i m σ H h => ?_⟩
  obtain ⟨rfl, hi, p⟩ := h
  by_cases c : i < vs.length
  · refine .inr ⟨E.go i H (hinv _ _ _ p) c, Pv (i + 1), fun σ' H' p' => ⟨vs.length - (i + 1), by omega, rfl, c, p'⟩, fun x H' y => ?_⟩
    obtain ⟨T, a, rfl, hT, ha, rfl⟩ := E.yld i H x H' (hinv _ _ _ p) y
    exact turn i σ H a T ha p hT
  · exact .inl ⟨E.stop i H (hinv _ _ _ p) (by omega), after σ H (by rwa [show i = vs.length by omega] at p)⟩
theorem putM1 {a : V} : putF "entries" a [] = ([("entries", a)] : List (Str × V)) := by first | rfl | decide +kernel
theorem putM2 {a b : V} : putF "whole" b [("entries", a)] = ([("entries", a), ("whole", b)] : List (Str × V)) := by first | rfl | decide +kernel
theorem mk_entries {a b : V} : ([("entries", a), ("whole", b)] : List (Str × V)).lookup ("entries" : Str) = some a := by first | rfl | decide +kernel
theorem mk_whole {a b : V} : ([("entries", a), ("whole", b)] : List (Str × V)).lookup ("whole" : Str) = some b := by first | rfl | decide +kernel
theorem at_nat {xs : List V} {j : Nat} {v : V} (h : xs[j]? = some v) : atI xs (j : Int) = some v := atI_nat h
end K01
namespace K01
open PySem PySem.Spec PyProof.Rows L2 R9 R9M
theorem lcg_range {lo : Int} {n : Nat} {g : TG} {tt : TT} {te : TE} {vs : List Nat} {σ : L2.St} {H1 : Hp} {D : Addr} {Qd : Hp → Prop} {S S1 : List Addr} {F0 H0 F : Hp}
    (J : Hp → Prop) (I : Nat → List V → Hp → Prop) (u0 : Up S F0 H0 F H1) (j0 : J H1) (hD : H1 D = none) (hJ : ∀ H o, J H → J (upd H D o)) (hS : ∀ x ∈ S1, x ∈ S ∧ H0 x ≠ none) (sz : n ≤ 100000)
    (i0 : I 0 [] F) (im : ∀ i ys F1 F2, Fz F1 F2 → I i ys F1 → I i ys F2)
    (turn : ∀ (i : Nat) F2 H2 acc, i < n → Up S F0 H0 F2 H2 → Fz F F2 → Up (D :: S1) F H1 F2 H2 → J H2 → I i acc F2 → ∀ (T : V → Hp → Prop) (N : Hp → Prop), (∀ y F5 H5, Up S1 F2 H2 F5 H5 → J H5 → I (i + 1) (acc ++ [y]) F5 → T y H5) → (∀ F5 H5, Up S1 F2 H2 F5 H5 → J H5 → I (i + 1) acc F5 → N H5) →
      g (.int (lo + i)) (wipe σ vs) H2 fun σ2 H3 => wipe σ2 vs = wipe σ vs ∧ tt σ2 H3 fun b H4 => if b = true then te σ2 H4 T else N H4)
    (after : ∀ ys F2 H2, Up S F0 H0 F2 H2 → Fz F F2 → Up S1 F H1 F2 H2 → J H2 → Ow H0 F2 H2 D (.lst ys) → ys.length ≤ n → I n ys F2 → Qd H2) :
    ∃ W : Nat → Nat → Hp → Prop, (∃ m, W 0 m (upd H1 D (.lst []))) ∧ ∀ i m H, W i m H →
      ((Itr lo n).stop i H ∧ Qd H) ∨ ((Itr lo n).go i H ∧ ∃ Nx : Hp → Prop, (∀ H', Nx H' → ∃ m', m' < m ∧ W (i + 1) m' H') ∧ ∀ x H', (Itr lo n).yld i H x H' → g x (wipe σ vs) H' fun σ2 H2 => wipe σ2 vs = wipe σ vs ∧ tt σ2 H2 fun b H3 =>
        if b = true then te σ2 H3 fun y H4 => ∃ acc, H4 D = some (.lst acc) ∧ acc.length < sizeLine ∧ Nx (upd H4 D (.lst (acc ++ [y]))) else Nx H3) := by
  have sz2 : (100000 : Nat) < sizeLine := by decide
  refine lc_range (fun i H => ∃ F2 acc, Up S F0 H0 F2 H ∧ Fz F F2 ∧ Up (D :: S1) F H1 F2 H ∧ J H ∧ Ow H0 F2 H D (.lst acc) ∧ acc.length ≤ i ∧ I i acc F2) ?_ ?_ ?_
  · obtain ⟨v, u, c⟩ := u0.begin hD (.lst [])
    exact ⟨F, [], u, .refl F, v.of0, hJ _ _ j0, c, Nat.le_refl _, i0⟩
  · rintro i H2 il ⟨F2, acc, u, f, v, j, c, l, inv⟩
    refine turn i F2 H2 acc il u f v j inv _ _ (fun y F5 H5 u5 j5 inv5 => ?_) (fun F5 H5 u5 j5 inv5 => ?_)
    · have c5 := c.up u5 fun x h => (hS x h).2
      have U5 := u.more u5 fun x h => (hS x h).1
      have V5 := v.more u5 fun x h => List.mem_cons_of_mem _ h
      obtain ⟨v6, u6, c6⟩ := U5.put c5 (.lst (acc ++ [y]))
      exact ⟨acc, c5.at_, Nat.lt_of_le_of_lt l (Nat.lt_of_lt_of_le il (Nat.le_trans sz (Nat.le_of_lt sz2))), F5, acc ++ [y], u6, f.trans u5.sub, V5.more v6 (fun x h => by rw [List.mem_singleton.mp h]; exact List.mem_cons_self), hJ _ _ j5, c6, by rw [List.length_append]; exact Nat.succ_le_succ l, inv5⟩
    · exact ⟨F5, acc, u.more u5 fun x h => (hS x h).1, f.trans u5.sub, v.more u5 fun x h => List.mem_cons_of_mem _ h, j5, c.up u5 fun x h => (hS x h).2, Nat.le_succ_of_le l, inv5⟩
  · rintro H2 ⟨F2, acc, u, f, v, j, c, l, inv⟩
    exact after acc F2 H2 u f (v.drop hD) j c l inv
/-! ### how many numbers lie on some blocks -/
def hits (f : Nat → Bool) (ws : List Int) : Nat → Int
  | 0 => 0
  | n + 1 => hits f ws n + (if f (blk ws (n : Int)).1 = true then 1 else 0)
def wsel (f : Nat → Bool) : List Int → Int
  | [] => 0
  | w :: r => (if f 0 = true then w else 0) + wsel (fun j => f (j + 1)) r
theorem hits_first {f : Nat → Bool} {w : Int} {r : List Int} : ∀ n : Nat, (n : Int) ≤ w → hits f (w :: r) n = if f 0 = true then (n : Int) else 0
  | 0, _ => by unfold hits; split <;> rfl
  | n + 1, h => by
    unfold hits
    rw [hits_first n (by omega), show (blk (w :: r) (n : Int)).1 = 0 by unfold blk; rw [if_pos (by omega)]]
    split <;> omega
theorem hits_rest {f : Nat → Bool} {w : Nat} {r : List Int} : ∀ m : Nat, hits f ((w : Int) :: r) (w + m) = (if f 0 = true then (w : Int) else 0) + hits (fun j => f (j + 1)) r m
  | 0 => by rw [Nat.add_zero, hits_first w (Int.le_refl _)]; unfold hits; omega
  | m + 1 => by
    show hits f ((w : Int) :: r) (w + m + 1) = _
    unfold hits
    rw [hits_rest m, show (blk ((w : Int) :: r) ((w + m : Nat) : Int)).1 = (blk r (m : Int)).1 + 1 by
      rw [blk, if_neg (by omega), show ((w + m : Nat) : Int) - (w : Int) = (m : Int) by omega]]
    omega
theorem hits_all : ∀ {f : Nat → Bool} {ws : List Int}, (∀ w ∈ ws, 1 ≤ w) → hits f ws ws.sum.toNat = wsel f ws
  | _, [], _ => rfl
  | f, w :: r, h => by
    have hw := h w List.mem_cons_self
    have hr : 0 ≤ r.sum := (by
      have : ∀ r : List Int, (∀ x ∈ r, 1 ≤ x) → 0 ≤ r.sum := fun r => by
        induction r with
        | nil => intro _; simp
        | cons a b ih => intro z; rw [List.sum_cons]; have := ih fun x hx => z x (List.mem_cons_of_mem _ hx); have := z a List.mem_cons_self; omega
      exact this r fun x hx => h x (List.mem_cons_of_mem _ hx))
    obtain ⟨k, rfl⟩ := Int.eq_ofNat_of_zero_le (show 0 ≤ w by omega)
    rw [List.sum_cons, show ((k : Int) + r.sum).toNat = k + r.sum.toNat by omega, hits_rest, hits_all fun x hx => h x (List.mem_cons_of_mem _ hx)]
    rfl
def atF (g : Ent → Bool) (es : List Ent) : Nat → Bool := fun j => match es[j]? with | some e => g e | none => false
theorem wsel_filter (g : Ent → Bool) : ∀ es : List Ent, wsel (atF g es) (es.map (fun e : Ent => e.w)) = ((es.filter g).map (fun e : Ent => e.w)).sum
  | [] => rfl
  | e :: r => by
    have ih := wsel_filter g r
    have e1 : atF g (e :: r) 0 = g e := rfl
    have e2 : (fun j => atF g (e :: r) (j + 1)) = atF g r := by funext j; unfold atF; rw [List.getElem?_cons_succ]
    show (if atF g (e :: r) 0 = true then e.w else 0) + wsel (fun j => atF g (e :: r) (j + 1)) (r.map (fun e : Ent => e.w)) = _
    rw [e1, e2, ih, List.filter_cons]
    split
    · rw [List.map_cons, List.sum_cons]
    · omega
theorem wsum_take {es : List Ent} {i : Nat} {e : Ent} (h : es[i]? = some e) : wsum (es.take (i + 1)) = wsum (es.take i) + e.w := by
  unfold wsum
  rw [take_add h, List.map_append, List.map_cons, List.map_nil, sum_snoc]
theorem wsum_le {es : List Ent} (h : ∀ e ∈ es, 1 ≤ e.w) : ∀ i, 0 ≤ wsum (es.take i) ∧ wsum (es.take i) ≤ wsum es := by
  have p : ∀ r : List Ent, (∀ e ∈ r, 1 ≤ e.w) → 0 ≤ wsum r := fun r => by
    induction r with
    | nil => intro _; exact Int.le_refl _
    | cons a b ih =>
      intro z
      have := ih fun x hx => z x (List.mem_cons_of_mem _ hx)
      have := z a List.mem_cons_self
      show 0 ≤ ((a :: b).map (·.w)).sum
      rw [List.map_cons, List.sum_cons]
      show 0 ≤ a.w + wsum b
      omega
  intro i
  refine ⟨p _ fun e he => h e (List.mem_of_mem_take he), ?_⟩
  have e : wsum es = wsum (es.take i) + wsum (es.drop i) := by
    unfold wsum
    rw [← List.sum_append, ← List.map_append, List.take_append_drop]
  have := p (es.drop i) fun e he => h e (List.mem_of_mem_drop he)
  omega
/-! ### lists of lists of one's own -/
structure Hnd (H0 F H : Hp) (D : Addr) (v : V) : Prop where
  ex : ∃ (a c : Addr) (x y : V) (us : List Str), v = .ref a ∧ Ow H0 F H a (.lst [x, y, .ref c]) ∧ Ow H0 F H c (.lst (us.map V.str)) ∧ a ≠ D ∧ c ≠ D ∧ a ≠ c
def rgI (n : Nat) : List Int := (List.range n).map (fun (i : Nat) => (i : Int))
theorem rgV_ints (b : Int) : rgV 0 b = (rgI b.toNat).map V.int := by
  unfold rgV rgI
  rw [List.map_map, show (b - 0).toNat = b.toNat by rw [Int.sub_zero]]
  refine List.map_congr_left fun i _ => ?_
  show V.int (0 + (i : Int)) = V.int (i : Int)
  rw [Int.zero_add]
theorem rgI_mem {n : Nat} {x : Int} (h : x ∈ rgI n) : 0 ≤ x ∧ x < n := by
  obtain ⟨i, hi, rfl⟩ := List.mem_map.mp h
  have := List.mem_range.mp hi
  omega
theorem rgI_len (n : Nat) : (rgI n).length = n := by unfold rgI; rw [List.length_map, List.length_range]
end K01
namespace K01
open PySem PySem.Spec PyProof.Rows L2 R9 R9M
/-! ### rules with K in their reading -/
def rListOf (K : PySem.W.Frag) : List V → Hp → VK → Prop := fun xs H Q => ∃ p ys, xs = [.ref p] ∧ (SqL K H p ys ∨ SqT K H p ys) ∧ ∀ l, H l = none → Q (.ref l) (upd H l (.lst ys))
theorem list_ofK {X : Cx} : CallR X (.type "list") (rListOf X.K) := call_list_of
def rLenSeq (K : PySem.W.Frag) : List V → Hp → VK → Prop := fun xs H Q => ∃ p ys, xs = [.ref p] ∧ (SqL K H p ys ∨ SqT K H p ys) ∧ Q (.int (ys.length : Nat)) H
theorem len_seqK {X : Cx} : CallR X (.builtin "len") (rLenSeq X.K) := call_len_seq
theorem made_none {H : Hp} {x dx c : Addr} {o o' : HO} (h : upd (upd H dx o) x o' c = none) : H c = none ∧ c ≠ x := by
  have h1 : c ≠ x := fun z => by rw [z, upd_same] at h; cases h
  rw [upd_ne h1] at h
  have h2 : c ≠ dx := fun z => by rw [z, upd_same] at h; cases h
  rw [upd_ne h2] at h
  exact ⟨h, h1⟩
/-- what a call of a class made, which stays -/
theorem made_nw {H H' G : Hp} {x dx : Addr} {o o' : HO} (hx : H x = none) (n : Nw H H' G) : ∀ c, upd (upd H dx o) x o' c = none ∨ c = x → G c = H' c := fun c h => n c (h.elim (fun z => (made_none z).1) fun z => by rw [z]; exact hx)
theorem Wr.off {F0 H0 F H : Hp} {p q a : Addr} {o : HO} (W : Wr F0 H0 F H p q) (e : F a = some o) : a ≠ p := fun z => by rw [z, W.fp] at e; cases e
/-- an entry handed in as lists of one's own -/
def HnE (H0 F H : Hp) (D : Addr) (en : Ent) (v : V) : Prop := ∃ a c, v = .ref a ∧ Ow H0 F H a (.lst [.int en.w, .str en.t, .ref c]) ∧ Ow H0 F H c (.lst (en.acc.map V.str)) ∧ a ≠ D ∧ c ≠ D
theorem HnE.st {H0 F F0 H F' H' : Hp} {D p q : Addr} {en : Ent} {v : V} (h : HnE H0 F H D en v) (W : Wr F0 H0 F H p q) (u : Up [p] F H F' H') : HnE H0 F' H' D en v := by
  obtain ⟨a, c, e, h1, h2, h3, h4⟩ := h
  exact ⟨a, c, e, h1.st W u, h2.st W u, h3, h4⟩
theorem HnE.put {H0 F H F' H' : Hp} {D : Addr} {o : HO} {en : Ent} {v : V} (h : HnE H0 F H D en v) (d : Ow H0 F H D o) (u : Up [D] F H F' H') : HnE H0 F' H' D en v := by
  obtain ⟨a, c, e, h1, h2, h3, h4⟩ := h
  exact ⟨a, c, e, h1.ne d u h3, h2.ne d u h4, h3, h4⟩
theorem HnE.x {H0 F H : Hp} {D : Addr} {en : Ent} {v : V} (h : HnE H0 F H D en v) : EnX H en v := by
  obtain ⟨a, c, e, h1, h2, _⟩ := h
  exact ⟨a, c, e, .inr h1.at_, .inl h2.at_⟩
theorem strs_ne {us : List Str} {n : Int} {r : List V} : (HO.lst (us.map V.str)) ≠ .lst (.int n :: r) := fun z => by
  have z := HO.lst.inj z
  cases us with
  | nil => cases z
  | cons a b => cases (List.cons.inj z).1
end K01
namespace R9S
open PySem PySem.Spec PyProof.Rows L2 PySem.Froz
/-! ### sets of texts that can be walked -/
/-- the set at a: its texts l, in some order; its table rises -/
structure STx (P : Program) (w : World) (h : Heap) (a : Addr) (l : List Str) : Prop where
  ex : ∃ D : SD, h.get? a = some (sObj "set" D) ∧ TxOk P w D l ∧ Ris D.2.2.place.toList ∧ (w.params.followText "set-order" = true ∨ D.2.2.led = true)
  nd : l.Nodup
  few : l.length < scanBound
section
variable {P : Program} {w : World} {A : Around} {E : Value → Shared → Prop} {s : Shared} {h h' : Heap} {a : Addr} {l : List Str}
theorem STx.keep (R : STx P w h a l) (k : ∀ o, h.get? a = some o → h'.get? a = some o) : STx P w h' a l := by
  obtain ⟨D, ho, r⟩ := R.ex
  exact ⟨⟨D, k _ ho, r⟩, R.nd, R.few⟩
theorem STx.is (R : STx P w s.heap a l) : s.TypeIs (.ref a) "set" := by
  obtain ⟨D, ho, _⟩ := R.ex
  exact ⟨_, ho, rfl⟩
theorem ris_tail {ep : Nat} {es1 : Array (Int × Value)} {t2 : SetTable} {wd : Bool} (r : Ris t2.place.toList) : Ris (tailTx ep es1 t2 wd).2.2.place.toList := by
  unfold tailTx
  by_cases c : (!wd && t2.tooFull) = true
  · rw [if_pos c]; exact relayAll_ris _ _ _
  · rw [if_neg c]; exact r
theorem led_tail {ep : Nat} {es1 : Array (Int × Value)} {t2 : SetTable} {wd : Bool} : (tailTx ep es1 t2 wd).2.2.led = t2.led := by
  unfold tailTx
  by_cases c : (!wd && t2.tooFull) = true
  · rw [if_pos c]; exact relayAll_led _ _ _
  · rw [if_neg c]
theorem ris_add {h : Int} {v : Value} {D : SD} (r : Ris D.2.2.place.toList) : Ris (addTx h v D).2.2.place.toList := by
  have r1 := layNew_ris D.2.2 D.1 h v r
  unfold addTx
  refine ris_tail ?_
  split <;> exact r1
theorem led_add {h : Int} {v : Value} {D : SD} : (addTx h v D).2.2.led = D.2.2.led := by
  have r1 := layNew_led D.2.2 D.1 h v
  unfold addTx
  refine led_tail.trans ?_
  split <;> exact r1
/-- a text that is there already: nothing changes -/
theorem add_had {k : Str} {u : Tok} {Q : Bool → Shared → Prop} (R : STx P w s.heap a l) (hk : k ∈ l) (hq : Q false s) : wpAny (model P w) A (setAddHashed a (.str k u) (hashStr w k)) Q E s := by
  obtain ⟨⟨es, ep, t⟩, ho, F, _⟩ := R.ex
  have hd : (sObj "set" (es, ep, t)).data = .set es ep t := rfl
  have hf : t.fits es.size = true := F.fit
  have he : ElemsOf (strKind P w) es.toList := F.el
  have hb : es.size < scanBound := by have z : es.size = l.length := F.sz; have := R.few; omega
  obtain ⟨x, hx, kx⟩ := (F.mem k).mp hk
  obtain ⟨j, hj⟩ : ∃ j, List.findIdx? (fun e => (strKind P w).is k e.2) es.toList = some j := by
    cases c : List.findIdx? (fun e => (strKind P w).is k e.2) es.toList with
    | some j => exact ⟨j, rfl⟩
    | none => have z := List.findIdx?_eq_none_iff.mp c x hx; rw [kx] at z; cases z
  unfold setAddHashed setAddHashedIn
  refine wpAny_holding (wpAny_bind (wpAny_setState_of ho hd hf ?_)); dsimp only
  rw [byScan_of rfl hb he, if_pos rfl]
  unfold setAddByScan
  refine wpAny_bind (wpAny_bind (wpAny_rule (wpAny_bind (wpAny_setScan_of (knd := strKind P w) (k := k) (is_str k u) ho hd hf he ?_))))
  rw [hj]
  dsimp only
  exact wpAny_pure (wpAny_pure hq)
theorem sObj_exact (D : SD) : (sObj "set" D).ExactSet := ⟨rfl, rfl, rfl⟩
/-- set.add of a text -/
theorem add_any {k : Str} {u : Tok} {Q : Bool → Shared → Prop} (R : STx P w s.heap a l) (hb : l.length + 1 < scanBound)
    (hq : ∀ b h', (∀ c o, c ≠ a → s.heap.get? c = some o → h'.get? c = some o) → STx P w h' a (if k ∈ l then l else k :: l) → Q b { s with heap := h' }) : wpAny (model P w) A (setAddHashed a (.str k u) (hashStr w k)) Q E s := by
  by_cases c : k ∈ l
  · refine add_had R c ?_
    have z := hq false s.heap (fun _ _ _ e => e)
    rw [if_pos c] at z
    exact z R
  · obtain ⟨D, ho, F, r, hl⟩ := R.ex
    refine add_x ho F c hb ?_
    refine hq _ _ (fun b o n e => ?_) ?_
    · rw [Heap.get?_update_other _ _ (Ne.symm n)]; exact e
    · rw [if_neg c]
      exact ⟨⟨_, get_upd _ ho rfl, add_ok u F, ris_add r, by rw [led_add]; exact hl⟩, List.nodup_cons.mpr ⟨c, R.nd⟩, hb⟩
end
/-- as an object of the layer -/
def SetS (P : Program) (w : World) (a : Addr) (l : List Str) : HO := .ext fun h => STx P w h a l
theorem setS_new {w : World} {P : Program} {H : Hp} {h : Heap} {a : Addr} {l : List Str} (R : STx P w h a l) : ObjOk P w H h a (SetS P w a l) := by
  obtain ⟨D, ho, _⟩ := R.ex
  exact ⟨R, ⟨_, ho⟩, fun _ _ p k => p.keep k⟩
theorem stx_fresh {P : Program} {w : World} {h : Heap} : STx P w (h.push { cls := .type "set", dict := none, data := .set #[] 0 (.fresh 0 0 (!w.params.followText "set-order")) }) h.objs.size [] := by
  refine ⟨⟨(#[], 0, .fresh 0 0 (!w.params.followText "set-order")), Heap.get?_push_size _ rfl, .nil (by rfl), List.Pairwise.nil, ?_⟩, List.nodup_nil, by decide⟩
  cases w.params.followText "set-order"
  · exact .inr rfl
  · exact .inl rfl
section
variable {X : Cx}
theorem setS_get {pins : List (Addr × Obj)} {σ : L2.St} {H : Hp} {s : Shared} {a : Addr} {l : List Str} (I : Inv X pins σ H s) (ha : H a = some (SetS X.prog X.w a l)) : STx X.prog X.w s.heap a l := (I.hok a _ ha).1
theorem addS_ok {pins : List (Addr × Obj)} {σ : L2.St} {H : Hp} {s : Shared} {E : Value → Shared → Prop} {D : Addr} {l : List Str} {k : Str} {u : Value} {Q : Value → Shared → Prop} (I : Inv X pins σ H s) (hD : H D = some (SetS X.prog X.w D l)) (ru : RelV (.str k) u) (room : l.length + 1 < scanBound)
    (h : ∀ s', Inv X pins σ (upd H D (SetS X.prog X.w D (if k ∈ l then l else k :: l))) s' → Q .none s') : wpAny (model X.prog X.w) X.A (call (.builtin "set.add") [.ref D, u]) Q E s := by
  obtain ⟨tk, rfl⟩ := ru
  have R := setS_get I hD
  refine wpAny_call_entry F.slot_set_add R.is F.entry_set_add ?_ (F.args_set_add_2 _ _)
  unfold Builtin.«set.add» Builtin.Frozenset.oneOther; simp only [List.isEmpty_nil, bind_assoc]
  unfold Builtin.Frozenset.addrOf setAdd; refine wpAny_bind (wpAny_pure ?_)
  try dsimp only
  refine wpAny_bind (wpAny_pure ?_); try dsimp only
  refine wpAny_bind (wpAny_holding (wpAny_bind ((strKind X.prog X.w).pyHash (is_str k tk) ?_)))
  refine add_any (s := { s with toks := s.toks + 1 }) R room fun b h' sb new => ?_
  show wpAny _ _ (ret Value.none) _ _ _
  refine wpAny_pure ⟨_, rfl, h _ (I.write (e := D) (t' := s.toks + 1) (by rw [hD]; trivial) (.inl rfl) sb ?_ (setS_new new))⟩
  obtain ⟨D', ho, _⟩ := new.ex
  exact ⟨_, ho⟩
end
/-! ### comprehensions of sets: any kind of set whose add is known -/
abbrev emptySet (w : World) : Obj := { cls := .type "set", dict := none, data := .set #[] 0 (.fresh 0 0 (!w.params.followText "set-order")) }
structure Fam (P : Program) (w : World) (St : Type) where
  G : Addr → St → HO
  z : St
  ok : St → V → Prop
  nx : St → V → St
  new : ∀ {H : Hp} {h : Heap}, ObjOk P w H (h.push (emptySet w)) h.objs.size (G h.objs.size z)
  add : ∀ {X : Cx} (_ : X.prog = P) (_ : X.w = w) {pins : List (Addr × Obj)} {σ : L2.St} {H : Hp} {s : Shared} {E : Value → Shared → Prop} {D : Addr} {st : St} {y : V} {u : Value} {Q : Value → Shared → Prop}, Inv X pins σ H s → H D = some (G D st) → ok st y → RelV y u →
    (∀ s', Inv X pins σ (upd H D (G D (nx st y))) s' → Q .none s') → wpAny (model X.prog X.w) X.A (call (.builtin "set.add") [.ref D, u]) Q E s
/-- what is asked of {elt for target in iter if ..} -/
def tScF {P : Program} {w : World} {St : Type} (F : Fam P w St) (wi : TI) (g : TG) (tt : TT) (te : TE) (vs : List Nat) : TE := fun σ H Q => wi σ H fun J H1 => ∀ D, H1 D = none → ∃ W : Nat → Nat → Hp → Prop, (∃ m, W 0 m (upd H1 D (F.G D F.z))) ∧ ∀ i m H, W i m H →
  (J.stop i H ∧ Q (.ref D) H) ∨ (J.go i H ∧ ∃ Nx : Hp → Prop, (∀ H', Nx H' → ∃ m', m' < m ∧ W (i + 1) m' H') ∧ ∀ x H', J.yld i H x H' → g x (wipe σ vs) H' fun σ2 H2 => wipe σ2 vs = wipe σ vs ∧ tt σ2 H2 fun b H3 =>
    if b = true then te σ2 H3 fun y H4 => ∃ st, H4 D = some (F.G D st) ∧ F.ok st y ∧ Nx (upd H4 D (F.G D (F.nx st y))) else Nx H3)
section
variable {X : Cx} {St : Type}
theorem scF_core (F : Fam X.prog X.w St) {pins : List (Addr × Obj)} {s : Shared} {σ : L2.St} {H : Hp} {Q : VK} {elt tg iter : Expr} {ifs : List Expr} {scope : Scope} {own : List (PySem.Str × Nat)} {pos pos' : Pos} {wi : TI} {g : TG} {tt : TT} {te : TE} {use : Option (Value → Sem Unit)} {Qf : Value → Shared → Prop}
    (hc : X.calm = true) (hN : X.N.Nodup) (I : Inv X pins σ H s) (hi : PI X tg iter wi) (ok : BlkOk X.N X.env.scope scope own)
    (hg : ∀ s H C cl fp, PG (X.blk s H scope (compEnvC scope cl C X.env) fp) tg g) (ht : ∀ s H C cl fp, PTs (X.blk s H scope (compEnvC scope cl C X.env) fp) ifs tt)
    (he : ∀ s H C cl fp, PE (X.blk s H scope (compEnvC scope cl C X.env) fp) elt te) (hs : ∀ x, foldedSetIterable iter X.env x = pure x)
    (h : tScF F wi g tt te (own.map (·.2)) σ H Q)
    (back : ∀ D C s' m H', Inv X pins σ H' s' → Q (.ref D) H' → s'.heap.Ns C m → FpOk X pins H' C → compPost (model X.prog X.w) X.A X.xe use Qf (.ref D) C (.ok .next) s') :
    wpAny (model X.prog X.w) X.A (comprehension (.SetComp elt [⟨tg, iter, ifs, 0⟩] scope pos) scope X.env pos' (newSet (.type "set")) false (eval iter X.env) use) Qf X.xe s := by
  have fr : ∀ y ∈ scope.names, y.2 = .free → ∃ c, X.env.cells.lookup y.1 = some c := fun y hy e => (ok.free y hy e).elim (fun k => I.ok.has _ (.inl k)) fun k => I.ok.has _ (.inr k)
  refine wpAny_comprehension_free (use := use) rfl hs (closure_ok fr) ok.kind (fun y hy e => by rw [ok.uniq y hy, e]) (thn (hi.run pins s σ H _ I h) fun _ _ a1 => thn a1 fun _ z2 ⟨it, fp, tn, J, H2, e, I2, T, st2, f2, q⟩ => ?_)
  subst e
  refine PpSet.newSet_ok (newEnv_comp ?_)
  obtain ⟨D, hD⟩ : ∃ D, z2.heap.objs.size = D := ⟨_, rfl⟩
  rw [hD]
  have D0 : H2 D = none := I2.hok.fresh (Nat.le_of_eq hD)
  obtain ⟨W, ⟨m0, w0⟩, turn⟩ := q D D0
  obtain ⟨z3, e3⟩ : ∃ z3 : Shared, z3 = { z2 with heap := z2.heap.push (emptySet X.w) } := ⟨_, rfl⟩
  rw [← e3]
  have I3 : Inv X pins σ (upd H2 D (F.G D F.z)) z3 := by
    have nw := F.new (H := upd H2 D (F.G D F.z)) (h := z2.heap)
    rw [hD] at nw; rw [e3]
    exact I2.laid (t' := z2.toks) (fun _ _ e => Heap.get?_push_of_some _ e) (Nat.le_of_eq hD) nw
  have h3 : z3.heap = z2.heap.push (emptySet X.w) := by rw [e3]
  have lt2 : ∀ b ∈ fp, b < z2.heap.objs.size := fun b hb => (T.obj _ _ st2 b hb).elim fun _ x => Heap.lt_size x.1
  have f3 : ∀ b ∈ fp, FpOk X pins (upd H2 D (F.G D F.z)) b ∧ b < z3.heap.objs.size := fun b hb =>
    ⟨⟨by rw [upd_ne (by rw [← hD]; exact Nat.ne_of_lt (lt2 b hb))]; exact (f2 b hb).1, (f2 b hb).2⟩, by rw [h3, Heap.size_push]; exact Nat.lt_succ_of_lt (lt2 b hb)⟩
  have st3 : tn 0 z3.heap := T.keep _ _ _ st2 fun _ _ _ e => by rw [h3]; exact Heap.get?_push_of_some _ e
  have I4 := block_start I3 ok hN f3
  obtain ⟨H3, eH⟩ : ∃ H3, H3 = upd H2 D (F.G D F.z) := ⟨_, rfl⟩
  rw [← eH] at I3 I4 w0 f3
  obtain ⟨cs, ec⟩ : ∃ cs, cs = cellsFrom (z3.heap.objs.size + 1) scope.names (cloFrom X.env.cells scope.names []) := ⟨_, rfl⟩
  rw [← ec] at I4 ⊢
  have pg := hg z3 H3 z3.heap.objs.size cs fp
  have pt := ht z3 H3 z3.heap.objs.size cs fp
  have pe := he z3 H3 z3.heap.objs.size cs fp
  show codeAny _ _ (.compStart (.SetComp elt [⟨tg, iter, ifs, 0⟩] scope pos) 0 (.ref it) (.ref D) (compEnvC scope cs z3.heap.objs.size X.env)) (compPost (model X.prog X.w) X.A X.xe use Qf (.ref D) z3.heap.objs.size) { z3 with heap := pushCells (z3.heap.push { cls := .type "dict", data := .dict #[] }) scope.names }
  have n3 : ∀ b ∈ fp, H3 b = none := fun b hb => (f3 b hb).1.1
  obtain ⟨ce, ece⟩ : ∃ ce, ce = compEnvC scope cs z3.heap.objs.size X.env := ⟨_, rfl⟩
  have cL : ce.locals = z3.heap.objs.size := by rw [ece]; rfl
  rw [← ece] at I4 pg pt pe ⊢
  obtain ⟨z4, e4⟩ : ∃ z4 : Shared, z4 = { z3 with heap := pushCells (z3.heap.push { cls := .type "dict", data := .dict #[] }) scope.names } := ⟨_, rfl⟩
  rw [← e4] at I4 ⊢
  have st4 : tn 0 z4.heap := T.keep _ _ _ st3 fun _ _ _ e => by rw [e4]; exact pushCells_keeps _ _ _ _ (Heap.get?_push_of_some _ e)
  have there : ∀ {σ' : L2.St} {H' : Hp} {s' : Shared}, Inv (X.blk z3 H3 scope ce fp) [] σ' H' s' → (∀ b ∈ fp, H' b = none) → ∀ b ∈ fp, FpOk (X.blk z3 H3 scope ce fp) [] H' b := fun I' hn b hb =>
    ⟨hn b hb, (I'.ok.exf b hb).1, I'.ok.exfs b hb, .inl hb, fun x c e => (I'.ok.exf b hb).2 x c e, fun p hp => absurd (show p ∈ ([] : List (Addr × Obj)) ++ [] from hp) (by simp)⟩
  refine PpSet.codeAny_compStart_set ?lp (T.self X.A 0 _ _ _ st4 ?lp)
  refine PpSet.compLoopS_any (fun n s' => ∃ i H', Inv (X.blk z3 H3 scope ce fp) [] (wipe σ (own.map (·.2))) H' s' ∧ tn i s'.heap ∧ (∀ b ∈ fp, H' b = none) ∧ W i n H') (fun n z5 ⟨i, H5, I5, st5, n5, w5⟩ => ?_) m0 ⟨0, H3, I4, st4, n3, w0⟩
  rcases turn i n H5 w5 with ⟨stop, qq⟩ | ⟨go, Nx, hNx, step⟩
  · refine thnF (T.done (X.blk z3 H3 scope ce fp) rfl rfl rfl hc i [] z5 _ H5 (fun _ _ => False) I5 (there I5 n5) st5 stop) fun r z6 ⟨hr, I6⟩ => ?_
    subst hr
    have I7 : Inv X pins σ H5 z6 := I3.call' (ch := fp) I6.os I6.base I6.hok I6.bare fun b hb => have v := (f3 b hb).1.2; ⟨v.2.2.1, v.1, v.2.2.2.1, v.2.2.2.2⟩
    have nC : H5 z3.heap.objs.size = none := cL ▸ (show H5 ce.locals = none from I6.free)
    obtain ⟨m, hn, _⟩ := I6.loc
    exact back D z3.heap.objs.size z6 m H5 I7 qq (cL ▸ (show z6.heap.Ns ce.locals m from hn)) (I3.fpOk (Nat.le_refl _) nC)
  · refine thnF (T.item (X.blk z3 H3 scope ce fp) rfl rfl rfl hc i [] z5 _ H5 (fun _ _ => False) I5 (there I5 n5) st5 go) fun r z6 ⟨u, hr, h6⟩ => ?_
    subst hr
    refine thnF h6 fun _ z7 ⟨x, H7, I7, r7, y7, st7, n7⟩ => ?_
    refine thnF (pg.run _ z7 _ H7 x u _ (I7.pinned (there I7 n7) (T.obj _ _ st7)) r7 (step x H7 y7)) fun _ z8 ⟨σ8, H8, I8, hw8, q8⟩ => ?_
    refine thnF (pt.run _ z8 σ8 H8 _ I8 q8) fun b z9 ⟨H9, I9, q9⟩ => ?_
    have close : ∀ {s' : Shared} {H' : Hp}, Inv (X.blk z3 H3 scope ce fp) ([] ++ pinsAt fp z7.heap) σ8 H' s' → Nx H' → ∃ m, m < n ∧ ∃ i H', Inv (X.blk z3 H3 scope ce fp) [] (wipe σ (own.map (·.2))) H' s' ∧ tn i s'.heap ∧ (∀ b ∈ fp, H' b = none) ∧ W i m H' := fun {s' H'} I' nx => by
      obtain ⟨m', hm, w'⟩ := hNx H' nx
      have pin : ∀ b ∈ fp, ∀ o, z7.heap.get? b = some o → s'.heap.get? b = some o ∧ H' b = none := fun b hb o e => have v := I'.pin (b, o) (List.mem_append_right _ (List.mem_append_right _ (mem_pinsAt hb e))); ⟨v.1, v.2.1⟩
      refine ⟨m', hm, i + 1, H', (I'.unpinned (pins := [])).weak (by rw [← hw8, wipe_length]) (fun j v e => (wipe_some (hw8 ▸ e)).1), T.keep _ _ _ st7 fun b hb o e => (pin b hb o e).1, fun b hb => ?_, w'⟩
      exact (T.obj _ _ st7 b hb).elim fun o x => (pin b hb o x.1).2
    cases b with
    | false => exact close I9 (by simpa using q9)
    | true =>
      rw [if_pos rfl] at q9
      refine thnF (pe.run _ z9 σ8 H9 _ I9 q9) fun v z10 ⟨y, H10, I10, r10, st0, hD10, okk, nx⟩ => ?_
      exact F.add (X := X.blk z3 H3 scope ce fp) rfl rfl I10 hD10 okk r10 fun z11 I11 => close I11 nx
theorem pe_scF (F : Fam X.prog X.w St) {elt tg iter : Expr} {ifs : List Expr} {scope : Scope} {own : List (PySem.Str × Nat)} {pos : Pos} {wi : TI} {g : TG} {tt : TT} {te : TE} (hc : X.calm = true) (hN : X.N.Nodup) (hi : PI X tg iter wi) (ok : BlkOk X.N X.env.scope scope own)
    (hg : ∀ s H C cl fp, PG (X.blk s H scope (compEnvC scope cl C X.env) fp) tg g) (ht : ∀ s H C cl fp, PTs (X.blk s H scope (compEnvC scope cl C X.env) fp) ifs tt)
    (he : ∀ s H C cl fp, PE (X.blk s H scope (compEnvC scope cl C X.env) fp) elt te) (hs : ∀ x, foldedSetIterable iter X.env x = pure x := by intro _; rfl) : PE X (.SetComp elt [⟨tg, iter, ifs, 0⟩] scope pos) (tScF F wi g tt te (own.map (·.2))) := by
  refine ⟨fun pins s σ H Q I h => ?_⟩
  rw [PpSet.eval_SetComp]
  exact scF_core F hc hN I hi ok hg ht he hs h fun D C s' m H' I' q hn f => ⟨m, hn, fun h'' sb => ⟨.ref D, H', I'.turned (t' := s'.toks) (fun b o hb e => (sb.2 b hb).trans e) f.1 f.2.1 f.2.2.2.1 f.2.2.2.2.1 f.2.2.2.2.2, rfl, q⟩⟩
end
/-- sets of texts -/
def famS (P : Program) (w : World) : Fam P w (List Str) where
  G := SetS P w
  z := []
  ok := fun l y => l.length + 1 < scanBound ∧ ∃ k, y = .str k
  nx := fun l y => match y with | .str k => if k ∈ l then l else k :: l | _ => l
  new := setS_new stx_fresh
  add := fun {X} hP hw {pins σ H s E D l y u Q} I hD ok r h => by
    subst hP; subst hw
    obtain ⟨room, k, rfl⟩ := ok
    exact addS_ok I hD r room h
/-! ### sorted of a set of texts -/
section
variable {P : Program} {w : World} {A : Around} {E : Value → Shared → Prop} {s : Shared} {a : Addr} {l : List Str}
theorem perm_of_sub : ∀ {l m : List Str}, l.Nodup → (∀ k ∈ l, k ∈ m) → m.length ≤ l.length → m.Perm l
  | [], m, _, _, h => by rw [List.eq_nil_of_length_eq_zero (Nat.le_zero.mp h)]
  | k :: r, m, nd, sub, h => by
    have hk := sub k List.mem_cons_self
    have p := List.perm_cons_erase hk
    have e := p.length_eq
    rw [List.length_cons] at e h
    exact p.trans (.cons k (perm_of_sub (List.nodup_cons.mp nd).2 (fun x hx => (List.mem_erase_of_ne (fun z => (List.nodup_cons.mp nd).1 (by rw [← z]; exact hx))).mpr (sub x (List.mem_cons_of_mem _ hx))) (by omega)))
theorem strs_vals : ∀ vs : List Value, (∀ v ∈ vs, ∃ k u, v = Value.str k u) → ∃ ss, StrsAre vs ss ∧ ∀ f : Value → Str, (∀ k u, f (.str k u) = k) → ss = vs.map f
  | [], _ => ⟨[], .nil, fun _ _ => rfl⟩
  | v :: r, h => by
    obtain ⟨ss, h1, h2⟩ := strs_vals r fun x hx => h x (List.mem_cons_of_mem _ hx)
    obtain ⟨k, u, rfl⟩ := h v List.mem_cons_self
    exact ⟨k :: ss, .cons k u h1, fun f hf => by rw [List.map_cons, hf, h2 f hf]⟩
def unS : Value → Str | .str k _ => k | _ => Str.empty
theorem stx_vals {D : SD} (F : TxOk P w D l) (nd : l.Nodup) : (∀ v ∈ D.1.toList.map (·.2), ∃ k u, v = Value.str k u) ∧ ((D.1.toList.map (·.2)).map unS).Perm l := by
  have each : ∀ e ∈ D.1.toList, ∃ k u, e.2 = Value.str k u ∧ k ∈ l := fun e he => by
    obtain ⟨⟨k, hk, _⟩, _⟩ := F.el e he
    have z : ∃ u, e.2 = .str k u := by
      cases h : e.2 with
      | str x u => rw [h] at hk; have q : (x == k) = true := hk; rw [beq_iff_eq.mp q]; exact ⟨u, rfl⟩
      | _ => rw [h] at hk; exact absurd hk (by simp [PySem.strKind, Value.isStrOf])
    obtain ⟨u, hu⟩ := z
    exact ⟨k, u, hu, (F.mem k).mpr ⟨e, he, hk⟩⟩
  refine ⟨fun v hv => ?_, ?_⟩
  · obtain ⟨e, he, rfl⟩ := List.mem_map.mp hv
    obtain ⟨k, u, h, _⟩ := each e he
    exact ⟨k, u, h⟩
  · have hl : ((D.1.toList.map (·.2)).map unS).length = l.length := by rw [List.length_map, List.length_map, Array.length_toList]; exact F.sz
    have sub : ∀ k ∈ l, k ∈ (D.1.toList.map (·.2)).map unS := fun k hk => by
      obtain ⟨e, he, q⟩ := (F.mem k).mp hk
      obtain ⟨k', u, h, _⟩ := each e he
      rw [h] at q
      have q' : (k' == k) = true := q
      rw [← beq_iff_eq.mp q']
      exact List.mem_map.mpr ⟨e.2, List.mem_map.mpr ⟨e, he, rfl⟩, by rw [h]; rfl⟩
    exact perm_of_sub nd sub (Nat.le_of_eq hl)
theorem sorted_stx {Q : Value → Shared → Prop} (R : STx P w s.heap a l) (hh : A.handled = none) (h64 : l.length < 64)
    (hq : ∀ s' p (out : Array Value) c ys, (∀ b o, s.heap.get? b = some o → s'.heap.get? b = some o) → s'.gens = s.gens → s'.os = s.os → s.heap.objs.size ≤ p → s'.heap.get? p = some (seqObj "list" out c) → StrsAre out.toList ys → ys.Perm l → sortedS ys = true → Q (.ref p) s') :
    wpAny (model P w) A (call (.builtin "sorted") [.ref a]) Q E s := by
  obtain ⟨D, ho, F, ris, led⟩ := R.ex
  obtain ⟨v1, v2⟩ := stx_vals F R.nd
  have lD : D.1.size = l.length := F.sz
  refine Calls.call_function_entry kind_sorted plain_sorted entry_sorted (args_sorted1 _) ?_; unfold Builtin.«sorted»
  refine wpAny_bind (m := checkCount "sorted" 1 1 _) (wpAny_pure (wpAny_bind (collect_set (A := A.in1) hh ⟨_, ho, rfl, rfl⟩ F.fit (by have := R.few; omega) ris led fun s1 vs k1 hz g1 o1 pm => ?_)))
  have vl : vs.length < 64 := by rw [pm.length_eq, List.length_map, Array.length_toList, lD]; exact h64
  obtain ⟨ss, hS, hss⟩ := strs_vals vs fun v hv => v1 v (pm.mem_iff.mp hv)
  have ps : ss.Perm l := by rw [hss unS fun _ _ => rfl]; exact (pm.map unS).trans v2
  refine wpAny_bind (wpAny_newList ?_ (by rw [sizeLine_eq]; omega))
  have hoL : (s1.heap.push (seqObj "list" vs.toArray 0)).get? s1.heap.objs.size = some (seqObj "list" vs.toArray 0) := Heap.get?_push_size _ rfl
  refine wpAny_bind (wpAny_holding (wpAny_call_entry slot_list_sort ⟨_, hoL, rfl⟩ entry_list_sort (list_sort_treeK strKind_oneLt hoL hS.keysOf (fun v₁ v₂ rest e => keyKind_strs (by rw [← e]; exact hS)) vl fun st' a1 a2 => ⟨_, rfl, ?_⟩) (args_list_sort _)))
  obtain ⟨ss', b1, b2, b3⟩ := sorted_out_str hS a1 a2
  obtain ⟨c, hc⟩ := sortedHeap_at (vs := vs) (out := (arrOf st').map (·.2)) hoL
  refine wpAny_pure ⟨_, rfl, hq _ s1.heap.objs.size _ c ss' (fun b u e => ?_) g1 o1 hz hc b1 (b2.trans ps) b3⟩
  have q := k1 b u e
  have lt := Heap.lt_size q
  exact (sortedHeap_old (Nat.ne_of_lt lt) (by rw [size_push']; exact Nat.lt_succ_of_lt lt)).trans (Heap.get?_push_of_some _ q)
end
section
variable {X : Cx}
def rSortSS (P : Program) (w : World) : List V → Hp → VK → Prop := fun vs H Q => ∃ (a : Addr) (l : List Str), vs = [V.ref a] ∧ H a = some (SetS P w a l) ∧ l.length < 64 ∧ ∀ (ys : List Str) (p : Addr), ys.Perm l → sortedS ys = true → H p = none → Q (.ref p) (upd H p (.lst (ys.map V.str)))
theorem cr_sortSS (hc : X.calm = true) : CallR X (.builtin "sorted") (rSortSS X.prog X.w) := by
  intro pins s σ H vs us Q I r h
  obtain ⟨a, l, rfl, ha, h64, q⟩ := h
  rw [Vals.ref1 r]
  refine sorted_stx (setS_get I ha) (I.ok.hd hc) h64 fun s' p out c ys k g o hp hg hS pm so => ?_
  have hn : H p = none := I.hok.fresh hp
  have hl : (ys.map V.str).length ≤ sizeLine := by rw [List.length_map, pm.length_eq, sizeLine_eq]; omega
  exact ⟨.ref p, upd H p (.lst (ys.map V.str)), I.call' (ch := []) o (Un.laid k hp hn) (I.hok.laid k hp ⟨hl, out.toList, c, vals_of_strs hS, hg⟩) (by rw [g]; exact I.bare) (fun _ z => nomatch z), rfl, q ys p pm so hn⟩
end
end R9S
namespace K01
open PySem PySem.Spec PyProof.Rows L2 R9 R9S
def insS (k : Str) (l : List Str) : List Str := if k ∈ l then l else k :: l
theorem insS_mem {k u : Str} {l : List Str} : u ∈ insS k l ↔ u = k ∨ u ∈ l := by
  unfold insS
  by_cases c : k ∈ l
  · rw [if_pos c]
    exact ⟨.inr, fun h => h.elim (fun e => e ▸ c) id⟩
  · rw [if_neg c]; exact List.mem_cons
theorem insS_nd {k : Str} {l : List Str} (h : l.Nodup) : (insS k l).Nodup := by
  unfold insS
  by_cases c : k ∈ l
  · rw [if_pos c]; exact h
  · rw [if_neg c]; exact List.nodup_cons.mpr ⟨c, h⟩
theorem insS_len {k : Str} {l : List Str} : (insS k l).length ≤ l.length + 1 := by
  unfold insS
  by_cases c : k ∈ l
  · rw [if_pos c]; exact Nat.le_succ _
  · rw [if_neg c]; exact Nat.le_refl _
/-! ### comprehensions of sets of texts, by what is known of the texts so far -/

theorem scg_list {P : Program} {w : World} {K : PySem.W.Frag} {a : Addr} {xs : List V} {g : TG} {tt : TT} {te : TE} {vs : List Nat} {σ : L2.St} {H1 : Hp} {D : Addr} {Qd : Hp → Prop} {S S1 : List Addr} {F0 H0 F : Hp}
    (J : Hp → Prop) (I : Nat → List Str → Prop) (u0 : Up S F0 H0 F H1) (j0 : J H1) (hD : H1 D = none) (hJ : ∀ H o, J H → J (upd H D o)) (hS : ∀ x ∈ S1, x ∈ S ∧ H0 x ≠ none) (hs : ∀ F2 H2, Up S F0 H0 F2 H2 → Fz F F2 → Up (D :: S1) F H1 F2 H2 → SqL K H2 a xs) (sz : xs.length ≤ 1000) (i0 : I 0 [])
    (turn : ∀ i x F2 H2 l, xs[i]? = some x → Up S F0 H0 F2 H2 → Fz F F2 → Up (D :: S1) F H1 F2 H2 → J H2 → I i l → ∀ (T : V → Hp → Prop) (N : Hp → Prop), (∀ k F5 H5, Up S1 F2 H2 F5 H5 → J H5 → I (i + 1) (insS k l) → T (.str k) H5) → (∀ F5 H5, Up S1 F2 H2 F5 H5 → J H5 → I (i + 1) l → N H5) →
      g x (wipe σ vs) H2 fun σ2 H3 => wipe σ2 vs = wipe σ vs ∧ tt σ2 H3 fun b H4 => if b = true then te σ2 H4 T else N H4)
    (after : ∀ l F2 H2, Up S F0 H0 F2 H2 → Fz F F2 → Up S1 F H1 F2 H2 → J H2 → Ow H0 F2 H2 D (SetS P w D l) → l.Nodup → l.length ≤ xs.length → I xs.length l → Qd H2) :
    ∃ W : Nat → Nat → Hp → Prop, (∃ m, W 0 m (upd H1 D ((famS P w).G D (famS P w).z))) ∧ ∀ i m H, W i m H →
      ((Itl K a).stop i H ∧ Qd H) ∨ ((Itl K a).go i H ∧ ∃ Nx : Hp → Prop, (∀ H', Nx H' → ∃ m', m' < m ∧ W (i + 1) m' H') ∧ ∀ x H', (Itl K a).yld i H x H' → g x (wipe σ vs) H' fun σ2 H2 => wipe σ2 vs = wipe σ vs ∧ tt σ2 H2 fun b H3 =>
        if b = true then te σ2 H3 fun y H4 => ∃ st, H4 D = some ((famS P w).G D st) ∧ (famS P w).ok st y ∧ Nx (upd H4 D ((famS P w).G D ((famS P w).nx st y))) else Nx H3) := by
  have sz2 : (1002 : Nat) < scanBound := by decide
  let Pv : Nat → Hp → Prop := fun i H => ∃ F2 l, Up S F0 H0 F2 H ∧ Fz F F2 ∧ Up (D :: S1) F H1 F2 H ∧ J H ∧ Ow H0 F2 H D (SetS P w D l) ∧ l.Nodup ∧ l.length ≤ i ∧ I i l
  refine ⟨fun i m H => m = xs.length - i ∧ i ≤ xs.length ∧ Pv i H, ⟨xs.length, rfl, Nat.zero_le _, ?_⟩, ?_⟩
  · obtain ⟨v, u, c⟩ := u0.begin hD (SetS P w D [])
    exact ⟨F, [], u, .refl F, v.of0, hJ _ _ j0, c, List.nodup_nil, Nat.le_refl _, i0⟩
  · rintro i m H2 ⟨rfl, hi, F2, l, u, f, v, j, c, nd, ll, inv⟩
    have q := hs F2 H2 u f v
    by_cases lt : i < xs.length
    · refine .inr ⟨⟨xs, xs[i], q, List.getElem?_eq_getElem lt⟩, Pv (i + 1), fun H' p' => ⟨xs.length - (i + 1), by omega, rfl, lt, p'⟩, fun x H' y => ?_⟩
      obtain ⟨rfl, y⟩ := y
      refine turn i x F2 _ l (y xs q) u f v j inv _ _ (fun k F5 H5 u5 j5 inv5 => ?_) (fun F5 H5 u5 j5 inv5 => ?_)
      · have c5 := c.up u5 fun x h => (hS x h).2
        have U5 := u.more u5 fun x h => (hS x h).1
        have V5 := v.more u5 fun x h => List.mem_cons_of_mem _ h
        obtain ⟨v6, u6, c6⟩ := U5.put c5 (SetS P w D (insS k l))
        exact ⟨l, c5.at_, ⟨Nat.lt_of_le_of_lt (show l.length + 1 ≤ 1002 by omega) sz2, k, rfl⟩, F5, insS k l, u6, f.trans u5.sub, V5.more v6 (fun x h => by rw [List.mem_singleton.mp h]; exact List.mem_cons_self), hJ _ _ j5, c6, insS_nd nd, Nat.le_trans insS_len (Nat.succ_le_succ ll), inv5⟩
      · exact ⟨F5, l, u.more u5 fun x h => (hS x h).1, f.trans u5.sub, v.more u5 fun x h => List.mem_cons_of_mem _ h, j5, c.up u5 fun x h => (hS x h).2, nd, Nat.le_succ_of_le ll, inv5⟩
    · have e : i = xs.length := by omega
      subst e
      exact .inl ⟨⟨xs, q, Nat.le_refl _⟩, after l F2 H2 u f (v.drop hD) j c nd ll inv⟩

theorem scg_tup {P : Program} {w : World} {K : PySem.W.Frag} {a : Addr} {xs : List V} {g : TG} {tt : TT} {te : TE} {vs : List Nat} {σ : L2.St} {H1 : Hp} {D : Addr} {Qd : Hp → Prop} {S S1 : List Addr} {F0 H0 F : Hp}
    (J : Hp → Prop) (I : Nat → List Str → Prop) (u0 : Up S F0 H0 F H1) (j0 : J H1) (hD : H1 D = none) (hJ : ∀ H o, J H → J (upd H D o)) (hS : ∀ x ∈ S1, x ∈ S ∧ H0 x ≠ none) (hs : ∀ F2 H2, Up S F0 H0 F2 H2 → Fz F F2 → Up (D :: S1) F H1 F2 H2 → SqT K H2 a xs) (sz : xs.length ≤ 1000) (i0 : I 0 [])
    (turn : ∀ i x F2 H2 l, xs[i]? = some x → Up S F0 H0 F2 H2 → Fz F F2 → Up (D :: S1) F H1 F2 H2 → J H2 → I i l → ∀ (T : V → Hp → Prop) (N : Hp → Prop), (∀ k F5 H5, Up S1 F2 H2 F5 H5 → J H5 → I (i + 1) (insS k l) → T (.str k) H5) → (∀ F5 H5, Up S1 F2 H2 F5 H5 → J H5 → I (i + 1) l → N H5) →
      g x (wipe σ vs) H2 fun σ2 H3 => wipe σ2 vs = wipe σ vs ∧ tt σ2 H3 fun b H4 => if b = true then te σ2 H4 T else N H4)
    (after : ∀ l F2 H2, Up S F0 H0 F2 H2 → Fz F F2 → Up S1 F H1 F2 H2 → J H2 → Ow H0 F2 H2 D (SetS P w D l) → l.Nodup → l.length ≤ xs.length → I xs.length l → Qd H2) :
    ∃ W : Nat → Nat → Hp → Prop, (∃ m, W 0 m (upd H1 D ((famS P w).G D (famS P w).z))) ∧ ∀ i m H, W i m H →
      ((Itt K a).stop i H ∧ Qd H) ∨ ((Itt K a).go i H ∧ ∃ Nx : Hp → Prop, (∀ H', Nx H' → ∃ m', m' < m ∧ W (i + 1) m' H') ∧ ∀ x H', (Itt K a).yld i H x H' → g x (wipe σ vs) H' fun σ2 H2 => wipe σ2 vs = wipe σ vs ∧ tt σ2 H2 fun b H3 =>
        if b = true then te σ2 H3 fun y H4 => ∃ st, H4 D = some ((famS P w).G D st) ∧ (famS P w).ok st y ∧ Nx (upd H4 D ((famS P w).G D ((famS P w).nx st y))) else Nx H3) := by
  have sz2 : (1002 : Nat) < scanBound := by decide
  let Pv : Nat → Hp → Prop := fun i H => ∃ F2 l, Up S F0 H0 F2 H ∧ Fz F F2 ∧ Up (D :: S1) F H1 F2 H ∧ J H ∧ Ow H0 F2 H D (SetS P w D l) ∧ l.Nodup ∧ l.length ≤ i ∧ I i l
  refine ⟨fun i m H => m = xs.length - i ∧ i ≤ xs.length ∧ Pv i H, ⟨xs.length, rfl, Nat.zero_le _, ?_⟩, ?_⟩
  · obtain ⟨v, u, c⟩ := u0.begin hD (SetS P w D [])
    exact ⟨F, [], u, .refl F, v.of0, hJ _ _ j0, c, List.nodup_nil, Nat.le_refl _, i0⟩
  · rintro i m H2 ⟨rfl, hi, F2, l, u, f, v, j, c, nd, ll, inv⟩
    have q := hs F2 H2 u f v
    by_cases lt : i < xs.length
    · refine .inr ⟨⟨xs, xs[i], q, List.getElem?_eq_getElem lt⟩, Pv (i + 1), fun H' p' => ⟨xs.length - (i + 1), by omega, rfl, lt, p'⟩, fun x H' y => ?_⟩
      obtain ⟨rfl, y⟩ := y
      refine turn i x F2 _ l (y xs q) u f v j inv _ _ (fun k F5 H5 u5 j5 inv5 => ?_) (fun F5 H5 u5 j5 inv5 => ?_)
      · have c5 := c.up u5 fun x h => (hS x h).2
        have U5 := u.more u5 fun x h => (hS x h).1
        have V5 := v.more u5 fun x h => List.mem_cons_of_mem _ h
        obtain ⟨v6, u6, c6⟩ := U5.put c5 (SetS P w D (insS k l))
        exact ⟨l, c5.at_, ⟨Nat.lt_of_le_of_lt (show l.length + 1 ≤ 1002 by omega) sz2, k, rfl⟩, F5, insS k l, u6, f.trans u5.sub, V5.more v6 (fun x h => by rw [List.mem_singleton.mp h]; exact List.mem_cons_self), hJ _ _ j5, c6, insS_nd nd, Nat.le_trans insS_len (Nat.succ_le_succ ll), inv5⟩
      · exact ⟨F5, l, u.more u5 fun x h => (hS x h).1, f.trans u5.sub, v.more u5 fun x h => List.mem_cons_of_mem _ h, j5, c.up u5 fun x h => (hS x h).2, nd, Nat.le_succ_of_le ll, inv5⟩
    · have e : i = xs.length := by omega
      subst e
      exact .inl ⟨⟨xs, q, Nat.le_refl _⟩, after l F2 H2 u f (v.drop hD) j c nd ll inv⟩
end K01
namespace R9S
open PySem PySem.Spec PyProof.Rows L2 R9
/-! ### len of an object of one's own -/
section
variable {X : Cx} {CX : CXT} {C f : Addr} {fd : FuncData} {ps : List Str} {sp : Sp} {E : XK} {n : Nat}
def rLenOwn (C : Addr) (sp : Sp) (E : XK) : List V → Hp → VK → Prop := fun xs H Q => ∃ a dx fs, xs = [.ref a] ∧ H a = some (.ins C dx fs) ∧ sp [.ref a] H (fun v H' => ∃ k : Int, v = .int k ∧ (0 ≤ k ∧ k < 2 ^ 63) ∧ Q (.int k) H') E
theorem call_lenOwn (F : FnOk X.prog X.w X.K X.mg X.base CX n f fd ps sp) (hr : Room (n + 1) X.A) (hs : PySem.W.findIn X.K (.ref C) "__len__" = some (some (.ref f))) (hf : PySem.W.isFn X.K (.ref f) = true) (hb : Binds X.K fd ps []) (hx : Passes CX X E) : CallR X (.builtin "len") (rLenOwn C sp E) := by
  intro pins s σ H xs us Q I r h
  obtain ⟨a, dx, fs, rfl, ha, hsp⟩ := h
  rw [Vals.ref1 r]
  obtain ⟨mA, J, _⟩ := ins_get I.hok ha
  obtain ⟨od, J, _⟩ := J.look
  obtain ⟨m, hF⟩ := I.fr
  refine PySem.W.len_K hF I.ok.mod.kin J hs hf ?_
  have e0 : Env0 X.prog X.w X.K X.mg X.base X.A.in1 X.stack s H := have e := I.env0; ⟨e.frames, e.mod, e.bs, e.bsz, e.funs, e.frf, e.hok, e.bare⟩
  have hl := F.len _ _ _ _ hsp
  have r2 : Vals [V.ref a] [Value.ref a] := .cons rfl .nil
  refine wpAny_call (codeAny_mono (F.run X.A.in1 X.stack s H ⟨[.ref a], []⟩ [.ref a] [.ref a] _ E hr.in1 e0 (by have := hb s [.ref a] I.kIn (by simpa using hl); simpa using this) r2 hsp) fun r s' hq => ?_)
  cases r with
  | error e => exact hx pins σ H s e s' I hq
  | ok fl =>
    cases fl with
    | ret w =>
      obtain ⟨z, H', I', rz, k, ez, kb, q⟩ := I.after hq
      subst ez
      obtain ⟨t, rfl⟩ := rz
      exact ⟨kb, .int k, H', I'.tok _, ⟨_, rfl⟩, q⟩
    | next => exact False.elim hq
    | brk => exact False.elim hq
    | cont => exact False.elim hq
theorem call_lenD {j k : Nat} {qual : Str} {st : Stmt} (D : Dm X.prog X.w X.K X.mg X.base k C "__len__" qual st ps sp) (hr : Room j X.A) (hk : k + 1 ≤ j) : CallR X (.builtin "len") (rLenOwn C sp E0) := by
  obtain ⟨f, fd, F, G, hc, me, b⟩ := D.ex
  exact call_lenOwn G (hr.mono hk) me.at_ me.fn b passL
end
/-! ### sorted of a list or a tuple of texts -/
section
variable {P : Program} {w : World} {A : Around} {E : Value → Shared → Prop} {s : Shared}
theorem sorted_seq {a : Addr} {T : String} {o : Obj} {items : Array Value} {n : Nat} {xs : List Str} {Q : Value → Shared → Prop} (hT : T = "list" ∨ T = "tuple") (ho : s.heap.get? a = some o) (hc : o.cls = .type T) (hd : o.data = .seq items n) (hS : StrsAre items.toList xs) (h64 : xs.length < 64)
    (hq : ∀ (h1 h' : Heap) (out : Array Value) c ys, (∀ b o, s.heap.get? b = some o → h1.get? b = some o) → (∀ b o, h1.get? b = some o → h'.get? b = some o) → h'.get? h1.objs.size = some (seqObj "list" out c) → StrsAre out.toList ys → ys.Perm xs → sortedS ys = true → Q (.ref h1.objs.size) { s with heap := h' }) :
    wpAny (model P w) A (call (.builtin "sorted") [.ref a]) Q E s := by
  have lx := hS.length
  rw [Array.length_toList] at lx
  refine Calls.call_function_entry kind_sorted plain_sorted entry_sorted (args_sorted1 _) ?_; unfold Builtin.«sorted»
  refine wpAny_bind (m := checkCount "sorted" 1 1 _) (wpAny_pure (wpAny_bind (wpAny_collect_seq (A := A.in1) a hT ho hc hd (fun h1 k1 => ?_) (by rw [sizeLine_eq]; omega))))
  refine wpAny_bind (wpAny_newList ?_ (by rw [sizeLine_eq, Array.length_toList]; omega))
  have hoL : (h1.push (seqObj "list" items.toList.toArray 0)).get? h1.objs.size = some (seqObj "list" items.toList.toArray 0) := Heap.get?_push_size _ rfl
  refine wpAny_bind (wpAny_holding (wpAny_call_entry slot_list_sort ⟨_, hoL, rfl⟩ entry_list_sort (list_sort_treeK strKind_oneLt hoL hS.keysOf (fun v₁ v₂ rest e => keyKind_strs (by rw [← e]; exact hS)) (by rw [Array.length_toList]; omega) fun st' a1 a2 => ⟨_, rfl, ?_⟩) (args_list_sort _)))
  obtain ⟨ss', b1, b2, b3⟩ := sorted_out_str hS a1 a2
  obtain ⟨c, hc'⟩ := sortedHeap_at (vs := items.toList) (out := (arrOf st').map (·.2)) hoL
  refine wpAny_pure ⟨_, rfl, hq h1 _ _ c ss' k1 (fun b u q => ?_) hc' b1 b2 b3⟩
  have lt := Heap.lt_size q
  exact (sortedHeap_old (Nat.ne_of_lt lt) (by rw [size_push']; exact Nat.lt_succ_of_lt lt)).trans (Heap.get?_push_of_some _ q)
end
section
variable {X : Cx}
def rSortSq (K : PySem.W.Frag) : List V → Hp → VK → Prop := fun vs H Q => ∃ (a : Addr) (xs : List Str), vs = [V.ref a] ∧ (SqL K H a (xs.map V.str) ∨ SqT K H a (xs.map V.str)) ∧ xs.length < 64 ∧ ∀ (ys : List Str) (p : Addr), ys.Perm xs → sortedS ys = true → H p = none → Q (.ref p) (upd H p (.lst (ys.map V.str)))
theorem cr_sortSq : CallR X (.builtin "sorted") (rSortSq X.K) := by
  intro pins s σ H vs us Q I r h
  obtain ⟨a, xs, rfl, hs, h64, q⟩ := h
  rw [Vals.ref1 r]
  have go : ∀ (h1 h' : Heap) (out : Array Value) c ys, (∀ b o, s.heap.get? b = some o → h1.get? b = some o) → (∀ b o, h1.get? b = some o → h'.get? b = some o) → h'.get? h1.objs.size = some (seqObj "list" out c) → StrsAre out.toList ys → ys.Perm xs → sortedS ys = true → EP X pins σ Q (.ref h1.objs.size) { s with heap := h' } := fun h1 h' out c ys k1 k2 hg hS pm so => by
    have I1 : Inv X pins σ H { s with heap := h1 } := I.kept (t' := s.toks) k1
    have hl : (ys.map V.str).length ≤ sizeLine := by rw [List.length_map, pm.length_eq, sizeLine_eq]; omega
    exact ⟨.ref h1.objs.size, upd H h1.objs.size (.lst (ys.map V.str)), I1.laid (t' := s.toks) k2 (Nat.le_refl _) ⟨hl, out.toList, c, vals_of_strs hS, hg⟩, rfl, q ys _ pm so (I1.hok.fresh (Nat.le_refl _))⟩
  rcases hs with hs | hs
  · obtain ⟨its, rv, pl, hz⟩ := I.list hs
    obtain ⟨o, ho, hc, n, hd⟩ := pl.isList
    exact sorted_seq (.inl rfl) ho hc hd rv.strs h64 go
  · obtain ⟨its, rv, pl, hz⟩ := I.tuple hs
    obtain ⟨o, ho, hc, n, hd⟩ := pl
    exact sorted_seq (.inr rfl) ho hc hd rv.strs h64 go
end
end R9S
namespace R9S
open PySem PySem.Spec PyProof.Rows L2 R9
/-! ### zip of two sources: lists, tuples, texts, in any mix -/
inductive Sk where
  | list | tup | txt
def signs (z : Str) : List V := z.cps.toList.map fun c => V.str ⟨#[c]⟩
def SrcV (K : PySem.W.Frag) (H : Hp) (k : Sk) (v : V) (xs : List V) : Prop := match k with
  | .list => ∃ a, v = .ref a ∧ SqL K H a xs
  | .tup => ∃ a, v = .ref a ∧ SqT K H a xs
  | .txt => ∃ z, v = .str z ∧ xs = signs z
/-- where the iterator of a source stands -/
def ItA (k : Sk) (u : Value) (it : Addr) (i : Nat) (h : Heap) : Prop := match k, u with
  | .list, .ref l => h.IsListIter it l i
  | .tup, .ref l => h.IsTupleIter it l i
  | .txt, .str x t => h.IsStrIter it (strIterType x) x t i
  | _, _ => False
theorem ItA.obj {k : Sk} {u : Value} {it : Addr} {i : Nat} {h : Heap} (a : ItA k u it i h) : ∃ o, h.get? it = some o ∧ ∀ v, o.data ≠ .cell v := by
  cases k <;> cases u <;> first | exact a.elim | (obtain ⟨o, ho, _, hd⟩ := a; exact ⟨o, ho, fun v q => by rw [hd] at q; cases q⟩)
theorem ItA.keep {k : Sk} {u : Value} {it : Addr} {i : Nat} {h h' : Heap} (a : ItA k u it i h) (q : ∀ o, h.get? it = some o → h'.get? it = some o) : ItA k u it i h' := by
  cases k <;> cases u <;> first | exact a.elim | (obtain ⟨o, ho, r⟩ := a; exact ⟨o, q o ho, r⟩)
theorem draw_of {X : Cx} {pins : List (Addr × Obj)} {σ : L2.St} {H : Hp} {s : Shared} (I : Inv X pins σ H s) (hc : X.calm = true) {k : Sk} {v : V} {u : Value} {xs : List V} {it : Addr} {i : Nat} (sv : SrcV X.K H k v xs) (rv : RelV v u) (st : ItA k u it i s.heap) (ne : ∀ l, u = .ref l → l ≠ it) :
    ∃ (fp : List Addr) (n : Nat) (Pd : Nat → Value → Prop) (St : Nat → Heap → Prop), Draws X.prog X.w X.A.in1 it fp n Pd St ∧ n = xs.length ∧ St i s.heap ∧ it ∈ fp ∧ (∀ b ∈ fp, b = it ∨ u = .ref b) ∧ (∀ j x', Pd j x' → ∃ x, xs[j]? = some x ∧ RelV x x') ∧ ∀ j h', St j h' → ItA k u it j h' := by
  have hh := I.ok.hd hc
  cases k with
  | list =>
    obtain ⟨a, rfl, sq⟩ := sv
    cases rv
    obtain ⟨its, r, pl, _⟩ := I.list sq
    refine ⟨_, _, _, _, Draws.list (A := X.A.in1) hh it a (ne a rfl) its.toArray, by rw [List.size_toArray]; exact r.length.symm, ⟨st, pl.isList⟩, by simp, fun b hb => ?_, fun j x' h => pair_left r (by simpa using h), fun j h' z => z.1⟩
    rcases (show b = it ∨ b = a by simpa using hb) with z | z
    · exact .inl z
    · exact .inr (by rw [z])
  | tup =>
    obtain ⟨a, rfl, sq⟩ := sv
    cases rv
    obtain ⟨its, r, pl, _⟩ := I.tuple sq
    refine ⟨_, _, _, _, Draws.tuple (A := X.A.in1) hh it a (ne a rfl) its.toArray, by rw [List.size_toArray]; exact r.length.symm, ⟨st, pl⟩, by simp, fun b hb => ?_, fun j x' h => pair_left r (by simpa using h), fun j h' z => z.1⟩
    rcases (show b = it ∨ b = a by simpa using hb) with z | z
    · exact .inl z
    · exact .inr (by rw [z])
  | txt =>
    obtain ⟨z, rfl, rfl⟩ := sv
    obtain ⟨t, rfl⟩ := rv
    refine ⟨_, _, _, _, Draws.text (A := X.A.in1) hh it z t, by unfold signs; rw [List.length_map, Array.length_toList], st, by simp, fun b hb => .inl (by simpa using hb), fun j x' h => ?_, fun j h' q => q⟩
    obtain ⟨c, w, hc, rfl⟩ := h
    exact ⟨.str ⟨#[c]⟩, by unfold signs; rw [List.getElem?_map, Array.getElem?_toList, hc]; rfl, ⟨w, rfl⟩⟩
/-- the sources as they stand at each turn, the items in new pairs -/
def ItzG (K : PySem.W.Frag) (k1 : Sk) (v1 : V) (k2 : Sk) (v2 : V) : It :=
  ⟨fun i H => ∃ (xs ys : List V) (x y : V), SrcV K H k1 v1 xs ∧ SrcV K H k2 v2 ys ∧ xs[i]? = some x ∧ ys[i]? = some y,
    fun i H v H' => ∃ T x y, v = .ref T ∧ H T = none ∧ H' = upd H T (.tup [x, y]) ∧ (∀ xs, SrcV K H k1 v1 xs → xs[i]? = some x) ∧ ∀ ys, SrcV K H k2 v2 ys → ys[i]? = some y,
    fun i H => ∃ xs ys : List V, SrcV K H k1 v1 xs ∧ SrcV K H k2 v2 ys ∧ i ≤ xs.length ∧ i ≤ ys.length ∧ (i = xs.length ∨ i = ys.length)⟩
theorem SrcV.inj {X : Cx} {pins : List (Addr × Obj)} {σ : L2.St} {H : Hp} {s : Shared} (I : Inv X pins σ H s) {k : Sk} {v : V} {xs ys : List V} (a : SrcV X.K H k v xs) (b : SrcV X.K H k v ys) : xs = ys := by
  cases k with
  | list => obtain ⟨p, e, h⟩ := a; obtain ⟨q, e', h'⟩ := b; rw [e] at e'; cases e'; exact I.list_inj h h'
  | tup => obtain ⟨p, e, h⟩ := a; obtain ⟨q, e', h'⟩ := b; rw [e] at e'; cases e'; exact I.tuple_inj h h'
  | txt => obtain ⟨p, e, h⟩ := a; obtain ⟨q, e', h'⟩ := b; rw [e] at e'; cases e'; rw [h, h']
structure Five (z TI TO i1 i2 : Addr) (u1 u2 : Value) : Prop where
  a : TI ≠ z ∧ TO ≠ z ∧ TI ≠ TO ∧ TI ≠ i1 ∧ TI ≠ i2 ∧ z ≠ i1 ∧ z ≠ i2 ∧ TO ≠ i1 ∧ TO ≠ i2 ∧ i1 ≠ i2
  b : ∀ l, u1 = .ref l ∨ u2 = .ref l → l ≠ z ∧ l ≠ TI ∧ l ≠ TO ∧ l ≠ i1 ∧ l ≠ i2
theorem Five.sep {z TI TO i1 i2 : Addr} {u1 u2 : Value} (F : Five z TI TO i1 i2 u1 u2) {fp1 fp2 : List Addr} (m1 : i1 ∈ fp1) (m2 : i2 ∈ fp2) (h1 : ∀ b ∈ fp1, b = i1 ∨ u1 = .ref b) (h2 : ∀ b ∈ fp2, b = i2 ∨ u2 = .ref b) : ZipSep2 z TI TO i1 i2 fp1 fp2 := by
  obtain ⟨a1, a2, a3, a4, a5, a6, a7, a8, a9, a10⟩ := F.a
  have n1 : ∀ c, c ≠ i1 → (∀ l, u1 = .ref l → l ≠ c) → c ∉ fp1 := fun c n q m => (h1 c m).elim n fun e => q c e rfl
  have n2 : ∀ c, c ≠ i2 → (∀ l, u2 = .ref l → l ≠ c) → c ∉ fp2 := fun c n q m => (h2 c m).elim n fun e => q c e rfl
  exact { TIz := a1, TOz := a2, TITO := a3, TIi1 := a4, mem1 := m1, zf1 := n1 z a6 fun l e => (F.b l (.inl e)).1, Tf1 := n1 TO a8 fun l e => (F.b l (.inl e)).2.2.1, TIi2 := a5, mem2 := m2, zf2 := n2 z a7 fun l e => (F.b l (.inr e)).1, Tf2 := n2 TO a9 fun l e => (F.b l (.inr e)).2.2.1, sep1_2 := n2 i1 a10 fun l e => (F.b l (.inr e)).2.2.2.1, sep2_1 := n1 i2 (Ne.symm a10) fun l e => (F.b l (.inl e)).2.2.2.2 }
theorem turn_zipG {P : Program} {w : World} {K : PySem.W.Frag} {elts : List Expr} {kk : Nat} {tpos : Pos} {k1 k2 : Sk} {v1 v2 : V} {u1 u2 : Value} {z TI TO i1 i2 : Addr} (D : Five z TI TO i1 i2 u1 u2) (r1 : RelV v1 u1) (r2 : RelV v2 u2) :
    Turn P w K (.Tuple elts kk tpos) (ItzG K k1 v1 k2 v2) [z, TI, TO, i1, i2] z (fun i h => IsZip h z TI TO .none ∧ IsTupOf2 h TI (.ref i1) (.ref i2) ∧ (∃ x y, IsTupOf2 h TO x y) ∧ ItA k1 u1 i1 i h ∧ ItA k2 u2 i2 i h) where
  mem := by simp
  obj := fun i h ⟨hz, hTI, ⟨x, y, hTO⟩, h1, h2⟩ c hc => by
    rcases (show c = z ∨ c = TI ∨ c = TO ∨ c = i1 ∨ c = i2 by simpa using hc) with q | q | q | q | q
    · rw [q]; exact ⟨_, hz, fun v q => nomatch q⟩
    · rw [q]; exact ⟨_, hTI, fun v q => nomatch q⟩
    · rw [q]; exact ⟨_, hTO, fun v q => nomatch q⟩
    · rw [q]; exact h1.obj
    · rw [q]; exact h2.obj
  keep := fun i h h' ⟨hz, hTI, ⟨x, y, hTO⟩, h1, h2⟩ k => ⟨k z (by simp) _ hz, k TI (by simp) _ hTI, ⟨x, y, k TO (by simp) _ hTO⟩, h1.keep (k i1 (by simp)), h2.keep (k i2 (by simp))⟩
  item := by
    intro X hP hw hK hc i pins s σ H E I hf ⟨hz, hTI, ⟨x0, y0, hTO⟩, h1, h2⟩ ⟨xs, ys, x, y, q1, q2, hx, hy⟩
    subst hP hw hK
    obtain ⟨a1, a2, a3, a4, a5, a6, a7, a8, a9, a10⟩ := D.a
    obtain ⟨fp1, n1, P1, S1, D1, e1, s1, m1, f1, g1, t1⟩ := draw_of I hc q1 r1 h1 fun l e => (D.b l (.inl e)).2.2.2.1
    obtain ⟨fp2, n2, P2, S2, D2, e2, s2, m2, f2, g2, t2⟩ := draw_of I hc q2 r2 h2 fun l e => (D.b l (.inr e)).2.2.2.2
    have zl := Heap.lt_size hz
    refine wpAny_pyNext_zipD2_item (D.sep m1 m2 f1 f2) D1 D2 hz hTI hTO s1 s2 (by rw [e1]; exact (List.getElem?_eq_some_iff.mp hx).1) (by rw [e2]; exact (List.getElem?_eq_some_iff.mp hy).1) fun x1 x2 h' tk p1 p2 z' TO' s1' s2' hT hsz hk => ?_
    obtain ⟨x', hx', rx⟩ := g1 i x1 p1
    obtain ⟨y', hy', ry⟩ := g2 i x2 p2
    rw [hx] at hx'; cases hx'
    rw [hy] at hy'; cases hy'
    refine ⟨_, rfl, wpAny_letOwnedTupleGo_zip (s := { s with heap := h', toks := tk }) z' fun h'' z'' sb => ?_⟩
    have hT2 : h''.get? s.heap.objs.size = some { cls := .type "tuple", data := .seq #[x1, x2] } := (sb.2 _ (Nat.ne_of_gt zl)).trans hT
    have nw : ObjOk X.prog X.w (upd H s.heap.objs.size (.tup [x, y])) h'' s.heap.objs.size (.tup [x, y]) := ⟨by show 2 ≤ sizeLine; decide, [x1, x2], .cons rx (.cons ry .nil), ⟨_, hT2, rfl, _, rfl⟩⟩
    have I1 : Inv X pins σ (upd H s.heap.objs.size (.tup [x, y])) { s with heap := h'', toks := tk } :=
      I.turnedNew (t' := tk) (ch := [z, TI, TO, i1, i2]) (fun c o hb q => (sb.2 c (fun e => hb (by simp [e]))).trans (hk c o (fun e => hb (by simp [e])) (fun e => hb (by simp [e])) (fun e => hb (by simp [e])) (fun e => hb (by simp [e])) q)) hf (Nat.le_refl _) nw
    refine ⟨.ref s.heap.objs.size, _, I1, rfl, ⟨_, x, y, rfl, I.hok.fresh (Nat.le_refl _), rfl, fun l hl => by rw [SrcV.inj I hl q1]; exact hx, fun l hl => by rw [SrcV.inj I hl q2]; exact hy⟩, ⟨z'', ?_, ⟨x1, x2, (sb.2 _ a2).trans TO'⟩, (t1 _ _ s1').keep fun o q => (sb.2 _ (Ne.symm a6)).trans q, (t2 _ _ s2').keep fun o q => (sb.2 _ (Ne.symm a7)).trans q⟩, fun c hcm => ?_⟩
    · exact (sb.2 _ a1).trans (hk _ _ a1 a3 a4 a5 hTI)
    · have lt : c < s.heap.objs.size := by
        rcases (show c = z ∨ c = TI ∨ c = TO ∨ c = i1 ∨ c = i2 by simpa using hcm) with q | q | q | q | q
        · rw [q]; exact zl
        · rw [q]; exact Heap.lt_size hTI
        · rw [q]; exact Heap.lt_size hTO
        · rw [q]; exact h1.obj.elim fun _ e => Heap.lt_size e.1
        · rw [q]; exact h2.obj.elim fun _ e => Heap.lt_size e.1
      rw [upd_ne (Nat.ne_of_lt lt)]; exact (hf c hcm).1
  done := by
    intro X hP hw hK hc i pins s σ H E I hf ⟨hz, hTI, ⟨x0, y0, hTO⟩, h1, h2⟩ ⟨xs, ys, q1, q2, l1, l2, hend⟩
    subst hP hw hK
    obtain ⟨fp1, n1, P1, S1, D1, e1, s1, m1, f1, g1, t1⟩ := draw_of I hc q1 r1 h1 fun l e => (D.b l (.inl e)).2.2.2.1
    obtain ⟨fp2, n2, P2, S2, D2, e2, s2, m2, f2, g2, t2⟩ := draw_of I hc q2 r2 h2 fun l e => (D.b l (.inr e)).2.2.2.2
    subst e1 e2
    exact wpAny_pyNext_zipD2_end (D.sep m1 m2 f1 f2) D1 D2 hz hTI hTO s1 s2 l1 l2 hend fun h' tk hk => ⟨rfl, I.turnedL (t' := tk) (ch := [z, TI, TO, i1, i2]) (fun c o hb q => hk c o (fun e => hb (by simp [e])) (fun e => hb (by simp [e])) (fun e => hb (by simp [e])) (fun e => hb (by simp [e])) q) hf⟩
  self := fun A i s Q E st h => wpAny_pyIter_zip st.1 h
theorem src_begins {X : Cx} {pins : List (Addr × Obj)} {σ : L2.St} {H : Hp} {s : Shared} (I : Inv X pins σ H s) {k : Sk} {v : V} {u : Value} {xs : List V} (sv : SrcV X.K H k v xs) (rv : RelV v u) :
    ∃ (o : Obj) (Hh : Heap → Prop), Begins u o Hh ∧ Hh s.heap ∧ (∀ it h, h.get? it = some o → ItA k u it 0 h) ∧ ∀ l, u = .ref l → l < s.heap.objs.size := by
  cases k with
  | list =>
    obtain ⟨a, rfl, sq⟩ := sv
    cases rv
    obtain ⟨its, r, pl, _⟩ := I.list sq
    exact ⟨_, _, begins_list a its.toArray, pl.isList, fun it h e => ⟨_, e, rfl, rfl⟩, fun l e => by cases e; exact pl.lt⟩
  | tup =>
    obtain ⟨a, rfl, sq⟩ := sv
    cases rv
    obtain ⟨its, r, pl, _⟩ := I.tuple sq
    refine ⟨_, _, begins_tuple a its.toArray, pl, fun it h e => ⟨_, e, rfl, rfl⟩, fun l e => ?_⟩
    cases e
    obtain ⟨o, ho, _⟩ := pl
    exact Heap.lt_size ho
  | txt =>
    obtain ⟨z, rfl, rfl⟩ := sv
    obtain ⟨t, rfl⟩ := rv
    exact ⟨_, _, begins_text z t, trivial, fun it h e => ⟨_, e, rfl, rfl⟩, fun l e => by cases e⟩
def iZipG (K : PySem.W.Frag) (ta : TA) : TI := fun σ H R => ta σ H fun vs H1 => ∃ k1 k2 v1 v2 xs ys, vs = [v1, v2] ∧ SrcV K H1 k1 v1 xs ∧ SrcV K H1 k2 v2 ys ∧ R (ItzG K k1 v1 k2 v2) H1
theorem pi_zipG {X : Cx} {e e2 : Expr} {ta : TA} {p pos tpos : Pos} {elts : List Expr} {kk : Nat} (hg : Gl X "zip") (hm : X.mg "zip" = none) (ha : PA X [e, e2] ta) (hs : starEach [e, e2] X.env = (false, eval e X.env) :: starEach [e2] X.env := by rfl) (hpl : (backTo pos (starEach [e2] X.env)).any (·.1) = false := by rfl) :
    PI X (.Tuple elts kk tpos) (.Call (.Name "zip" p) [e, e2] [] pos) (iZipG X.K ta) := by
  refine ⟨fun pins s σ H R I h => ?_⟩
  refine Call_ (ld_blt I hg hm PyProof.Rows.boot_zip (PyProof.Rows.callWith_type1 (thn (ha.run pos pins s σ H _ I h) fun us z1 ⟨vs, H1, I1, rr, k1, k2, v1, v2, xs, ys, ex, q1, q2, q⟩ => ?_) hs hpl))
  subst ex
  cases rr with
  | cons r1 rr =>
    cases rr with
    | cons r2 rr =>
      cases rr
      obtain ⟨o1, A1, b1, c1, d1, l1⟩ := src_begins I1 q1 r1
      obtain ⟨o2, A2, b2, c2, d2, l2⟩ := src_begins I1 q2 r2
      refine zip_begins2 b1 b2 c1 c2 fun h' hz hTI hTO g1 g2 sz hk => wpAny_pyIter_zip hz ?_
      have I2 : Inv X pins σ H1 { z1 with heap := h' } := I1.kept (t' := z1.toks) hk
      obtain ⟨N, hN⟩ : ∃ N : Nat, N = z1.heap.objs.size := ⟨_, rfl⟩
      rw [← hN] at hz hTI hTO g1 g2 ⊢
      have D : Five (N + 4) (N + 2) (N + 3) N (N + 1) _ _ := ⟨⟨(show (N + 2 : Nat) ≠ N + 4 by omega), (show (N + 3 : Nat) ≠ N + 4 by omega), (show (N + 2 : Nat) ≠ N + 3 by omega), (show (N + 2 : Nat) ≠ N by omega), (show (N + 2 : Nat) ≠ N + 1 by omega), (show (N + 4 : Nat) ≠ N by omega), (show (N + 4 : Nat) ≠ N + 1 by omega), (show (N + 3 : Nat) ≠ N by omega), (show (N + 3 : Nat) ≠ N + 1 by omega), (show (N : Nat) ≠ N + 1 by omega)⟩, fun l e => by
        have lt : (l : Nat) < N := by rw [hN]; exact e.elim (l1 l) (l2 l)
        refine ⟨?_, ?_, ?_, ?_, ?_⟩ <;> first | exact Nat.ne_of_lt lt | exact Nat.ne_of_lt (Nat.lt_of_lt_of_le lt (Nat.le_add_right _ _))⟩
      refine ⟨N + 4, [N + 4, N + 2, N + 3, N, N + 1], _, _, H1, rfl, I2, turn_zipG D r1 r2, ⟨hz, hTI, ⟨_, _, hTO⟩, d1 _ _ g1, d2 _ _ g2⟩, fun c hc => ?_, q⟩
      have le : z1.heap.objs.size ≤ c := by
        rw [← hN]
        rcases (show c = N + 4 ∨ c = N + 2 ∨ c = N + 3 ∨ c = N ∨ c = N + 1 by simpa using hc) with z | z | z | z | z <;> (rw [z]; first | exact Nat.le_refl _ | exact Nat.le_add_right _ _)
      exact I1.fpOk le (I1.hok.fresh le)
/-- a loop over zip of two sources of one length -/
theorem for_zipG {K : PySem.W.Frag} {k1 k2 : Sk} {v1 v2 : V} {xs ys : List V} {g : TG} {tb : TS} {D : Ends} {σ : L2.St} {H : Hp} (hl : xs.length = ys.length) (Pv : Nat → L2.St → Hp → Prop) (h0 : Pv 0 σ H) (hq : ∀ i σ H, Pv i σ H → SrcV K H k1 v1 xs ∧ SrcV K H k2 v2 ys)
    (hs : ∀ (i : Nat) (x y : V) (T : Addr) (σ : L2.St) (H : Hp), xs[i]? = some x → ys[i]? = some y → Pv i σ H → H T = none → g (.ref T) σ (upd H T (.tup [x, y])) fun σ2 H2 => tb { D with nx := Pv (i + 1), ct := Pv (i + 1), bk := D.nx } σ2 H2) (hd : ∀ σ H, Pv xs.length σ H → D.nx σ H) :
    ∃ W : Nat → Nat → L2.St → Hp → Prop, (∃ m, W 0 m σ H) ∧ ∀ i m σ H, W i m σ H → ((ItzG K k1 v1 k2 v2).stop i H ∧ D.nx σ H) ∨ ((ItzG K k1 v1 k2 v2).go i H ∧ ∃ N : L2.St → Hp → Prop, (∀ σ' H', N σ' H' → ∃ m', m' < m ∧ W (i + 1) m' σ' H') ∧ ∀ v H', (ItzG K k1 v1 k2 v2).yld i H v H' → g v σ H' fun σ2 H2 => tb { D with nx := N, ct := N, bk := D.nx } σ2 H2) := by
  refine ⟨fun i m σ H => m = xs.length - i ∧ i ≤ xs.length ∧ Pv i σ H, ⟨xs.length, rfl, Nat.zero_le _, h0⟩, fun i m σ H ⟨em, hi, p⟩ => ?_⟩
  subst em
  obtain ⟨qx, qy⟩ := hq i σ H p
  by_cases lt : i < xs.length
  · refine .inr ⟨⟨xs, ys, _, _, qx, qy, List.getElem?_eq_getElem lt, List.getElem?_eq_getElem (hl ▸ lt)⟩, Pv (i + 1), fun σ' H' p' => ⟨xs.length - (i + 1), by omega, rfl, lt, p'⟩, fun v H' ⟨T, x', y', e1, hT, e2, f1, f2⟩ => ?_⟩
    subst e1 e2
    exact hs i x' y' T σ H (f1 xs qx) (f2 ys qy) p hT
  · have e : i = xs.length := by omega
    subst e
    exact .inl ⟨⟨xs, ys, qx, qy, Nat.le_refl _, Nat.le_of_eq hl, .inl rfl⟩, hd σ H p⟩
end R9S
namespace K01
open PySem PySem.Spec PyProof.Rows L2 R9 R9M R9S
/-! ### rows of texts as data -/
theorem dp_strs {K : PySem.W.Frag} {H : Hp} : ∀ ss : List Str, DpAll K H (ss.map V.str) (ss.map PyData.str)
  | [] => .nil
  | s :: r => .cons (.str s) (dp_strs r)
theorem lays_strs : ∀ ss : List Str, (∀ s ∈ ss, PyData.strOk s = true) → PyData.canLayAll0 (ss.map PyData.str) = true
  | [], _ => by simp [PyData.canLayAll0]
  | s :: r, h => by simp [PyData.canLayAll0, PyData.canLay0, lays_strs r fun x hx => h x (List.mem_cons_of_mem _ hx), h s List.mem_cons_self]
theorem deep_strs : ∀ ss : List Str, PyData.depthAll (ss.map PyData.str) ≤ 1
  | [] => by simp [PyData.depthAll]
  | s :: r => by
    have := deep_strs r
    simp only [List.map_cons, PyData.depthAll, PyData.depth]
    omega
theorem lay_strs (ss : List Str) (h : ∀ s ∈ ss, PyData.strOk s = true) : PyData.canLay0 (.list (ss.map PyData.str)) = true := by simp only [PyData.canLay0]; exact lays_strs ss h
theorem sh_strs (ss : List Str) (h : ∀ s ∈ ss, PyData.strOk s = true) : SeqAt.shaped (.list (ss.map PyData.str)) = true := by
  have h1 := deep_strs ss
  refine Bool.and_eq_true_iff.mpr ⟨lay_strs ss h, decide_eq_true ?_⟩
  simp only [PyData.depth]
  omega
end K01
namespace K01
open PySem PySem.Spec PyProof.Rows L2 R9 R9M R9S
/-! ### a dict of texts with numbers -/
def dW (ps : List (Str × Int)) : List (Key × V) := ps.map fun p => (Sum.inr p.1, V.int p.2)
def lkW : List (Str × Int) → Str → Option Int
  | [], _ => none
  | (k, w) :: r, t => if k = t then some w else lkW r t
def ptW (ps : List (Str × Int)) (t : Str) (w : Int) : List (Str × Int) := if (ps.any fun p => decide (p.1 = t)) = true then ps.map (fun p => if p.1 = t then (p.1, w) else p) else ps ++ [(t, w)]
theorem dW_val : ∀ (ps : List (Str × Int)) (t : Str), valV (dW ps) (Sum.inr t) = (lkW ps t).map V.int
  | [], _ => rfl
  | (k, w) :: r, t => by
    show ((((Sum.inr k : Key), V.int w) :: dW r).find? fun kv => decide (kv.1 = Sum.inr t)).map (·.2) = (if k = t then some w else lkW r t).map V.int
    by_cases e : k = t
    · rw [List.find?_cons, show decide ((Sum.inr k : Key) = Sum.inr t) = true from decide_eq_true (by rw [e]), if_pos e]
      rfl
    · rw [List.find?_cons, show decide ((Sum.inr k : Key) = Sum.inr t) = false from decide_eq_false fun z => e (Sum.inr.inj z), if_neg e]
      exact dW_val r t
theorem lkW_mem : ∀ {ps : List (Str × Int)} {t : Str}, t ∈ ps.map (·.1) ↔ lkW ps t ≠ none
  | [], t => by simp [lkW]
  | (k, w) :: r, t => by
    unfold lkW
    by_cases e : k = t
    · rw [if_pos e]; simp [e]
    · rw [if_neg e, ← lkW_mem, List.map_cons, List.mem_cons]
      exact ⟨fun h => h.elim (fun z => absurd z.symm e) id, .inr⟩
theorem any_key {ps : List (Str × Int)} {t : Str} : (ps.any fun p => decide (p.1 = t)) = true ↔ t ∈ ps.map (·.1) := by
  rw [List.any_eq_true, List.mem_map]
  exact ⟨fun ⟨p, h, e⟩ => ⟨p, h, of_decide_eq_true e⟩, fun ⟨p, h, e⟩ => ⟨p, h, decide_eq_true e⟩⟩
theorem lk_map {t u : Str} {w : Int} : ∀ ps : List (Str × Int), lkW (ps.map (fun p => if p.1 = t then (p.1, w) else p)) u = if u = t then (lkW ps t).map (fun _ => w) else lkW ps u
  | [] => by
    show (none : Option Int) = if u = t then (none : Option Int).map (fun _ => w) else none
    split <;> rfl
  | (k, v) :: r => by
    have ih := lk_map (t := t) (u := u) (w := w) r
    rw [List.map_cons]
    by_cases e : k = t
    · subst e
      rw [if_pos rfl]
      unfold lkW
      by_cases f : u = k
      · subst f; rw [if_pos rfl, if_pos rfl, if_pos rfl]; rfl
      · rw [if_neg fun z => f z.symm, if_neg f, if_neg fun z => f z.symm, ih, if_neg f]
    · rw [if_neg e]
      unfold lkW
      by_cases f : k = u
      · rw [if_pos f, if_neg fun z => e (f.trans z), if_pos f]
      · rw [if_neg f, ih, if_neg e, if_neg f]
theorem lk_app {t u : Str} {w : Int} : ∀ ps : List (Str × Int), lkW (ps ++ [(t, w)]) u = match lkW ps u with | some x => some x | none => if t = u then some w else none
  | [] => rfl
  | (k, v) :: r => by
    rw [List.cons_append]
    unfold lkW
    by_cases f : k = u
    · rw [if_pos f, if_pos f]
    · rw [if_neg f, if_neg f]; exact lk_app r
theorem ptW_lk {ps : List (Str × Int)} {t u : Str} {w : Int} : lkW (ptW ps t w) u = if u = t then some w else lkW ps u := by
  unfold ptW
  by_cases c : (ps.any fun p => decide (p.1 = t)) = true
  · rw [if_pos c, lk_map]
    by_cases f : u = t
    · rw [if_pos f, if_pos f]
      cases h : lkW ps t with
      | none => exact absurd h (lkW_mem.mp (any_key.mp c))
      | some x => rfl
    · rw [if_neg f, if_neg f]
  · have n : lkW ps t = none := by
      cases h : lkW ps t with
      | none => rfl
      | some x => exact absurd (any_key.mpr (lkW_mem.mpr (by rw [h]; exact Option.some_ne_none x))) c
    rw [if_neg c, lk_app]
    by_cases f : u = t
    · subst f; rw [n, if_pos rfl]
    · rw [if_neg f]
      cases h : lkW ps u with
      | none => exact if_neg fun z => f z.symm
      | some x => rfl
theorem ptW_keys {ps : List (Str × Int)} {t u : Str} {w : Int} : u ∈ (ptW ps t w).map (·.1) ↔ u = t ∨ u ∈ ps.map (·.1) := by
  rw [lkW_mem, ptW_lk, lkW_mem]
  by_cases e : u = t
  · rw [if_pos e]; simp [e]
  · rw [if_neg e]; simp [e]
theorem map_keys {t : Str} {w : Int} (ps : List (Str × Int)) : (ps.map (fun p => if p.1 = t then (p.1, w) else p)).map (·.1) = ps.map (·.1) := by
  rw [List.map_map]
  refine List.map_congr_left fun p _ => ?_
  show (if p.1 = t then (p.1, w) else p).1 = p.1
  split <;> rfl
theorem ptW_nd {ps : List (Str × Int)} {t : Str} {w : Int} (h : (ps.map (·.1)).Nodup) : ((ptW ps t w).map (·.1)).Nodup := by
  unfold ptW
  by_cases c : (ps.any fun p => decide (p.1 = t)) = true
  · rw [if_pos c, map_keys]; exact h
  · rw [if_neg c, List.map_append]
    exact List.nodup_append.mpr ⟨h, List.pairwise_singleton _ _, fun a ha b hb => by
      rw [List.map_singleton, List.mem_singleton] at hb
      have hb : b = t := hb
      exact fun z => c (any_key.mpr (by rw [← hb, ← z]; exact ha))⟩
theorem ptW_len {ps : List (Str × Int)} {t : Str} {w : Int} : (ptW ps t w).length ≤ ps.length + 1 := by
  unfold ptW
  split
  · rw [List.length_map]; exact Nat.le_succ _
  · rw [List.length_append]; exact Nat.le_refl _
theorem dW_put {ps : List (Str × Int)} {t : Str} {w : Int} : putK (dW ps) (Sum.inr t) (V.int w) = dW (ptW ps t w) := by
  have e : ((dW ps).any fun kv => decide (kv.1 = Sum.inr t)) = ps.any fun p => decide (p.1 = t) := by
    unfold dW
    rw [List.any_map]
    congr 1
    funext p
    show decide ((Sum.inr p.1 : Key) = Sum.inr t) = decide (p.1 = t)
    exact decide_eq_decide.mpr ⟨Sum.inr.inj, fun h => by rw [h]⟩
  unfold putK ptW
  rw [e]
  by_cases c : (ps.any fun p => decide (p.1 = t)) = true
  · rw [if_pos c, if_pos c]
    unfold dW
    rw [List.map_map, List.map_map]
    refine List.map_congr_left fun p _ => ?_
    show (if (Sum.inr p.1 : Key) = Sum.inr t then ((Sum.inr p.1 : Key), V.int w) else (Sum.inr p.1, V.int p.2)) = ((Sum.inr (if p.1 = t then (p.1, w) else p).1 : Key), V.int (if p.1 = t then (p.1, w) else p).2)
    by_cases f : p.1 = t
    · rw [if_pos f, if_pos (by rw [f])]
    · rw [if_neg f, if_neg fun z => f (Sum.inr.inj z)]
  · rw [if_neg c, if_neg c]
    unfold dW
    rw [List.map_append]
    rfl
theorem dW_keys (ps : List (Str × Int)) : ((dW ps).map fun kv => kV kv.1) = (ps.map (·.1)).map V.str := by
  unfold dW
  rw [List.map_map, List.map_map]
  rfl
theorem len_le_of_sub : ∀ {l m : List Str}, l.Nodup → (∀ k ∈ l, k ∈ m) → l.length ≤ m.length
  | [], _, _, _ => Nat.zero_le _
  | k :: r, m, nd, sub => by
    have hk := sub k List.mem_cons_self
    have p := (List.perm_cons_erase hk).length_eq
    have h' := List.nodup_cons.mp nd
    have ih := len_le_of_sub h'.2 fun x hx => (List.mem_erase_of_ne (fun z : x = k => h'.1 (by rw [← z]; exact hx))).mpr (sub x (List.mem_cons_of_mem _ hx))
    rw [List.length_cons] at p ⊢
    omega
theorem nodup_perm {l m : List Str} (hl : l.Nodup) (hm : m.Nodup) (h : ∀ u, u ∈ l ↔ u ∈ m) : m.Perm l :=
  perm_of_sub hl (fun u z => (h u).mp z) (len_le_of_sub hm fun u z => (h u).mpr z)
/-! ### tuple(xs) with K named -/
def rTupleOf (K : PySem.W.Frag) : List V → Hp → VK → Prop := fun xs H Q => ∃ p ys, xs = [.ref p] ∧ ((SqL K H p ys ∧ ∀ l, H l = none → Q (.ref l) (upd H l (.tup ys))) ∨ (SqT K H p ys ∧ Q (.ref p) H))
theorem tuple_ofK {X : Cx} : CallR X (.type "tuple") (rTupleOf X.K) := call_tuple_of
/-- the dict of the weights of some entries, by text -/
structure TalW (ps : List (Str × Int)) (es : List Ent) : Prop where
  nd : (ps.map (·.1)).Nodup
  keys : ∀ u, u ∈ ps.map (·.1) ↔ u ∈ es.map (fun e : Ent => e.t)
  len : ps.length ≤ es.length
  val : ∀ u, (lkW ps u).getD 0 = wsum (es.filter fun e => decide (e.t = u))
theorem TalW.nil : TalW [] [] := ⟨List.nodup_nil, fun _ => Iff.rfl, Nat.le_refl _, fun _ => rfl⟩
theorem TalW.snoc {ps : List (Str × Int)} {es : List Ent} {e : Ent} (h : TalW ps es) : TalW (ptW ps e.t (wsum (es.filter fun x => decide (x.t = e.t)) + e.w)) (es ++ [e]) := by
  refine ⟨ptW_nd h.nd, fun u => ?_, ?_, fun u => ?_⟩
  · rw [ptW_keys, h.keys u, List.map_append, List.mem_append]
    show u = e.t ∨ _ ↔ _ ∨ u ∈ [e.t]
    rw [List.mem_singleton]
    exact Or.comm
  · have := ptW_len (ps := ps) (t := e.t) (w := wsum (es.filter fun x => decide (x.t = e.t)) + e.w)
    rw [List.length_append]
    exact Nat.le_trans this (Nat.succ_le_succ h.len)
  · rw [ptW_lk, List.filter_append]
    by_cases c : u = e.t
    · subst c
      rw [if_pos rfl, List.filter_cons, if_pos (decide_eq_true rfl)]
      show wsum _ + e.w = _
      unfold wsum
      rw [List.map_append, List.sum_append, List.filter_nil]
      show _ = _ + (e.w + 0)
      rw [Int.add_zero]
    · rw [if_neg c, h.val u, List.filter_cons, if_neg (by simpa using fun z : e.t = u => c z.symm)]
      rw [List.filter_nil, List.append_nil]
theorem TalW.at_ {ps : List (Str × Int)} {es : List Ent} (h : TalW ps es) (u : Str) : ((lkW ps u).map V.int).getD (V.int 0) = V.int (wsum (es.filter fun e => decide (e.t = u))) := by
  rw [← h.val u]
  cases lkW ps u <;> rfl
end K01
namespace K01
open PySem PySem.Spec PyProof.Rows L2 R9 R9M R9S
/-! ### entries as lists, and as data -/
def EnL (H : Hp) (e : Ent) (v : V) : Prop := ∃ a c, v = .ref a ∧ H a = some (.lst [.int e.w, .str e.t, .ref c]) ∧ H c = some (.lst (e.acc.map V.str))
theorem EnL.fz {F G : Hp} (h : Fz F G) {e : Ent} {v : V} (r : EnL F e v) : EnL G e v := by obtain ⟨a, c, r1, r2, r3⟩ := r; exact ⟨a, c, r1, h _ _ r2, h _ _ r3⟩
theorem HnE.l {H0 F H : Hp} {D : Addr} {en : Ent} {v : V} (h : HnE H0 F H D en v) : EnL H en v := by
  obtain ⟨a, c, e, h1, h2, _⟩ := h
  exact ⟨a, c, e, h1.at_, h2.at_⟩
def edE (e : Ent) : PyData := .list [.int e.w, .str e.t, .list (e.acc.map PyData.str)]
def ed (es : List Ent) : List PyData := es.map edE
theorem Each.tail {α : Type} {R : α → V → Prop} {x : α} {xs : List α} {v : V} {vs : List V} (h : Each R (x :: xs) (v :: vs)) : R x v ∧ Each R xs vs :=
  ⟨h.2 0 x v rfl rfl, Nat.succ.inj h.1, fun j y u a b => h.2 (j + 1) y u a b⟩
theorem dp_ens {K : PySem.W.Frag} {H : Hp} : ∀ {es : List Ent} {vs : List V}, Each (EnL H) es vs → DpAll K H vs (ed es)
  | [], [], _ => .nil
  | [], _ :: _, h => by cases h.1
  | _ :: _, [], h => by cases h.1
  | e :: es, v :: vs, h => by
    obtain ⟨⟨a, c, rfl, ha, hc⟩, t⟩ := h.tail
    exact .cons (.lst (SqL.of ha) (.cons (.int _) (.cons (.str _) (.cons (.lst (SqL.of hc) (dp_strs _)) .nil)))) (dp_ens t)
theorem lay_edE {e : Ent} (h : PyData.strOk e.t = true) (h2 : ∀ u ∈ e.acc, PyData.strOk u = true) : PyData.canLay0 (edE e) = true := by
  have := lays_strs e.acc h2
  simp [edE, PyData.canLay0, PyData.canLayAll0, h, this]
theorem lay_ed : ∀ {es : List Ent}, (∀ e ∈ es, PyData.strOk e.t = true ∧ ∀ u ∈ e.acc, PyData.strOk u = true) → PyData.canLayAll0 (ed es) = true
  | [], _ => by simp [ed, PyData.canLayAll0]
  | e :: r, h => by
    have ih := lay_ed fun x hx => h x (List.mem_cons_of_mem _ hx)
    have h0 := lay_edE (h e List.mem_cons_self).1 (h e List.mem_cons_self).2
    unfold ed at ih ⊢
    simp only [List.map_cons, PyData.canLayAll0, ih, h0, Bool.and_true, Bool.true_and]
theorem deep_edE (e : Ent) : PyData.depth (edE e) ≤ 3 := by
  have := deep_strs e.acc
  simp only [edE, PyData.depth, PyData.depthAll]
  omega
theorem deep_ed : ∀ es : List Ent, PyData.depthAll (ed es) ≤ 3
  | [] => by simp [ed, PyData.depthAll]
  | e :: r => by
    have h1 := deep_ed r
    have h2 := deep_edE e
    unfold ed at h1 ⊢
    simp only [List.map_cons, PyData.depthAll]
    omega
theorem sh_ed (es : List Ent) (h : ∀ e ∈ es, PyData.strOk e.t = true ∧ ∀ u ∈ e.acc, PyData.strOk u = true) : PyData.canLay0 (.list (ed es)) = true ∧ SeqAt.shaped (.list (ed es)) = true := by
  have h0 : PyData.canLay0 (.list (ed es)) = true := by simp only [PyData.canLay0]; exact lay_ed h
  have h1 := deep_ed es
  refine ⟨h0, Bool.and_eq_true_iff.mpr ⟨h0, decide_eq_true ?_⟩⟩
  simp only [PyData.depth]
  omega
theorem EnOk.oks {es : List Ent} (ok : EnOk es) : ∀ e ∈ es, PyData.strOk e.t = true ∧ ∀ u ∈ e.acc, PyData.strOk u = true := fun e h =>
  have z := ok.each e h
  ⟨z.2.2.1.2, fun u hu => (z.2.2.2.2 u hu).2⟩
theorem HnE.up0 {H0 F H F' H' : Hp} {D : Addr} {en : Ent} {v : V} (h : HnE H0 F H D en v) (u : Up [] F H F' H') : HnE H0 F' H' D en v := by
  obtain ⟨a, c, e, h1, h2, h3, h4⟩ := h
  exact ⟨a, c, e, h1.up0 u, h2.up0 u, h3, h4⟩
def EnT (H : Hp) (e : Ent) (v : V) : Prop := ∃ a c, v = .ref a ∧ H a = some (.tup [.int e.w, .str e.t, .ref c]) ∧ H c = some (.tup (e.acc.map V.str))
theorem EnT.fz {F G : Hp} (h : Fz F G) {e : Ent} {v : V} (r : EnT F e v) : EnT G e v := by obtain ⟨a, c, r1, r2, r3⟩ := r; exact ⟨a, c, r1, h _ _ r2, h _ _ r3⟩
theorem EnT.x {H : Hp} {e : Ent} {v : V} (r : EnT H e v) : EnX H e v := by obtain ⟨a, c, r1, r2, r3⟩ := r; exact ⟨a, c, r1, .inl r2, .inr r3⟩
theorem EnL.x {H : Hp} {e : Ent} {v : V} (r : EnL H e v) : EnX H e v := by obtain ⟨a, c, r1, r2, r3⟩ := r; exact ⟨a, c, r1, .inr r2, .inl r3⟩
theorem EnR.x {H : Hp} {e : Ent} {v : V} (r : EnR H e v) : EnX H e v := by obtain ⟨a, c, r1, r2, r3⟩ := r; exact ⟨a, c, r1, .inl r2, .inl r3⟩
theorem EnX.but {F G : Hp} (h : But [] F G) {e : Ent} {v : V} (r : EnX F e v) : EnX G e v := by
  obtain ⟨a, c, r1, r2, r3⟩ := r
  exact ⟨a, c, r1, r2.imp (fun z => h _ _ z (by simp)) (fun z => h _ _ z (by simp)), r3.imp (fun z => h _ _ z (by simp)) (fun z => h _ _ z (by simp))⟩
theorem strs_ne3 {us : List Str} {x y : V} {k : Addr} : HO.lst (us.map V.str) ≠ HO.lst [x, y, .ref k] := fun e => by
  have e := HO.lst.inj e
  have e3 : (us.map V.str)[2]? = some (V.ref k) := by rw [e]; rfl
  rw [List.getElem?_map] at e3
  cases h : us[2]? <;> rw [h] at e3 <;> cases e3
theorem cut_take {xs : List V} {n : Nat} : cutV xs none (some (n : Int)) = xs.take n := by
  unfold cutV
  show (xs.drop 0).take (HT.sIx xs.length xs.length (some (n : Int)) - 0) = _
  have e : HT.sIx xs.length xs.length (some (n : Int)) = min n xs.length := by
    unfold HT.sIx
    simp
    try omega
  rw [e, List.drop_zero, Nat.sub_zero]
  by_cases c : n ≤ xs.length
  · rw [Nat.min_eq_left c]
  · rw [Nat.min_eq_right (by omega), List.take_length, List.take_of_length_le (by omega)]
end K01
namespace R9S
open PySem PySem.Spec PyProof.Rows L2 R9
/-! ### {elt for .. in .. for .. in ..}: two clauses, any kind of set -/
abbrev sc2 (elt t0 i0 t1 i1 : Expr) (f0 f1 : List Expr) (scope : Scope) (pos : Pos) : Expr := .SetComp elt [⟨t0, i0, f0, 0⟩, ⟨t1, i1, f1, 0⟩] scope pos
abbrev passes (fs : List Expr) (env : Env) : Sem Bool := forIn fs true fun c r => if r = true then do let ok ← isTrue c env (eval c env); pure (ForInStep.yield ok) else pure (ForInStep.yield r)
section
variable {pg : Program} {w : World} {A : Around} {R : Result → Shared → Prop} {z : Shared} {elt t0 i0 t1 i1 : Expr} {f0 f1 : List Expr} {scope : Scope} {pos : Pos} {it acc : Value} {env : Env}
theorem turn_first : compTurn (sc2 elt t0 i0 t1 i1 f0 f1 scope pos) 0 it acc env = (do
      standAt i0.pos
      match ← pyNext it with
      | none => pure (.done .next)
      | some x =>
        letOwnedTupleGo t0 it x
        assign t0 env x
        let mut go := true
        for c in f0 do
          if go then go ← isTrue c env (eval c env)
        if go then
          let y ← eval i1 env
          standAt i1.pos
          let y ← foldedSetIterable i1 env y
          let _ ← runOwn (.compStart (sc2 elt t0 i0 t1 i1 f0 f1 scope pos) 1 (← holding [y] (pyIter y)) acc env) env
        again (.compLoop (sc2 elt t0 i0 t1 i1 f0 f1 scope pos) 0 it acc env)) := by rfl
theorem turn_second : compTurn (sc2 elt t0 i0 t1 i1 f0 f1 scope pos) 1 it acc env = (do
      standAt i1.pos
      match ← pyNext it with
      | none => pure (.done .next)
      | some x =>
        letOwnedTupleGo t1 it x
        assign t1 env x
        let mut go := true
        for c in f1 do
          if go then go ← isTrue c env (eval c env)
        if go then
          (do let y ← eval elt env; standAt elt.pos; let _ ← call (.builtin "set.add") [acc, y])
        again (.compLoop (sc2 elt t0 i0 t1 i1 f0 f1 scope pos) 1 it acc env)) := by rfl
abbrev Bad (pg : Program) (w : World) (A : Around) (env : Env) (R : Result → Shared → Prop) : Value → Shared → Prop := notedBy (model pg w) A env fun e z => R (.error e) z
theorem loop_first (hs : ∀ x, foldedSetIterable i1 env x = pure x) (J : Nat → Shared → Prop)
    (step : ∀ n z, J n z → wpAny (model pg w) A (pyNext it) (fun r z1 => match r with
      | none => R (.ok .next) z1
      | some x => wpAny (model pg w) A (letOwnedTupleGo t0 it x) (fun _ z2 => wpAny (model pg w) A (assign t0 env x) (fun _ z3 => wpAny (model pg w) A (passes f0 env) (fun go z4 =>
          if go = true then wpAny (model pg w) A (eval i1 env) (fun y z5 => wpAny (model pg w) A (pyIter y) (fun it1 z6 => codeAny (model pg w) A (.compStart (sc2 elt t0 i0 t1 i1 f0 f1 scope pos) 1 it1 acc env) (fun r z7 => match r with
                | .ok _ => ∃ m, m < n ∧ J m z7
                | .error _ => False) z6) (Bad pg w A env R) z5) (Bad pg w A env R) z4
          else ∃ m, m < n ∧ J m z4) (Bad pg w A env R) z3) (Bad pg w A env R) z2) (Bad pg w A env R) z1) (Bad pg w A env R) z) (n : Nat) (h : J n z) :
    codeAny (model pg w) A (.compLoop (sc2 elt t0 i0 t1 i1 f0 f1 scope pos) 0 it acc env) R z := by
  refine codeAny_loop rfl J (fun k z1 jk => ?_) n h
  show wpAny _ A ((compTurn (sc2 elt t0 i0 t1 i1 f0 f1 scope pos) 0 it acc env).onRaise (fun x => do noteFrame x env; theTreesLotGoes x)) _ _ z1
  refine wpAny_noted ?_
  rw [turn_first]
  refine wpAny_bind (wpAny_standAt (wpAny_bind (wpAny_mono (step k z1 jk) (fun r z2 g => ?_) fun _ _ e => e)))
  cases r with
  | none => exact wpAny_pure g
  | some x =>
    refine wpAny_bind (wpAny_mono g (fun _ z3 g => wpAny_bind (wpAny_mono g (fun _ z4 g => wpAny_bind (wpAny_mono g (fun go z5 g => ?_) fun _ _ e => e)) fun _ _ e => e)) fun _ _ e => e)
    cases go with
    | false => exact wpAny_pure ⟨rfl, g⟩
    | true =>
      refine wpAny_bind (wpAny_mono g (fun y z6 g => wpAny_bind (wpAny_standAt (wpAny_bind (wpAny_of_eq (hs y) (wpAny_bind (wpAny_holding (wpAny_mono g (fun it1 z7 g => wpAny_bind (wpAny_runOwn ?_)) fun _ _ e => e))))))) fun _ _ e => e)
      rw [Around.mark_none]
      refine codeAny_mono g fun r z8 hr => ?_
      cases r with
      | error e => exact hr.elim
      | ok q => first | exact wpAny_pure ⟨rfl, hr⟩ | exact wpAny_bind (wpAny_pure (wpAny_pure ⟨rfl, hr⟩))
theorem loop_second (J : Nat → Shared → Prop)
    (step : ∀ n z, J n z → wpAny (model pg w) A (pyNext it) (fun r z1 => match r with
      | none => R (.ok .next) z1
      | some x => wpAny (model pg w) A (letOwnedTupleGo t1 it x) (fun _ z2 => wpAny (model pg w) A (assign t1 env x) (fun _ z3 => wpAny (model pg w) A (passes f1 env) (fun go z4 =>
          if go = true then wpAny (model pg w) A (eval elt env) (fun y z5 => wpAny (model pg w) A (call (.builtin "set.add") [acc, y]) (fun _ z6 => ∃ m, m < n ∧ J m z6) (Bad pg w A env R) z5) (Bad pg w A env R) z4
          else ∃ m, m < n ∧ J m z4) (Bad pg w A env R) z3) (Bad pg w A env R) z2) (Bad pg w A env R) z1) (Bad pg w A env R) z) (n : Nat) (h : J n z) :
    codeAny (model pg w) A (.compLoop (sc2 elt t0 i0 t1 i1 f0 f1 scope pos) 1 it acc env) R z := by
  refine codeAny_loop rfl J (fun k z1 jk => ?_) n h
  show wpAny _ A ((compTurn (sc2 elt t0 i0 t1 i1 f0 f1 scope pos) 1 it acc env).onRaise (fun x => do noteFrame x env; theTreesLotGoes x)) _ _ z1
  refine wpAny_noted ?_
  rw [turn_second]
  refine wpAny_bind (wpAny_standAt (wpAny_bind (wpAny_mono (step k z1 jk) (fun r z2 g => ?_) fun _ _ e => e)))
  cases r with
  | none => exact wpAny_pure g
  | some x =>
    refine wpAny_bind (wpAny_mono g (fun _ z3 g => wpAny_bind (wpAny_mono g (fun _ z4 g => wpAny_bind (wpAny_mono g (fun go z5 g => ?_) fun _ _ e => e)) fun _ _ e => e)) fun _ _ e => e)
    cases go with
    | false => exact wpAny_pure ⟨rfl, g⟩
    | true =>
      exact wpAny_bind (wpAny_bind (wpAny_mono g (fun y z6 g => wpAny_bind (wpAny_standAt (wpAny_bind (wpAny_mono g (fun _ z7 g => wpAny_pure (wpAny_pure ⟨rfl, g⟩)) fun _ _ e => e)))) fun _ _ e => e))
theorem start_second (a : codeAny (model pg w) A (.compLoop (sc2 elt t0 i0 t1 i1 f0 f1 scope pos) 1 it acc env) R z)
    (b : wpAny (model pg w) A (pyIter it) (fun it' z' => codeAny (model pg w) A (.compLoop (sc2 elt t0 i0 t1 i1 f0 f1 scope pos) 1 it' acc env) R z') (Bad pg w A env R) z) :
    codeAny (model pg w) A (.compStart (sc2 elt t0 i0 t1 i1 f0 f1 scope pos) 1 it acc env) R z := by
  refine codeAny_of_tree ?_
  show wpAny _ _ ((compStart (sc2 elt t0 i0 t1 i1 f0 f1 scope pos) 1 it acc env).onRaise (fun x => do noteFrame x env; standAt theWindowsPlace)) _ _ z
  refine wpAny_notedAt ?_
  unfold compStart
  show wpAny _ _ (ask >>= _) _ _ z
  refine wpAny_bind (wpAny_askSetting (wpAny_ite ?_))
  split
  · first | exact wpAny_bind (wpAny_pure (wpAny_pure (And.intro rfl a))) | exact wpAny_pure (And.intro rfl a)
  · refine wpAny_bind (wpAny_rule ?_)
    show wpAny _ _ (standAt i1.pos >>= _) _ _ z
    exact wpAny_bind (wpAny_standAt (wpAny_bind (wpAny_mono b (fun _ _ g => wpAny_pure (And.intro rfl g)) fun _ _ e => e)))
end
/-- what is asked of it -/
def tScF2 {P : Program} {w : World} {St : Type} (F : Fam P w St) (wi : TI) (g : TG) (tt : TT) (wi1 : TI) (g1 : TG) (tt1 : TT) (te : TE) (vs vs1 : List Nat) : TE := fun σ H Q => wi σ H fun J H1 => ∀ D, H1 D = none → ∃ W : Nat → Nat → Hp → Prop, (∃ m, W 0 m (upd H1 D (F.G D F.z))) ∧ ∀ i m H, W i m H →
  (J.stop i H ∧ Q (.ref D) H) ∨ (J.go i H ∧ ∃ Nx : Hp → Prop, (∀ H', Nx H' → ∃ m', m' < m ∧ W (i + 1) m' H') ∧ ∀ x H', J.yld i H x H' → g x (wipe σ vs) H' fun σ2 H2 => wipe σ2 vs = wipe σ vs ∧ tt σ2 H2 fun b H3 =>
    if b = true then wi1 σ2 H3 fun J1 H4 => ∃ V : Nat → Nat → Hp → Prop, (∃ m, V 0 m H4) ∧ ∀ j k H, V j k H →
      (J1.stop j H ∧ Nx H) ∨ (J1.go j H ∧ ∃ Ny : Hp → Prop, (∀ H', Ny H' → ∃ k', k' < k ∧ V (j + 1) k' H') ∧ ∀ x H', J1.yld j H x H' → g1 x (wipe σ2 vs1) H' fun σ3 H5 => wipe σ3 vs1 = wipe σ2 vs1 ∧ tt1 σ3 H5 fun b H6 =>
        if b = true then te σ3 H6 fun y H7 => ∃ st, H7 D = some (F.G D st) ∧ F.ok st y ∧ Ny (upd H7 D (F.G D (F.nx st y))) else Ny H6)
    else Nx H3)
section
variable {X : Cx} {St : Type}
theorem pe_scF2 (F : Fam X.prog X.w St) {elt tg iter tg1 iter1 : Expr} {ifs ifs1 : List Expr} {scope : Scope} {own : List (PySem.Str × Nat)} {vs1 : List Nat} {pos : Pos} {wi wi1 : TI} {g g1 : TG} {tt tt1 : TT} {te : TE} (hc : X.calm = true) (hN : X.N.Nodup) (hi : PI X tg iter wi) (ok : BlkOk X.N X.env.scope scope own) (hv : ∀ i ∈ vs1, i ∈ own.map (·.2))
    (hg : ∀ s H C cl fp, PG (X.blk s H scope (compEnvC scope cl C X.env) fp) tg g) (ht : ∀ s H C cl fp, PTs (X.blk s H scope (compEnvC scope cl C X.env) fp) ifs tt)
    (hi1 : ∀ s H C cl fp, PI (X.blk s H scope (compEnvC scope cl C X.env) fp) tg1 iter1 wi1) (hg1 : ∀ s H C cl fp, PG (X.blk s H scope (compEnvC scope cl C X.env) fp) tg1 g1) (ht1 : ∀ s H C cl fp, PTs (X.blk s H scope (compEnvC scope cl C X.env) fp) ifs1 tt1)
    (he : ∀ s H C cl fp, PE (X.blk s H scope (compEnvC scope cl C X.env) fp) elt te) (hs : ∀ x, foldedSetIterable iter X.env x = pure x := by intro _; rfl) (hs1 : ∀ env x, foldedSetIterable iter1 env x = pure x := by intro _ _; rfl) :
    PE X (.SetComp elt [⟨tg, iter, ifs, 0⟩, ⟨tg1, iter1, ifs1, 0⟩] scope pos) (tScF2 F wi g tt wi1 g1 tt1 te (own.map (·.2)) vs1) := by
  refine ⟨fun pins s σ H Q I h => ?_⟩
  rw [PpSet.eval_SetComp]
  have fr : ∀ y ∈ scope.names, y.2 = .free → ∃ c, X.env.cells.lookup y.1 = some c := fun y hy e => (ok.free y hy e).elim (fun k => I.ok.has _ (.inl k)) fun k => I.ok.has _ (.inr k)
  refine wpAny_comprehension_free rfl hs (closure_ok fr) ok.kind (fun y hy e => by rw [ok.uniq y hy, e]) (thn (hi.run pins s σ H _ I h) fun _ _ a1 => thn a1 fun _ z2 ⟨it, fp, tn, J, H2, e, I2, T, st2, f2, q⟩ => ?_)
  subst e
  refine PpSet.newSet_ok (newEnv_comp ?_)
  obtain ⟨D, hD⟩ : ∃ D, z2.heap.objs.size = D := ⟨_, rfl⟩
  rw [hD]
  have D0 : H2 D = none := I2.hok.fresh (Nat.le_of_eq hD)
  obtain ⟨W, ⟨m0, w0⟩, turn⟩ := q D D0
  obtain ⟨z3, e3⟩ : ∃ z3 : Shared, z3 = { z2 with heap := z2.heap.push (emptySet X.w) } := ⟨_, rfl⟩
  rw [← e3]
  have I3 : Inv X pins σ (upd H2 D (F.G D F.z)) z3 := by
    have nw := F.new (H := upd H2 D (F.G D F.z)) (h := z2.heap)
    rw [hD] at nw; rw [e3]
    exact I2.laid (t' := z2.toks) (fun _ _ e => Heap.get?_push_of_some _ e) (Nat.le_of_eq hD) nw
  have h3 : z3.heap = z2.heap.push (emptySet X.w) := by rw [e3]
  have lt2 : ∀ b ∈ fp, b < z2.heap.objs.size := fun b hb => (T.obj _ _ st2 b hb).elim fun _ x => Heap.lt_size x.1
  have f3 : ∀ b ∈ fp, FpOk X pins (upd H2 D (F.G D F.z)) b ∧ b < z3.heap.objs.size := fun b hb =>
    ⟨⟨by rw [upd_ne (by rw [← hD]; exact Nat.ne_of_lt (lt2 b hb))]; exact (f2 b hb).1, (f2 b hb).2⟩, by rw [h3, Heap.size_push]; exact Nat.lt_succ_of_lt (lt2 b hb)⟩
  have st3 : tn 0 z3.heap := T.keep _ _ _ st2 fun _ _ _ e => by rw [h3]; exact Heap.get?_push_of_some _ e
  have I4 := block_start I3 ok hN f3
  obtain ⟨H3, eH⟩ : ∃ H3, H3 = upd H2 D (F.G D F.z) := ⟨_, rfl⟩
  rw [← eH] at I3 I4 w0 f3
  obtain ⟨cs, ec⟩ : ∃ cs, cs = cellsFrom (z3.heap.objs.size + 1) scope.names (cloFrom X.env.cells scope.names []) := ⟨_, rfl⟩
  rw [← ec] at I4 ⊢
  have pg := hg z3 H3 z3.heap.objs.size cs fp
  have pt := ht z3 H3 z3.heap.objs.size cs fp
  have pe := he z3 H3 z3.heap.objs.size cs fp
  have pj := hi1 z3 H3 z3.heap.objs.size cs fp
  have ph := hg1 z3 H3 z3.heap.objs.size cs fp
  have pu := ht1 z3 H3 z3.heap.objs.size cs fp
  show codeAny _ _ (.compStart (sc2 elt tg iter tg1 iter1 ifs ifs1 scope pos) 0 (.ref it) (.ref D) (compEnvC scope cs z3.heap.objs.size X.env)) (compPost (model X.prog X.w) X.A X.xe _ _ (.ref D) z3.heap.objs.size) { z3 with heap := pushCells (z3.heap.push { cls := .type "dict", data := .dict #[] }) scope.names }
  have n3 : ∀ b ∈ fp, H3 b = none := fun b hb => (f3 b hb).1.1
  obtain ⟨ce, ece⟩ : ∃ ce, ce = compEnvC scope cs z3.heap.objs.size X.env := ⟨_, rfl⟩
  have cL : ce.locals = z3.heap.objs.size := by rw [ece]; rfl
  rw [← ece] at I4 pg pt pe pj ph pu ⊢
  obtain ⟨z4, e4⟩ : ∃ z4 : Shared, z4 = { z3 with heap := pushCells (z3.heap.push { cls := .type "dict", data := .dict #[] }) scope.names } := ⟨_, rfl⟩
  rw [← e4] at I4 ⊢
  have st4 : tn 0 z4.heap := T.keep _ _ _ st3 fun _ _ _ e => by rw [e4]; exact pushCells_keeps _ _ _ _ (Heap.get?_push_of_some _ e)
  have there : ∀ {σ' : L2.St} {H' : Hp} {s' : Shared}, Inv (X.blk z3 H3 scope ce fp) [] σ' H' s' → (∀ b ∈ fp, H' b = none) → ∀ b ∈ fp, FpOk (X.blk z3 H3 scope ce fp) [] H' b := fun I' hn b hb =>
    ⟨hn b hb, (I'.ok.exf b hb).1, I'.ok.exfs b hb, .inl hb, fun x c e => (I'.ok.exf b hb).2 x c e, fun p hp => absurd (show p ∈ ([] : List (Addr × Obj)) ++ [] from hp) (by simp)⟩
  refine PpSet.codeAny_compStart_set ?lp (T.self X.A 0 _ _ _ st4 ?lp)
  refine loop_first (hs1 ce) (fun n s' => ∃ i H', Inv (X.blk z3 H3 scope ce fp) [] (wipe σ (own.map (·.2))) H' s' ∧ tn i s'.heap ∧ (∀ b ∈ fp, H' b = none) ∧ W i n H') (fun n z5 ⟨i, H5, I5, st5, n5, w5⟩ => ?_) m0 ⟨0, H3, I4, st4, n3, w0⟩
  rcases turn i n H5 w5 with ⟨stop, qq⟩ | ⟨go, Nx, hNx, step⟩
  · refine thnF (T.done (X.blk z3 H3 scope ce fp) rfl rfl rfl hc i [] z5 _ H5 (fun _ _ => False) I5 (there I5 n5) st5 stop) fun r z6 ⟨hr, I6⟩ => ?_
    subst hr
    have I7 : Inv X pins σ H5 z6 := I3.call' (ch := fp) I6.os I6.base I6.hok I6.bare fun b hb => have v := (f3 b hb).1.2; ⟨v.2.2.1, v.1, v.2.2.2.1, v.2.2.2.2⟩
    have nC : H5 z3.heap.objs.size = none := cL ▸ (show H5 ce.locals = none from I6.free)
    obtain ⟨m, hn, _⟩ := I6.loc
    have f := I3.fpOk (Nat.le_refl _) nC
    exact ⟨m, cL ▸ (show z6.heap.Ns ce.locals m from hn), fun h'' sb => ⟨.ref D, H5, I7.turned (t' := z6.toks) (fun b o hb e => (sb.2 b hb).trans e) f.1 f.2.1 f.2.2.2.1 f.2.2.2.2.1 f.2.2.2.2.2, rfl, qq⟩⟩
  · refine thnF (T.item (X.blk z3 H3 scope ce fp) rfl rfl rfl hc i [] z5 _ H5 (fun _ _ => False) I5 (there I5 n5) st5 go) fun r z6 ⟨u, hr, h6⟩ => ?_
    subst hr
    refine thnF h6 fun _ z7 ⟨x, H7, I7, r7, y7, st7, n7⟩ => ?_
    refine thnF (pg.run _ z7 _ H7 x u _ (I7.pinned (there I7 n7) (T.obj _ _ st7)) r7 (step x H7 y7)) fun _ z8 ⟨σ8, H8, I8, hw8, q8⟩ => ?_
    refine thnF (pt.run _ z8 σ8 H8 _ I8 q8) fun b z9 ⟨H9, I9, q9⟩ => ?_
    have len8 : (wipe σ (own.map (·.2))).length = σ8.length := by rw [← hw8, wipe_length]
    have kn8 : ∀ (j : Nat) v, (wipe σ (own.map (·.2)))[j]? = some (some v) → σ8[j]? = some (some v) ∧ j ∉ own.map (·.2) := fun j v e => wipe_some (hw8 ▸ e)
    have close : ∀ {σ9 : L2.St} {s' : Shared} {H' : Hp}, Inv (X.blk z3 H3 scope ce fp) ([] ++ pinsAt fp z7.heap) σ9 H' s' → (wipe σ (own.map (·.2))).length = σ9.length → (∀ (j : Nat) v, (wipe σ (own.map (·.2)))[j]? = some (some v) → σ9[j]? = some (some v)) → Nx H' → ∃ m, m < n ∧ ∃ i H', Inv (X.blk z3 H3 scope ce fp) [] (wipe σ (own.map (·.2))) H' s' ∧ tn i s'.heap ∧ (∀ b ∈ fp, H' b = none) ∧ W i m H' := fun {σ9 s' H'} I' l9 k9 nx => by
      obtain ⟨m', hm, w'⟩ := hNx H' nx
      have pin : ∀ b ∈ fp, ∀ o, z7.heap.get? b = some o → s'.heap.get? b = some o ∧ H' b = none := fun b hb o e => have v := I'.pin (b, o) (List.mem_append_right _ (List.mem_append_right _ (mem_pinsAt hb e))); ⟨v.1, v.2.1⟩
      refine ⟨m', hm, i + 1, H', (I'.unpinned (pins := [])).weak l9 k9, T.keep _ _ _ st7 fun b hb o e => (pin b hb o e).1, fun b hb => ?_, w'⟩
      exact (T.obj _ _ st7 b hb).elim fun o x => (pin b hb o x.1).2
    cases b with
    | false => exact close I9 len8 (fun j v e => (kn8 j v e).1) (by simpa using q9)
    | true =>
      rw [if_pos rfl] at q9
      refine thnF (pj.run _ z9 σ8 H9 _ I9 q9) fun _ _ a1 => thnF a1 fun _ zb ⟨jt, fq, tm, J1, Hb, e1, Ib, T1, stb, fb, V, ⟨m1, v1⟩, turn1⟩ => ?_
      subst e1
      have there1 : ∀ {H' : Hp}, (∀ b ∈ fq, H' b = none) → ∀ b ∈ fq, FpOk (X.blk z3 H3 scope ce fp) ([] ++ pinsAt fp z7.heap) H' b := fun hn b hb => ⟨hn b hb, (fb b hb).2⟩
      refine start_second ?lq (T1.self X.A 0 _ _ _ stb ?lq)
      refine loop_second (fun k s' => ∃ j H', Inv (X.blk z3 H3 scope ce fp) ([] ++ pinsAt fp z7.heap) (wipe σ8 vs1) H' s' ∧ tm j s'.heap ∧ (∀ b ∈ fq, H' b = none) ∧ V j k H') (fun k zc ⟨j, Hc, Ic, stc, nc, wc⟩ => ?_) m1 ⟨0, Hb, Ib.weak (wipe_length _ _) (fun j v e => (wipe_some e).1), stb, fun b hb => (fb b hb).1, v1⟩
      rcases turn1 j k Hc wc with ⟨stop1, nx1⟩ | ⟨go1, Ny, hNy, step1⟩
      · refine thnF (T1.done (X.blk z3 H3 scope ce fp) rfl rfl rfl hc j _ zc (wipe σ8 vs1) Hc (fun _ _ => False) Ic (there1 nc) stc stop1) fun r zd ⟨hr, Id⟩ => ?_
        subst hr
        refine close Id (len8.trans (wipe_length σ8 vs1).symm) (fun j v e => ?_) nx1
        obtain ⟨a, b⟩ := kn8 j v e
        rw [wipe_out fun z => b (hv j z)]
        exact a
      · refine thnF (T1.item (X.blk z3 H3 scope ce fp) rfl rfl rfl hc j _ zc (wipe σ8 vs1) Hc (fun _ _ => False) Ic (there1 nc) stc go1) fun r zd ⟨u1, hr, hd⟩ => ?_
        subst hr
        refine thnF hd fun _ ze ⟨x1, He, Ie, re, ye, ste, ne⟩ => ?_
        refine thnF (ph.run _ ze (wipe σ8 vs1) He x1 u1 _ (Ie.pinned (there1 ne) (T1.obj _ _ ste)) re (step1 x1 He ye)) fun _ zf ⟨σf, Hf, If, hwf, qf⟩ => ?_
        refine thnF (pu.run _ zf σf Hf _ If qf) fun b1 zg ⟨Hg, Ig, qg⟩ => ?_
        have close1 : ∀ {s' : Shared} {H' : Hp}, Inv (X.blk z3 H3 scope ce fp) (([] ++ pinsAt fp z7.heap) ++ pinsAt fq ze.heap) σf H' s' → Ny H' → ∃ m, m < k ∧ ∃ j H', Inv (X.blk z3 H3 scope ce fp) ([] ++ pinsAt fp z7.heap) (wipe σ8 vs1) H' s' ∧ tm j s'.heap ∧ (∀ b ∈ fq, H' b = none) ∧ V j m H' := fun {s' H'} I' nx => by
          obtain ⟨m', hm, w'⟩ := hNy H' nx
          have pin : ∀ b ∈ fq, ∀ o, ze.heap.get? b = some o → s'.heap.get? b = some o ∧ H' b = none := fun b hb o e => have v := I'.pin (b, o) (List.mem_append_right _ (List.mem_append_right _ (mem_pinsAt hb e))); ⟨v.1, v.2.1⟩
          refine ⟨m', hm, j + 1, H', I'.unpinned.weak (by rw [← hwf, wipe_length]) (fun j v e => (wipe_some (hwf ▸ e)).1), T1.keep _ _ _ ste fun b hb o e => (pin b hb o e).1, fun b hb => ?_, w'⟩
          exact (T1.obj _ _ ste b hb).elim fun o x => (pin b hb o x.1).2
        cases b1 with
        | false => exact close1 Ig (by simpa using qg)
        | true =>
          rw [if_pos rfl] at qg
          refine thnF (pe.run _ zg σf Hg _ Ig qg) fun v zh ⟨y, Hh, Ih, rh, st0, hDh, okk, nx⟩ => ?_
          exact F.add (X := X.blk z3 H3 scope ce fp) rfl rfl Ih hDh okk rh fun zi Ii => close1 Ii nx
end
end R9S
namespace R9S
open PySem PySem.Spec PyProof.Rows L2 PySem.Froz
/-! ### set(xs), xs a list of texts -/
def addL (l : List Str) (k : Str) : List Str := if k ∈ l then l else k :: l
theorem addL_len : ∀ {ks l : List Str}, (ks.foldl addL l).length ≤ l.length + ks.length
  | [], _ => Nat.le_refl _
  | k :: ks, l => by
    have h := addL_len (ks := ks) (l := addL l k)
    have : (addL l k).length ≤ l.length + 1 := by unfold addL; split <;> simp
    simp only [List.foldl_cons, List.length_cons]
    omega
section
variable {P : Program} {w : World} {A : Around} {E : Value → Shared → Prop} {s : Shared}
/-- set.update's loop over texts -/
theorem set_update_strs {I : Addr} {fp wr : List Addr} {G : Array GenState → Array GenState → Prop} {n : Nat} {Pv : Nat → Value → Prop} {St : Nat → Shared → Prop} {R : Result → Shared → Prop}
    (W : WalksS P w A.in1 I fp wr G n Pv St) (S : Addr) (hSf : S ∉ fp) (ks : List Str) (hn : n = ks.length) (hfew : ks.length < 1000) (hval : ∀ i v, Pv i v → ∃ x u, ks[i]? = some x ∧ v = .str x u)
    (h0 : Heap) (hS0 : h0.get? S = none) (hw0 : ∀ b ∈ wr, h0.get? b = none) :
    ∀ (k i : Nat) (s : Shared), n - i = k → i ≤ n → St i s → (∀ b o, h0.get? b = some o → s.heap.get? b = some o) → STx P w s.heap S ((ks.take i).foldl addL []) →
      (∀ s', Moved (S :: wr) G s s' → STx P w s'.heap S (ks.foldl addL []) → (∀ b o, h0.get? b = some o → s'.heap.get? b = some o) → R (.ok (.ret .none)) s') →
      codeAny (model P w) A (.builtin "set.update.loop" ⟨[.ref S, .ref I], []⟩) R s := by
  have hSw : S ∉ wr := fun h => hSf (W.sub _ h)
  have hsub : ∀ b ∈ wr, b ∈ S :: wr := fun b hb => List.mem_cons_of_mem _ hb
  have keepM : ∀ {s s' : Shared}, Moved wr G s s' → (∀ b o, h0.get? b = some o → s.heap.get? b = some o) → ∀ b o, h0.get? b = some o → s'.heap.get? b = some o := fun hm hkp b o e =>
    hm.heap b o (fun hb => by rw [hw0 b hb] at e; cases e) (hkp b o e)
  intro k
  induction k with
  | zero =>
    intro i s hk' hi hst hkp hS hR
    have hin : i = n := by omega
    subst hin
    refine codeAny_builtin F.entry_set_update_loop ?_
    rw [Around.under_plainId F.plain_set_update_loop _]
    show wpAny _ A.in1 (pyNext (.ref I) >>= _) _ _ s
    refine wpAny_bind (W.done s _ _ hst fun s' hm => ?_)
    show wpAny _ A.in1 (ret Value.none) _ _ s'
    have hkp' := keepM hm hkp
    have hS' := hS.keep (h' := s'.heap) fun o e => hm.heap S o hSw e
    rw [hn, List.take_length] at hS'
    exact wpAny_pure (hR s' (hm.mono hsub) hS' hkp')
  | succ k ih =>
    intro i s hk' hi hst hkp hS hR
    have hlt : i < n := by omega
    refine codeAny_builtin F.entry_set_update_loop ?_
    rw [Around.under_plainId F.plain_set_update_loop _]
    show wpAny _ A.in1 (pyNext (.ref I) >>= _) _ _ s
    refine wpAny_bind (W.item i s _ _ hlt hst fun v s' hP hst' hm => ?_)
    obtain ⟨x, u, hp, rfl⟩ := hval i v hP
    have hkp' := keepM hm hkp
    have hS' := hS.keep (h' := s'.heap) fun o e => hm.heap S o hSw e
    show wpAny _ A.in1 (holding [Value.str x u] (setAdd S (.str x u)) >>= _) _ _ s'
    refine wpAny_bind (wpAny_holding ?_)
    unfold setAdd
    refine wpAny_holding ?_
    refine wpAny_bind ((strKind P w).pyHash (is_str x u) ?_)
    refine add_any (s := { s' with toks := s'.toks + 1 }) hS' (by have := addL_len (ks := ks.take i) (l := []); rw [List.length_take] at this; simp at this; have : (1000 : Nat) + 1 < scanBound := by decide
                                                                  omega) fun b h' hsb hS2 => ?_
    have e2 : (ks.take (i + 1)).foldl addL [] = if x ∈ (ks.take i).foldl addL [] then (ks.take i).foldl addL [] else x :: (ks.take i).foldl addL [] := by
      rw [List.take_succ, hp]; simp only [Option.toList, List.foldl_append, List.foldl_cons, List.foldl_nil]; rfl
    rw [← e2] at hS2
    have hkp2 : ∀ b o, h0.get? b = some o → h'.get? b = some o := fun b o e => hsb b o (fun z => by rw [z, hS0] at e; cases e) (hkp' b o e)
    refine wpAny_pure ⟨plainId_quiet F.plain_set_update_loop _, ih (i + 1) _ (by omega) hlt (W.frame _ s' _ _ hst' (Nat.le_add_right _ _) fun b hb o e => ?_) hkp2 hS2 fun s'' hm'' hS'' hkp'' => ?_⟩
    · exact hsb b o (fun h : b = S => hSf (by rw [← h]; exact hb)) e
    · exact hR s'' (Moved.trans W.gtrans ((hm.mono hsub).then_heap (Nat.le_add_right _ _) fun b o hb e => hsb b o (fun h : b = S => hb (by rw [h]; exact List.mem_cons_self)) e) hm'') hS'' hkp''
set_option maxRecDepth 100000 in
set_option maxHeartbeats 3200000 in
/-- set(xs) -/
theorem call_set_strs {l : Addr} {items : Array Value} (ks : List Str) {Q : Value → Shared → Prop} (hh : A.handled = none) (hl : s.heap.IsList l items) (hisz : items.size = ks.length) (hit : ∀ (i : Nat) (v : Value), items[i]? = some v → ∃ x u, ks[i]? = some x ∧ v = Value.str x u) (hfew : ks.length < 1000)
    (h : ∀ (h' : Heap) (tk : Nat), STx P w h' s.heap.objs.size (ks.foldl addL []) → (∀ b o, s.heap.get? b = some o → h'.get? b = some o) → Q (.ref s.heap.objs.size) { s with heap := h', toks := tk }) :
    wpAny (model P w) A (call (.type "set") [.ref l]) Q E s := by
  obtain ⟨c, tl, hmro⟩ := F.called_set.mro
  have hmade := F.called_set.made
  have hsub := F.called_set.sub
  refine wpAny_call (codeAny_of_tree ?_)
  show wpAny _ _ (callAny (.type "set") _) _ _ _
  refine wpAny_pure ⟨Code.quiet_builtin _ (by decide +kernel), codeAny_builtin F.entry_type_call ?_⟩
  rw [Around.under_plain (weight_type_call_type "set" [.ref l] []) rfl]
  have h1 := F.called_set.notType
  have h2 := F.called_set.canCreate
  have hct := F.typeCall_set_1 (.ref l)
  repeat (any_goals (first | assumption | wp_step))

  refine codeAny_mono (code_set_led1 (.ref l) (E := E) (Q₁ := fun obj s₁ => obj = .ref s.heap.objs.size ∧ s₁ = { s with heap := s.heap.push { cls := .type "set", dict := none, data := .set #[] 0 (.fresh 0 0 (!w.params.followText "set-order")) } }) ⟨rfl, rfl⟩) fun r s₁ hr => ?_
  cases r with
  | error e => exact hr
  | ok fl =>
    cases fl with
    | ret obj =>
      obtain ⟨rfl, rfl⟩ := hr
      have hS : (s.heap.push { cls := .type "set", dict := none, data := .set #[] 0 (.fresh 0 0 (!w.params.followText "set-order")) }).get? s.heap.objs.size = some { cls := .type "set", dict := none, data := .set #[] 0 (.fresh 0 0 (!w.params.followText "set-order")) } := Heap.get?_push_size _ rfl
      have hT : Shared.TypeIs { s with heap := s.heap.push { cls := .type "set", dict := none, data := .set #[] 0 (.fresh 0 0 (!w.params.followText "set-order")) } } (.ref s.heap.objs.size) "set" := ⟨_, hS, rfl⟩
      have hli := F.called_set.init.lookup
      have hbi := F.called_set.init.bind (.ref s.heap.objs.size)
      repeat (any_goals (first | assumption | wp_step))

      refine codeAny_mono (codeAny_call_builtin (R := wants (fun r s₂ => r = .none ∧ ∃ h' tk, s₂ = { s with heap := h', toks := tk } ∧ STx P w h' s.heap.objs.size (ks.foldl addL []) ∧
          (∀ b o, s.heap.get? b = some o → h'.get? b = some o)) E) F.called_set.init.plain F.entry_set_init (check_set_init_1 hT ?_)) fun r₂ s₂ hr₂ => ?_
      · obtain ⟨ol, hol, hcl, nl, hdl⟩ := hl
        obtain ⟨ocls, odict, odata, oslots⟩ := ol
        simp only at hcl hdl
        subst hcl; subst hdl
        have hol' : (s.heap.push { cls := .type "set", dict := none, data := .set #[] 0 (.fresh 0 0 (!w.params.followText "set-order")) }).get? l = some { cls := .type "list", dict := odict, data := .seq items nl, slots := oslots } := Heap.get?_push_of_some _ hol
        have hsls := F.sub_list_set
        have hslf := F.sub_list_frozenset
        have hne : (Value.type "list" == Value.type "dict") = false := by decide
        have hl1 : (s.heap.push { cls := .type "set", dict := none, data := .set #[] 0 (.fresh 0 0 (!w.params.followText "set-order")) }).IsList l items := ⟨_, hol', rfl, nl, rfl⟩
        unfold Builtin.«set.__init__» noKeywords Builtin.Frozenset.updateFrom
        generalize hPI : pyIter = PI
        wp_walk
        subst hPI

        refine wpAny_pyIter_list hl1 ?_
        refine wpAny_bind (wpAny_runValue ?_)
        have hlS : l < s.heap.objs.size := Heap.lt_size hol
        have hh3 : A.in1.in1.in1.handled = none := by simp [hh]
        have hz1 : (s.heap.push { cls := .type "set", dict := none, data := .set #[] 0 (.fresh 0 0 (!w.params.followText "set-order")) }).objs.size = s.heap.objs.size + 1 := Heap.size_push ..
        have hneI : l ≠ (s.heap.push { cls := .type "set", dict := none, data := .set #[] 0 (.fresh 0 0 (!w.params.followText "set-order")) }).objs.size := by
          rw [Heap.size_push]; exact Nat.ne_of_lt (Nat.lt_succ_of_lt hlS)
        have hSf : s.heap.objs.size ∉ [(s.heap.push { cls := .type "set", dict := none, data := .set #[] 0 (.fresh 0 0 (!w.params.followText "set-order")) }).objs.size, l] := by
          rw [Heap.size_push]; simp only [List.mem_cons, List.mem_singleton, List.not_mem_nil, or_false, not_or]
          exact ⟨Nat.ne_of_lt (Nat.lt_succ_self _), Nat.ne_of_gt hlS⟩
        have none_of : ∀ b, s.heap.objs.size ≤ b → s.heap.get? b = none := fun b hb => by
          cases q : s.heap.get? b with
          | none => rfl
          | some o => exact absurd (Nat.lt_of_lt_of_le (Heap.lt_size q) hb) (Nat.lt_irrefl _)
        refine set_update_strs ((Walks.list hh3 _ l hneI items).toS) s.heap.objs.size
          hSf ks hisz hfew hit s.heap (none_of _ (Nat.le_refl _)) (fun b hb => none_of b (by
            rw [List.mem_singleton.mp hb, Heap.size_push]
            exact Nat.le_succ _)) (items.size - 0) 0 _ (by omega) (Nat.zero_le _)
          ⟨⟨_, Heap.get?_push_size _ rfl, rfl, rfl⟩, (hl1.push _)⟩ (fun b o e => Heap.get?_push_of_some _ (Heap.get?_push_of_some _ e)) ?hS0 ?hR
        case hS0 =>
          exact (stx_fresh (P := P) (w := w) (h := s.heap)).keep fun o e => Heap.get?_push_of_some _ e
        case hR =>
          intro s' hm hS' hkp
          obtain ⟨h', g2, d', tk', os'⟩ := s'
          have eg : g2 = s.gens := hm.gens
          have ed : d' = s.drawn := hm.drawn
          have eo : os' = s.os := hm.os
          subst eg; subst ed; subst eo
          show wpAny _ _ _ _ _ _
          refine wpAny_pure ?_
          show wpAny _ _ (ret Value.none) _ _ _
          exact wpAny_pure ⟨rfl, h', tk', rfl, hS', hkp⟩

      · cases r₂ with
        | error e => exact hr₂
        | ok fl₂ =>
          cases fl₂ with
          | ret r =>
            obtain ⟨rfl, h', tk, rfl, hS', hk'⟩ := hr₂
            repeat (any_goals (first | assumption | wp_step))
            exact h _ _ hS' hk'
          | _ => exact hr₂.elim
    | _ => exact hr.elim


end
section
variable {X : Cx}
def rSetOfS (K : PySem.W.Frag) (P : Program) (w : World) : List V → Hp → VK → Prop := fun xs H Q => ∃ (l : Addr) (ks : List Str), xs = [V.ref l] ∧ SqL K H l (ks.map V.str) ∧ ks.length < 1000 ∧ ∀ a, H a = none → Q (.ref a) (upd H a (SetS P w a (ks.foldl addL [])))
theorem cr_setOfS (hc : X.calm = true) : CallR X (.type "set") (rSetOfS X.K X.prog X.w) := by
  intro pins s σ H xs us Q I r h
  obtain ⟨l, ks, rfl, hl, hf, q⟩ := h
  rw [Vals.ref1 r]
  obtain ⟨its, rv, pl, hz⟩ := I.list hl
  have hn : H s.heap.objs.size = none := I.hok.fresh (Nat.le_refl _)
  refine call_set_strs (P := X.prog) (w := X.w) ks (I.ok.hd hc) pl.isList (by rw [List.size_toArray, ← rv.length, List.length_map]) (fun i v hv => ?_) hf fun h' tk R k => ?_
  · have hv : its[i]? = some v := by simpa using hv
    obtain ⟨x, hx, rx⟩ := R9.pair_left rv hv
    rw [List.getElem?_map] at hx
    cases hk : ks[i]? with
    | none => rw [hk] at hx; cases hx
    | some y =>
      rw [hk] at hx
      cases hx
      obtain ⟨u, rfl⟩ := rx
      exact ⟨y, u, rfl, rfl⟩
  · exact ⟨.ref s.heap.objs.size, upd H s.heap.objs.size (SetS X.prog X.w s.heap.objs.size (ks.foldl addL [])), I.laid (t' := tk) k (Nat.le_refl _) (setS_new R), rfl, q _ hn⟩
end
end R9S
namespace R9S
open PySem PySem.Spec PyProof.Rows L2 SrtO Srt
/-! ### sorted of tuples whose first items are distinct texts -/
def FstTx (h : Heap) (v : Value) (t : Str) : Prop := ∃ a o xs n u, v = .ref a ∧ h.get? a = some o ∧ o.cls = .type "tuple" ∧ o.data = .seq xs n ∧ xs[0]? = some (.str t u)
def ltS (a b : Str) : Bool := decide (a.cps.toList < b.cps.toList)
theorem swo_ltS (k : Value → Str) : Swo fun v u => ltS (k v) (k u) := by
  refine ⟨fun x y h => ?_, fun x y z h1 h2 => ?_⟩
  · have a := of_decide_eq_true h
    exact decide_eq_false fun b => List.lt_asymm a b
  · have a := of_decide_eq_false h1
    have b := of_decide_eq_false h2
    exact decide_eq_false fun c => (List.not_lt.mpr (List.le_trans (List.not_lt.mp a) (List.not_lt.mp b))) c
section
variable {prog : Program} {w : World} {A : Around} {E : Value → Shared → Prop} {s : Shared}
theorem kat_same {b fin : Bool} {Q : Bool → Shared → Prop} : ∀ (l : List Value) (i : Nat), Q fin s → PySem.W.KatLex prog w A b fin Q (l.zip l) i s
  | [], _, h => PySem.W.kat_nil h
  | v :: l, i, h => by
    rw [List.zip_cons_cons]
    exact PySem.W.kat_cons (SeqAt.EqAt.same v prog w _ _ (PySem.W.kat_yes (kat_same l (i + 1) h)))
theorem text_cmp {vs : List Value} {k : Value → Str} (hp : ∀ v ∈ vs, FstTx s.heap v (k v)) (inj : ∀ v ∈ vs, ∀ u ∈ vs, k v = k u → v = u) : Cmp prog w A s (tuples' true) (fun p => p.1 ∈ vs) (lt2 fun v u => ltS (k v) (k u)) := by
  intro p q hm hm'
  have h1 := hp _ hm
  have h2 := hp _ hm'
  show wpAny (model prog w) A (keyLt' (tuples' true) p.1 q.1) (fun r s' => s' = s ∧ r = ltS (k p.1) (k q.1)) (fun _ _ => False) s
  by_cases e : k p.1 = k q.1
  · have e2 := inj _ hm _ hm' e
    rw [← e2]
    obtain ⟨a, o, xs, n, u, ev, ho, hc, hd, hx⟩ := h1
    rw [ev]
    refine PySem.W.kat_lt ho hd ho hd (kat_same _ _ ⟨rfl, ?_⟩)
    rw [decide_eq_false (Nat.lt_irrefl _)]
    exact (decide_eq_false (fun z => List.lt_irrefl _ z)).symm
  · obtain ⟨a, o, xs, n, u, ev, ho, hc, hd, hx⟩ := h1
    obtain ⟨a', o', xs', n', u', ev', ho', hc', hd', hx'⟩ := h2
    generalize k p.1 = t at *
    generalize k q.1 = t' at *
    rw [ev, ev']
    refine PySem.W.kat_lt ho hd ho' hd' ?_
    obtain ⟨l, hl⟩ : ∃ l, xs.toList = .str t u :: l := by
      rw [← Array.getElem?_toList] at hx
      cases h : xs.toList with
      | nil => rw [h] at hx; cases hx
      | cons y l => rw [h] at hx; simp at hx; exact ⟨l, by rw [hx]⟩
    obtain ⟨l', hl'⟩ : ∃ l, xs'.toList = .str t' u' :: l := by
      rw [← Array.getElem?_toList] at hx'
      cases h : xs'.toList with
      | nil => rw [h] at hx'; cases hx'
      | cons y l => rw [h] at hx'; simp at hx'; exact ⟨l, by rw [hx']⟩
    rw [hl, hl', List.zip_cons_cons]
    refine PySem.W.kat_cons (SeqAt.EqAt.str_str t u t' u' prog w _ _ ?_)
    refine PySem.W.kat_go (fun e1 => ?_) (fun e1 => ?_)
    · exact absurd (by simpa using e1) e
    · exact PySem.W.kat_no (oneLt_str ⟨rfl, rfl⟩)
theorem firstT : ∀ {h : Heap} {vs : List Value}, (∀ v ∈ vs, ∃ t, FstTx h v t) → ∃ fs, PySem.W.KatTups h vs fs ∧ fs.length = vs.length ∧ ∀ f ∈ fs, ∃ t u, f = Value.str t u
  | _, [], _ => ⟨[], .nil, rfl, fun f hf => by cases hf⟩
  | h, v :: vs, hv => by
    obtain ⟨fs, k1, k2, k3⟩ := firstT (h := h) (vs := vs) fun x hx => hv x (List.mem_cons_of_mem _ hx)
    obtain ⟨t, a, o, xs, n, u, rfl, ho, hc, hd, hx⟩ := hv v List.mem_cons_self
    refine ⟨.str t u :: fs, .cons ho hc hd hx k1, by rw [List.length_cons, List.length_cons, k2], fun f hf => ?_⟩
    rcases List.mem_cons.mp hf with rfl | hf
    · exact ⟨t, u, rfl⟩
    · exact k3 f hf
theorem FstTx.keeps {h h' : Heap} {v : Value} {t : Str} (f : FstTx h v t) (k : ∀ b o, h.get? b = some o → o.cls = .type "tuple" → h'.get? b = some o) : FstTx h' v t := by
  obtain ⟨a, o, xs, n, u, e, ho, hc, hd, hx⟩ := f
  exact ⟨a, o, xs, n, u, e, k _ _ ho hc, hc, hd, hx⟩
theorem texts_sortableO {a : Addr} {vs : List Value} {k : Value → Str} (h0 : 0 < vs.length) (hp : ∀ v ∈ vs, FstTx s.heap v (k v)) (inj : ∀ v ∈ vs, ∀ u ∈ vs, k v = k u → v = u) (ha : ∀ o, s.heap.get? a = some o → o.cls ≠ .type "tuple") : SortableO prog w A s a vs fun v u => ltS (k v) (k u) := by
  intro h' keep
  have hp' : ∀ v ∈ vs, FstTx h' v (k v) := fun v hm => (hp v hm).keeps fun b o e c => keep b o (fun z => by subst z; exact ha o e c) e
  obtain ⟨fs, h1, h2, h3⟩ := firstT fun v hm => ⟨_, hp' v hm⟩
  refine ⟨tuples' true, fun Q E hq => ?_, text_cmp hp' inj⟩
  refine PySem.W.kat_kind (T := .type "str") h1 (by omega) (fun f hm => ?_) (by rfl) ?_
  · obtain ⟨x, t, rfl⟩ := h3 f hm
    exact PySem.W.Looks.now
  · have e : (Value.type "str" != Value.type "tuple") = true := by first | decide +kernel | rfl | decide
    rw [e]
    exact hq
theorem sorted_textsO {l : Addr} {vs : List Value} {k : Value → Str} {Q : Value → Shared → Prop} (hl : s.heap.IsList l vs.toArray) (hz : vs.length ≤ sizeLine) (hp : ∀ v ∈ vs, FstTx s.heap v (k v)) (inj : ∀ v ∈ vs, ∀ u ∈ vs, k v = k u → v = u)
    (h : ∀ (h' : Heap) (d : Addr) (out : List Value), Srtd (fun v u => ltS (k v) (k u)) out → out.Perm vs → (∀ b o, s.heap.get? b = some o → h'.get? b = some o) → s.heap.objs.size ≤ d → (∃ n, h'.get? d = some (seqObj "list" out.toArray n)) → Q (.ref d) { s with heap := h' }) :
    wpAny (model prog w) A (call (.builtin "sorted") [.ref l]) Q E s := by
  refine sorted_ord (swo_ltS k) hl hz (fun h2 h₁ a ha kk => ?_) fun out hs hb => ?_
  · refine texts_sortableO (s := { s with heap := h₁ }) (by omega) (fun v hm => (hp v hm).keeps fun b o e _ => (kk b o e).2) inj fun o e => ?_
    have e' : some o = some (seqObj "list" vs.toArray 0) := e.symm.trans ha
    cases e'
    intro c
    exact absurd (Value.type.inj c) (by decide)
  · exact h _ _ out hs hb.perm (fun b o e => sortedAll_old e) (Nat.le_succ _) (sortedAll_at s.heap vs out.toArray)
end
section
variable {X : Cx}
/-- sorted of a list of tuples, f their first items -/
def rSortTx (K : PySem.W.Frag) : List V → Hp → VK → Prop := fun vs H Q => ∃ (a : Addr) (xs : List V) (f : V → Str), vs = [V.ref a] ∧ SqL K H a xs ∧ (∀ x ∈ xs, ∃ b r, x = .ref b ∧ SqT K H b (.str (f x) :: r)) ∧ (xs.map f).Nodup ∧ xs.length ≤ 1000 ∧
  ∀ (ys : List V) (p : Addr), ys.Perm xs → sortedS (ys.map f) = true → H p = none → Q (.ref p) (upd H p (.lst ys))
theorem rise_of : ∀ (l : List Str) (p : Str), (p :: l).Pairwise R9M.leS → risingS p l = true
  | [], p, _ => rfl
  | x :: r, p, h => by
    have h1 := (List.pairwise_cons.mp h).1 x List.mem_cons_self
    have h2 := rise_of r x (List.pairwise_cons.mp h).2
    show (!Spec.ltCps x.cps.toList p.cps.toList && risingS x r) = true
    rw [h2, Bool.and_true, ltCps_eq, Bool.not_eq_true', decide_eq_false_iff_not]
    exact List.not_lt.mpr h1
theorem sorted_of : ∀ (l : List Str), l.Pairwise R9M.leS → sortedS l = true
  | [], _ => rfl
  | x :: r, h => rise_of r x h
theorem nd_inj {α β : Type} {k : α → β} : ∀ {l : List α}, (l.map k).Nodup → ∀ x ∈ l, ∀ y ∈ l, k x = k y → x = y
  | a :: l, nd, x, hx, y, hy, e => by
    rw [List.map_cons, List.nodup_cons] at nd
    rcases List.mem_cons.mp hx with ex | hx2
    · rcases List.mem_cons.mp hy with ey | hy2
      · rw [ex, ey]
      · exact absurd (List.mem_map.mpr ⟨y, hy2, by rw [← e, ex]⟩) nd.1
    · rcases List.mem_cons.mp hy with ey | hy2
      · exact absurd (List.mem_map.mpr ⟨x, hx2, by rw [e, ey]⟩) nd.1
      · exact nd_inj nd.2 x hx2 y hy2 e
theorem cr_sortTx : CallR X (.builtin "sorted") (rSortTx X.K) := by
  intro pins s σ H vs us Q I r h
  obtain ⟨a, xs, f, rfl, hs, hx, nd, hl, q⟩ := h
  rw [Vals.ref1 r]
  obtain ⟨its, rv, pl, hz⟩ := I.list hs
  obtain ⟨hb, hr⟩ := bkV_refs rv fun x hx' => by obtain ⟨b, _, e, _⟩ := hx x hx'; exact ⟨b, e⟩
  have hp : ∀ v ∈ its, FstTx s.heap v (f (bkV v)) := fun v hv => by
    obtain ⟨b, rfl⟩ := hr v hv
    have xm : V.ref b ∈ xs := by rw [hb]; exact List.mem_map.mpr ⟨.ref b, hv, rfl⟩
    obtain ⟨b', r', e, sq⟩ := hx _ xm
    cases e
    obtain ⟨its2, rv2, ⟨o, ho, hc, n, hd⟩, _⟩ := I.tuple sq
    cases rv2 with
    | cons r1 r2 =>
      obtain ⟨t, rfl⟩ := r1
      exact ⟨b, o, _, n, t, rfl, ho, hc, hd, by simp [bkV]⟩
  have il : its.length = xs.length := by rw [hb, List.length_map]
  refine sorted_textsO (k := fun v => f (bkV v)) pl.isList (by rw [sizeLine_eq]; omega) hp (nd_inj (by rw [hb, List.map_map] at nd; exact nd)) fun h' d out hso pm keep hd hn => ?_
  obtain ⟨n, hn⟩ := hn
  have ol : out.length = xs.length := by rw [pm.length_eq, il]
  refine ⟨.ref d, upd H d (.lst (out.map bkV)), I.laid (t' := s.toks) keep hd ⟨by rw [List.length_map, sizeLine_eq]; omega, out, n, bkV_vals fun u hu => hr u (pm.mem_iff.mp hu), hn⟩, rfl, q _ _ ?_ ?_ (I.hok.fresh hd)⟩
  · rw [hb]; exact pm.map _
  · refine sorted_of _ ?_
    rw [List.map_map, List.pairwise_map]
    exact hso.imp fun {x y} h => List.not_lt.mp (of_decide_eq_false h)
end
end R9S
namespace TL
open PySem L2
/-! ### values as trees -/
inductive D where
  | non | bl (b : Bool) | int (i : Int) | str (x : Str)
  | lst (xs : List D) | tup (xs : List D)
  | dk (kvs : List (Key × D))
  | ins (c : Nat) (fs : List D)
  | cst (v : V)
  /-- a set of texts -/
  | set (l : List Str)
  /-- the law's script -/
  | scr (ns : List Int)
  /-- a handled exception of the text's own, its fields -/
  | exc (a dd : Addr) (k : Nat) (fs : List D)
  /-- a dict that stays as it is, its object known (it may be walked) -/
  | dl (kvs : List (Key × D))
/-- trees that are owned down to their frozen parts -/
inductive OD where
  | fz (d : D)
  | fl (xs : List D)
  | fd (kvs : List (Key × D))
  | ls (os : List OD)
  | ins (c : Nat) (fs : List OD)
/-- the classes: where each stands; the program and the world -/
structure Cls where
  at_ : Nat → Addr
  P : Program
  w : World
  K : PySem.W.Frag
/-- the fields, in the order of __init__ -/
def nm : Nat → List Str
  | 0 => ["over", "under"]
  | 1 => ["_weights", "whole"]
  | 2 => ["alphabet", "start", "rows", "length", "unit", "whole"]
  | 3 => ["_rows"]
  | 4 => ["entries", "whole"]
  | 5 => ["unit", "rows", "absent", "present"]
  | 6 => ["left", "free", "finders", "given", "back", "front"]
  | 7 => ["many", "ring", "_sum", "_laid", "_sizes", "_arcs", "_rests"]
  | 8 => ["entries", "whole", "many"]
  | 9 => ["entries", "whole", "many"]
  | 10 => ["weights", "length"]
  | 11 => ["_far", "ring", "_arcs", "_rests", "_end"]
  | 12 => ["_marking", "_places", "_counting", "_deeds"]
  | 20 => ["number"]
  | 21 => ["at"]
  | 22 => ["key"]
  | 23 => ["text"]
  | 24 => ["other", "text"]
  | 25 => ["text"]
  | 26 => ["text"]
  | 27 => ["at", "text"]
  | 28 => ["ticket"]
  | 29 => ["maker"]
  | _ => []
def Fz (F H : Hp) : Prop := ∀ a o, F a = some o → H a = some o
theorem Fz.refl (F : Hp) : Fz F F := fun _ _ e => e
theorem Fz.trans {F G H : Hp} (a : Fz F G) (b : Fz G H) : Fz F H := fun x o e => b x o (a x o e)
section
variable (c : Cls) (F : Hp)
mutual
def Rf : D → V → Prop
  | .non, v => v = .non
  | .bl b, v => v = .bl b
  | .int i, v => v = .int i
  | .str x, v => v = .str x
  | .cst x, v => v = x
  | .set l, v => ∃ a, v = .ref a ∧ F a = some (R9S.SetS c.P c.w a l)
  | .scr ns, v => ∃ a, v = .ref a ∧ SqL c.K F a (ns.map V.int)
  | .exc a dd k fs, v => v = .ref a ∧ ∃ us, F dd = some (.xd us) ∧ us.map (·.1) = nm k ∧ RfL fs (us.map (·.2))
  | .lst xs, v => ∃ a vs, v = .ref a ∧ F a = some (.lst vs) ∧ RfL xs vs
  | .tup xs, v => ∃ a vs, v = .ref a ∧ F a = some (.tup vs) ∧ RfL xs vs
  | .dk kvs, v => ∃ a us, v = .ref a ∧ F a = some (.dK us) ∧ RfK kvs us
  | .dl kvs, v => ∃ a o us, v = .ref a ∧ F a = some (.frz o (.dK us)) ∧ RfK kvs us
  | .ins k fs, v => ∃ a dx us, v = .ref a ∧ F a = some (.ins (c.at_ k) dx us) ∧ us.map (·.1) = nm k ∧ RfL fs (us.map (·.2))
def RfL : List D → List V → Prop
  | [], vs => vs = []
  | d :: ds, vs => ∃ v r, vs = v :: r ∧ Rf d v ∧ RfL ds r
def RfK : List (Key × D) → List (Key × V) → Prop
  | [], us => us = []
  | (k, d) :: r, us => ∃ v s, us = (k, v) :: s ∧ Rf d v ∧ RfK r s
end
end
theorem fz_sql {K : PySem.W.Frag} {F G : Hp} (h : Fz F G) {a : Addr} {xs : List V} (q : SqL K F a xs) : SqL K G a xs := by
  rcases q with q | q
  · rcases q with q | ⟨o, q⟩
    · exact .inl (.inl (h _ _ q))
    · exact .inl (.inr ⟨o, h _ _ q⟩)
  · exact .inr q
section
variable {c : Cls} {F G : Hp}
mutual
theorem Rf.mono (h : Fz F G) : ∀ {d : D} {v : V}, Rf c F d v → Rf c G d v
  | .non, _, r => by simpa only [Rf] using r
  | .bl _, _, r => by simpa only [Rf] using r
  | .int _, _, r => by simpa only [Rf] using r
  | .str _, _, r => by simpa only [Rf] using r
  | .cst _, _, r => by simpa only [Rf] using r
  | .set _, _, r => by
    simp only [Rf] at r ⊢
    obtain ⟨a, e, q⟩ := r
    exact ⟨a, e, h _ _ q⟩
  | .scr _, _, r => by
    simp only [Rf] at r ⊢
    obtain ⟨a, e, q⟩ := r
    exact ⟨a, e, fz_sql h q⟩
  | .exc _ _ _ _, _, r => by
    simp only [Rf] at r ⊢
    obtain ⟨e, us, q, n, l⟩ := r
    exact ⟨e, us, h _ _ q, n, RfL.mono h l⟩
  | .lst _, _, r => by
    simp only [Rf] at r ⊢
    obtain ⟨a, vs, e, q, l⟩ := r
    exact ⟨a, vs, e, h _ _ q, RfL.mono h l⟩
  | .tup _, _, r => by
    simp only [Rf] at r ⊢
    obtain ⟨a, vs, e, q, l⟩ := r
    exact ⟨a, vs, e, h _ _ q, RfL.mono h l⟩
  | .dk _, _, r => by
    simp only [Rf] at r ⊢
    obtain ⟨a, vs, e, q, l⟩ := r
    exact ⟨a, vs, e, h _ _ q, RfK.mono h l⟩
  | .dl _, _, r => by
    simp only [Rf] at r ⊢
    obtain ⟨a, o, us, e, q, l⟩ := r
    exact ⟨a, o, us, e, h _ _ q, RfK.mono h l⟩
  | .ins _ _, _, r => by
    simp only [Rf] at r ⊢
    obtain ⟨a, dx, us, e, q, n, l⟩ := r
    exact ⟨a, dx, us, e, h _ _ q, n, RfL.mono h l⟩
theorem RfL.mono (h : Fz F G) : ∀ {ds : List D} {vs : List V}, RfL c F ds vs → RfL c G ds vs
  | [], _, r => by simpa only [RfL] using r
  | _ :: _, _, r => by
    simp only [RfL] at r ⊢
    obtain ⟨v, s, e, q, l⟩ := r
    exact ⟨v, s, e, Rf.mono h q, RfL.mono h l⟩
theorem RfK.mono (h : Fz F G) : ∀ {ds : List (Key × D)} {vs : List (Key × V)}, RfK c F ds vs → RfK c G ds vs
  | [], _, r => by simpa only [RfK] using r
  | (_, _) :: _, _, r => by
    simp only [RfK] at r ⊢
    obtain ⟨v, s, e, q, l⟩ := r
    exact ⟨v, s, e, Rf.mono h q, RfK.mono h l⟩
end
end
mutual
def OD.er : OD → D
  | .fz d => d
  | .fl xs => .lst xs
  | .fd kvs => .dk kvs
  | .ls os => .lst (OD.erL os)
  | .ins k fs => .ins k (OD.erL fs)
def OD.erL : List OD → List D
  | [] => []
  | o :: r => o.er :: OD.erL r
end
mutual
/-- every instance in it has all its fields -/
def OD.full : OD → Prop
  | .fz _ => True
  | .fl _ => True
  | .fd _ => True
  | .ls os => OD.fullL os
  | .ins k fs => fs.length = (nm k).length ∧ OD.fullL fs
def OD.fullL : List OD → Prop
  | [] => True
  | o :: r => o.full ∧ OD.fullL r
end
section
variable (c : Cls) (F H : Hp) (tg : List Nat → Addr → Prop)
mutual
/-- o is owned: its own nodes bear their places' marks, H tells them; what is frozen F tells -/
def Ro : List Nat → OD → V → Prop
  | _, .fz d, v => Rf c F d v
  | p, .fl xs, v => ∃ a vs, v = .ref a ∧ tg p a ∧ H a = some (.lst vs) ∧ RfL c F xs vs
  | p, .fd kvs, v => ∃ a us, v = .ref a ∧ tg p a ∧ H a = some (.dK us) ∧ RfK c F kvs us
  | p, .ls os, v => ∃ a vs, v = .ref a ∧ tg p a ∧ H a = some (.lst vs) ∧ RoL p 0 os vs
  | p, .ins k fs, v => ∃ a dx us, v = .ref a ∧ tg p a ∧ H a = some (.ins (c.at_ k) dx us) ∧ us.map (·.1) = (nm k).take fs.length ∧ RoL p 0 fs (us.map (·.2))
def RoL : List Nat → Nat → List OD → List V → Prop
  | _, _, [], vs => vs = []
  | p, n, o :: os, vs => ∃ v r, vs = v :: r ∧ Ro (p ++ [n]) o v ∧ RoL p (n + 1) os r
end
end
section
variable {c : Cls} {F H F' H' : Hp} {tg tg' : List Nat → Addr → Prop}
mutual
/-- nodes at p and below are as they were -/
theorem Ro.mono (h : Fz F F') : ∀ {p : List Nat} {o : OD} {v : V}, (∀ q a, p <+: q → tg q a → tg' q a ∧ H' a = H a) → Ro c F H tg p o v → Ro c F' H' tg' p o v
  | _, .fz _, _, _, r => by
    simp only [Ro] at r ⊢
    exact r.mono h
  | p, .fl _, _, k, r => by
    simp only [Ro] at r ⊢
    obtain ⟨a, vs, e, t, q, l⟩ := r
    obtain ⟨t', e'⟩ := k p a (List.prefix_refl _) t
    exact ⟨a, vs, e, t', e'.trans q, l.mono h⟩
  | p, .fd _, _, k, r => by
    simp only [Ro] at r ⊢
    obtain ⟨a, vs, e, t, q, l⟩ := r
    obtain ⟨t', e'⟩ := k p a (List.prefix_refl _) t
    exact ⟨a, vs, e, t', e'.trans q, l.mono h⟩
  | p, .ls _, _, k, r => by
    simp only [Ro] at r ⊢
    obtain ⟨a, vs, e, t, q, l⟩ := r
    obtain ⟨t', e'⟩ := k p a (List.prefix_refl _) t
    exact ⟨a, vs, e, t', e'.trans q, RoL.mono h (fun q a hq => k q a hq) l⟩
  | p, .ins _ _, _, k, r => by
    simp only [Ro] at r ⊢
    obtain ⟨a, dx, us, e, t, q, n, l⟩ := r
    obtain ⟨t', e'⟩ := k p a (List.prefix_refl _) t
    exact ⟨a, dx, us, e, t', e'.trans q, n, RoL.mono h (fun q a hq => k q a hq) l⟩
theorem RoL.mono (h : Fz F F') : ∀ {p : List Nat} {n : Nat} {os : List OD} {vs : List V}, (∀ q a, p <+: q → tg q a → tg' q a ∧ H' a = H a) → RoL c F H tg p n os vs → RoL c F' H' tg' p n os vs
  | _, _, [], _, _, r => by simpa only [RoL] using r
  | p, n, _ :: _, _, k, r => by
    simp only [RoL] at r ⊢
    obtain ⟨v, s, e, q, l⟩ := r
    exact ⟨v, s, e, Ro.mono h (fun q a hq => k q a (List.IsPrefix.trans (List.prefix_append _ _) hq)) q, RoL.mono h k l⟩
end
mutual
/-- read without marks -/
theorem Ro.rf {G : Hp} (h : Fz F G) (g : ∀ q a o, tg q a → H a = some o → G a = some o) : ∀ {p : List Nat} {o : OD} {v : V}, Ro c F H tg p o v → o.full → Rf c G o.er v
  | _, .fz _, _, r, _ => by
    simp only [Ro] at r
    exact r.mono h
  | p, .fl _, _, r, _ => by
    simp only [Ro, OD.er, Rf] at r ⊢
    obtain ⟨a, vs, e, t, q, l⟩ := r
    exact ⟨a, vs, e, g _ _ _ t q, l.mono h⟩
  | p, .fd _, _, r, _ => by
    simp only [Ro, OD.er, Rf] at r ⊢
    obtain ⟨a, vs, e, t, q, l⟩ := r
    exact ⟨a, vs, e, g _ _ _ t q, l.mono h⟩
  | p, .ls _, _, r, f => by
    simp only [OD.full] at f
    simp only [Ro, OD.er, Rf] at r ⊢
    obtain ⟨a, vs, e, t, q, l⟩ := r
    exact ⟨a, vs, e, g _ _ _ t q, RoL.rf h g l f⟩
  | p, .ins _ _, _, r, f => by
    simp only [OD.full] at f
    simp only [Ro, OD.er, Rf] at r ⊢
    obtain ⟨a, dx, us, e, t, q, n, l⟩ := r
    exact ⟨a, dx, us, e, g _ _ _ t q, by rw [n, f.1, List.take_length], RoL.rf h g l f.2⟩
theorem RoL.rf {G : Hp} (h : Fz F G) (g : ∀ q a o, tg q a → H a = some o → G a = some o) : ∀ {p : List Nat} {n : Nat} {os : List OD} {vs : List V}, RoL c F H tg p n os vs → OD.fullL os → RfL c G (OD.erL os) vs
  | _, _, [], _, r, _ => by simpa only [RoL, OD.erL, RfL] using r
  | p, n, _ :: _, _, r, f => by
    simp only [OD.fullL] at f
    simp only [RoL, OD.erL, RfL] at r ⊢
    obtain ⟨v, s, e, q, l⟩ := r
    exact ⟨v, s, e, Ro.rf h g q f.1, RoL.rf h g l f.2⟩
end
end
end TL
namespace TL
open PySem L2
/-! ### places in an owned tree -/
def OD.at : List Nat → OD → Option OD
  | [], o => some o
  | k :: p, .ls os => (os[k]?).bind (OD.at p)
  | k :: p, .ins _ fs => (fs[k]?).bind (OD.at p)
  | _ :: _, _ => none
def OD.put (n : OD) : List Nat → OD → OD
  | [], _ => n
  | k :: p, .ls os => .ls (os.modify k (OD.put n p))
  | k :: p, .ins c fs => .ins c (fs.modify k (OD.put n p))
  | _ :: _, o => o
section
variable {c : Cls} {F H F' H' : Hp} {tg tg' : List Nat → Addr → Prop}
theorem RoL.len : ∀ {os : List OD} {p : List Nat} {n : Nat} {vs : List V}, RoL c F H tg p n os vs → vs.length = os.length
  | [], _, _, _, r => by simp only [RoL] at r; rw [r] <;> rfl
  | _ :: os, _, _, _, r => by
    simp only [RoL] at r
    obtain ⟨v, s, rfl, _, l⟩ := r
    simp only [List.length_cons, l.len]
theorem RfL.len : ∀ {ds : List D} {vs : List V}, RfL c F ds vs → vs.length = ds.length
  | [], _, r => by simp only [RfL] at r; rw [r] <;> rfl
  | _ :: os, _, r => by
    simp only [RfL] at r
    obtain ⟨v, s, rfl, _, l⟩ := r
    simp only [List.length_cons, l.len]
theorem RfL.get : ∀ {ds : List D} {vs : List V} {k : Nat} {d : D}, RfL c F ds vs → ds[k]? = some d → ∃ v, vs[k]? = some v ∧ Rf c F d v
  | [], _, _, _, _, e => by simp at e
  | d :: ds, _, k, x, r, e => by
    simp only [RfL] at r
    obtain ⟨v, s, rfl, q, l⟩ := r
    cases k with
    | zero => simp at e; subst e; exact ⟨v, rfl, q⟩
    | succ k => simpa using l.get (k := k) (by simpa using e)
theorem RfL.back {ds : List D} {vs : List V} {k : Nat} {v : V} (r : RfL c F ds vs) (e : vs[k]? = some v) : ∃ d, ds[k]? = some d ∧ Rf c F d v := by
  have h : k < ds.length := by rw [← r.len]; exact (List.getElem?_eq_some_iff.mp e).1
  obtain ⟨w, h1, h2⟩ := r.get (List.getElem?_eq_getElem h)
  rw [e] at h1
  cases h1
  exact ⟨_, List.getElem?_eq_getElem h, h2⟩
theorem RfL.app : ∀ {ds es : List D} {vs us : List V}, RfL c F ds vs → RfL c F es us → RfL c F (ds ++ es) (vs ++ us)
  | [], _, _, _, r, q => by simp only [RfL] at r; subst r; exact q
  | d :: ds, _, _, _, r, q => by
    simp only [RfL] at r
    obtain ⟨v, s, rfl, a, l⟩ := r
    simp only [List.cons_append, RfL]
    exact ⟨v, s ++ _, rfl, a, l.app q⟩
theorem RfL.one {d : D} {v : V} (h : Rf c F d v) : RfL c F [d] [v] := by simp only [RfL]; exact ⟨v, [], rfl, h, rfl⟩
theorem RfL.nil : RfL c F [] [] := by simp only [RfL]
theorem RfL.cons {d : D} {v : V} {ds : List D} {vs : List V} (h : Rf c F d v) (l : RfL c F ds vs) : RfL c F (d :: ds) (v :: vs) := by simp only [RfL]; exact ⟨v, vs, rfl, h, l⟩
theorem RfL.set : ∀ {ds : List D} {vs : List V} {k : Nat} {d : D} {v : V}, RfL c F ds vs → Rf c F d v → RfL c F (ds.set k d) (vs.set k v)
  | [], _, _, _, _, r, _ => by simp only [RfL] at r; subst r; exact .nil
  | x :: ds, _, k, d, v, r, h => by
    simp only [RfL] at r
    obtain ⟨w, s, rfl, a, l⟩ := r
    cases k with
    | zero => exact .cons h l
    | succ k => exact .cons a (l.set h)
theorem RfL.take {n : Nat} : ∀ {ds : List D} {vs : List V} {n : Nat}, RfL c F ds vs → RfL c F (ds.take n) (vs.take n)
  | [], _, n, r => by simp only [RfL] at r; subst r; simp [RfL]
  | x :: ds, _, n, r => by
    simp only [RfL] at r
    obtain ⟨w, s, rfl, a, l⟩ := r
    cases n with
    | zero => simp [RfL]
    | succ k => simp only [List.take_succ_cons]; exact .cons a (l.take (n := k))
theorem RfL.drop : ∀ {ds : List D} {vs : List V} {n : Nat}, RfL c F ds vs → RfL c F (ds.drop n) (vs.drop n)
  | [], _, n, r => by simp only [RfL] at r; subst r; simp [RfL]
  | x :: ds, _, n, r => by
    simp only [RfL] at r
    obtain ⟨w, s, rfl, a, l⟩ := r
    cases n with
    | zero => exact .cons a l
    | succ k => simp only [List.drop_succ_cons]; exact l.drop (n := k)
theorem RoL.get : ∀ {os : List OD} {p : List Nat} {n k : Nat} {vs : List V} {o : OD}, RoL c F H tg p n os vs → os[k]? = some o → ∃ v, vs[k]? = some v ∧ Ro c F H tg (p ++ [n + k]) o v
  | [], _, _, _, _, _, _, e => by simp at e
  | d :: ds, p, n, k, _, x, r, e => by
    simp only [RoL] at r
    obtain ⟨v, s, rfl, q, l⟩ := r
    cases k with
    | zero => simp at e; subst e; exact ⟨v, rfl, q⟩
    | succ k =>
      obtain ⟨w, h1, h2⟩ := l.get (k := k) (by simpa using e)
      exact ⟨w, by simpa using h1, by rw [show n + (k + 1) = n + 1 + k by omega]; exact h2⟩
theorem RoL.app : ∀ {os : List OD} {p : List Nat} {n : Nat} {vs : List V} {o : OD} {v : V}, RoL c F H tg p n os vs → Ro c F H tg (p ++ [n + os.length]) o v → RoL c F H tg p n (os ++ [o]) (vs ++ [v])
  | [], p, n, _, o, v, r, q => by
    simp only [RoL] at r
    subst r
    simp only [List.nil_append, RoL]
    exact ⟨v, [], rfl, q, rfl⟩
  | d :: ds, p, n, _, o, v, r, q => by
    simp only [RoL] at r
    obtain ⟨w, s, rfl, a, l⟩ := r
    simp only [List.cons_append, RoL]
    refine ⟨w, s ++ [v], rfl, a, l.app ?_⟩
    rw [show n + 1 + ds.length = n + (d :: ds).length by simp only [List.length_cons]; omega]
    exact q
theorem pre_snoc_ne {p q : List Nat} {a b : Nat} (h : (p ++ [a]) <+: q) (h' : (p ++ [b]) <+: q) : a = b := by
  obtain ⟨s, rfl⟩ := h
  obtain ⟨t, e⟩ := h'
  rw [List.append_assoc, List.append_assoc] at e
  have := List.append_cancel_left e
  simp at this
  exact this.1.symm
/-- the list's item k is another tree, with the same or another value; the other items' nodes stay -/
theorem RoL.modify (h : Fz F F') : ∀ {os : List OD} {p : List Nat} {n k : Nat} {vs : List V} {f : OD → OD} {o : OD} {w : V}, RoL c F H tg p n os vs → os[k]? = some o → Ro c F' H' tg' (p ++ [n + k]) (f o) w →
    (∀ q a j, (p ++ [j]) <+: q → j ≠ n + k → tg q a → tg' q a ∧ H' a = H a) → RoL c F' H' tg' p n (os.modify k f) (vs.set k w)
  | [], _, _, _, _, _, _, _, _, e, _, _ => by simp at e
  | d :: ds, p, n, k, _, f, x, w, r, e, z, s => by
    simp only [RoL] at r
    obtain ⟨v, t, rfl, q, l⟩ := r
    cases k with
    | zero =>
      simp at e; subst e
      simp only [List.modify_zero_cons, List.set_cons_zero, RoL]
      refine ⟨w, t, rfl, z, ?_⟩
      have key : ∀ (m : Nat) (es : List OD) (us : List V), n < m → RoL c F H tg p m es us → RoL c F' H' tg' p m es us := by
        intro m es
        induction es generalizing m with
        | nil => intro us _ r; simpa only [RoL] using r
        | cons d ds ih =>
          intro us hm r
          simp only [RoL] at r ⊢
          obtain ⟨v, s', e, q, l⟩ := r
          exact ⟨v, s', e, Ro.mono h (fun q a hq => s q a m hq (by omega)) q, ih _ _ (by omega) l⟩
      exact key _ _ _ (by omega) l
    | succ k =>
      simp only [List.modify_succ_cons, List.set_cons_succ, RoL]
      refine ⟨v, t.set k w, rfl, Ro.mono h (fun q a hq => s q a n hq (by omega)) q, ?_⟩
      refine l.modify h (k := k) (by simpa using e) (by rw [show n + 1 + k = n + (k + 1) by omega]; exact z) fun q a j hq hj => s q a j hq (by omega)
end
/-- the node at p of a tree is another one -/
theorem Ro.at_ {c : Cls} {F H : Hp} {tg : List Nat → Addr → Prop} : ∀ {p r : List Nat} {o x : OD} {v : V}, Ro c F H tg r o v → o.at p = some x → ∃ w, Ro c F H tg (r ++ p) x w
  | [], r, o, x, v, h, e => by simp only [OD.at] at e; cases e; exact ⟨v, by simpa using h⟩
  | k :: p, r, .ls os, x, v, h, e => by
    simp only [OD.at] at e
    cases ho : os[k]? with
    | none => rw [ho] at e; cases e
    | some o =>
      rw [ho] at e
      simp only [Ro] at h
      obtain ⟨a, vs, rfl, t, q, l⟩ := h
      obtain ⟨w, _, h2⟩ := l.get ho
      obtain ⟨u, h3⟩ := h2.at_ (p := p) e
      exact ⟨u, by simpa using h3⟩
  | k :: p, r, .ins _ os, x, v, h, e => by
    simp only [OD.at] at e
    cases ho : os[k]? with
    | none => rw [ho] at e; cases e
    | some o =>
      rw [ho] at e
      simp only [Ro] at h
      obtain ⟨a, dx, us, rfl, t, q, n, l⟩ := h
      obtain ⟨w, _, h2⟩ := l.get ho
      obtain ⟨u, h3⟩ := h2.at_ (p := p) e
      exact ⟨u, by simpa using h3⟩
  | _ :: _, _, .fz _, _, _, _, e => by simp only [OD.at] at e; cases e
  | _ :: _, _, .fl _, _, _, _, e => by simp only [OD.at] at e; cases e
  | _ :: _, _, .fd _, _, _, _, e => by simp only [OD.at] at e; cases e
end TL
namespace TL
open PySem L2
theorem Ro.put {c : Cls} {F H F' H' : Hp} {tg tg' : List Nat → Addr → Prop} (h : Fz F F') {n : OD} : ∀ {p r : List Nat} {o x : OD} {v : V}, Ro c F H tg r o v → o.at p = some x → (∀ w, Ro c F H tg (r ++ p) x w → Ro c F' H' tg' (r ++ p) n w) →
    (∀ q a, ¬ (r ++ p) <+: q → tg q a → tg' q a ∧ H' a = H a) → Ro c F' H' tg' r (OD.put n p o) v
  | [], r, o, x, v, i, e, z, k => by
    simp only [OD.at] at e; cases e
    have := z v (by simpa using i)
    simpa [OD.put] using this
  | j :: p, r, .ls os, x, v, i, e, z, k => by
    simp only [OD.at] at e
    cases ho : os[j]? with
    | none => rw [ho] at e; cases e
    | some o =>
      rw [ho] at e
      simp only [Ro, OD.put] at i ⊢
      obtain ⟨a, vs, rfl, t, q, l⟩ := i
      have hr : ¬ (r ++ j :: p) <+: r := fun z => by have := z.length_le; simp at this; omega
      obtain ⟨t', q'⟩ := k r a hr t
      obtain ⟨w, hw, h2⟩ := l.get ho
      rw [Nat.zero_add] at h2
      refine ⟨a, vs, rfl, t', q'.trans q, ?_⟩
      have hv : vs.set j w = vs := by
        apply List.ext_getElem?
        intro m
        by_cases hm : m = j
        · subst hm; rw [List.getElem?_set_self (List.getElem?_eq_some_iff.mp hw).1, hw]
        · rw [List.getElem?_set_ne (Ne.symm hm)]
      rw [← hv]
      have ih := h2.put (p := p) (n := n) (F' := F') (H' := H') (tg' := tg') h e (fun w hw => by simpa using z w (by simpa using hw)) (fun q a hq ht => k q a (by simpa using hq) ht)
      refine l.modify h ho (by rw [Nat.zero_add]; exact ih) fun q a m hq hm ht => k q a (fun hp => hm ?_) ht
      rw [Nat.zero_add]
      have : (r ++ [j]) <+: q := (List.prefix_append (r ++ [j]) p).trans (by simpa using hp)
      exact pre_snoc_ne hq this
  | j :: p, r, .ins m os, x, v, i, e, z, k => by
    simp only [OD.at] at e
    cases ho : os[j]? with
    | none => rw [ho] at e; cases e
    | some o =>
      rw [ho] at e
      simp only [Ro, OD.put] at i ⊢
      obtain ⟨a, dx, us, rfl, t, q, nn, l⟩ := i
      have hr : ¬ (r ++ j :: p) <+: r := fun z => by have := z.length_le; simp at this; omega
      obtain ⟨t', q'⟩ := k r a hr t
      obtain ⟨w, hw, h2⟩ := l.get ho
      rw [Nat.zero_add] at h2
      refine ⟨a, dx, us, rfl, t', q'.trans q, by rw [nn, List.length_modify], ?_⟩
      have hv : (us.map (·.2)).set j w = us.map (·.2) := by
        apply List.ext_getElem?
        intro m
        by_cases hm : m = j
        · subst hm; rw [List.getElem?_set_self (List.getElem?_eq_some_iff.mp hw).1, hw]
        · rw [List.getElem?_set_ne (Ne.symm hm)]
      rw [← hv]
      have ih := h2.put (p := p) (n := n) (F' := F') (H' := H') (tg' := tg') h e (fun w hw => by simpa using z w (by simpa using hw)) (fun q a hq ht => k q a (by simpa using hq) ht)
      refine l.modify h ho (by rw [Nat.zero_add]; exact ih) fun q a m hq hm ht => k q a (fun hp => hm ?_) ht
      rw [Nat.zero_add]
      have : (r ++ [j]) <+: q := (List.prefix_append (r ++ [j]) p).trans (by simpa using hp)
      exact pre_snoc_ne hq this
  | _ :: _, _, .fz _, _, _, _, e, _, _ => by simp only [OD.at] at e; cases e
  | _ :: _, _, .fl _, _, _, _, e, _, _ => by simp only [OD.at] at e; cases e
  | _ :: _, _, .fd _, _, _, _, e, _, _ => by simp only [OD.at] at e; cases e
/-! ### the state of a body -/
inductive Ent where
  | nil | fz (d : D) | vw (d : D) | ow (o : OD)
abbrev En := List Ent
def Ent.mk : OD → Ent
  | .fz d => .fz d
  | o => .ow o
abbrev Tag := Nat × List Nat
abbrev Ow := Addr → Option Tag
/-- the marks of slot i; those of a new thing are of 0 -/
def tgO (O : Ow) (i : Nat) (p : List Nat) (a : Addr) : Prop := O a = some (i, p)
def uni (F B : Hp) : Hp := fun a => match F a with | some o => some o | none => B a
def Sl (c : Cls) (B F : Hp) (O : Ow) (H : Hp) (i : Nat) : Ent → Option (Option V) → Prop
  | .nil, _ => True
  | .fz d, x => ∃ v, x = some (some v) ∧ Rf c F d v
  | .vw d, x => ∃ v, x = some (some v) ∧ Rf c (uni F B) d v
  | .ow o, x => ∃ v, x = some (some v) ∧ Ro c F H (tgO O (i + 1)) [] o v
structure Sx where
  c : Cls
  /-- what is looked at; what stays; what was frozen at the entry; the slots that are not assigned -/
  W : Hp
  B : Hp
  F0 : Hp
  P : List Nat
  pv : Nat → V
structure St (S : Sx) (E : En) (σ : L2.St) (F : Hp) (O : Ow) (H : Hp) : Prop where
  fh : Fz F H
  bh : Fz S.B H
  vb : Fz S.W S.B
  f0 : Fz S.F0 F
  fn : ∀ a, F a ≠ none → S.F0 a = none → S.B a = none
  ob : ∀ a t, O a = some t → F a = none ∧ S.B a = none ∧ H a ≠ none
  un : ∀ a b t, O a = some t → O b = some t → a = b
  len : E.length = σ.length
  sl : ∀ i e, E[i]? = some e → Sl S.c S.W F O H i e σ[i]?
  pin : ∀ j ∈ S.P, σ[j]? = some (some (S.pv j))
theorem uni_fz {F B H : Hp} (h : Fz F H) (g : Fz B H) : Fz (uni F B) H := fun a o e => by
  unfold uni at e
  split at e
  · rename_i x hx
    cases e; exact h _ _ hx
  · exact g _ _ e
theorem uni_l {F B : Hp} : Fz F (uni F B) := fun a o e => by unfold uni; rw [e]
theorem uni_r {F B H : Hp} (h : Fz F H) (g : Fz B H) : Fz B (uni F B) := fun a o e => by
  unfold uni
  split
  · rename_i x hx
    rw [← h _ _ hx]; exact g _ _ e
  · exact e
theorem uni_mono {F F' B H : Hp} (f : Fz F F') (h : Fz F' H) (g : Fz B H) : Fz (uni F B) (uni F' B) := fun a o e => by
  unfold uni at e
  split at e
  · rename_i x hx
    cases e; exact uni_l _ _ (f _ _ hx)
  · exact uni_r h g _ _ e
theorem Fz.none {F H : Hp} (h : Fz F H) {a : Addr} (e : H a = none) : F a = none := by
  cases q : F a with
  | none => rfl
  | some o => rw [h _ _ q] at e; cases e
theorem Sl.mk {c : Cls} {B F H : Hp} {O : Ow} {i : Nat} {o : OD} {v : V} (h : Ro c F H (tgO O (i + 1)) [] o v) : Sl c B F O H i (Ent.mk o) (some (some v)) := by
  cases o with
  | fz d => exact ⟨v, rfl, by simpa only [Ro] using h⟩
  | _ => exact ⟨v, rfl, h⟩
section
variable {S : Sx} {E : En} {σ : L2.St} {F F' H H' : Hp} {O O' : Ow}
theorem St.nb (I : St S E σ F O H) {a : Addr} {o : HO} (e : S.B a = some o) : O a = none := by
  cases q : O a with
  | none => rfl
  | some t => have := (I.ob a t q).2.1; rw [e] at this; cases this
theorem St.nf (I : St S E σ F O H) {a : Addr} {o : HO} (e : F a = some o) : O a = none := by
  cases q : O a with
  | none => rfl
  | some t => have := (I.ob a t q).1; rw [e] at this; cases this
/-- what is not marked stays, new frozen things are new: all goes on -/
theorem St.grow (I : St S E σ F O H) (f : Fz F F') (g : Fz F' H') (k : ∀ a o, H a = some o → H' a = some o) (n : ∀ a, F' a ≠ none → F a = none → H a = none) : St S E σ F' O H' where
  fh := g
  bh := fun a o e => k _ _ (I.bh _ _ e)
  vb := I.vb
  f0 := I.f0.trans f
  fn := fun a h1 h2 => by
    by_cases c : F a = none
    · exact I.bh.none (n a h1 c)
    · exact I.fn a c h2
  ob := fun a t e => by
    obtain ⟨h1, h2, h3⟩ := I.ob a t e
    refine ⟨?_, h2, ?_⟩
    · cases q : F' a with
      | none => rfl
      | some o => exact absurd (n a (by rw [q]; exact Option.some_ne_none _) h1) h3
    · cases q : H a with
      | none => exact absurd q h3
      | some o => rw [k _ _ q]; exact Option.some_ne_none _
  un := I.un
  len := I.len
  sl := fun i e he => by
    have s := I.sl i e he
    have b : Fz S.W H' := fun a o e => k _ _ (I.bh _ _ (I.vb _ _ e))
    cases e with
    | nil => trivial
    | fz d => obtain ⟨v, e, r⟩ := s; exact ⟨v, e, r.mono f⟩
    | vw d => obtain ⟨v, e, r⟩ := s; exact ⟨v, e, r.mono (uni_mono f g b)⟩
    | ow o =>
      obtain ⟨v, e, r⟩ := s
      refine ⟨v, e, r.mono f fun q a _ t => ⟨t, ?_⟩⟩
      cases z : H a with
      | none => exact absurd z (I.ob a _ t).2.2
      | some o => exact k _ _ z
  pin := I.pin
theorem fz_upd {p : Addr} {o : HO} (h : F p = none) : Fz F (upd F p o) := fun a x e => by
  rw [upd_ne (fun z => by rw [z, h] at e; cases e)]; exact e
theorem fz_upd2 {p : Addr} {o : HO} (h : Fz F H) : Fz (upd F p o) (upd H p o) := fun a x e => by
  by_cases c : a = p
  · subst c; rw [upd_same] at e ⊢; exact e
  · rw [upd_ne c] at e ⊢; exact h _ _ e
/-- a new frozen thing -/
theorem St.newF (I : St S E σ F O H) {p : Addr} (hp : H p = none) (o : HO) : St S E σ (upd F p o) O (upd H p o) :=
  I.grow (fz_upd (I.fh.none hp)) (fz_upd2 I.fh) (fun a x e => by rw [upd_ne (fun z => by rw [z, hp] at e; cases e)]; exact e) fun a h1 h2 => by
    by_cases c : a = p
    · rw [c]; exact hp
    · rw [upd_ne c] at h1; exact absurd h2 h1
/-- a node of slot i's tree, or what stands there, changes -/
theorem St.mut (I : St S E σ F O H) {i : Nat} {o x n : OD} {p : List Nat} (he : E[i]? = some (.ow o)) (hx : o.at p = some x) (f : Fz F F') (g : Fz F' H')
    (fn : ∀ a, F' a ≠ none → F a = none → H a = none ∨ ∃ t, O a = some t)
    (kh : ∀ a, H a ≠ none → (∀ q, O a = some (i + 1, q) → ¬ p <+: q) → H' a = H a)
    (ko : ∀ a j q, O a = some (j + 1, q) → (j = i → ¬ p <+: q) → O' a = some (j + 1, q))
    (ob : ∀ a t, O' a = some t → (O a ≠ none ∨ H a = none) ∧ F' a = none ∧ H' a ≠ none)
    (un : ∀ a b t, O' a = some t → O' b = some t → a = b)
    (new : ∀ w, Ro S.c F H (tgO O (i + 1)) p x w → Ro S.c F' H' (tgO O' (i + 1)) p n w) : St S (E.set i (Ent.mk (OD.put n p o))) σ F' O' H' where
  fh := g
  bh := fun a u e => by
    have h := I.bh _ _ e
    rw [kh a (by rw [h]; exact Option.some_ne_none _) fun q hq => by rw [I.nb e] at hq; cases hq]
    exact h
  vb := I.vb
  f0 := I.f0.trans f
  fn := fun a h1 h2 => by
    by_cases c : F a = none
    · rcases fn a h1 c with h | ⟨t, h⟩
      · exact I.bh.none h
      · exact (I.ob a t h).2.1
    · exact I.fn a c h2
  ob := fun a t e => by
    obtain ⟨h, h1, h2⟩ := ob a t e
    refine ⟨h1, ?_, h2⟩
    rcases h with h | h
    · cases q : O a with
      | none => exact absurd q h
      | some t => exact (I.ob a t q).2.1
    · exact I.bh.none h
  un := un
  len := by rw [List.length_set]; exact I.len
  sl := fun j e hj => by
    have b : Fz S.W H' := I.vb.trans fun a u e => by
      have h := I.bh _ _ e
      rw [kh a (by rw [h]; exact Option.some_ne_none _) fun q hq => by rw [I.nb e] at hq; cases hq]
      exact h
    by_cases hij : i = j
    · subst hij
      have hl : i < E.length := (List.getElem?_eq_some_iff.mp he).1
      rw [List.getElem?_set_self hl] at hj
      cases hj
      obtain ⟨v, e, r⟩ := I.sl i _ he
      rw [e]
      refine Sl.mk (r.put f hx (fun w hw => by simpa using new w (by simpa using hw)) fun q a hq ht => ?_)
      refine ⟨ko a i q ht fun _ => by simpa using hq, kh a (I.ob a _ ht).2.2 fun q' hq' => ?_⟩
      rw [show O a = some (i + 1, q) from ht] at hq'
      cases hq'
      simpa using hq
    · rw [List.getElem?_set_ne hij] at hj
      have s := I.sl j e hj
      cases e with
      | nil => trivial
      | fz d => obtain ⟨v, e, r⟩ := s; exact ⟨v, e, r.mono f⟩
      | vw d => obtain ⟨v, e, r⟩ := s; exact ⟨v, e, r.mono (uni_mono f g b)⟩
      | ow o =>
        obtain ⟨v, e, r⟩ := s
        refine ⟨v, e, r.mono f fun q a _ ht => ⟨ko a j q ht fun z => absurd z.symm hij, kh a (I.ob a _ ht).2.2 fun q' hq' => ?_⟩⟩
        rw [show O a = some (j + 1, q) from ht] at hq'
        cases hq'
        exact absurd rfl hij
  pin := I.pin
open Classical in
/-- what slot i holds at p is frozen -/
theorem St.freeze (I : St S E σ F O H) {i : Nat} {o x : OD} {p : List Nat} (he : E[i]? = some (.ow o)) (hx : o.at p = some x) (full : x.full) :
    ∃ F' O', Fz F F' ∧ St S (E.set i (Ent.mk (OD.put (.fz x.er) p o))) σ F' O' H ∧ (∀ v, Ro S.c F H (tgO O (i + 1)) p x v → Rf S.c F' x.er v) ∧ (∀ a j q, O a = some (j + 1, q) → j ≠ i → O' a = some (j + 1, q)) := by
  let u : Addr → Prop := fun a => ∃ q, O a = some (i + 1, q) ∧ p <+: q
  have f : Fz F (fun a => if u a then H a else F a) := fun a y e => by
    have : ¬ u a := fun ⟨q, h, _⟩ => by rw [I.nf e] at h; cases h
    show (if u a then H a else F a) = _
    rw [if_neg this]; exact e
  have key : ∀ v, Ro S.c F H (tgO O (i + 1)) p x v → Rf S.c (fun a => if u a then H a else F a) x.er v := fun v r => by
    refine (r.mono (tg' := fun q a => O a = some (i + 1, q) ∧ p <+: q) (Fz.refl F) fun q a hq ht => ⟨⟨ht, hq⟩, rfl⟩).rf f (fun q a y ht e => ?_) full
    show (if u a then H a else F a) = _
    rw [if_pos ⟨q, ht⟩]; exact e
  refine ⟨fun a => if u a then H a else F a, fun a => if u a then none else O a, f, ?_, key, fun a j q e hj => by
    show (if u a then none else O a) = _
    rw [if_neg (fun ⟨q', h, hp⟩ => by rw [e] at h; cases h; exact hj rfl)]
    exact e⟩
  refine I.mut he hx f (fun a y e => ?_) (fun a h1 h2 => ?_) (fun _ _ _ => rfl) (fun a j q e hq => ?_) (fun a t e => ?_) (fun a b t h1 h2 => ?_) (fun w hw => by simp only [Ro]; exact key w hw)
  · by_cases c : u a
    · have e : (if u a then H a else F a) = some y := e
      rw [if_pos c] at e; exact e
    · have e : (if u a then H a else F a) = some y := e
      rw [if_neg c] at e; exact I.fh _ _ e
  · by_cases c : u a
    · obtain ⟨q, h, _⟩ := c; exact .inr ⟨_, h⟩
    · have h1 : (if u a then H a else F a) ≠ none := h1
      rw [if_neg c] at h1; exact absurd h2 h1
  · show (if u a then none else O a) = _
    rw [if_neg (fun ⟨q', h, hp⟩ => by rw [e] at h; cases h; exact hq rfl hp)]
    exact e
  · have e : (if u a then none else O a) = some t := e
    split at e
    · cases e
    · rename_i hu
      obtain ⟨h1, h2, h3⟩ := I.ob a t e
      refine ⟨.inl (by rw [e]; exact Option.some_ne_none _), ?_, h3⟩
      show (if u a then H a else F a) = none
      rw [if_neg hu]; exact h1
  · have h1 : (if u a then none else O a) = some t := h1
    have h2 : (if u b then none else O b) = some t := h2
    split at h1
    · cases h1
    split at h2
    · cases h2
    exact I.un a b t h1 h2
end
end TL
namespace TL
open PySem L2
/-! ### results -/
inductive Res where
  | fz (d : D) | vw (d : D)
  /-- slot i's tree at p -/
  | pl (i : Nat) (p : List Nat) (o : OD)
  /-- a new thing of one's own -/
  | nw (o : OD)
def Res.d : Res → D
  | .fz d => d
  | .vw d => d
  | .pl _ _ o => o.er
  | .nw o => o.er
def Res.full : Res → Prop
  | .pl _ _ o => o.full
  | .nw o => o.full
  | _ => True
/-- what is seen in a thing that is looked at -/
def mkVw : D → Res
  | .non => .fz .non
  | .bl b => .fz (.bl b)
  | .int i => .fz (.int i)
  | .str x => .fz (.str x)
  | .cst v => .fz (.cst v)
  | d => .vw d
def mkPl (i : Nat) (p : List Nat) : OD → Res
  | .fz d => .fz d
  | o => .pl i p o
/-- it holds behind what came between -/
def Res.now (E : En) : Res → Prop
  | .fz _ => True
  | .vw _ => True
  | .pl i p o => p = [] ∧ E[i]? = some (.ow o)
  | .nw _ => False
def RR (S : Sx) (E : En) (σ : L2.St) (F : Hp) (O : Ow) (H : Hp) : Res → V → Prop
  | .fz d, v => Rf S.c F d v
  | .vw d, v => Rf S.c (uni F S.W) d v
  | .pl i p o, v => (∃ r, E[i]? = some (.ow r) ∧ r.at p = some o) ∧ (p = [] → σ[i]? = some (some v)) ∧ Ro S.c F H (tgO O (i + 1)) p o v
  | .nw o, v => Ro S.c F H (tgO O 0) [] o v
section
variable {S : Sx} {E E' : En} {σ : L2.St} {F F' H H' : Hp} {O O' : Ow} {r : Res} {v : V}
theorem St.wh (I : St S E σ F O H) : Fz S.W H := I.vb.trans I.bh
theorem RR.rf (I : St S E σ F O H) (h : RR S E σ F O H r v) (f : r.full) : Rf S.c H r.d v := by
  cases r with
  | fz d => exact h.mono I.fh
  | vw d => exact h.mono (uni_fz I.fh I.wh)
  | pl i p o => exact h.2.2.rf I.fh (fun _ _ _ _ e => e) f
  | nw o => exact h.rf I.fh (fun _ _ _ _ e => e) f
theorem RR.now (h : RR S E σ F O H r v) (f : Fz F F') (I : St S E' σ F' O' H') (n : r.now E') : RR S E' σ F' O' H' r v := by
  cases r with
  | fz d => exact h.mono f
  | vw d => exact h.mono (uni_mono f I.fh I.wh)
  | pl i p o =>
    obtain ⟨rfl, e⟩ := n
    obtain ⟨w, hw, r⟩ := I.sl i _ e
    obtain rfl : w = v := by
      have := h.2.1 rfl
      rw [this] at hw; simpa using hw.symm
    exact ⟨⟨o, e, rfl⟩, fun _ => hw, r⟩
  | nw o => exact n.elim
theorem RR.mkVw {d : D} (h : Rf S.c (uni F S.W) d v) : RR S E σ F O H (mkVw d) v := by
  cases d <;> first | exact h | (simp only [Rf] at h; simp only [TL.mkVw, RR, Rf]; exact h)
end
def RRs (S : Sx) (E : En) (σ : L2.St) (F : Hp) (O : Ow) (H : Hp) : List Res → List V → Prop
  | [], vs => vs = []
  | r :: rs, vs => ∃ v us, vs = v :: us ∧ RR S E σ F O H r v ∧ RRs S E σ F O H rs us
def nowK (E : En) : Res → Prop → Prop
  | .fz _, p => p
  | .vw _, p => p
  | .pl i q o, p => (q = [] ∧ E[i]? = some (.ow o)) ∧ p
  | .nw _, _ => False
theorem nowK_ok {E : En} {r : Res} {p : Prop} (h : nowK E r p) : r.now E ∧ p := by
  cases r with
  | fz d => exact ⟨trivial, h⟩
  | vw d => exact ⟨trivial, h⟩
  | pl i q o => exact h
  | nw o => exact h.elim
def odK : OD → Prop → Prop
  | .fz _, p => p
  | .fl _, p => p
  | .fd _, p => p
  | o, p => o.full ∧ p
theorem odK_ok {o : OD} {p : Prop} (h : odK o p) : o.full ∧ p := by
  cases o with
  | fz d => exact ⟨trivial, h⟩
  | fl d => exact ⟨trivial, h⟩
  | fd d => exact ⟨trivial, h⟩
  | ls d => exact h
  | ins d => exact h
def fullK : Res → Prop → Prop
  | .fz _, p => p
  | .vw _, p => p
  | .pl _ _ o, p => odK o p
  | .nw o, p => odK o p
theorem fullK_ok {r : Res} {p : Prop} (h : fullK r p) : r.full ∧ p := by
  cases r with
  | fz d => exact ⟨trivial, h⟩
  | vw d => exact ⟨trivial, h⟩
  | pl i q o => exact odK_ok h
  | nw o => exact odK_ok h
def blK : Res → (Bool → Prop) → Prop
  | .fz (.bl b), K => K b
  | _, _ => False
theorem blK_ok {r : Res} {K : Bool → Prop} (h : blK r K) : ∃ b, r.d = .bl b ∧ r.full ∧ K b := by
  cases r with
  | fz d =>
    cases d with
    | bl b => exact ⟨b, rfl, trivial, h⟩
    | _ => exact h.elim
  | _ => exact h.elim
def intK : Res → (Int → Prop) → Prop
  | .fz (.int i), K => K i
  | _, _ => False
theorem intK_ok {r : Res} {K : Int → Prop} (h : intK r K) : ∃ i, r.d = .int i ∧ r.full ∧ K i := by
  cases r with
  | fz d =>
    cases d with
    | int b => exact ⟨b, rfl, trivial, h⟩
    | _ => exact h.elim
  | _ => exact h.elim
/-- a test that is told, or two ways -/
def ifK : Bool → Prop → Prop → Prop
  | true, p, _ => p
  | false, _, q => q
theorem ifK_eq {b : Bool} {p q : Prop} (h : ifK b p q) : if b = true then p else q := by
  cases b with
  | true => exact h
  | false => exact h
theorem ifK_d {b : Bool} {p q : Prop} (h1 : b = true → p) (h2 : b = false → q) : ifK b p q := by
  cases b with
  | true => exact h1 rfl
  | false => exact h2 rfl
/-! ### the readings' trees -/
abbrev TX := En → (Res → En → Prop) → Prop
abbrev TXT := En → (Bool → En → Prop) → Prop
abbrev TXA := En → (List Res → En → Prop) → Prop
structure TEnds where
  nx : En → Prop
  rt : Res → En → Prop
  bk : En → Prop := fun _ => False
  ct : En → Prop := fun _ => False
abbrev TXS := TEnds → En → Prop
abbrev TXG := Res → En → (En → Prop) → Prop
abbrev TXGs := List Res → En → (En → Prop) → Prop
class LfE (c : Cls) (P : List Nat) (W F0 : Hp) (pv : Nat → V) (te : TE) (T : outParam TX) : Prop where
  run : ∀ {B : Hp} {E : En} {σ : L2.St} {F : Hp} {O : Ow} {H : Hp} {K : Res → En → Prop} {Q : VK}, St ⟨c, W, B, F0, P, pv⟩ E σ F O H → T E K →
    (∀ r E' v F' O' H', K r E' → Fz F F' → St ⟨c, W, B, F0, P, pv⟩ E' σ F' O' H' → RR ⟨c, W, B, F0, P, pv⟩ E' σ F' O' H' r v → Q v H') → te σ H Q
class LfT (c : Cls) (P : List Nat) (W F0 : Hp) (pv : Nat → V) (tt : TT) (T : outParam TXT) : Prop where
  run : ∀ {B : Hp} {E : En} {σ : L2.St} {F : Hp} {O : Ow} {H : Hp} {K : Bool → En → Prop} {Q : Bool → Hp → Prop}, St ⟨c, W, B, F0, P, pv⟩ E σ F O H → T E K →
    (∀ b E' F' O' H', K b E' → Fz F F' → St ⟨c, W, B, F0, P, pv⟩ E' σ F' O' H' → Q b H') → tt σ H Q
class LfA (c : Cls) (P : List Nat) (W F0 : Hp) (pv : Nat → V) (ta : TA) (T : outParam TXA) : Prop where
  run : ∀ {B : Hp} {E : En} {σ : L2.St} {F : Hp} {O : Ow} {H : Hp} {K : List Res → En → Prop} {Q : List V → Hp → Prop}, St ⟨c, W, B, F0, P, pv⟩ E σ F O H → T E K →
    (∀ rs E' vs F' O' H', K rs E' → Fz F F' → St ⟨c, W, B, F0, P, pv⟩ E' σ F' O' H' → RRs ⟨c, W, B, F0, P, pv⟩ E' σ F' O' H' rs vs → Q vs H') → ta σ H Q
structure EOk (S : Sx) (F : Hp) (TD : TEnds) (D : Ends) : Prop where
  nx : ∀ E' σ' F' O' H', TD.nx E' → Fz F F' → St S E' σ' F' O' H' → D.nx σ' H'
  rt : ∀ r E' σ' v F' O' H', TD.rt r E' → Fz F F' → St S E' σ' F' O' H' → RR S E' σ' F' O' H' r v → D.rt v H'
  bk : ∀ E' σ' F' O' H', TD.bk E' → Fz F F' → St S E' σ' F' O' H' → D.bk σ' H'
  ct : ∀ E' σ' F' O' H', TD.ct E' → Fz F F' → St S E' σ' F' O' H' → D.ct σ' H'
theorem EOk.mono {S : Sx} {F F' : Hp} {TD : TEnds} {D : Ends} (h : EOk S F TD D) (f : Fz F F') : EOk S F' TD D :=
  ⟨fun E' σ' F' O' H' a b => h.nx E' σ' F' O' H' a (f.trans b), fun r E' σ' v F' O' H' a b => h.rt r E' σ' v F' O' H' a (f.trans b), fun E' σ' F' O' H' a b => h.bk E' σ' F' O' H' a (f.trans b), fun E' σ' F' O' H' a b => h.ct E' σ' F' O' H' a (f.trans b)⟩
class LfS (c : Cls) (P : List Nat) (W F0 : Hp) (pv : Nat → V) (t : TS) (T : outParam TXS) : Prop where
  run : ∀ {E : En} {σ : L2.St} {F : Hp} {O : Ow} {H : Hp} {TD : TEnds} {D : Ends}, St ⟨c, W, W, F0, P, pv⟩ E σ F O H → T TD E → EOk ⟨c, W, W, F0, P, pv⟩ F TD D → t D σ H
class LfG (c : Cls) (P : List Nat) (W F0 : Hp) (pv : Nat → V) (g : TG) (T : outParam TXG) : Prop where
  run : ∀ {B : Hp} {E : En} {σ : L2.St} {F : Hp} {O : Ow} {H : Hp} {r : Res} {v : V} {K : En → Prop} {Q : L2.St → Hp → Prop}, St ⟨c, W, B, F0, P, pv⟩ E σ F O H → RR ⟨c, W, B, F0, P, pv⟩ E σ F O H r v → T r E K →
    (∀ E' σ' F' O' H', K E' → Fz F F' → St ⟨c, W, B, F0, P, pv⟩ E' σ' F' O' H' → Q σ' H') → g v σ H Q
class LfGs (c : Cls) (P : List Nat) (W F0 : Hp) (pv : Nat → V) (g : TGs) (T : outParam TXGs) : Prop where
  run : ∀ {B : Hp} {E : En} {σ : L2.St} {F : Hp} {O : Ow} {H : Hp} {rs : List Res} {vs : List V} {K : En → Prop} {Q : L2.St → Hp → Prop}, St ⟨c, W, B, F0, P, pv⟩ E σ F O H → RRs ⟨c, W, B, F0, P, pv⟩ E σ F O H rs vs → T rs E K →
    (∀ E' σ' F' O' H', K E' → Fz F F' → St ⟨c, W, B, F0, P, pv⟩ E' σ' F' O' H' → Q σ' H') → g vs σ H Q
section
variable {c : Cls} {P : List Nat} {W F0 : Hp} {pv : Nat → V}
/-! ### names and constants -/
def TVar (i : Nat) : TX := fun E K => match E[i]? with
  | some (.fz d) => K (.fz d) E
  | some (.vw d) => K (.vw d) E
  | some (.ow o) => K (.pl i [] o) E
  | _ => False
instance lf_var {i : Nat} : LfE c P W F0 pv (tVar i) (TVar i) := ⟨fun {B E σ F O H K Q} I h q => by
  unfold TVar at h
  split at h
  · rename_i d e
    obtain ⟨v, hv, r⟩ := I.sl i _ e
    exact ⟨v, hv, q _ _ _ _ _ _ h (.refl _) I r⟩
  · rename_i d e
    obtain ⟨v, hv, r⟩ := I.sl i _ e
    exact ⟨v, hv, q _ _ _ _ _ _ h (.refl _) I r⟩
  · rename_i o e
    obtain ⟨v, hv, r⟩ := I.sl i _ e
    exact ⟨v, hv, q _ _ _ _ _ _ h (.refl _) I ⟨⟨o, e, rfl⟩, fun _ => hv, r⟩⟩
  · exact h.elim⟩
def atomD : V → D
  | .non => .non
  | .bl b => .bl b
  | .int i => .int i
  | .str x => .str x
  | v => .cst v
theorem atomD_rf {F : Hp} {v : V} : Rf c F (atomD v) v := by cases v <;> simp only [atomD, Rf]
def TC (d : D) : TX := fun E K => K (.fz d) E
instance lf_c {v : V} : LfE c P W F0 pv (tC v) (TC (atomD v)) := ⟨fun {B E σ F O H K Q} I h q => q _ _ _ _ _ _ h (.refl _) I atomD_rf⟩
/-! ### arguments -/
def TNil : TXA := fun E K => K [] E
/-- what a slot holds behind what came between -/
def refK (E : En) : Res → (Res → Prop) → Prop
  | .fz d, K => K (.fz d)
  | .vw d, K => K (.vw d)
  | .pl i q _, K => q = [] ∧ match E[i]? with
    | some (.ow o) => K (.pl i [] o)
    | some (.fz d) => K (.fz d)
    | _ => False
  | .nw _, _ => False
theorem refK_ok {S : Sx} {E E' : En} {σ : L2.St} {F F' H H' : Hp} {O O' : Ow} {r : Res} {v : V} {K : Res → Prop} (h : RR S E σ F O H r v) (f : Fz F F') (I : St S E' σ F' O' H') (k : refK E' r K) : ∃ r', RR S E' σ F' O' H' r' v ∧ K r' := by
  cases r with
  | fz d => exact ⟨.fz d, h.mono f, k⟩
  | vw d => exact ⟨.vw d, h.mono (uni_mono f I.fh I.wh), k⟩
  | nw o => exact k.elim
  | pl i p o =>
    obtain ⟨rfl, k⟩ := k
    have hs := h.2.1 rfl
    split at k
    · rename_i o' e
      obtain ⟨w, hw, ro⟩ := I.sl i _ e
      rw [hs] at hw
      obtain rfl : v = w := by simpa using hw
      exact ⟨.pl i [] o', ⟨⟨o', e, rfl⟩, fun _ => hs, ro⟩, k⟩
    · rename_i d e
      obtain ⟨w, hw, ro⟩ := I.sl i _ e
      rw [hs] at hw
      obtain rfl : v = w := by simpa using hw
      exact ⟨.fz d, ro, k⟩
    · exact k.elim
def TCons (T : TX) (U : TXA) : TXA := fun E K => T E fun x E1 => U E1 fun xs E2 => refK E2 x fun x => K (x :: xs) E2
instance lf_nil : LfA c P W F0 pv tNil TNil := ⟨fun {B E σ F O H K Q} I h q => q _ _ _ _ _ _ h (.refl _) I rfl⟩
instance lf_cons {ta : TE} {tr : TA} {T : TX} {U : TXA} [a : LfE c P W F0 pv ta T] [b : LfA c P W F0 pv tr U] : LfA c P W F0 pv (tCons ta tr) (TCons T U) := ⟨fun {B E σ F O H K Q} I h q =>
  a.run I h fun x E1 v F1 O1 H1 h1 f1 I1 r1 => b.run I1 h1 fun xs E2 vs F2 O2 H2 h2 f2 I2 r2 =>
    let ⟨_, rr, k⟩ := refK_ok r1 f2 I2 h2
    q _ _ _ _ _ _ k (f1.trans f2) I2 ⟨v, vs, rfl, rr, r2⟩⟩
/-- the last one may be new -/
instance (priority := high) lf_one {ta : TE} {T : TX} [a : LfE c P W F0 pv ta T] : LfA c P W F0 pv (tCons ta tNil) (fun E K => T E fun x E1 => K [x] E1) := ⟨fun {B E σ F O H K Q} I h q =>
  a.run I h fun x E1 v F1 O1 H1 h1 f1 I1 r1 => q _ _ _ _ _ _ h1 f1 I1 ⟨v, [], rfl, r1, rfl⟩⟩
/-! ### operations on values -/
abbrev RX := D → D → (D → Prop) → Prop
class LfR (c : Cls) (r : R2) (R : outParam RX) : Prop where
  run : ∀ {H : Hp} {x y : V} {dx dy : D} {Q : VK} {K : D → Prop}, Rf c H dx x → Rf c H dy y → R dx dy K → (∀ d v, K d → (∀ F, Rf c F d v) → Q v H) → r x y H Q
class LfU (c : Cls) (r : V → Hp → VK → Prop) (R : outParam (D → (D → Prop) → Prop)) : Prop where
  run : ∀ {H : Hp} {x : V} {dx : D} {Q : VK} {K : D → Prop}, Rf c H dx x → R dx K → (∀ d v, K d → (∀ F, Rf c F d v) → Q v H) → r x H Q
def TOp (R : RX) (T U : TX) : TX := fun E K => T E fun x E1 => U E1 fun y E2 => nowK E2 x (fullK x (fullK y (R x.d y.d fun d => K (.fz d) E2)))
instance lf_op {r : R2} {ta tb : TE} {R : RX} {T U : TX} [z : LfR c r R] [a : LfE c P W F0 pv ta T] [b : LfE c P W F0 pv tb U] : LfE c P W F0 pv (tOp r ta tb) (TOp R T U) := ⟨fun {B E σ F O H K Q} I h q =>
  a.run I h fun x E1 v F1 O1 H1 h1 f1 I1 r1 => b.run I1 h1 fun y E2 u F2 O2 H2 h2 f2 I2 r2 =>
    have h2 : x.now E2 ∧ x.full ∧ y.full ∧ R x.d y.d fun d => K (.fz d) E2 := ⟨(nowK_ok h2).1, (fullK_ok (nowK_ok h2).2).1, (fullK_ok (fullK_ok (nowK_ok h2).2).2)⟩
    z.run ((r1.now f2 I2 h2.1).rf I2 h2.2.1) (r2.rf I2 h2.2.2.1) h2.2.2.2 fun d w k rw => q _ _ _ _ _ _ k (f1.trans f2) I2 (rw _)⟩
def TUn (R : D → (D → Prop) → Prop) (T : TX) : TX := fun E K => T E fun x E1 => fullK x (R x.d fun d => K (.fz d) E1)
instance lf_un {r : V → Hp → VK → Prop} {ta : TE} {R : D → (D → Prop) → Prop} {T : TX} [z : LfU c r R] [a : LfE c P W F0 pv ta T] : LfE c P W F0 pv (tUn r ta) (TUn R T) := ⟨fun {B E σ F O H K Q} I h q =>
  a.run I h fun x E1 v F1 O1 H1 h1 f1 I1 r1 => z.run (r1.rf I1 (fullK_ok h1).1) (fullK_ok h1).2 fun d w k rw => q _ _ _ _ _ _ k f1 I1 (rw _)⟩
def RI (C : Int → Int → Prop) (g : Int → Int → V) : RX := fun x y K => match x, y with
  | .int i, .int j => C i j ∧ K (atomD (g i j))
  | _, _ => False
def RI0 (g : Int → Int → V) : RX := fun x y K => match x, y with
  | .int i, .int j => K (atomD (g i j))
  | _, _ => False
instance lf_rI {C : Int → Int → Prop} {g : Int → Int → V} : LfR c (rI C g) (RI C g) := ⟨fun {H x y dx dy Q K} hx hy h q => by
  unfold RI at h
  split at h
  rotate_left
  · exact h.elim
  rename_i i j
  obtain ⟨hc, k⟩ := h
  exact ⟨i, j, by simpa only [Rf] using hx, by simpa only [Rf] using hy, hc, q _ _ k fun _ => atomD_rf⟩⟩
instance lf_rI0 {g : Int → Int → V} : LfR c (rI0 g) (RI0 g) := ⟨fun {H x y dx dy Q K} hx hy h q => by
  unfold RI0 at h
  split at h
  rotate_left
  · exact h.elim
  rename_i i j
  have k := h
  exact ⟨i, j, by simpa only [Rf] using hx, by simpa only [Rf] using hy, q _ _ k fun _ => atomD_rf⟩⟩
/-- == of plain things of one kind -/
def eqD : D → D → (Bool → Prop) → Prop
  | .int a, .int b, K => K (decide (a = b))
  | .str a, .str b, K => K (decide (a = b))
  | .bl a, .bl b, K => K (decide (a = b))
  | .non, .non, K => K true
  | _, _, _ => False
theorem eqD_ok {F : Hp} {dx dy : D} {x y : V} {K : Bool → Prop} (hx : Rf c F dx x) (hy : Rf c F dy y) (h : eqD dx dy K) : scal x y = true ∧ K (decide (x = y)) := by
  unfold eqD at h
  split at h
  · simp only [Rf] at hx hy
    subst hx hy
    exact ⟨rfl, by simpa only [V.int.injEq] using h⟩
  · simp only [Rf] at hx hy
    subst hx hy
    exact ⟨rfl, by simpa only [V.str.injEq] using h⟩
  · simp only [Rf] at hx hy
    subst hx hy
    exact ⟨rfl, by simpa only [V.bl.injEq] using h⟩
  · simp only [Rf] at hx hy
    subst hx hy
    exact ⟨rfl, by simpa using h⟩
  · exact h.elim
def REq : RX := fun x y K => eqD x y fun b => K (.bl b)
def RNe : RX := fun x y K => eqD x y fun b => K (.bl (!b))
instance lf_eq : LfR c rEq REq := ⟨fun {H x y dx dy Q K} hx hy h q => by
  obtain ⟨hs, k⟩ := eqD_ok hx hy h
  exact ⟨hs, q _ _ k fun _ => by simp only [Rf]⟩⟩
instance lf_ne : LfR c rNe RNe := ⟨fun {H x y dx dy Q K} hx hy h q => by
  obtain ⟨hs, k⟩ := eqD_ok hx hy h
  exact ⟨hs, q _ _ k fun _ => by simp only [Rf]⟩⟩
/-! ### tests -/
def TTest (T : TX) : TXT := fun E K => T E fun r E1 => blK r fun b => K b E1
instance lf_tB {t : TE} {T : TX} [a : LfE c P W F0 pv t T] : LfT c P W F0 pv (tB t) (TTest T) := ⟨fun {B E σ F O H K Q} I h q =>
  a.run I h fun r E1 v F1 O1 H1 h1 f1 I1 r1 => by
    obtain ⟨b, e, f, k⟩ := blK_ok h1
    have := r1.rf I1 f
    rw [e] at this
    exact ⟨b, by simpa only [Rf] using this, q _ _ _ _ _ k f1 I1⟩⟩
instance lf_tTest {t : TE} {T : TX} [a : LfE c P W F0 pv t T] : LfT c P W F0 pv (tTest t) (TTest T) := ⟨fun {B E σ F O H K Q} I h q =>
  a.run I h fun r E1 v F1 O1 H1 h1 f1 I1 r1 => by
    obtain ⟨b, e, f, k⟩ := blK_ok h1
    have := r1.rf I1 f
    rw [e] at this
    exact ⟨b, by simpa only [Rf] using this, q _ _ _ _ _ k f1 I1⟩⟩
instance lf_yes : LfT c P W F0 pv tYes (fun E K => K true E) := ⟨fun {B E σ F O H K Q} I h q => q _ _ _ _ _ h (.refl _) I⟩
def TAnd (T U : TXT) : TXT := fun E K => T E fun b E1 => ifK b (U E1 K) (K false E1)
def TOr (T U : TXT) : TXT := fun E K => T E fun b E1 => ifK b (K true E1) (U E1 K)
def TNot (T : TXT) : TXT := fun E K => T E fun b E1 => K (!b) E1
instance lf_and {t u : TT} {T U : TXT} [a : LfT c P W F0 pv t T] [b : LfT c P W F0 pv u U] : LfT c P W F0 pv (tAnd t u) (TAnd T U) := ⟨fun {B E σ F O H K Q} I h q =>
  a.run I h fun x E1 F1 O1 H1 h1 f1 I1 => by
    cases x with
    | true => rw [if_pos rfl]; exact b.run I1 h1 fun y E2 F2 O2 H2 h2 f2 I2 => q _ _ _ _ _ h2 (f1.trans f2) I2
    | false => rw [if_neg Bool.false_ne_true]; exact q _ _ _ _ _ h1 f1 I1⟩
instance lf_or {t u : TT} {T U : TXT} [a : LfT c P W F0 pv t T] [b : LfT c P W F0 pv u U] : LfT c P W F0 pv (tOr t u) (TOr T U) := ⟨fun {B E σ F O H K Q} I h q =>
  a.run I h fun x E1 F1 O1 H1 h1 f1 I1 => by
    cases x with
    | false => rw [if_neg Bool.false_ne_true]; exact b.run I1 h1 fun y E2 F2 O2 H2 h2 f2 I2 => q _ _ _ _ _ h2 (f1.trans f2) I2
    | true => rw [if_pos rfl]; exact q _ _ _ _ _ h1 f1 I1⟩
instance lf_not {t : TT} {T : TXT} [a : LfT c P W F0 pv t T] : LfT c P W F0 pv (tNot t) (TNot T) := ⟨fun {B E σ F O H K Q} I h q =>
  a.run I h fun x E1 F1 O1 H1 h1 f1 I1 => q _ _ _ _ _ h1 f1 I1⟩
def TAndV (T U : TX) : TX := fun E K => T E fun r E1 => blK r fun b => ifK b (U E1 K) (K (.fz (.bl false)) E1)
def TOrV (T U : TX) : TX := fun E K => T E fun r E1 => blK r fun b => ifK b (K (.fz (.bl true)) E1) (U E1 K)
def TNotV (T : TX) : TX := fun E K => T E fun r E1 => blK r fun b => K (.fz (.bl (!b))) E1
instance lf_andV {t u : TE} {T U : TX} [a : LfE c P W F0 pv t T] [b : LfE c P W F0 pv u U] : LfE c P W F0 pv (tAndV t u) (TAndV T U) := ⟨fun {B E σ F O H K Q} I h q =>
  a.run I h fun r E1 v F1 O1 H1 h1 f1 I1 r1 => by
    obtain ⟨x, e, f, k⟩ := blK_ok h1
    have := r1.rf I1 f
    rw [e] at this
    refine ⟨x, by simpa only [Rf] using this, ?_⟩
    cases x with
    | true => rw [if_pos rfl]; exact b.run I1 k fun y E2 w F2 O2 H2 h2 f2 I2 r2 => q _ _ _ _ _ _ h2 (f1.trans f2) I2 r2
    | false => rw [if_neg Bool.false_ne_true]; exact q _ _ _ _ _ _ k f1 I1 (by simp only [RR, Rf])⟩
instance lf_orV {t u : TE} {T U : TX} [a : LfE c P W F0 pv t T] [b : LfE c P W F0 pv u U] : LfE c P W F0 pv (tOrV t u) (TOrV T U) := ⟨fun {B E σ F O H K Q} I h q =>
  a.run I h fun r E1 v F1 O1 H1 h1 f1 I1 r1 => by
    obtain ⟨x, e, f, k⟩ := blK_ok h1
    have := r1.rf I1 f
    rw [e] at this
    refine ⟨x, by simpa only [Rf] using this, ?_⟩
    cases x with
    | false => rw [if_neg Bool.false_ne_true]; exact b.run I1 k fun y E2 w F2 O2 H2 h2 f2 I2 r2 => q _ _ _ _ _ _ h2 (f1.trans f2) I2 r2
    | true => rw [if_pos rfl]; exact q _ _ _ _ _ _ k f1 I1 (by simp only [RR, Rf])⟩
instance lf_notV {t : TE} {T : TX} [a : LfE c P W F0 pv t T] : LfE c P W F0 pv (tNotV t) (TNotV T) := ⟨fun {B E σ F O H K Q} I h q =>
  a.run I h fun r E1 v F1 O1 H1 h1 f1 I1 r1 => by
    obtain ⟨x, e, f, k⟩ := blK_ok h1
    have := r1.rf I1 f
    rw [e] at this
    exact ⟨x, by simpa only [Rf] using this, q _ _ _ _ _ _ k f1 I1 (by simp only [RR, Rf])⟩⟩
def TIte (C : TXT) (T U : TX) : TX := fun E K => C E fun b E1 => ifK b (T E1 K) (U E1 K)
instance lf_ite {t : TT} {ta tb : TE} {C : TXT} {T U : TX} [z : LfT c P W F0 pv t C] [a : LfE c P W F0 pv ta T] [b : LfE c P W F0 pv tb U] : LfE c P W F0 pv (tIf t ta tb) (TIte C T U) := ⟨fun {B E σ F O H K Q} I h q =>
  z.run I h fun x E1 F1 O1 H1 h1 f1 I1 => by
    cases x with
    | true => rw [if_pos rfl]; exact a.run I1 h1 fun y E2 w F2 O2 H2 h2 f2 I2 r2 => q _ _ _ _ _ _ h2 (f1.trans f2) I2 r2
    | false => rw [if_neg Bool.false_ne_true]; exact b.run I1 h1 fun y E2 w F2 O2 H2 h2 f2 I2 r2 => q _ _ _ _ _ _ h2 (f1.trans f2) I2 r2⟩
/-! ### statements -/
def TSeq (T U : TXS) : TXS := fun D E => T { D with nx := U D } E
def TIf (C : TXT) (T U : TXS) : TXS := fun D E => C E fun b E1 => ifK b (T D E1) (U D E1)
def TRet (T : TX) : TXS := fun D E => T E D.rt
def TDrop (T : TX) : TXS := fun D E => T E fun _ E1 => D.nx E1
def TAsg (T : TX) (G : TXG) : TXS := fun D E => T E fun x E1 => G x E1 D.nx
instance lf_next : LfS c P W F0 pv tNext (fun D E => D.nx E) := ⟨fun I h k => k.nx _ _ _ _ _ h (.refl _) I⟩
instance lf_break : LfS c P W F0 pv tBreak (fun D E => D.bk E) := ⟨fun I h k => k.bk _ _ _ _ _ h (.refl _) I⟩
instance lf_cont : LfS c P W F0 pv tCont (fun D E => D.ct E) := ⟨fun I h k => k.ct _ _ _ _ _ h (.refl _) I⟩
instance lf_never : LfS c P W F0 pv tNever (fun _ _ => False) := ⟨fun _ h _ => h⟩
instance lf_seq {t u : TS} {T U : TXS} [a : LfS c P W F0 pv t T] [b : LfS c P W F0 pv u U] : LfS c P W F0 pv (tSeq t u) (TSeq T U) := ⟨fun {E σ F O H TD D} I h k =>
  a.run I h ⟨fun E' σ' F' O' H' h1 f1 I1 => b.run I1 h1 (k.mono f1), k.rt, k.bk, k.ct⟩⟩
instance lf_if {t : TT} {ta tb : TS} {C : TXT} {T U : TXS} [z : LfT c P W F0 pv t C] [a : LfS c P W F0 pv ta T] [b : LfS c P W F0 pv tb U] : LfS c P W F0 pv (tIfS t ta tb) (TIf C T U) := ⟨fun {E σ F O H TD D} I h k =>
  z.run I h fun x E1 F1 O1 H1 h1 f1 I1 => by
    cases x with
    | true => rw [if_pos rfl]; exact a.run I1 h1 (k.mono f1)
    | false => rw [if_neg Bool.false_ne_true]; exact b.run I1 h1 (k.mono f1)⟩
instance lf_ret {te : TE} {T : TX} [a : LfE c P W F0 pv te T] : LfS c P W F0 pv (tRet te) (TRet T) := ⟨fun {E σ F O H TD D} I h k =>
  a.run I h fun r E1 v F1 O1 H1 h1 f1 I1 r1 => k.rt _ _ _ _ _ _ _ h1 f1 I1 r1⟩
instance lf_retN : LfS c P W F0 pv tRetN (fun D E => D.rt (.fz .non) E) := ⟨fun {E σ F O H TD D} I h k => k.rt _ _ _ _ _ _ _ h (.refl _) I (by simp only [RR, Rf])⟩
instance lf_drop {te : TE} {T : TX} [a : LfE c P W F0 pv te T] : LfS c P W F0 pv (tDrop te) (TDrop T) := ⟨fun {E σ F O H TD D} I h k =>
  a.run I h fun r E1 v F1 O1 H1 h1 f1 I1 r1 => k.nx _ _ _ _ _ h1 f1 I1⟩
instance lf_asg {te : TE} {g : TG} {T : TX} {G : TXG} [a : LfE c P W F0 pv te T] [b : LfG c P W F0 pv g G] : LfS c P W F0 pv (tAsg te g) (TAsg T G) := ⟨fun {E σ F O H TD D} I h k =>
  a.run I h fun r E1 v F1 O1 H1 h1 f1 I1 r1 => b.run I1 r1 h1 fun E' σ' F' O' H' h2 f2 I2 => k.nx _ _ _ _ _ h2 (f1.trans f2) I2⟩
end
end TL
namespace TL
open PySem L2
section
variable {S : Sx} {E E' : En} {σ : L2.St} {F F' H H' : Hp} {O O' : Ow} {r : Res} {v : V}
theorem St.set (I : St S E σ F O H) {k : Nat} {e : Ent} {x : Option V} (hk : k ∉ S.P) (ko : ∀ a j q, O a = some (j + 1, q) → j ≠ k → O' a = some (j + 1, q)) (ob : ∀ a t, O' a = some t → O a ≠ none) (un : ∀ a b t, O' a = some t → O' b = some t → a = b)
    (s : Sl S.c S.W F O' H k e (some x)) : St S (E.set k e) (σ.set k x) F O' H where
  fh := I.fh
  bh := I.bh
  vb := I.vb
  f0 := I.f0
  fn := I.fn
  ob := fun a t h => by
    cases q : O a with
    | none => exact absurd q (ob a t h)
    | some t => exact I.ob a t q
  un := un
  len := by rw [List.length_set, List.length_set]; exact I.len
  sl := fun j y hj => by
    by_cases hkj : k = j
    · subst hkj
      have hl : k < E.length := by
        have := (List.getElem?_eq_some_iff.mp hj).1
        rw [List.length_set] at this
        exact this
      rw [List.getElem?_set_self hl] at hj
      cases hj
      rw [List.getElem?_set_self (by rw [← I.len]; exact hl)]
      exact s
    · rw [List.getElem?_set_ne hkj] at hj ⊢
      have z := I.sl j y hj
      cases y with
      | nil => trivial
      | fz d => exact z
      | vw d => exact z
      | ow o =>
        obtain ⟨w, e, r⟩ := z
        exact ⟨w, e, r.mono (.refl _) fun q a _ t => ⟨ko a j q t (fun z => hkj z.symm), rfl⟩⟩
  pin := fun j hj => by rw [List.getElem?_set_ne (fun z => hk (by rw [z]; exact hj))]; exact I.pin j hj
theorem St.set0 (I : St S E σ F O H) {k : Nat} {e : Ent} {x : Option V} (hk : k ∉ S.P) (s : Sl S.c S.W F O H k e (some x)) : St S (E.set k e) (σ.set k x) F O H :=
  I.set hk (fun _ _ _ h _ => h) (fun a t h => by rw [h]; exact Option.some_ne_none _) I.un s
/-- marks 0 become those of slot k -/
def retag (k : Nat) (O : Ow) : Ow := fun a => match O a with
  | some (m, q) => if m = 0 then some (k, q) else if m = k then none else some (m, q)
  | none => none
theorem retag_some {k : Nat} {a : Addr} {t : Tag} (h : retag k O a = some t) : ∃ m, O a = some (m, t.2) ∧ ((m = 0 ∧ t.1 = k) ∨ (m ≠ 0 ∧ m ≠ k ∧ t.1 = m)) := by
  unfold retag at h
  split at h
  · rename_i m q e
    by_cases h0 : m = 0
    · rw [if_pos h0] at h; cases h; exact ⟨m, e, .inl ⟨h0, rfl⟩⟩
    · rw [if_neg h0] at h
      by_cases h1 : m = k
      · rw [if_pos h1] at h; cases h
      · rw [if_neg h1] at h; cases h; exact ⟨m, e, .inr ⟨h0, h1, rfl⟩⟩
  · cases h
theorem retag_un (un : ∀ a b t, O a = some t → O b = some t → a = b) {k : Nat} : ∀ a b t, retag k O a = some t → retag k O b = some t → a = b := fun a b t h1 h2 => by
  obtain ⟨m, e1, c1⟩ := retag_some h1
  obtain ⟨n, e2, c2⟩ := retag_some h2
  have : m = n := by omega
  subst this
  exact un a b _ e1 e2
theorem St.setN (I : St S E σ F O H) {k : Nat} {o : OD} (hk : k ∉ S.P) (s : Ro S.c F H (tgO O 0) [] o v) : St S (E.set k (Ent.mk o)) (σ.set k (some v)) F (retag (k + 1) O) H :=
  I.set hk (fun a j q h hj => by
    unfold retag
    rw [h]
    show (if j + 1 = 0 then _ else if j + 1 = k + 1 then _ else _) = _
    rw [if_neg (by omega), if_neg (by omega)]) (fun a t h => by
    obtain ⟨m, e, _⟩ := retag_some h
    rw [e]; exact Option.some_ne_none _) (retag_un I.un)
    (Sl.mk (s.mono (.refl _) fun q a _ t => ⟨by
      show retag (k + 1) O a = some (k + 1, q)
      unfold retag
      rw [show O a = some (0, q) from t]; rfl, rfl⟩))
/-- a new thing of one's own -/
def newT (p : Addr) (O : Ow) : Ow := fun a => if a = p then some (0, []) else match O a with
  | some (m, q) => if m = 0 then none else some (m, q)
  | none => none
theorem newT_ne {p a : Addr} {t : Tag} (h : newT p O a = some t) (hn : a ≠ p) : O a = some t ∧ t.1 ≠ 0 := by
  unfold newT at h
  rw [if_neg hn] at h
  split at h
  · rename_i m q e
    by_cases h0 : m = 0
    · rw [if_pos h0] at h; cases h
    · rw [if_neg h0] at h; cases h; exact ⟨e, h0⟩
  · cases h
theorem newT_self {p : Addr} : newT p O p = some (0, []) := by unfold newT; rw [if_pos rfl]
theorem newT_keep {p a : Addr} {j : Nat} {q : List Nat} (h : O a = some (j + 1, q)) (hn : a ≠ p) : newT p O a = some (j + 1, q) := by
  unfold newT
  rw [if_neg hn, h]; rfl
theorem St.newO (I : St S E σ F O H) {p : Addr} (hp : H p = none) (o : HO) : St S E σ F (newT p O) (upd H p o) := by
  have op : O p = none := by
    cases q : O p with
    | none => rfl
    | some t => exact absurd hp (I.ob p t q).2.2
  have hk : ∀ a o', H a = some o' → upd H p o a = some o' := fun a o' e => by rw [upd_ne (fun z => by rw [z, hp] at e; cases e)]; exact e
  refine { fh := fun a o' e => hk _ _ (I.fh _ _ e), bh := fun a o' e => hk _ _ (I.bh _ _ e), vb := I.vb, f0 := I.f0, fn := I.fn, ob := fun a t h => ?_, un := fun a b t h1 h2 => ?_, len := I.len, sl := fun j y hj => ?_, pin := I.pin }
  · by_cases c : a = p
    · subst c; exact ⟨I.fh.none hp, I.bh.none hp, by rw [upd_same]; exact Option.some_ne_none _⟩
    · obtain ⟨e, _⟩ := newT_ne h c
      obtain ⟨h1, h2, h3⟩ := I.ob a t e
      exact ⟨h1, h2, by rw [upd_ne c]; exact h3⟩
  · by_cases c : a = p
    · subst c
      rw [newT_self] at h1; cases h1
      by_cases d : b = a
      · exact d.symm
      · exact absurd rfl (newT_ne h2 d).2
    · by_cases d : b = p
      · subst d
        rw [newT_self] at h2; cases h2
        exact absurd rfl (newT_ne h1 c).2
      · exact I.un a b t (newT_ne h1 c).1 (newT_ne h2 d).1
  · have z := I.sl j y hj
    cases y with
    | nil => trivial
    | fz d => exact z
    | vw d => exact z
    | ow x =>
      obtain ⟨w, e, r⟩ := z
      refine ⟨w, e, r.mono (.refl _) fun q a _ t => ?_⟩
      have ha : a ≠ p := fun z => by subst z; rw [show O a = some (j + 1, q) from t] at op; cases op
      exact ⟨newT_keep t ha, upd_ne ha⟩
end
/-! ### what is put into a thing is frozen -/
def Frz : List Res → En → (List D → En → Prop) → Prop
  | [], E, K => K [] E
  | .fz d :: rs, E, K => Frz rs E fun ds E' => K (d :: ds) E'
  | .pl i p o :: rs, E, K => (p = [] ∧ E[i]? = some (.ow o)) ∧ odK o (Frz rs (E.set i (.fz o.er)) fun ds E' => K (o.er :: ds) E')
  | _, _, _ => False
theorem Frz.ok {S : Sx} {σ : L2.St} {H : Hp} : ∀ {rs : List Res} {vs : List V} {E : En} {F : Hp} {O : Ow} {K : List D → En → Prop}, St S E σ F O H → (∀ (k : Nat) (r : Res), rs[k]? = some r → ∃ v, vs[k]? = some v ∧ (match r with
      | .fz d => Rf S.c F d v
      | .pl i p o => p = [] → σ[i]? = some (some v)
      | _ => True)) → rs.length = vs.length → Frz rs E K → ∃ ds E' F' O', K ds E' ∧ Fz F F' ∧ St S E' σ F' O' H ∧ RfL S.c F' ds vs
  | [], vs, E, F, O, K, I, _, hl, h => ⟨[], E, F, O, h, .refl _, I, by cases vs with | nil => exact .nil | cons => cases hl⟩
  | .fz d :: rs, vs, E, F, O, K, I, hr, hl, h => by
    cases vs with
    | nil => cases hl
    | cons v vs =>
      obtain ⟨w, e, r⟩ := hr 0 _ rfl
      simp at e; subst e
      obtain ⟨ds, E', F', O', k, f, J, l⟩ := Frz.ok (rs := rs) (vs := vs) I (fun k r e => by simpa using hr (k + 1) r (by simpa using e)) (by simpa using hl) h
      exact ⟨d :: ds, E', F', O', k, f, J, .cons (Rf.mono f r) l⟩
  | .pl i p o :: rs, vs, E, F, O, K, I, hr, hl, h => by
    cases vs with
    | nil => cases hl
    | cons v vs =>
      obtain ⟨⟨rfl, e⟩, h⟩ := h
      obtain ⟨full, h⟩ := odK_ok h
      obtain ⟨w, e2, r⟩ := hr 0 _ rfl
      simp at e2; subst e2
      have hv := r rfl
      obtain ⟨F1, O1, f1, J1, k1, _⟩ := I.freeze e (p := []) rfl full
      have e3 : Ent.mk (OD.put (.fz o.er) [] o) = .fz o.er := rfl
      rw [e3] at J1
      obtain ⟨w2, hw2, ro⟩ := I.sl i _ e
      rw [hv] at hw2
      obtain rfl : v = w2 := by simpa using hw2
      obtain ⟨ds, E', F', O', k, f, J, l⟩ := Frz.ok (rs := rs) (vs := vs) J1 (fun k r e => by
        obtain ⟨w, h1, h2⟩ := hr (k + 1) r (by simpa using e)
        refine ⟨w, by simpa using h1, ?_⟩
        cases r with
        | fz d => exact Rf.mono f1 h2
        | vw d => trivial
        | pl j q o => exact h2
        | nw o => trivial) (by simpa using hl) h
      exact ⟨o.er :: ds, E', F', O', k, f1.trans f, J, .cons (Rf.mono f (k1 _ ro)) l⟩
  | .vw d :: rs, vs, E, F, O, K, I, hr, hl, h => h.elim
  | .nw d :: rs, vs, E, F, O, K, I, hr, hl, h => h.elim
theorem RRs.frz {S : Sx} {E : En} {σ : L2.St} {F : Hp} {O : Ow} {H : Hp} : ∀ {rs : List Res} {vs : List V}, RRs S E σ F O H rs vs → rs.length = vs.length ∧ ∀ (k : Nat) (r : Res), rs[k]? = some r → ∃ v, vs[k]? = some v ∧ (match r with
      | .fz d => Rf S.c F d v
      | .pl i p o => p = [] → σ[i]? = some (some v)
      | _ => True)
  | [], vs, h => ⟨by simp only [RRs] at h; subst h; rfl, fun k r e => by simp at e⟩
  | x :: rs, vs, h => by
    simp only [RRs] at h
    obtain ⟨v, us, rfl, h1, h2⟩ := h
    obtain ⟨l, g⟩ := RRs.frz h2
    refine ⟨by simp [l], fun k r e => ?_⟩
    cases k with
    | zero =>
      simp at e; subst e
      refine ⟨v, rfl, ?_⟩
      cases x with
      | fz d => exact h1
      | pl i p o => exact h1.2.1
      | vw d => trivial
      | nw d => trivial
    | succ k => simpa using g k r (by simpa using e)
section
variable {c : Cls} {P : List Nat} {W F0 : Hp} {pv : Nat → V}
def TTup (T : TXA) : TX := fun E K => T E fun rs E1 => Frz rs E1 fun ds E2 => ds.length ≤ 100000 ∧ K (.fz (.tup ds)) E2
def TLst (T : TXA) : TX := fun E K => T E fun rs E1 => Frz rs E1 fun ds E2 => ds.length ≤ 100000 ∧ K (.fz (.lst ds)) E2
/-- a list that will be changed -/
def TLstN (T : TXA) : TX := fun E K => T E fun rs E1 => Frz rs E1 fun ds E2 => ds.length ≤ 100000 ∧ K (.nw (.fl ds)) E2
theorem szL {n : Nat} (h : n ≤ 100000) : n ≤ sizeLine := Nat.le_trans h (by decide)
theorem szL2 {n : Nat} (h : n < 100000) : n < sizeLine := Nat.lt_of_lt_of_le h (by decide)
instance lf_tup {t : TA} {T : TXA} [a : LfA c P W F0 pv t T] : LfE c P W F0 pv (tTup t) (TTup T) := ⟨fun {B E σ F O H K Q} I h q =>
  a.run I h fun rs E1 vs F1 O1 H1 h1 f1 I1 r1 => by
    obtain ⟨ds, E2, F2, O2, k, f2, I2, l⟩ := Frz.ok I1 r1.frz.2 r1.frz.1 h1
    refine ⟨szL (by rw [l.len]; exact k.1), fun p hp => q _ _ _ _ _ _ k.2 (f1.trans (f2.trans (fz_upd (I2.fh.none hp)))) (I2.newF hp (.tup vs)) ?_⟩
    simp only [RR, Rf]
    exact ⟨p, vs, rfl, upd_same, l.mono (fz_upd (I2.fh.none hp))⟩⟩
instance lf_lst {t : TA} {T : TXA} [a : LfA c P W F0 pv t T] : LfE c P W F0 pv (tLst t) (TLst T) := ⟨fun {B E σ F O H K Q} I h q =>
  a.run I h fun rs E1 vs F1 O1 H1 h1 f1 I1 r1 => by
    obtain ⟨ds, E2, F2, O2, k, f2, I2, l⟩ := Frz.ok I1 r1.frz.2 r1.frz.1 h1
    refine ⟨szL (by rw [l.len]; exact k.1), fun p hp => q _ _ _ _ _ _ k.2 (f1.trans (f2.trans (fz_upd (I2.fh.none hp)))) (I2.newF hp (.lst vs)) ?_⟩
    simp only [RR, Rf]
    exact ⟨p, vs, rfl, upd_same, l.mono (fz_upd (I2.fh.none hp))⟩⟩
/-- what is made here will be changed -/
def tNw (t : TE) : TE := t
theorem pe_nw {X : Cx} {e : Expr} {t : TE} (h : PE X e t) : PE X e (tNw t) := h
theorem ps_nw {X : Cx} {st : Stmt} {t : TE} {g : TG} (h : PS X st (tAsg t g)) : PS X st (tAsg (tNw t) g) := h
instance lf_lstN {t : TA} {T : TXA} [a : LfA c P W F0 pv t T] : LfE c P W F0 pv (tNw (tLst t)) (TLstN T) := ⟨fun {B E σ F O H K Q} I h q =>
  a.run I h fun rs E1 vs F1 O1 H1 h1 f1 I1 r1 => by
    obtain ⟨ds, E2, F2, O2, k, f2, I2, l⟩ := Frz.ok I1 r1.frz.2 r1.frz.1 h1
    refine ⟨szL (by rw [l.len]; exact k.1), fun p hp => q _ _ _ _ _ _ k.2 (f1.trans f2) (I2.newO hp (.lst vs)) ?_⟩
    simp only [RR, Ro]
    exact ⟨p, vs, rfl, newT_self, upd_same, l⟩⟩
/-! ### targets -/
def TName (P : List Nat) (i : Nat) : TXG := fun r E K => i ∉ P ∧ match r with
  | .fz d => K (E.set i (.fz d))
  | .vw d => K (E.set i (.vw d))
  | .nw o => K (E.set i (Ent.mk o))
  | .pl j p o => p = [] ∧ odK o (K ((E.set j (.fz o.er)).set i (.fz o.er)))
instance lf_gName {i : Nat} : LfG c P W F0 pv (gName i) (TName P i) := ⟨fun {B E σ F O H r v K Q} I rr h q => by
  obtain ⟨hi, h⟩ := h
  cases r with
  | fz d => exact q _ _ _ _ _ h (.refl _) (I.set0 hi ⟨v, rfl, rr⟩)
  | vw d => exact q _ _ _ _ _ h (.refl _) (I.set0 hi ⟨v, rfl, rr⟩)
  | nw o => exact q _ _ _ _ _ h (.refl _) (I.setN hi rr)
  | pl j p o =>
    obtain ⟨rfl, h⟩ := h
    obtain ⟨full, h⟩ := odK_ok h
    obtain ⟨⟨root, e, hr⟩, hs, ro⟩ := rr
    cases hr
    obtain ⟨F1, O1, f1, J1, k1, _⟩ := I.freeze e (p := []) rfl full
    exact q _ _ _ _ _ h f1 (J1.set0 hi ⟨v, rfl, k1 v ro⟩)⟩
def TGNil : TXGs := fun rs E K => match rs with
  | [] => K E
  | _ => False
def stlK : List Res → Prop → Prop
  | [], p => p
  | .fz _ :: rs, p => stlK rs p
  | .vw _ :: rs, p => stlK rs p
  | _, _ => False
theorem stlK_ok : ∀ {rs : List Res} {p : Prop}, stlK rs p → (∀ x ∈ rs, ∃ d, x = .fz d ∨ x = .vw d) ∧ p
  | [], p, h => ⟨fun x hx => by (cases hx), h⟩
  | .fz d :: rs, p, h => by
    obtain ⟨a, b⟩ := stlK_ok (rs := rs) h
    exact ⟨fun x hx => by (rcases List.mem_cons.mp hx with rfl | hx; exact ⟨d, .inl rfl⟩; exact a x hx), b⟩
  | .vw d :: rs, p, h => by
    obtain ⟨a, b⟩ := stlK_ok (rs := rs) h
    exact ⟨fun x hx => by (rcases List.mem_cons.mp hx with rfl | hx; exact ⟨d, .inr rfl⟩; exact a x hx), b⟩
  | .pl _ _ _ :: _, _, h => h.elim
  | .nw _ :: _, _, h => h.elim
def TGCons (T : TXG) (U : TXGs) : TXGs := fun rs E K => match rs with
  | r :: rest => T r E fun E1 => stlK rest (U rest E1 K)
  | [] => False
instance lf_gNil : LfGs c P W F0 pv gNil TGNil := ⟨fun {B E σ F O H rs vs K Q} I rr h q => by
  cases rs with
  | nil => exact ⟨rr, q _ _ _ _ _ h (.refl _) I⟩
  | cons r rs => exact h.elim⟩
theorem RRs.still {S : Sx} {E E' : En} {σ σ' : L2.St} {F F' : Hp} {O O' : Ow} {H H' : Hp} (f : Fz F F') (I : St S E' σ' F' O' H') : ∀ {rs : List Res} {vs : List V}, (∀ x ∈ rs, ∃ d, x = .fz d ∨ x = .vw d) → RRs S E σ F O H rs vs → RRs S E' σ' F' O' H' rs vs
  | [], _, _, h => h
  | x :: rs, vs, a, h => by
    simp only [RRs] at h ⊢
    obtain ⟨v, us, e, h1, h2⟩ := h
    refine ⟨v, us, e, ?_, RRs.still f I (fun y hy => a y (List.mem_cons_of_mem _ hy)) h2⟩
    obtain ⟨d, rfl | rfl⟩ := a x List.mem_cons_self
    · exact Rf.mono f h1
    · exact Rf.mono (uni_mono f I.fh I.wh) h1
instance lf_gCons {g : TG} {gs : TGs} {T : TXG} {U : TXGs} [a : LfG c P W F0 pv g T] [b : LfGs c P W F0 pv gs U] : LfGs c P W F0 pv (gCons g gs) (TGCons T U) := ⟨fun {B E σ F O H rs vs K Q} I rr h q => by
  cases rs with
  | nil => exact h.elim
  | cons r rest =>
  simp only [RRs] at rr
  obtain ⟨v, us, rfl, r1, r2⟩ := rr
  refine ⟨v, us, rfl, a.run I r1 h fun E1 σ1 F1 O1 H1 h1 f1 I1 => b.run I1 (r2.still f1 I1 (stlK_ok h1).1) (stlK_ok h1).2 fun E2 σ2 F2 O2 H2 h2 f2 I2 => q _ _ _ _ _ h2 (f1.trans f2) I2⟩⟩
theorem rrs_fz {S : Sx} {E : En} {σ : L2.St} {F : Hp} {O : Ow} {H : Hp} : ∀ {ds : List D} {vs : List V}, RfL S.c F ds vs → RRs S E σ F O H (ds.map .fz) vs
  | [], _, h => by simp only [RfL] at h; exact h
  | d :: ds, vs, h => by
    simp only [RfL] at h
    obtain ⟨v, r, rfl, a, b⟩ := h
    exact ⟨v, r, rfl, a, rrs_fz b⟩
theorem rrs_vw {S : Sx} {E : En} {σ : L2.St} {F : Hp} {O : Ow} {H : Hp} : ∀ {ds : List D} {vs : List V}, RfL S.c (uni F S.W) ds vs → RRs S E σ F O H (ds.map mkVw) vs
  | [], _, h => by simp only [RfL] at h; exact h
  | d :: ds, vs, h => by
    simp only [RfL] at h
    obtain ⟨v, r, rfl, a, b⟩ := h
    exact ⟨v, r, rfl, RR.mkVw a, rrs_vw b⟩
/-- the items of a tuple or list -/
def Res.seq : Res → Option (List Res)
  | .fz (.tup ds) => some (ds.map .fz)
  | .fz (.lst ds) => some (ds.map .fz)
  | .vw (.tup ds) => some (ds.map mkVw)
  | .vw (.lst ds) => some (ds.map mkVw)
  | _ => none
def TGTup (n : Nat) (U : TXGs) : TXG := fun r E K => match r with
  | .fz (.tup ds) => ds.length = n ∧ U (ds.map .fz) E K
  | .vw (.tup ds) => ds.length = n ∧ U (ds.map mkVw) E K
  | _ => False
instance lf_gTup {K : PySem.W.Frag} {n : Nat} {t : TGs} {U : TXGs} [a : LfGs c P W F0 pv t U] : LfG c P W F0 pv (gTup K n t) (TGTup n U) := ⟨fun {B E σ F O H r v K Q} I rr h q => by
  unfold TGTup at h
  split at h
  rotate_left 2
  · exact h.elim
  · rename_i ds
    obtain ⟨hn, h⟩ := h
    simp only [RR, Rf] at rr
    obtain ⟨p, vs, rfl, e, l⟩ := rr
    exact ⟨p, vs, rfl, SqT.of (I.fh _ _ e), by rw [l.len]; exact hn, a.run I (rrs_fz l) h q⟩
  · rename_i ds
    obtain ⟨hn, h⟩ := h
    simp only [RR, Rf] at rr
    obtain ⟨p, vs, rfl, e, l⟩ := rr
    exact ⟨p, vs, rfl, SqT.of (uni_fz I.fh I.wh _ _ e), by rw [l.len]; exact hn, a.run I (rrs_vw l) h q⟩⟩
/-! ### subscripts -/
def atIK {α : Type} (ds : List α) (i : Int) (K : α → Prop) : Prop := match L2.atI ds i with
  | some d => K d
  | none => False
theorem atIK_ok {α : Type} {ds : List α} {i : Int} {K : α → Prop} (h : atIK ds i K) : ∃ d, L2.atI ds i = some d ∧ K d := by
  unfold atIK at h
  split at h
  · rename_i d e; exact ⟨d, e, h⟩
  · exact h.elim
theorem atIK_of {α : Type} {ds : List α} {i : Int} {K : α → Prop} {d : α} (e : L2.atI ds i = some d) (k : K d) : atIK ds i K := by
  unfold atIK
  rw [e]; exact k
def TIxL (T U : TX) : TX := fun E K => T E fun x E1 => U E1 fun y E2 => nowK E2 x <| intK y fun i => match x with
  | .fz (.lst ds) => atIK ds i fun d => K (.fz d) E2
  | .vw (.lst ds) => atIK ds i fun d => K (mkVw d) E2
  | .pl _ _ (.fl ds) => atIK ds i fun d => K (.fz d) E2
  | _ => False
def TIxT (T U : TX) : TX := fun E K => T E fun x E1 => U E1 fun y E2 => nowK E2 x <| intK y fun i => match x with
  | .fz (.tup ds) => atIK ds i fun d => K (.fz d) E2
  | .vw (.tup ds) => atIK ds i fun d => K (mkVw d) E2
  | _ => False
theorem RfL.atI {F : Hp} {ds : List D} {vs : List V} {i : Int} {d : D} (l : RfL c F ds vs) (e : L2.atI ds i = some d) : ∃ v, L2.atI vs i = some v ∧ Rf c F d v := by
  unfold L2.atI at e ⊢
  rw [l.len]
  cases h : ixN ds.length i with
  | none => rw [h] at e; cases e
  | some j => rw [h] at e; exact l.get e
instance lf_ixL {K : PySem.W.Frag} {ta tb : TE} {T U : TX} [a : LfE c P W F0 pv ta T] [b : LfE c P W F0 pv tb U] : LfE c P W F0 pv (tOp (rIxL K) ta tb) (TIxL T U) := ⟨fun {B E σ F O H K Q} I h q =>
  a.run I h fun x E1 v F1 O1 H1 h1 f1 I1 r1 => b.run I1 h1 fun y E2 u F2 O2 H2 h2 f2 I2 r2 => by
    obtain ⟨hn, h2⟩ := nowK_ok h2
    obtain ⟨i, ei, fy, h2⟩ := intK_ok h2
    have q2 := r2.rf I2 fy
    rw [ei] at q2
    obtain rfl : u = .int i := by simpa only [Rf] using q2
    have r1 := r1.now f2 I2 hn
    split at h2
    · rename_i ds
      obtain ⟨d, e, k⟩ := atIK_ok h2
      simp only [RR, Rf] at r1
      obtain ⟨p, vs, rfl, g, l⟩ := r1
      obtain ⟨w, e2, rw⟩ := l.atI e
      exact ⟨p, vs, i, w, rfl, rfl, SqL.of (I2.fh _ _ g), e2, q _ _ _ _ _ _ k (f1.trans f2) I2 rw⟩
    · rename_i ds
      obtain ⟨d, e, k⟩ := atIK_ok h2
      simp only [RR, Rf] at r1
      obtain ⟨p, vs, rfl, g, l⟩ := r1
      obtain ⟨w, e2, rw⟩ := l.atI e
      exact ⟨p, vs, i, w, rfl, rfl, SqL.of (uni_fz I2.fh I2.wh _ _ g), e2, q _ _ _ _ _ _ k (f1.trans f2) I2 (RR.mkVw rw)⟩
    · rename_i ds
      obtain ⟨d, e, k⟩ := atIK_ok h2
      have r1 := r1.2.2
      simp only [Ro] at r1
      obtain ⟨p, vs, rfl, _, g, l⟩ := r1
      obtain ⟨w, e2, rw⟩ := l.atI e
      exact ⟨p, vs, i, w, rfl, rfl, SqL.of g, e2, q _ _ _ _ _ _ k (f1.trans f2) I2 rw⟩
    · exact h2.elim⟩
instance lf_ixT {K : PySem.W.Frag} {ta tb : TE} {T U : TX} [a : LfE c P W F0 pv ta T] [b : LfE c P W F0 pv tb U] : LfE c P W F0 pv (tOp (rIxT K) ta tb) (TIxT T U) := ⟨fun {B E σ F O H K Q} I h q =>
  a.run I h fun x E1 v F1 O1 H1 h1 f1 I1 r1 => b.run I1 h1 fun y E2 u F2 O2 H2 h2 f2 I2 r2 => by
    obtain ⟨hn, h2⟩ := nowK_ok h2
    obtain ⟨i, ei, fy, h2⟩ := intK_ok h2
    have q2 := r2.rf I2 fy
    rw [ei] at q2
    obtain rfl : u = .int i := by simpa only [Rf] using q2
    have r1 := r1.now f2 I2 hn
    split at h2
    · rename_i ds
      obtain ⟨d, e, k⟩ := atIK_ok h2
      simp only [RR, Rf] at r1
      obtain ⟨p, vs, rfl, g, l⟩ := r1
      obtain ⟨w, e2, rw⟩ := l.atI e
      exact ⟨p, vs, i, w, rfl, rfl, SqT.of (I2.fh _ _ g), e2, q _ _ _ _ _ _ k (f1.trans f2) I2 rw⟩
    · rename_i ds
      obtain ⟨d, e, k⟩ := atIK_ok h2
      simp only [RR, Rf] at r1
      obtain ⟨p, vs, rfl, g, l⟩ := r1
      obtain ⟨w, e2, rw⟩ := l.atI e
      exact ⟨p, vs, i, w, rfl, rfl, SqT.of (uni_fz I2.fh I2.wh _ _ g), e2, q _ _ _ _ _ _ k (f1.trans f2) I2 (RR.mkVw rw)⟩
    · exact h2.elim⟩
instance lf_ixS : LfR c rIxS (fun x y K => match x, y with
  | .str z, .int i => z.length ≤ 100000 ∧ atIK z.cps.toList i fun k => K (.str ⟨#[k]⟩)
  | _, _ => False) := ⟨fun {H x y dx dy Q K} hx hy h q => by
  split at h
  rotate_left
  · exact h.elim
  rename_i z i
  obtain ⟨hl, h⟩ := h
  obtain ⟨k, e, hk⟩ := atIK_ok h
  exact ⟨z, i, k, by simpa only [Rf] using hx, by simpa only [Rf] using hy, szL hl, e, q _ _ hk fun _ => by simp only [Rf]⟩⟩
end
end TL
namespace TL
open PySem L2
/-! ### calls -/
/-- how an argument goes: frozen, looked at, lent -/
inductive Md where | f | v | l
abbrev TSp := List Ent → (Ent → List Ent → Prop) → Prop
abbrev Sc (c : Cls) (B F : Hp) : Sx := ⟨c, B, B, F, [], fun _ => .non⟩
/-- a def's promise, over trees -/
def lift (c : Cls) (md : List Md) (tsp : TSp) : Sp := fun vs H Q _ => ∃ (B F : Hp) (O : Ow) (as : List Ent) (K : Ent → List Ent → Prop), as.length = vs.length ∧ St (Sc c B F) as (vs.map some) F O H ∧
  tsp as K ∧ ∀ r as' v F' O' H', K r as' → Fz F F' → as'.length = vs.length → St (Sc c B F) (as' ++ [r]) (vs.map some ++ [some v]) F' O' H' → Q v H'
def vwE : D → Ent
  | .non => .fz .non
  | .bl b => .fz (.bl b)
  | .int i => .fz (.int i)
  | .str x => .fz (.str x)
  | .cst v => .fz (.cst v)
  | d => .vw d
/-- first what goes frozen -/
def frzs : List Md → List Res → En → (En → Prop) → Prop
  | .f :: md, .pl i p o :: rs, E, K => (p = [] ∧ E[i]? = some (.ow o)) ∧ odK o (frzs md rs (E.set i (.fz o.er)) K)
  | _ :: md, _ :: rs, E, K => frzs md rs E K
  | _, _, E, K => K E
/-- the slots that are frozen; those that are lent, with their places -/
def frzL : List Md → List Res → List Nat
  | .f :: md, .pl i _ _ :: rs => i :: frzL md rs
  | _ :: md, _ :: rs => frzL md rs
  | _, _ => []
def lntL : Nat → List Md → List Res → List (Nat × Nat)
  | j, .l :: md, .pl i _ _ :: rs => (i, j) :: lntL (j + 1) md rs
  | j, _ :: md, _ :: rs => lntL (j + 1) md rs
  | _, _, _ => []
/-- what the callee gets -/
def asOf (E : En) (fl ll : List Nat) : List Md → List Res → (List Ent → Prop) → Prop
  | .f :: md, .fz d :: rs, K => asOf E fl ll md rs fun as => K (.fz d :: as)
  | .f :: md, .pl _ _ o :: rs, K => asOf E fl ll md rs fun as => K (.fz o.er :: as)
  | .v :: md, .fz d :: rs, K => asOf E fl ll md rs fun as => K (vwE d :: as)
  | .v :: md, .vw d :: rs, K => asOf E fl ll md rs fun as => K (vwE d :: as)
  | .v :: md, .pl i p o :: rs, K => (i ∉ fl ∧ i ∉ ll) ∧ odK o (asOf E fl ll md rs fun as => K (vwE o.er :: as))
  | .l :: md, .pl i p o :: rs, K => (p = [] ∧ E[i]? = some (.ow o)) ∧ asOf E fl ll md rs fun as => K (.ow o :: as)
  | [], [], K => K []
  | _, _, _ => False
/-- what was lent comes back -/
def backE : List Md → List Res → List Ent → En → (En → Prop) → Prop
  | .l :: md, .pl i _ _ :: rs, .ow o :: as, E, K => backE md rs as (E.set i (.ow o)) K
  | .l :: md, .pl i _ _ :: rs, .fz d :: as, E, K => backE md rs as (E.set i (.fz d)) K
  | .l :: md, .pl i _ _ :: rs, .nil :: as, E, K => backE md rs as (E.set i .nil) K
  | .l :: _, .pl _ _ _ :: _, _, _, _ => False
  | _ :: md, _ :: rs, _ :: as, E, K => backE md rs as E K
  | _, _, _, E, K => K E
def resK : Ent → (Res → Prop) → Prop
  | .fz d, K => K (.fz d)
  | .ow o, K => K (.nw o)
  | _, _ => False
def ndK : List Nat → Prop → Prop
  | [], p => p
  | [_], p => p
  | l, p => l.Nodup ∧ p
theorem ndK_ok {l : List Nat} {p : Prop} (h : ndK l p) : l.Nodup ∧ p := by
  unfold ndK at h
  split at h
  · exact ⟨.nil, h⟩
  · exact ⟨by simp, h⟩
  · exact h
def callK (md : List Md) (tsp : TSp) (rs : List Res) (E : En) (K : Res → En → Prop) : Prop :=
  frzs md rs E fun E2 => ndK ((lntL 0 md rs).map (·.1)) <| asOf E2 (frzL md rs) ((lntL 0 md rs).map (·.1)) md rs fun as => tsp as fun r as' => backE md rs as' E2 fun E3 => resK r fun x => K x E3
/-! ### it is so -/
section
variable {S : Sx} {σ : L2.St} {H : Hp}
/-- what is known of an argument, by its place -/
def ROk (S : Sx) (E : En) (σ : L2.St) (F : Hp) (O : Ow) (H : Hp) (fl : List Nat) : Res → V → Prop
  | .fz d, v => Rf S.c F d v
  | .vw d, v => Rf S.c (uni F S.W) d v
  | .pl i p o, v => (i ∉ fl → Ro S.c F H (tgO O (i + 1)) p o v) ∧ (p = [] → σ[i]? = some (some v))
  | .nw _, _ => True
theorem ROk.frz {E E' : En} {F F' : Hp} {O O' : Ow} {fl fl' : List Nat} {r : Res} {v : V} (h : ROk S E σ F O H fl r v) (I : St S E' σ F' O' H) (f : Fz F F') (s : ∀ i, i ∉ fl' → i ∉ fl) (k : ∀ a j q, O a = some (j + 1, q) → j ∉ fl' → O' a = some (j + 1, q)) : ROk S E' σ F' O' H fl' r v := by
  cases r with
  | fz d => exact Rf.mono f h
  | vw d => exact Rf.mono (uni_mono f I.fh I.wh) h
  | pl i p o => exact ⟨fun hi => (h.1 (s i hi)).mono f fun q a _ t => ⟨k a i q t hi, rfl⟩, h.2⟩
  | nw o => trivial
theorem frzs_ok : ∀ {md : List Md} {rs : List Res} {E : En} {F : Hp} {O : Ow} {K : En → Prop}, St S E σ F O H → frzs md rs E K → ∃ E' F' O', K E' ∧ St S E' σ F' O' H ∧ Fz F F' ∧ (∀ a j q, O a = some (j + 1, q) → j ∉ frzL md rs → O' a = some (j + 1, q)) ∧
    (∀ (k i : Nat) (o : OD) (p : List Nat) (v : V), md[k]? = some .f → rs[k]? = some (.pl i p o) → σ[i]? = some (some v) → Rf S.c F' o.er v)
  | [], _, E, F, O, K, I, h => ⟨E, F, O, by simpa only [frzs] using h, I, .refl _, fun _ _ _ e _ => e, fun k _ _ _ _ e => by simp at e⟩
  | _ :: _, [], E, F, O, K, I, h => ⟨E, F, O, by simpa only [frzs] using h, I, .refl _, fun _ _ _ e _ => e, fun k _ _ _ _ _ e => by simp at e⟩
  | m :: md, x :: rs, E, F, O, K, I, h => by
    have other : frzs md rs E K → frzL (m :: md) (x :: rs) = frzL md rs → ¬ (m = .f ∧ ∃ i p o, x = .pl i p o) → ∃ E' F' O', K E' ∧ St S E' σ F' O' H ∧ Fz F F' ∧ (∀ a j q, O a = some (j + 1, q) → j ∉ frzL (m :: md) (x :: rs) → O' a = some (j + 1, q)) ∧
        (∀ (k i : Nat) (o : OD) (p : List Nat) (v : V), (m :: md)[k]? = some .f → (x :: rs)[k]? = some (.pl i p o) → σ[i]? = some (some v) → Rf S.c F' o.er v) := fun h e no => by
      obtain ⟨E', F', O', k, J, f, kk, g⟩ := frzs_ok I h
      refine ⟨E', F', O', k, J, f, by rw [e]; exact kk, fun k i o p v e1 e2 e3 => ?_⟩
      cases k with
      | zero => simp at e1 e2; exact absurd ⟨e1, _, _, _, e2⟩ no
      | succ k => exact g k i o p v (by simpa using e1) (by simpa using e2) e3
    cases m with
    | f =>
      cases x with
      | pl i p o =>
        simp only [frzs] at h
        obtain ⟨⟨rfl, e⟩, h⟩ := h
        obtain ⟨full, h⟩ := odK_ok h
        obtain ⟨F1, O1, f1, J1, k1, kk1⟩ := I.freeze e (p := []) rfl full
        have e3 : Ent.mk (OD.put (.fz o.er) [] o) = .fz o.er := rfl
        rw [e3] at J1
        obtain ⟨E', F', O', k, J, f, kk, g⟩ := frzs_ok J1 h
        refine ⟨E', F', O', k, J, f1.trans f, fun a j q e hj => ?_, fun k i' o' p' v e1 e2 e3 => ?_⟩
        · simp only [frzL, List.mem_cons, not_or] at hj
          exact kk a j q (kk1 a j q e hj.1) hj.2
        · cases k with
          | zero =>
            simp at e2
            obtain ⟨rfl, rfl, rfl⟩ := e2
            obtain ⟨w, hw, ro⟩ := I.sl i _ e
            rw [e3] at hw
            obtain rfl : v = w := by simpa using hw
            exact Rf.mono f (k1 _ ro)
          | succ k => exact g k i' o' p' v (by simpa using e1) (by simpa using e2) e3
      | fz d => exact other (by simpa only [frzs] using h) rfl (fun ⟨_, _, _, _, z⟩ => by cases z)
      | vw d => exact other (by simpa only [frzs] using h) rfl (fun ⟨_, _, _, _, z⟩ => by cases z)
      | nw d => exact other (by simpa only [frzs] using h) rfl (fun ⟨_, _, _, _, z⟩ => by cases z)
    | v => exact other (by simpa only [frzs] using h) (by cases x <;> rfl) (fun ⟨z, _⟩ => by cases z)
    | l => exact other (by simpa only [frzs] using h) (by cases x <;> rfl) (fun ⟨z, _⟩ => by cases z)
end
theorem RRs.at {S : Sx} {E : En} {σ : L2.St} {F : Hp} {O : Ow} {H : Hp} : ∀ {rs : List Res} {vs : List V} {k : Nat} {r : Res}, RRs S E σ F O H rs vs → rs[k]? = some r → ∃ v, vs[k]? = some v ∧ RR S E σ F O H r v
  | [], _, _, _, _, e => by simp at e
  | x :: rs, vs, k, r, h, e => by
    simp only [RRs] at h
    obtain ⟨v, us, rfl, h1, h2⟩ := h
    cases k with
    | zero => simp at e; subst e; exact ⟨v, rfl, h1⟩
    | succ k => simpa using h2.at (k := k) (by simpa using e)
theorem RRs.len {S : Sx} {E : En} {σ : L2.St} {F : Hp} {O : Ow} {H : Hp} {rs : List Res} {vs : List V} (h : RRs S E σ F O H rs vs) : rs.length = vs.length := h.frz.1
/-- where the lent slots lie -/
theorem lntL_mem : ∀ {md : List Md} {rs : List Res} {n i j : Nat}, (i, j) ∈ lntL n md rs ↔ ∃ k p o, j = n + k ∧ md[k]? = some .l ∧ rs[k]? = some (.pl i p o)
  | [], rs, n, i, j => by simp [lntL]
  | _ :: _, [], n, i, j => by
    constructor
    · intro h; simp [lntL] at h
    · rintro ⟨k, p, o, _, _, e⟩; simp at e
  | m :: md, x :: rs, n, i, j => by
    have other : ¬ (m = .l ∧ ∃ i p o, x = .pl i p o) → lntL n (m :: md) (x :: rs) = lntL (n + 1) md rs → ((i, j) ∈ lntL n (m :: md) (x :: rs) ↔ ∃ k p o, j = n + k ∧ (m :: md)[k]? = some .l ∧ (x :: rs)[k]? = some (.pl i p o)) := fun no e => by
      rw [e, lntL_mem]
      constructor
      · rintro ⟨k, p, o, rfl, h1, h2⟩
        exact ⟨k + 1, p, o, by omega, by simpa using h1, by simpa using h2⟩
      · rintro ⟨k, p, o, rfl, h1, h2⟩
        cases k with
        | zero => simp at h1 h2; exact absurd ⟨h1, _, _, _, h2⟩ no
        | succ k => exact ⟨k, p, o, by omega, by simpa using h1, by simpa using h2⟩
    cases m with
    | l =>
      cases x with
      | pl i' p' o' =>
        simp only [lntL, List.mem_cons, lntL_mem]
        constructor
        · rintro (h | ⟨k, p, o, rfl, h1, h2⟩)
          · cases h; exact ⟨0, p', o', by omega, rfl, rfl⟩
          · exact ⟨k + 1, p, o, by omega, by simpa using h1, by simpa using h2⟩
        · rintro ⟨k, p, o, rfl, h1, h2⟩
          cases k with
          | zero => simp at h2; obtain ⟨rfl, _, _⟩ := h2; exact .inl rfl
          | succ k => exact .inr ⟨k, p, o, by omega, by simpa using h1, by simpa using h2⟩
      | fz d => exact other (fun ⟨_, _, _, _, z⟩ => by cases z) rfl
      | vw d => exact other (fun ⟨_, _, _, _, z⟩ => by cases z) rfl
      | nw d => exact other (fun ⟨_, _, _, _, z⟩ => by cases z) rfl
    | f => exact other (fun ⟨z, _⟩ => by cases z) (by cases x <;> rfl)
    | v => exact other (fun ⟨z, _⟩ => by cases z) (by cases x <;> rfl)
theorem nodup_fst {ls : List (Nat × Nat)} (nd : (ls.map (·.1)).Nodup) {i j k : Nat} (h1 : (i, j) ∈ ls) (h2 : (i, k) ∈ ls) : j = k := by
  induction ls with
  | nil => cases h1
  | cons x ls ih =>
    simp only [List.map_cons, List.nodup_cons] at nd
    rcases List.mem_cons.mp h1 with e1 | g1
    · rcases List.mem_cons.mp h2 with e2 | g2
      · rw [← e1] at e2; cases e2; rfl
      · exact absurd (show x.1 ∈ ls.map (·.1) from List.mem_map.mpr ⟨(i, k), g2, by rw [← e1]⟩) nd.1
    · rcases List.mem_cons.mp h2 with e2 | g2
      · exact absurd (show x.1 ∈ ls.map (·.1) from List.mem_map.mpr ⟨(i, j), g1, by rw [← e2]⟩) nd.1
      · exact ih nd.2 g1 g2
theorem lntL_pos {md : List Md} {rs : List Res} {i i' j : Nat} (h1 : (i, j) ∈ lntL 0 md rs) (h2 : (i', j) ∈ lntL 0 md rs) : i = i' := by
  obtain ⟨k, p, o, e, _, a⟩ := lntL_mem.mp h1
  obtain ⟨k', p', o', e', _, b⟩ := lntL_mem.mp h2
  obtain rfl : k = k' := by omega
  rw [a] at b
  cases b
  rfl
end TL
namespace TL
open PySem L2
/-! ### the callee's state -/
open Classical in
/-- what stays in a call -/
noncomputable def Bc (ls : List (Nat × Nat)) (O : Ow) (H : Hp) : Hp := fun a => if ∃ i j q, (i, j) ∈ ls ∧ O a = some (i + 1, q) then none else H a
open Classical in
noncomputable def Oc (ls : List (Nat × Nat)) (O : Ow) : Ow := fun a => if h : ∃ t : Tag, ∃ i j, (i, j) ∈ ls ∧ O a = some (i + 1, t.2) ∧ t.1 = j + 1 then some h.choose else none
open Classical in
/-- the caller's marks behind the call -/
noncomputable def Ob (n : Nat) (ls : List (Nat × Nat)) (O O' : Ow) : Ow := fun a =>
  if h : ∃ t : Tag, (O' a = some (n + 1, t.2) ∧ t.1 = 0) ∨ (∃ i j, (i, j) ∈ ls ∧ O' a = some (j + 1, t.2) ∧ t.1 = i + 1) ∨ (O' a = none ∧ ∃ i, O a = some (i + 1, t.2) ∧ t.1 = i + 1 ∧ ∀ j, (i, j) ∉ ls) then some h.choose else none
section
variable {S : Sx} {E : En} {σ : L2.St} {F F' H H' : Hp} {O O' : Ow} {ls : List (Nat × Nat)}
theorem Bc_some {a : Addr} {o : HO} : Bc ls O H a = some o ↔ H a = some o ∧ ∀ i j q, (i, j) ∈ ls → O a ≠ some (i + 1, q) := by
  unfold Bc
  by_cases c : ∃ i j q, (i, j) ∈ ls ∧ O a = some (i + 1, q)
  · rw [if_pos c]
    obtain ⟨i, j, q, h1, h2⟩ := c
    exact ⟨fun z => (nomatch z), fun z => absurd h2 (z.2 i j q h1)⟩
  · rw [if_neg c]
    exact ⟨fun z => ⟨z, fun i j q h1 h2 => c ⟨i, j, q, h1, h2⟩⟩, fun z => z.1⟩
theorem Oc_some (nd : (ls.map (·.1)).Nodup) {a : Addr} {t : Tag} : Oc ls O a = some t ↔ ∃ i j, (i, j) ∈ ls ∧ O a = some (i + 1, t.2) ∧ t.1 = j + 1 := by
  unfold Oc
  by_cases c : ∃ t : Tag, ∃ i j, (i, j) ∈ ls ∧ O a = some (i + 1, t.2) ∧ t.1 = j + 1
  · rw [dif_pos c]
    have hc := c.choose_spec
    generalize c.choose = u at hc
    constructor
    · intro z; cases z; exact hc
    · rintro ⟨i, j, h1, h2, h3⟩
      obtain ⟨i', j', g1, g2, g3⟩ := hc
      rw [h2] at g2
      have e1 : i = i' := by have := congrArg (fun x => (x.map Prod.fst)) g2; simp at this; omega
      have e2 : t.2 = u.2 := by have := congrArg (fun x => (x.map Prod.snd)) g2; simpa using this
      subst e1
      have e3 := nodup_fst nd h1 g1
      have : t = u := Prod.ext (by rw [h3, g3, e3]) e2
      rw [this]
  · rw [dif_neg c]
    exact ⟨fun z => (nomatch z), fun h => absurd ⟨t, h⟩ c⟩
theorem Ob_some {n : Nat} (hl : ∀ i j, (i, j) ∈ ls → j < n) (hp : ∀ i i' j, (i, j) ∈ ls → (i', j) ∈ ls → i = i') {a : Addr} {t : Tag} :
    Ob n ls O O' a = some t ↔ ((O' a = some (n + 1, t.2) ∧ t.1 = 0) ∨ (∃ i j, (i, j) ∈ ls ∧ O' a = some (j + 1, t.2) ∧ t.1 = i + 1) ∨ (O' a = none ∧ ∃ i, O a = some (i + 1, t.2) ∧ t.1 = i + 1 ∧ ∀ j, (i, j) ∉ ls)) := by
  unfold Ob
  split
  · rename_i c
    have hc := c.choose_spec
    generalize c.choose = u at hc
    constructor
    · intro z; cases z; exact hc
    · intro h
      have : t = u := by
        rcases h with ⟨h1, h2⟩ | ⟨i, j, h1, h2, h3⟩ | ⟨h0, i, h1, h2, h3⟩
        · rcases hc with ⟨g1, g2⟩ | ⟨i', j', g1, g2, g3⟩ | ⟨g0, i', g1, g2, g3⟩
          · rw [h1] at g1; exact Prod.ext (by rw [h2, g2]) (by simpa using congrArg (fun x => x.map Prod.snd) g1)
          · rw [h1] at g2
            have := congrArg (fun x => x.map Prod.fst) g2
            simp at this
            have := hl _ _ g1; omega
          · rw [h1] at g0; cases g0
        · rcases hc with ⟨g1, g2⟩ | ⟨i', j', g1, g2, g3⟩ | ⟨g0, i', g1, g2, g3⟩
          · rw [h2] at g1
            have := congrArg (fun x => x.map Prod.fst) g1
            simp at this
            have := hl _ _ h1; omega
          · rw [h2] at g2
            have e1 := congrArg (fun x => x.map Prod.fst) g2
            simp at e1
            subst e1
            exact Prod.ext (by rw [h3, g3, hp _ _ _ h1 g1]) (by simpa using congrArg (fun x => x.map Prod.snd) g2)
          · rw [h2] at g0; cases g0
        · rcases hc with ⟨g1, g2⟩ | ⟨i', j', g1, g2, g3⟩ | ⟨g0, i', g1, g2, g3⟩
          · rw [h0] at g1; cases g1
          · rw [h0] at g2; cases g2
          · rw [h1] at g1
            have e1 := congrArg (fun x => x.map Prod.fst) g1
            simp at e1
            exact Prod.ext (by rw [h2, g2]; omega) (by simpa using congrArg (fun x => x.map Prod.snd) g1)
      rw [this]
  · rename_i c
    exact ⟨fun z => (nomatch z), fun h => absurd ⟨t, h⟩ c⟩
theorem St.callee (I : St S E σ F O H) (nd : (ls.map (·.1)).Nodup) (hp : ∀ i i' j, (i, j) ∈ ls → (i', j) ∈ ls → i = i') {as : List Ent} {vs : List V} (hl : as.length = vs.length)
    (s : ∀ j e, as[j]? = some e → Sl S.c (Bc ls O H) F (Oc ls O) H j e (vs[j]?.map some)) : St (Sc S.c (Bc ls O H) F) as (vs.map some) F (Oc ls O) H where
  fh := I.fh
  bh := fun a o e => (Bc_some.mp e).1
  vb := .refl _
  f0 := .refl _
  fn := fun a h1 h2 => absurd h2 h1
  ob := fun a t e => by
    obtain ⟨i, j, h1, h2, h3⟩ := (Oc_some nd).mp e
    obtain ⟨g1, g2, g3⟩ := I.ob a _ h2
    refine ⟨g1, ?_, g3⟩
    cases q : Bc ls O H a with
    | none => exact q
    | some o => exact absurd h2 ((Bc_some.mp q).2 i j t.2 h1)
  un := fun a b t h1 h2 => by
    obtain ⟨i, j, a1, a2, a3⟩ := (Oc_some nd).mp h1
    obtain ⟨i', j', b1, b2, b3⟩ := (Oc_some nd).mp h2
    have e : j = j' := by omega
    subst e
    rw [hp _ _ _ a1 b1] at a2
    exact I.un a b _ a2 b2
  len := by rw [List.length_map]; exact hl
  sl := fun j e he => by
    have := s j e he
    rw [List.getElem?_map]
    cases h : vs[j]? with
    | none => exact absurd (List.getElem?_eq_none_iff.mp h) (by have := (List.getElem?_eq_some_iff.mp he).1; omega)
    | some v => rw [h] at this; exact this
  pin := fun j hj => by cases hj
/-- the caller's state behind the call -/
theorem St.back (I : St S E σ F O H) (nd : (ls.map (·.1)).Nodup) (hp : ∀ i i' j, (i, j) ∈ ls → (i', j) ∈ ls → i = i') {as : List Ent} {vs : List V} {r : Ent} {v : V} (hl : ∀ i j, (i, j) ∈ ls → j < vs.length) (ha : as.length = vs.length)
    (J : St (Sc S.c (Bc ls O H) F) (as ++ [r]) (vs.map some ++ [some v]) F' O' H') (f : Fz F F') {E' : En} (el : E'.length = E.length)
    (e1 : ∀ k, (∀ j, (k, j) ∉ ls) → E'[k]? = E[k]?) (e2 : ∀ k j, (k, j) ∈ ls → k < E.length → ∃ e, as[j]? = some e ∧ E'[k]? = some e ∧ σ[k]? = some (vs[j]?) ∧ ∀ d, e ≠ .vw d) :
    St S E' σ F' (Ob vs.length ls O O') H' ∧ (∀ o, r = .ow o → Ro S.c F' H' (tgO (Ob vs.length ls O O') 0) [] o v) ∧ (∀ d, r = .fz d → Rf S.c F' d v) := by
  have bb : Fz S.B (Bc ls O H) := fun a o e => Bc_some.mpr ⟨I.bh _ _ e, fun i j q _ h => by rw [I.nb e] at h; cases h⟩
  have own : ∀ a i q, O a = some (i + 1, q) → (∀ j, (i, j) ∉ ls) → O' a = none ∧ H' a = H a ∧ F' a = none := fun a i q e hn => by
    obtain ⟨g1, g2, g3⟩ := I.ob a _ e
    cases hh : H a with
    | none => exact absurd hh g3
    | some o =>
      have b : Bc ls O H a = some o := Bc_some.mpr ⟨hh, fun i' j q' h1 h2 => by rw [e] at h2; cases h2; exact hn _ h1⟩
      refine ⟨J.nb b, J.bh _ _ b, ?_⟩
      cases q : F' a with
      | none => rfl
      | some u =>
        have this : Bc ls O H a = none := J.fn a (by rw [q]; exact Option.some_ne_none _) g1
        rw [b] at this; cases this
  have last : (as ++ [r])[vs.length]? = some r := by rw [← ha]; simp
  have lastv : (vs.map some ++ [some v])[vs.length]? = some (some v) := by rw [List.getElem?_append_right (by simp)]; simp
  refine ⟨⟨J.fh, bb.trans J.bh, I.vb, I.f0.trans f, fun a h1 h2 => ?_, fun a t e => ?_, fun a b t h1 h2 => ?_, el.trans I.len, fun k e he => ?_, I.pin⟩, ?_, ?_⟩
  · by_cases c : F a = none
    · have this : Bc ls O H a = none := J.fn a h1 c
      cases q : S.B a with
      | none => rfl
      | some o => rw [bb _ _ q] at this; cases this
    · exact I.fn a c h2
  · have bn : ∀ u, O' a = some u → F' a = none ∧ S.B a = none ∧ H' a ≠ none := fun u hu => by
      obtain ⟨g1, g2, g3⟩ := J.ob a u hu
      refine ⟨g1, ?_, g3⟩
      cases q : S.B a with
      | none => rfl
      | some o =>
        have g2 : Bc ls O H a = none := g2
        rw [bb _ _ q] at g2; cases g2
    rcases (Ob_some hl hp).mp e with ⟨h, _⟩ | ⟨i, j, _, h, _⟩ | ⟨_, i, h, _, hn⟩
    · exact bn _ h
    · exact bn _ h
    · obtain ⟨g1, g2, g3⟩ := I.ob a _ h
      obtain ⟨w1, w2, w3⟩ := own a i _ h hn
      exact ⟨w3, g2, by rw [w2]; exact g3⟩
  · rcases (Ob_some hl hp).mp h1 with ⟨a1, a2⟩ | ⟨i, j, a0, a1, a2⟩ | ⟨a0, i, a1, a2, a3⟩
    · rcases (Ob_some hl hp).mp h2 with ⟨b1, b2⟩ | ⟨i', j', b0, b1, b2⟩ | ⟨b0, i', b1, b2, b3⟩
      · exact J.un a b _ a1 b1
      · omega
      · omega
    · rcases (Ob_some hl hp).mp h2 with ⟨b1, b2⟩ | ⟨i', j', b0, b1, b2⟩ | ⟨b0, i', b1, b2, b3⟩
      · omega
      · have e : i = i' := by omega
        subst e
        rw [nodup_fst nd a0 b0] at a1
        exact J.un a b _ a1 b1
      · have e : i = i' := by omega
        subst e
        exact absurd a0 (b3 j)
    · rcases (Ob_some hl hp).mp h2 with ⟨b1, b2⟩ | ⟨i', j', b0, b1, b2⟩ | ⟨b0, i', b1, b2, b3⟩
      · omega
      · have e : i = i' := by omega
        subst e
        exact absurd b0 (a3 j')
      · have e : i = i' := by omega
        subst e
        exact I.un a b _ a1 b1
  · by_cases c : ∃ j, (k, j) ∈ ls
    · obtain ⟨j, hj⟩ := c
      have hk : k < E.length := by
        have := (List.getElem?_eq_some_iff.mp he).1
        omega
      obtain ⟨e', g1, g2, g3, g4⟩ := e2 k j hj hk
      rw [he] at g2
      cases g2
      have hjn := hl k j hj
      have s := J.sl j e (by rw [List.getElem?_append_left (by omega)]; exact g1)
      rw [List.getElem?_append_left (by rw [List.length_map]; exact hjn), List.getElem?_map] at s
      rw [g3]
      cases e with
      | nil => trivial
      | vw d => exact absurd rfl (g4 d)
      | fz d =>
        obtain ⟨w, hw, r⟩ := s
        exact ⟨w, by cases h : vs[j]? with | none => rw [h] at hw; cases hw | some u => rw [h] at hw; simpa using hw, r⟩
      | ow o =>
        obtain ⟨w, hw, r⟩ := s
        refine ⟨w, by cases h : vs[j]? with | none => rw [h] at hw; cases hw | some u => rw [h] at hw; simpa using hw, r.mono (.refl _) fun q a _ t => ⟨?_, rfl⟩⟩
        exact (Ob_some hl hp).mpr (.inr (.inl ⟨k, j, hj, t, rfl⟩))
    · have c : ∀ j, (k, j) ∉ ls := fun j hj => c ⟨j, hj⟩
      rw [e1 k c] at he
      have s := I.sl k e he
      have wh : Fz S.W H' := I.vb.trans (bb.trans J.bh)
      cases e with
      | nil => trivial
      | fz d => obtain ⟨w, hw, r⟩ := s; exact ⟨w, hw, r.mono f⟩
      | vw d => obtain ⟨w, hw, r⟩ := s; exact ⟨w, hw, r.mono (uni_mono f J.fh wh)⟩
      | ow o =>
        obtain ⟨w, hw, r⟩ := s
        refine ⟨w, hw, r.mono f fun q a _ t => ?_⟩
        obtain ⟨w1, w2, w3⟩ := own a k q t c
        exact ⟨(Ob_some hl hp).mpr (.inr (.inr ⟨w1, k, t, rfl, c⟩)), w2⟩
  · rintro o rfl
    obtain ⟨w, hw, r⟩ := J.sl vs.length _ last
    rw [lastv] at hw
    obtain rfl : v = w := by simpa using hw
    exact r.mono (.refl _) fun q a _ t => ⟨(Ob_some hl hp).mpr (.inl ⟨t, rfl⟩), rfl⟩
  · rintro d rfl
    obtain ⟨w, hw, r⟩ := J.sl vs.length _ last
    rw [lastv] at hw
    obtain rfl : v = w := by simpa using hw
    exact r
end
end TL
namespace TL
open PySem L2
def AsR (E : En) (fl ll : List Nat) : Md → Res → Ent → Prop
  | .f, .fz d, e => e = .fz d
  | .f, .pl _ _ o, e => e = .fz o.er
  | .v, .fz d, e => e = vwE d
  | .v, .vw d, e => e = vwE d
  | .v, .pl i _ o, e => i ∉ fl ∧ i ∉ ll ∧ o.full ∧ e = vwE o.er
  | .l, .pl i p o, e => p = [] ∧ E[i]? = some (.ow o) ∧ e = .ow o
  | _, _, _ => False
theorem asOf_ok {E : En} {fl ll : List Nat} : ∀ {md : List Md} {rs : List Res} {K : List Ent → Prop}, asOf E fl ll md rs K → ∃ as, K as ∧ as.length = rs.length ∧ ∀ (j : Nat) (e : Ent), as[j]? = some e → ∃ m r, md[j]? = some m ∧ rs[j]? = some r ∧ AsR E fl ll m r e
  | [], [], K, h => ⟨[], h, rfl, fun j e he => by simp at he⟩
  | [], _ :: _, K, h => by simp only [asOf] at h
  | _ :: _, [], K, h => by simp only [asOf] at h
  | m :: md, x :: rs, K, h => by
    have key : ∀ e, AsR E fl ll m x e → asOf E fl ll md rs (fun as => K (e :: as)) → ∃ as, K as ∧ as.length = (x :: rs).length ∧ ∀ (j : Nat) (e : Ent), as[j]? = some e → ∃ m' r, (m :: md)[j]? = some m' ∧ (x :: rs)[j]? = some r ∧ AsR E fl ll m' r e := fun e a h => by
      obtain ⟨as, k, l, g⟩ := asOf_ok h
      refine ⟨e :: as, k, by simp [l], fun j e' he => ?_⟩
      cases j with
      | zero => simp at he; subst he; exact ⟨m, x, rfl, rfl, a⟩
      | succ j => simpa using g j e' (by simpa using he)
    cases m <;> cases x <;> simp only [asOf] at h
    · exact key _ rfl h
    · exact key _ rfl h
    · exact key _ rfl h
    · exact key _ rfl h
    · exact key _ ⟨h.1.1, h.1.2, (odK_ok h.2).1, rfl⟩ (odK_ok h.2).2
    · exact key _ ⟨h.1.1, h.1.2, rfl⟩ h.2
theorem backE_ok : ∀ {md : List Md} {rs : List Res} {as : List Ent} {E : En} {K : En → Prop} {n : Nat}, ((lntL n md rs).map (·.1)).Nodup → as.length = rs.length → backE md rs as E K → ∃ E3, K E3 ∧ E3.length = E.length ∧ (∀ k, (∀ j, (k, j) ∉ lntL n md rs) → E3[k]? = E[k]?) ∧
    (∀ k j, (k, j) ∈ lntL n md rs → k < E.length → ∃ e, as[j - n]? = some e ∧ n ≤ j ∧ E3[k]? = some e ∧ ∀ d, e ≠ .vw d)
  | [], _, _, E, K, n, _, _, h => ⟨E, by simpa only [backE] using h, rfl, fun _ _ => rfl, fun k j hk => by simp [lntL] at hk⟩
  | _ :: _, [], _, E, K, n, _, _, h => ⟨E, by simpa only [backE] using h, rfl, fun _ _ => rfl, fun k j hk => by simp [lntL] at hk⟩
  | _ :: _, _ :: _, [], E, K, n, _, l, h => by simp at l
  | m :: md, x :: rs, a :: as, E, K, n, nd, l, h => by
    have other : lntL n (m :: md) (x :: rs) = lntL (n + 1) md rs → backE md rs as E K → ∃ E3, K E3 ∧ E3.length = E.length ∧ (∀ k, (∀ j, (k, j) ∉ lntL n (m :: md) (x :: rs)) → E3[k]? = E[k]?) ∧
        (∀ k j, (k, j) ∈ lntL n (m :: md) (x :: rs) → k < E.length → ∃ e, (a :: as)[j - n]? = some e ∧ n ≤ j ∧ E3[k]? = some e ∧ ∀ d, e ≠ .vw d) := fun e h => by
      rw [e] at nd ⊢
      obtain ⟨E3, k, l3, e1, e2⟩ := backE_ok nd (by simpa using l) h
      refine ⟨E3, k, l3, e1, fun k j hk hl => ?_⟩
      obtain ⟨y, g1, g2, g3, g4⟩ := e2 k j hk hl
      exact ⟨y, by rw [show j - n = (j - (n + 1)) + 1 by omega]; simpa using g1, by omega, g3, g4⟩
    have lent : ∀ i p o, m = .l → x = .pl i p o → (∀ d, a ≠ .vw d) → backE md rs as (E.set i a) K → ∃ E3, K E3 ∧ E3.length = E.length ∧ (∀ k, (∀ j, (k, j) ∉ lntL n (m :: md) (x :: rs)) → E3[k]? = E[k]?) ∧
        (∀ k j, (k, j) ∈ lntL n (m :: md) (x :: rs) → k < E.length → ∃ e, (a :: as)[j - n]? = some e ∧ n ≤ j ∧ E3[k]? = some e ∧ ∀ d, e ≠ .vw d) := fun i p o hm hx ha h' => by
      subst hm hx
      simp only [lntL, List.map_cons, List.nodup_cons] at nd
      obtain ⟨E3, k, l3, e1, e2⟩ := backE_ok nd.2 (by simpa using l) h'
      refine ⟨E3, k, by rw [l3, List.length_set], fun k hk => ?_, fun k j hk hl => ?_⟩
      · simp only [lntL, List.mem_cons, not_or] at hk
        rw [e1 k fun j => (hk j).2, List.getElem?_set_ne (fun z => (hk n).1 (by rw [z]))]
      · simp only [lntL, List.mem_cons] at hk
        rcases hk with hk | hk
        · cases hk
          refine ⟨a, by simp, Nat.le_refl _, ?_, ha⟩
          rw [e1 i fun j hj => nd.1 (List.mem_map.mpr ⟨_, hj, rfl⟩), List.getElem?_set_self hl]
        · obtain ⟨y, g1, g2, g3, g4⟩ := e2 k j hk (by rw [List.length_set]; exact hl)
          exact ⟨y, by rw [show j - n = (j - (n + 1)) + 1 by omega]; simpa using g1, by omega, g3, g4⟩
    cases m with
    | l =>
      cases x with
      | pl i p o =>
        cases a with
        | nil => exact lent i p o rfl rfl (fun _ => by simp) (by simpa only [backE] using h)
        | fz d => exact lent i p o rfl rfl (fun _ => by simp) (by simpa only [backE] using h)
        | vw d => simp only [backE] at h
        | ow o' => exact lent i p o rfl rfl (fun _ => by simp) (by simpa only [backE] using h)
      | fz d => exact other rfl (by simpa only [backE] using h)
      | vw d => exact other rfl (by simpa only [backE] using h)
      | nw d => exact other rfl (by simpa only [backE] using h)
    | f => exact other (by cases x <;> rfl) (by simpa only [backE] using h)
    | v => exact other (by cases x <;> rfl) (by simpa only [backE] using h)
theorem uni_le {F W W' : Hp} (h : Fz W W') : Fz (uni F W) (uni F W') := fun a o e => by
  unfold uni at e ⊢
  cases q : F a with
  | some y => rw [q] at e; exact e
  | none => rw [q] at e; exact h _ _ e
theorem Sl.vwE {c : Cls} {W F : Hp} {O : Ow} {H : Hp} {j : Nat} {d : D} {v : V} (h : Rf c (uni F W) d v) : Sl c W F O H j (vwE d) (some (some v)) := by
  cases d <;> first | exact ⟨v, rfl, h⟩ | (simp only [Rf] at h; simp only [TL.vwE, Sl, Rf]; exact ⟨v, rfl, h⟩)
section
variable {S : Sx} {E : En} {σ : L2.St} {F H : Hp} {O : Ow}
theorem call_ok (I : St S E σ F O H) {md : List Md} {tsp : TSp} {rs : List Res} {vs : List V} {K : Res → En → Prop} {Q : VK} {X : XK} (rr : RRs S E σ F O H rs vs) (h : callK md tsp rs E K)
    (q : ∀ r E' v F' O' H', K r E' → Fz F F' → St S E' σ F' O' H' → RR S E' σ F' O' H' r v → Q v H') : lift S.c md tsp vs H Q X := by
  obtain ⟨E2, F2, O2, h2, I2, f2, kk, g⟩ := frzs_ok I h
  obtain ⟨nd, h2⟩ := ndK_ok h2
  obtain ⟨as, h3, la, ga⟩ := asOf_ok h2
  have lv : rs.length = vs.length := rr.len
  have hp : ∀ i i' j, (i, j) ∈ lntL 0 md rs → (i', j) ∈ lntL 0 md rs → i = i' := fun i i' j h1 h2 => lntL_pos h1 h2
  have hl : ∀ i j, (i, j) ∈ lntL 0 md rs → j < vs.length := fun i j h => by
    obtain ⟨k, p, o, rfl, _, e⟩ := lntL_mem.mp h
    have := (List.getElem?_eq_some_iff.mp e).1
    omega
  have bw : Fz S.W (Bc (lntL 0 md rs) O2 H) := fun a o e => Bc_some.mpr ⟨I2.wh _ _ e, fun i j q _ h => by rw [I2.nb (I2.vb _ _ e)] at h; cases h⟩
  have fb : Fz F2 (uni F2 (Bc (lntL 0 md rs) O2 H)) := uni_l
  have bh : Fz (Bc (lntL 0 md rs) O2 H) H := fun a o e => (Bc_some.mp e).1
  refine ⟨Bc (lntL 0 md rs) O2 H, F2, Oc (lntL 0 md rs) O2, as, _, by omega, I2.callee nd hp (by omega) fun j e he => ?_, h3, fun r as' v F' O' H' k f la' J => ?_⟩
  · obtain ⟨m, r, em, er, a⟩ := ga j e he
    obtain ⟨v, ev, rv⟩ := rr.at er
    rw [ev]
    cases m with
    | f =>
      cases r with
      | fz d => cases a; exact ⟨v, rfl, Rf.mono f2 rv⟩
      | pl i p o =>
        cases a
        simp only [RR] at rv
        -- frozen whole
        exact ⟨v, rfl, by
          refine g j i o p v em er ?_
          by_cases hp0 : p = []
          · exact rv.2.1 hp0
          · exfalso
            have : ∀ {md : List Md} {rs : List Res} {E : En} {K : En → Prop} {j : Nat}, frzs md rs E K → md[j]? = some .f → rs[j]? = some (.pl i p o) → p = [] := by
              intro md
              induction md with
              | nil => intro rs E K j _ e; simp at e
              | cons m md ih =>
                intro rs E K j h e1 e2
                cases rs with
                | nil => simp at e2
                | cons x rs =>
                  cases j with
                  | zero => simp at e1 e2; subst e1 e2; simp only [frzs] at h; exact h.1.1
                  | succ j =>
                    cases m with
                    | f =>
                      cases x <;> simp only [frzs] at h
                      · exact ih h (by simpa using e1) (by simpa using e2)
                      · exact ih h (by simpa using e1) (by simpa using e2)
                      · exact ih (odK_ok h.2).2 (by simpa using e1) (by simpa using e2)
                      · exact ih h (by simpa using e1) (by simpa using e2)
                    | v => simp only [frzs] at h; exact ih h (by simpa using e1) (by simpa using e2)
                    | l => simp only [frzs] at h; exact ih h (by simpa using e1) (by simpa using e2)
            exact hp0 (this h em er)⟩
      | vw d => exact a.elim
      | nw o => exact a.elim
    | v =>
      cases r with
      | fz d => cases a; exact Sl.vwE (Rf.mono (f2.trans fb) rv)
      | vw d => cases a; exact Sl.vwE (Rf.mono (Fz.trans (uni_mono f2 I2.fh I2.wh) (uni_le bw)) rv)
      | pl i p o =>
        obtain ⟨hfl, hll, full, rfl⟩ := a
        refine Sl.vwE (((rv.2.2).mono (tg' := fun q a => O2 a = some (i + 1, q)) f2 fun q a _ t => ⟨kk a i q t hfl, rfl⟩).rf fb (fun q a y t e => ?_) full)
        refine uni_r I2.fh bh _ _ (Bc_some.mpr ⟨e, fun i' j' q' h1 h2 => ?_⟩)
        rw [show O2 a = some (i + 1, q) from t] at h2
        cases h2
        exact hll (List.mem_map.mpr ⟨_, h1, rfl⟩)
      | nw o => exact a.elim
    | l =>
      cases r with
      | pl i p o =>
        obtain ⟨rfl, e2, rfl⟩ := a
        obtain ⟨w, hw, ro⟩ := I2.sl i _ e2
        obtain rfl : v = w := by
          have := rv.2.1 rfl
          rw [hw] at this; simpa using this.symm
        have hm : (i, j) ∈ lntL 0 md rs := lntL_mem.mpr ⟨j, [], o, by omega, em, er⟩
        exact ⟨v, rfl, ro.mono (.refl _) fun q a _ t => ⟨(Oc_some nd).mpr ⟨i, j, hm, t, rfl⟩, rfl⟩⟩
      | fz d => exact a.elim
      | vw d => exact a.elim
      | nw o => exact a.elim
  · obtain ⟨E3, k, l3, e1, e2⟩ := backE_ok nd (by omega) k
    obtain ⟨J3, j1, j2⟩ := I2.back nd hp hl la' J f l3 e1 fun k j hk hkl => by
      obtain ⟨e, g1, g2, g3, g4⟩ := e2 k j hk hkl
      refine ⟨e, by simpa using g1, g3, ?_, g4⟩
      obtain ⟨k', p, o, e', em, er⟩ := lntL_mem.mp hk
      obtain rfl : j = k' := by omega
      obtain ⟨v, ev, rv⟩ := rr.at er
      rw [ev]
      have hj : j < as.length := by have := (List.getElem?_eq_some_iff.mp er).1; omega
      obtain ⟨m', r', em', er', a⟩ := ga j _ (List.getElem?_eq_getElem hj)
      rw [em] at em'
      rw [er] at er'
      cases em'
      cases er'
      exact rv.2.1 a.1
    cases r with
    | nil => exact k.elim
    | vw d => exact k.elim
    | fz d => exact q _ _ _ _ _ _ k (f2.trans f) J3 (j2 d rfl)
    | ow o => exact q _ _ _ _ _ _ k (f2.trans f) J3 (j1 o rfl)
end
end TL
namespace TL
open PySem L2
section
variable {c : Cls} {P : List Nat} {W F0 : Hp} {pv : Nat → V}
def TCall (md : List Md) (tsp : TSp) (T : TXA) : TX := fun E K => T E fun rs E1 => callK md tsp rs E1 K
instance lf_call {md : List Md} {tsp : TSp} {X : XK} {t : TA} {T : TXA} [a : LfA c P W F0 pv t T] : LfE c P W F0 pv (tCall (lift c md tsp) [] X t) (TCall md tsp T) := ⟨fun {B E σ F O H K Q} I h q =>
  a.run I h fun rs E1 vs F1 O1 H1 h1 f1 I1 r1 => by
    rw [List.append_nil]
    exact call_ok I1 r1 h1 fun r E' v F' O' H' k f J rr => q _ _ _ _ _ _ k (f1.trans f) J rr⟩
end
/-! ### a def's body -/
def outs (P : List Nat) : Nat → Nat → En → En
  | 0, _, _ => []
  | n + 1, j, E => (if j ∈ P then (E[j]?).getD .nil else .nil) :: outs P n (j + 1) E
theorem outs_len {P : List Nat} : ∀ {n j : Nat} {E : En}, (outs P n j E).length = n
  | 0, _, _ => rfl
  | n + 1, j, E => by simp only [outs, List.length_cons, outs_len]
theorem outs_get {P : List Nat} : ∀ {n j k : Nat} {E : En} {e : Ent}, (outs P n j E)[k]? = some e → e = .nil ∨ (j + k ∈ P ∧ E[j + k]? = some e)
  | 0, _, _, _, _, h => by simp [outs] at h
  | n + 1, j, k, E, e, h => by
    cases k with
    | zero =>
      simp only [outs, List.getElem?_cons_zero, Option.some.injEq] at h
      by_cases c : j ∈ P
      · rw [if_pos c] at h
        cases q : E[j]? with
        | none => rw [q] at h; exact .inl h.symm
        | some y => rw [q] at h; exact .inr ⟨c, congrArg some h⟩
      · rw [if_neg c] at h; exact .inl h.symm
    | succ k =>
      simp only [outs, List.getElem?_cons_succ] at h
      have := outs_get h
      rw [show j + 1 + k = j + (k + 1) by omega] at this
      exact this
/-- what a return gives back -/
def retK (P : List Nat) : Res → En → (Ent → En → Prop) → Prop
  | .fz d, E, K => K (.fz d) E
  | .pl i p o, E, K => (p = [] ∧ E[i]? = some (.ow o)) ∧ odK o (K (.fz o.er) (E.set i (.fz o.er)))
  | .nw o, E, K => K (.ow o) E
  | .vw _, _, _ => False
def retT (m n : Nat) (P : List Nat) (O : Ow) : Ow := fun a => match O a with
  | some (k, q) => if k = m then some (n + 1, q) else if 1 ≤ k ∧ k - 1 ∈ P then some (k, q) else none
  | none => none
theorem retT_some {m n : Nat} {P : List Nat} {O : Ow} {a : Addr} {t : Tag} (h : retT m n P O a = some t) : (O a = some (m, t.2) ∧ t.1 = n + 1) ∨ (O a = some t ∧ t.1 ≠ m ∧ 1 ≤ t.1 ∧ t.1 - 1 ∈ P) := by
  unfold retT at h
  split at h
  · rename_i k q e
    by_cases h0 : k = m
    · rw [if_pos h0] at h; cases h; exact .inl ⟨by rw [e, h0], rfl⟩
    · rw [if_neg h0] at h
      by_cases h1 : 1 ≤ k ∧ k - 1 ∈ P
      · rw [if_pos h1] at h; cases h; exact .inr ⟨e, h0, h1.1, h1.2⟩
      · rw [if_neg h1] at h; cases h
  · cases h
section
variable {c : Cls} {P : List Nat} {W F0 : Hp} {pv : Nat → V} {B F F' H : Hp} {O : Ow} {E : En} {σ : L2.St} {vs : List V}
theorem St.ret (I : St ⟨c, B, B, F, P, pv⟩ E σ F' O H) {n m : Nat} (hn : vs.length = n) (hP : ∀ j ∈ P, j < n) (hv : ∀ j ∈ P, vs[j]? = some (pv j)) (hm : ∀ j ∈ P, m ≠ j + 1) {r : Ent} {v : V}
    (hr : (∃ d, r = .fz d ∧ Rf c F' d v) ∨ (∃ o, r = .ow o ∧ Ro c F' H (tgO O m) [] o v)) : St (Sc c B F) (outs P n 0 E ++ [r]) (vs.map some ++ [some v]) F' (retT m n P O) H where
  fh := I.fh
  bh := I.bh
  vb := .refl _
  f0 := I.f0
  fn := I.fn
  ob := fun a t e => by
    rcases retT_some e with ⟨h, _⟩ | ⟨h, _⟩
    · exact I.ob a _ h
    · exact I.ob a _ h
  un := fun a b t h1 h2 => by
    rcases retT_some h1 with ⟨a1, a2⟩ | ⟨a1, a2, a3, a4⟩
    · rcases retT_some h2 with ⟨b1, b2⟩ | ⟨b1, b2, b3, b4⟩
      · exact I.un a b _ a1 b1
      · have := hP _ b4; omega
    · rcases retT_some h2 with ⟨b1, b2⟩ | ⟨b1, b2, b3, b4⟩
      · have := hP _ a4; omega
      · exact I.un a b _ a1 b1
  len := by rw [List.length_append, List.length_append, outs_len, List.length_map, hn]; rfl
  sl := fun j e he => by
    by_cases hj : j < n
    · rw [List.getElem?_append_left (by rw [outs_len]; exact hj)] at he
      rw [List.getElem?_append_left (by rw [List.length_map, hn]; exact hj), List.getElem?_map]
      rcases outs_get he with rfl | ⟨h1, h2⟩
      · trivial
      · rw [Nat.zero_add] at h1 h2
        have s := I.sl j e h2
        rw [I.pin j h1] at s
        rw [hv j h1]
        cases e with
        | nil => trivial
        | fz d => exact s
        | vw d => exact s
        | ow o =>
          obtain ⟨w, hw, r⟩ := s
          refine ⟨w, hw, r.mono (.refl _) fun q a _ t => ⟨?_, rfl⟩⟩
          show retT m n P O a = some (j + 1, q)
          unfold retT
          rw [show O a = some (j + 1, q) from t]
          show (if j + 1 = m then _ else if 1 ≤ j + 1 ∧ j + 1 - 1 ∈ P then _ else _) = _
          rw [if_neg (fun z => hm j h1 z.symm), if_pos ⟨by omega, by rw [Nat.add_sub_cancel]; exact h1⟩]
    · have hl : j < n + 1 := by
        have := (List.getElem?_eq_some_iff.mp he).1
        rw [List.length_append, outs_len] at this
        simpa using this
      obtain rfl : j = n := by omega
      rw [List.getElem?_append_right (by rw [outs_len]; exact Nat.le_refl _), outs_len] at he
      simp at he
      subst he
      rw [List.getElem?_append_right (by rw [List.length_map, hn]; exact Nat.le_refl _), List.length_map, hn]
      simp only [Nat.sub_self, List.getElem?_cons_zero]
      rcases hr with ⟨d, rfl, z⟩ | ⟨o, rfl, z⟩
      · exact ⟨v, rfl, z⟩
      · refine ⟨v, rfl, z.mono (.refl _) fun q a _ t => ⟨?_, rfl⟩⟩
        show retT m j P O a = some (j + 1, q)
        unfold retT
        rw [show O a = some (m, q) from t]
        show (if m = m then _ else _) = _
        rw [if_pos rfl]
  pin := fun j hj => by cases hj
theorem body_ok {md : List Md} {tsp : TSp} {t : TS} {T : TXS} [z : ∀ W F0 pv, LfS c P W F0 pv t T] {n m : Nat} {vs : List V} {H : Hp} {Q : VK} {X : XK} {σ : L2.St} (nl : List Ent) (h : lift c md tsp vs H Q X) (hs : σ = vs.map some ++ List.replicate m none) (hn : nl = List.replicate m .nil)
    (b : ∀ as K, tsp as K → as.length = n ∧ (∀ j o, as[j]? = some (.ow o) → j ∈ P) ∧ (∀ j ∈ P, j < n) ∧ T ⟨fun E => K (.fz .non) (outs P n 0 E), fun r E => retK P r E fun x E' => K x (outs P n 0 E'), fun _ => False, fun _ => False⟩ (as ++ nl)) :
    t { nx := fun _ H' => Q .non H', rt := Q } σ H := by
  obtain ⟨B, F, O, as, K, hl, I, hk, q⟩ := h
  obtain ⟨ha, how, hP, hT⟩ := b as K hk
  have hvn : vs.length = n := by omega
  subst hs hn
  have pin : ∀ j ∈ P, vs[j]? = some ((vs[j]?).getD .non) := fun j hj => by
    rw [List.getElem?_eq_getElem (by have := hP j hj; omega)]; rfl
  have J : St ⟨c, B, B, F, P, fun j => (vs[j]?).getD .non⟩ (as ++ List.replicate m .nil) (vs.map some ++ List.replicate m none) F O H := by
    refine ⟨I.fh, I.bh, .refl _, .refl _, I.fn, I.ob, I.un, by simp [hl], fun j e he => ?_, fun j hj => ?_⟩
    · by_cases c : j < n
      · rw [List.getElem?_append_left (by omega)] at he
        rw [List.getElem?_append_left (by rw [List.length_map]; omega)]
        exact I.sl j e he
      · rw [List.getElem?_append_right (by omega)] at he
        have := List.mem_of_getElem? he
        rw [List.mem_replicate] at this
        rw [this.2]; trivial
    · rw [List.getElem?_append_left (by rw [List.length_map]; have := hP j hj; omega), List.getElem?_map, pin j hj]; rfl
  have fin : ∀ (r : Ent) (E' : En) (σ' : L2.St) (v : V) (F' : Hp) (O' : Ow) (H' : Hp) (m : Nat), K r (outs P n 0 E') → Fz F F' → St ⟨c, B, B, F, P, fun j => (vs[j]?).getD .non⟩ E' σ' F' O' H' → (∀ j ∈ P, m ≠ j + 1) →
      ((∃ d, r = .fz d ∧ Rf c F' d v) ∨ (∃ o, r = .ow o ∧ Ro c F' H' (tgO O' m) [] o v)) → Q v H' := fun r E' σ' v F' O' H' m k f I' hm hr =>
    q r _ v F' _ H' k f (by rw [outs_len, hvn]) (I'.ret hvn hP pin hm hr)
  refine (z _ _ _).run J hT ⟨fun E' σ' F' O' H' k f I' => ?_, fun r E' σ' v F' O' H' k f I' rr => ?_, fun _ _ _ _ _ k => k.elim, fun _ _ _ _ _ k => k.elim⟩
  · exact fin _ _ _ _ _ _ _ 0 k f I' (fun j _ => by omega) (.inl ⟨.non, rfl, by simp only [Rf]⟩)
  · cases r with
    | fz d => exact fin _ _ _ _ _ _ _ 0 k f I' (fun j _ => by omega) (.inl ⟨d, rfl, rr⟩)
    | vw d => exact k.elim
    | nw o => exact fin _ _ _ _ _ _ _ 0 k f I' (fun j _ => by omega) (.inr ⟨o, rfl, rr⟩)
    | pl i p o =>
      obtain ⟨⟨rfl, e⟩, k⟩ := k
      obtain ⟨full, k⟩ := odK_ok k
      obtain ⟨F1, O1, f1, J1, k1, _⟩ := I'.freeze e (p := []) rfl full
      exact fin _ _ _ _ _ _ _ 0 k (f.trans f1) J1 (fun j _ => by omega) (.inl ⟨_, rfl, k1 v rr.2.2⟩)
end
end TL
namespace TL
open PySem L2
def fidx (k : Nat) (f : Str) : Option Nat := (nm k).findIdx? fun x => decide (x = f)
/-- where a field stands, by class -/
class Fx (f : Str) (l : outParam (List (Nat × Nat))) : Prop where
  ok : ∀ x ∈ l, fidx x.1 f = some x.2
def lookK : Nat → List (Nat × Nat) → (Nat → Prop) → Prop
  | _, [], _ => False
  | k, x :: l, K => match Nat.beq k x.1 with
    | true => K x.2
    | false => lookK k l K
theorem lookK_ok {f : Str} : ∀ {l : List (Nat × Nat)} {k : Nat} {K : Nat → Prop}, (∀ x ∈ l, fidx x.1 f = some x.2) → lookK k l K → ∃ j, fidx k f = some j ∧ K j
  | [], _, _, _, h => h.elim
  | x :: l, k, K, i, h => by
    simp only [lookK] at h
    split at h
    · rename_i e
      obtain rfl := Nat.eq_of_beq_eq_true e
      exact ⟨x.2, i x List.mem_cons_self, h⟩
    · exact lookK_ok (fun y hy => i y (List.mem_cons_of_mem _ hy)) h
def memK : Nat → List Nat → Prop → Prop
  | _, [], _ => False
  | k, x :: l, p => match Nat.beq k x with
    | true => p
    | false => memK k l p
theorem memK_ok : ∀ {l : List Nat} {k : Nat} {p : Prop}, memK k l p → k ∈ l ∧ p
  | [], _, _, h => h.elim
  | x :: l, k, p, h => by
    simp only [memK] at h
    split at h
    · rename_i e
      obtain rfl := Nat.eq_of_beq_eq_true e
      exact ⟨List.mem_cons_self, h⟩
    · obtain ⟨a, b⟩ := memK_ok h
      exact ⟨List.mem_cons_of_mem _ a, b⟩
def atK {α : Type} (l : List α) (j : Nat) (K : α → Prop) : Prop := match l[j]? with
  | some x => K x
  | none => False
theorem atK_ok {α : Type} {l : List α} {j : Nat} {K : α → Prop} (h : atK l j K) : ∃ x, l[j]? = some x ∧ K x := by
  unfold atK at h
  split at h
  · rename_i x e; exact ⟨x, e, h⟩
  · exact h.elim
class TxF (K : PySem.W.Frag) (c : Cls) (L : outParam (List Nat)) : Prop where
  fld : ∀ k f, k ∈ L → f ∈ nm k → L2.Cls K (c.at_ k) ∧ NoAttr K (c.at_ k) f
theorem look_idx {f : Str} : ∀ {us : List (Str × V)} {ns : List Str} {j : Nat} {v : V}, us.map (·.1) = ns → ns.findIdx? (fun x => decide (x = f)) = some j → (us.map (·.2))[j]? = some v → us.lookup f = some v
  | [], ns, j, v, h, e, g => by simp at g
  | (x, y) :: us, ns, j, v, h, e, g => by
    subst h
    simp only [List.map_cons, List.findIdx?_cons] at e
    by_cases c : x = f
    · subst c
      simp at e
      subst e
      simp at g
      simp [List.lookup, g]
    · rw [decide_eq_false c] at e
      simp only [Bool.false_eq_true, if_false] at e
      cases q : (us.map (·.1)).findIdx? (fun x => decide (x = f)) with
      | none => rw [q] at e; cases e
      | some m =>
        rw [q] at e
        simp at e
        subst e
        have := look_idx (us := us) rfl q (by simpa using g)
        simp only [List.lookup]
        rw [show (f == x) = false from beq_eq_false_iff_ne.mpr (Ne.symm c)]
        exact this
theorem putF_at {f : Str} {v : V} : ∀ {us : List (Str × V)} {ns : List Str} {j : Nat}, us.map (·.1) = ns → ns.findIdx? (fun x => decide (x = f)) = some j → (putF f v us).map (·.1) = ns ∧ (putF f v us).map (·.2) = (us.map (·.2)).set j v
  | [], ns, j, h, e => by subst h; simp at e
  | (x, y) :: us, ns, j, h, e => by
    subst h
    simp only [List.map_cons, List.findIdx?_cons] at e
    by_cases c : x = f
    · subst c
      simp at e
      subst e
      simp [putF]
    · rw [decide_eq_false c] at e
      simp only [Bool.false_eq_true, if_false] at e
      cases q : (us.map (·.1)).findIdx? (fun x => decide (x = f)) with
      | none => rw [q] at e; cases e
      | some m =>
        rw [q] at e
        simp at e
        subst e
        obtain ⟨h1, h2⟩ := putF_at (v := v) (us := us) rfl q
        simp only [putF, if_neg c, List.map_cons, List.set_cons_succ]
        exact ⟨by rw [h1], by rw [h2]⟩
theorem putF_new {f : Str} {v : V} : ∀ {us : List (Str × V)}, f ∉ us.map (·.1) → putF f v us = us ++ [(f, v)]
  | [], _ => rfl
  | (x, y) :: us, h => by
    simp only [List.map_cons, List.mem_cons, not_or] at h
    simp only [putF, if_neg (Ne.symm h.1), List.cons_append]
    rw [putF_new h.2]
theorem fidx_get {k : Nat} {f : Str} {j : Nat} (h : fidx k f = some j) : (nm k)[j]? = some f ∧ f ∉ (nm k).take j ∧ j < (nm k).length := by
  unfold fidx at h
  rw [List.findIdx?_eq_some_iff_getElem] at h
  obtain ⟨hl, h1, h2⟩ := h
  refine ⟨by rw [List.getElem?_eq_getElem hl]; simpa using h1, fun hm => ?_, hl⟩
  obtain ⟨m, hm1, hm2⟩ := List.mem_iff_getElem.mp hm
  have hmj : m < j := by rw [List.length_take] at hm1; omega
  have := h2 m hmj
  rw [List.getElem_take] at hm2
  rw [hm2] at this
  simp at this
theorem fidx_take {k n : Nat} {f : Str} {j : Nat} (h : fidx k f = some j) (hj : j < n) : ((nm k).take n).findIdx? (fun x => decide (x = f)) = some j := by
  unfold fidx at h
  rw [List.findIdx?_eq_some_iff_getElem] at h ⊢
  obtain ⟨hl, h1, h2⟩ := h
  refine ⟨by rw [List.length_take]; omega, by rw [List.getElem_take]; exact h1, fun m hm => by rw [List.getElem_take]; exact h2 m hm⟩
theorem RoL.monoS {c : Cls} {F F' H H' : Hp} {tg tg' : List Nat → Addr → Prop} (h : Fz F F') : ∀ {os : List OD} {p : List Nat} {n : Nat} {vs : List V}, (∀ q a, p <+: q → q ≠ p → tg q a → tg' q a ∧ H' a = H a) → RoL c F H tg p n os vs → RoL c F' H' tg' p n os vs
  | [], _, _, _, _, r => by simpa only [RoL] using r
  | o :: os, p, n, _, k, r => by
    simp only [RoL] at r ⊢
    obtain ⟨v, s, e, q, l⟩ := r
    refine ⟨v, s, e, Ro.mono h (fun q a hq => k q a ((List.prefix_append _ _).trans hq) fun z => ?_) q, RoL.monoS h k l⟩
    rw [z] at hq
    have := hq.length_le
    rw [List.length_append, List.length_singleton] at this
    omega
section
variable {S : Sx} {E : En} {σ : L2.St} {F H : Hp} {O : Ow} {r : Res} {v : V}
/-- a node changes its content -/
theorem St.chg (I : St S E σ F O H) {i : Nat} {o x n : OD} {p : List Nat} (he : E[i]? = some (.ow o)) (hx : o.at p = some x) {a : Addr} (ha : O a = some (i + 1, p)) {ob : HO} (new : ∀ w, Ro S.c F H (tgO O (i + 1)) p x w → Ro S.c F (upd H a ob) (tgO O (i + 1)) p n w) :
    St S (E.set i (Ent.mk (OD.put n p o))) σ F O (upd H a ob) :=
  I.mut he hx (.refl F) (fun b u e => by rw [upd_ne (fun z => by rw [z, (I.ob a _ ha).1] at e; cases e)]; exact I.fh _ _ e) (fun b h1 h2 => absurd h2 h1)
    (fun b hb hq => upd_ne (fun z => by subst z; exact hq p ha (List.prefix_refl _))) (fun b j q h _ => h)
    (fun b t h => ⟨.inl (by rw [h]; exact Option.some_ne_none _), (I.ob b t h).1, by
      by_cases c : b = a
      · rw [c, upd_same]; exact Option.some_ne_none _
      · rw [upd_ne c]; exact (I.ob b t h).2.2⟩) I.un new
/-- what is read of a field -/
def fldK (L : List Nat) (l : List (Nat × Nat)) : Res → (Res → Prop) → Prop
  | .fz (.ins k fs), K => memK k L (lookK k l fun j => atK fs j fun d => K (.fz d))
  | .vw (.ins k fs), K => memK k L (lookK k l fun j => atK fs j fun d => K (mkVw d))
  | .pl i p (.ins k fs), K => memK k L (lookK k l fun j => atK fs j fun o => K (mkPl i (p ++ [j]) o))
  | _, _ => False
theorem OD.at_append : ∀ {p q : List Nat} {o x : OD}, o.at p = some x → o.at (p ++ q) = x.at q
  | [], q, o, x, h => by simp only [OD.at, Option.some.injEq] at h; subst h; rfl
  | k :: p, q, .ls os, x, h => by
    simp only [OD.at, List.cons_append] at h ⊢
    cases e : os[k]? with
    | none => rw [e] at h; cases h
    | some y => rw [e] at h; exact OD.at_append (p := p) h
  | k :: p, q, .ins _ os, x, h => by
    simp only [OD.at, List.cons_append] at h ⊢
    cases e : os[k]? with
    | none => rw [e] at h; cases h
    | some y => rw [e] at h; exact OD.at_append (p := p) h
  | _ :: _, _, .fz _, _, h => by simp only [OD.at] at h; cases h
  | _ :: _, _, .fl _, _, h => by simp only [OD.at] at h; cases h
  | _ :: _, _, .fd _, _, h => by simp only [OD.at] at h; cases h
theorem RR.mkPl {i : Nat} {p : List Nat} {o : OD} (hp : p ≠ []) (h1 : ∃ r, E[i]? = some (.ow r) ∧ r.at p = some o) (h : Ro S.c F H (tgO O (i + 1)) p o v) : RR S E σ F O H (mkPl i p o) v := by
  cases o with
  | fz d => simpa only [TL.mkPl, RR, Ro] using h
  | _ => exact ⟨h1, fun z => absurd z hp, h⟩
theorem fld_ok {K : PySem.W.Frag} {L : List Nat} {l : List (Nat × Nat)} {f : Str} [t : TxF K S.c L] [fx : Fx f l] {Q : Res → Prop} (I : St S E σ F O H) (rr : RR S E σ F O H r v) (h : fldK L l r Q) :
    ∃ a C dx fs w x, v = .ref a ∧ H a = some (.ins C dx fs) ∧ L2.Cls K C ∧ NoAttr K C f ∧ fs.lookup f = some w ∧ Q x ∧ RR S E σ F O H x w := by
  cases r with
  | fz d =>
    cases d with
    | ins k fs =>
      obtain ⟨hk, h⟩ := memK_ok h
      obtain ⟨j, hj, h⟩ := lookK_ok fx.ok h
      obtain ⟨d, hd, q⟩ := atK_ok h
      simp only [RR, Rf] at rr
      obtain ⟨a, dx, us, rfl, e, n, l⟩ := rr
      obtain ⟨w, hw, rw_⟩ := l.get hd
      obtain ⟨c1, c2⟩ := t.fld k f hk (List.mem_of_getElem? (fidx_get hj).1)
      exact ⟨a, _, dx, us, w, _, rfl, I.fh _ _ e, c1, c2, look_idx n hj hw, q, rw_⟩
    | _ => exact h.elim
  | vw d =>
    cases d with
    | ins k fs =>
      obtain ⟨hk, h⟩ := memK_ok h
      obtain ⟨j, hj, h⟩ := lookK_ok fx.ok h
      obtain ⟨d, hd, q⟩ := atK_ok h
      simp only [RR, Rf] at rr
      obtain ⟨a, dx, us, rfl, e, n, l⟩ := rr
      obtain ⟨w, hw, rw_⟩ := l.get hd
      obtain ⟨c1, c2⟩ := t.fld k f hk (List.mem_of_getElem? (fidx_get hj).1)
      exact ⟨a, _, dx, us, w, _, rfl, uni_fz I.fh I.wh _ _ e, c1, c2, look_idx n hj hw, q, RR.mkVw rw_⟩
    | _ => exact h.elim
  | pl i p o =>
    cases o with
    | ins k fs =>
      obtain ⟨hk, h⟩ := memK_ok h
      obtain ⟨j, hj, h⟩ := lookK_ok fx.ok h
      obtain ⟨o, hd, q⟩ := atK_ok h
      obtain ⟨⟨root, he, hr⟩, _, ro⟩ := rr
      simp only [Ro] at ro
      obtain ⟨a, dx, us, rfl, _, e, n, l⟩ := ro
      obtain ⟨w, hw, rw_⟩ := l.get hd
      rw [Nat.zero_add] at rw_
      obtain ⟨c1, c2⟩ := t.fld k f hk (List.mem_of_getElem? (fidx_get hj).1)
      refine ⟨a, _, dx, us, w, _, rfl, e, c1, c2, look_idx n (fidx_take hj (List.getElem?_eq_some_iff.mp hd).1) hw, q, RR.mkPl (by simp) ⟨root, he, ?_⟩ rw_⟩
      rw [OD.at_append hr]
      simp only [OD.at, hd, Option.bind_some]
    | _ => exact h.elim
  | nw o => exact h.elim
end
section
variable {c : Cls} {P : List Nat} {W F0 : Hp} {pv : Nat → V} {K : PySem.W.Frag} {L : List Nat}
def TFld (L : List Nat) (l : List (Nat × Nat)) (T : TX) : TX := fun E K => T E fun r E1 => fldK L l r fun x => K x E1
instance lf_fld {ta : TE} {f : Str} {l : List (Nat × Nat)} {T : TX} [t : TxF K c L] [fx : Fx f l] [a : LfE c P W F0 pv ta T] : LfE c P W F0 pv (tFld K ta f) (TFld L l T) := ⟨fun {B E σ F O H Kk Q} I h q =>
  a.run I h fun r E1 v F1 O1 H1 h1 f1 I1 r1 => by
    obtain ⟨a, C, dx, fs, w, x, rfl, e, c1, c2, l, k, rx⟩ := fld_ok (K := K) (t := t) (fx := fx) I1 r1 h1
    exact ⟨a, C, dx, fs, w, rfl, e, c1, c2, l, q _ _ _ _ _ _ k f1 I1 rx⟩⟩
/-- self.f = e, self the slot i -/
def insK (E : En) (i : Nat) (K : Nat → List OD → Prop) : Prop := match E[i]? with
  | some (.ow (.ins k fs)) => K k fs
  | _ => False
theorem insK_ok {E : En} {i : Nat} {K : Nat → List OD → Prop} (h : insK E i K) : ∃ k fs, E[i]? = some (.ow (.ins k fs)) ∧ K k fs := by
  unfold insK at h
  split at h
  · rename_i k fs e; exact ⟨k, fs, e, h⟩
  · exact h.elim
def TSetF (L : List Nat) (i : Nat) (l : List (Nat × Nat)) (T : TX) : TXS := fun D E => T E fun y E1 => Frz [y] E1 fun ds E2 => match ds with
  | [d] => insK E2 i fun k fs => memK k L <| lookK k l fun j => fs.length < 900 ∧ match Nat.blt j fs.length with
    | true => D.nx (E2.set i (.ow (.ins k (fs.set j (.fz d)))))
    | false => j = fs.length ∧ D.nx (E2.set i (.ow (.ins k (fs ++ [.fz d]))))
  | _ => False
theorem RoL.set {c : Cls} {F H : Hp} {tg : List Nat → Addr → Prop} : ∀ {os : List OD} {p : List Nat} {n k : Nat} {vs : List V} {o : OD} {v : V}, RoL c F H tg p n os vs → Ro c F H tg (p ++ [n + k]) o v → RoL c F H tg p n (os.set k o) (vs.set k v)
  | [], _, _, _, _, _, _, r, _ => by simp only [RoL] at r; subst r; simp [RoL]
  | d :: ds, p, n, k, _, o, v, r, q => by
    simp only [RoL] at r
    obtain ⟨w, s, rfl, a, l⟩ := r
    cases k with
    | zero => simp only [List.set_cons_zero, RoL]; exact ⟨v, s, rfl, q, l⟩
    | succ k =>
      simp only [List.set_cons_succ, RoL]
      refine ⟨w, _, rfl, a, l.set (k := k) ?_⟩
      rw [show n + 1 + k = n + (k + 1) by omega]
      exact q
instance lf_setF {i : Nat} {f : Str} {l : List (Nat × Nat)} {tv : TE} {T : TX} [t : TxF K c L] [fx : Fx f l] [a : LfE c P W F0 pv tv T] : LfS c P W F0 pv (sFld K (tVar i) tv f) (TSetF L i l T) := ⟨fun {E σ F O H TD D} I h q =>
  a.run I h fun y E1 v F1 O1 H1 h1 f1 I1 r1 => by
    have rr : RRs ⟨c, W, W, F0, P, pv⟩ E1 σ F1 O1 H1 [y] [v] := ⟨v, [], rfl, r1, rfl⟩
    obtain ⟨ds, E2, F2, O2, h1, f2, I2, l⟩ := Frz.ok I1 rr.frz.2 rr.frz.1 h1
    have hds : ∃ d, ds = [d] := by
      have := l.len
      cases ds with
      | nil => cases this
      | cons d r =>
        cases r with
        | nil => exact ⟨d, rfl⟩
        | cons x y => cases this
    obtain ⟨d, rfl⟩ := hds
    obtain ⟨k, fs, e2, h1⟩ := insK_ok h1
    obtain ⟨hk, h1⟩ := memK_ok h1
    obtain ⟨j, hj, hlen, kk⟩ := lookK_ok fx.ok h1
    have kk : (j < fs.length ∧ TD.nx (E2.set i (.ow (.ins k (fs.set j (.fz d)))))) ∨ (j = fs.length ∧ TD.nx (E2.set i (.ow (.ins k (fs ++ [.fz d]))))) := by
      split at kk
      · rename_i e; exact .inl ⟨by simpa [Nat.blt_eq] using e, kk⟩
      · exact .inr kk
    obtain ⟨w, hw, ro⟩ := I2.sl i _ e2
    refine ⟨w, hw, ?_⟩
    have rd : Rf c F2 d v := by
      simp only [RfL] at l
      obtain ⟨v', r', e, z, _⟩ := l
      cases e; exact z
    have ro0 := ro
    simp only [Ro] at ro
    obtain ⟨a, dx, us, rfl, ta, ea, n, lo⟩ := ro
    obtain ⟨g1, g2, g3⟩ := fidx_get hj
    obtain ⟨c1, c2⟩ := t.fld k f hk (List.mem_of_getElem? g1)
    have lu : us.length = fs.length := by
      have := lo.len
      rw [List.length_map] at this
      exact this
    refine ⟨a, _, dx, us, rfl, ea, c1, c2, by omega, ?_⟩
    have un : ∀ w, Ro c F2 H1 (tgO O2 (i + 1)) [] (.ins k fs) w → w = .ref a := fun w hw => by
      simp only [Ro] at hw
      obtain ⟨b, _, _, rfl, tb, _⟩ := hw
      rw [I2.un a b _ ta tb]
    rcases kk with ⟨hl, kk⟩ | ⟨hl, kk⟩
    · obtain ⟨p1, p2⟩ := putF_at (v := v) n (fidx_take hj hl)
      have J := I2.chg (n := .ins k (fs.set j (.fz d))) e2 (p := []) rfl ta (ob := .ins (c.at_ k) dx (putF f v us)) fun w hw => by
        rw [un w hw]
        simp only [Ro]
        refine ⟨a, dx, _, rfl, ta, upd_same, by rw [p1, List.length_set], ?_⟩
        rw [p2]
        refine RoL.set (RoL.monoS (.refl _) (fun q b _ hq tb => ⟨tb, upd_ne ?_⟩) lo) ?_
        · rintro rfl
          have tb' : O2 b = some (i + 1, q) := tb
          have ta' : O2 b = some (i + 1, []) := ta
          rw [tb'] at ta'; cases ta'; exact hq rfl
        · simp only [Ro]; exact rd
      exact q.nx _ _ _ _ _ kk (f1.trans f2) J
    · have hn : f ∉ us.map (·.1) := by rw [n, ← hl]; exact g2
      have J := I2.chg (n := .ins k (fs ++ [.fz d])) e2 (p := []) rfl ta (ob := .ins (c.at_ k) dx (putF f v us)) fun w hw => by
        rw [un w hw]
        simp only [Ro]
        refine ⟨a, dx, _, rfl, ta, upd_same, ?_, ?_⟩
        · rw [putF_new hn, List.map_append, n, List.length_append]
          have : (nm k).take (fs.length + 1) = (nm k).take fs.length ++ [f] := by
            rw [List.take_add_one, ← hl, g1]; rfl
          rw [show fs.length + [OD.fz d].length = fs.length + 1 from rfl, this]; rfl
        · rw [putF_new hn, List.map_append]
          refine RoL.app (RoL.monoS (.refl _) (fun q b _ hq tb => ⟨tb, upd_ne ?_⟩) lo) ?_
          · rintro rfl
            have tb' : O2 b = some (i + 1, q) := tb
            have ta' : O2 b = some (i + 1, []) := ta
            rw [tb'] at ta'; cases ta'; exact hq rfl
          · simp only [Ro]; exact rd
      exact q.nx _ _ _ _ _ kk (f1.trans f2) J⟩
end
instance : Fx "over" [(0, 0)] := ⟨by simp only [List.mem_cons, List.not_mem_nil, or_false, forall_eq_or_imp, forall_eq]; decide +kernel⟩
instance : Fx "under" [(0, 1)] := ⟨by simp only [List.mem_cons, List.not_mem_nil, or_false, forall_eq_or_imp, forall_eq]; decide +kernel⟩
instance : Fx "_weights" [(1, 0)] := ⟨by simp only [List.mem_cons, List.not_mem_nil, or_false, forall_eq_or_imp, forall_eq]; decide +kernel⟩
instance : Fx "whole" [(1, 1), (2, 5), (4, 1), (8, 1), (9, 1)] := ⟨by simp only [List.mem_cons, List.not_mem_nil, or_false, forall_eq_or_imp, forall_eq]; decide +kernel⟩
instance : Fx "alphabet" [(2, 0)] := ⟨by simp only [List.mem_cons, List.not_mem_nil, or_false, forall_eq_or_imp, forall_eq]; decide +kernel⟩
instance : Fx "start" [(2, 1)] := ⟨by simp only [List.mem_cons, List.not_mem_nil, or_false, forall_eq_or_imp, forall_eq]; decide +kernel⟩
instance : Fx "rows" [(2, 2), (5, 1)] := ⟨by simp only [List.mem_cons, List.not_mem_nil, or_false, forall_eq_or_imp, forall_eq]; decide +kernel⟩
instance : Fx "length" [(2, 3), (10, 1)] := ⟨by simp only [List.mem_cons, List.not_mem_nil, or_false, forall_eq_or_imp, forall_eq]; decide +kernel⟩
instance : Fx "unit" [(2, 4), (5, 0)] := ⟨by simp only [List.mem_cons, List.not_mem_nil, or_false, forall_eq_or_imp, forall_eq]; decide +kernel⟩
instance : Fx "_rows" [(3, 0)] := ⟨by simp only [List.mem_cons, List.not_mem_nil, or_false, forall_eq_or_imp, forall_eq]; decide +kernel⟩
instance : Fx "entries" [(4, 0), (8, 0), (9, 0)] := ⟨by simp only [List.mem_cons, List.not_mem_nil, or_false, forall_eq_or_imp, forall_eq]; decide +kernel⟩
instance : Fx "absent" [(5, 2)] := ⟨by simp only [List.mem_cons, List.not_mem_nil, or_false, forall_eq_or_imp, forall_eq]; decide +kernel⟩
instance : Fx "present" [(5, 3)] := ⟨by simp only [List.mem_cons, List.not_mem_nil, or_false, forall_eq_or_imp, forall_eq]; decide +kernel⟩
instance : Fx "left" [(6, 0)] := ⟨by simp only [List.mem_cons, List.not_mem_nil, or_false, forall_eq_or_imp, forall_eq]; decide +kernel⟩
instance : Fx "free" [(6, 1)] := ⟨by simp only [List.mem_cons, List.not_mem_nil, or_false, forall_eq_or_imp, forall_eq]; decide +kernel⟩
instance : Fx "finders" [(6, 2)] := ⟨by simp only [List.mem_cons, List.not_mem_nil, or_false, forall_eq_or_imp, forall_eq]; decide +kernel⟩
instance : Fx "given" [(6, 3)] := ⟨by simp only [List.mem_cons, List.not_mem_nil, or_false, forall_eq_or_imp, forall_eq]; decide +kernel⟩
instance : Fx "back" [(6, 4)] := ⟨by simp only [List.mem_cons, List.not_mem_nil, or_false, forall_eq_or_imp, forall_eq]; decide +kernel⟩
instance : Fx "front" [(6, 5)] := ⟨by simp only [List.mem_cons, List.not_mem_nil, or_false, forall_eq_or_imp, forall_eq]; decide +kernel⟩
instance : Fx "many" [(7, 0), (8, 2), (9, 2)] := ⟨by simp only [List.mem_cons, List.not_mem_nil, or_false, forall_eq_or_imp, forall_eq]; decide +kernel⟩
instance : Fx "ring" [(7, 1), (11, 1)] := ⟨by simp only [List.mem_cons, List.not_mem_nil, or_false, forall_eq_or_imp, forall_eq]; decide +kernel⟩
instance : Fx "_sum" [(7, 2)] := ⟨by simp only [List.mem_cons, List.not_mem_nil, or_false, forall_eq_or_imp, forall_eq]; decide +kernel⟩
instance : Fx "_laid" [(7, 3)] := ⟨by simp only [List.mem_cons, List.not_mem_nil, or_false, forall_eq_or_imp, forall_eq]; decide +kernel⟩
instance : Fx "_sizes" [(7, 4)] := ⟨by simp only [List.mem_cons, List.not_mem_nil, or_false, forall_eq_or_imp, forall_eq]; decide +kernel⟩
instance : Fx "_arcs" [(7, 5), (11, 2)] := ⟨by simp only [List.mem_cons, List.not_mem_nil, or_false, forall_eq_or_imp, forall_eq]; decide +kernel⟩
instance : Fx "_rests" [(7, 6), (11, 3)] := ⟨by simp only [List.mem_cons, List.not_mem_nil, or_false, forall_eq_or_imp, forall_eq]; decide +kernel⟩
instance : Fx "weights" [(10, 0)] := ⟨by simp only [List.mem_cons, List.not_mem_nil, or_false, forall_eq_or_imp, forall_eq]; decide +kernel⟩
instance : Fx "_far" [(11, 0)] := ⟨by simp only [List.mem_cons, List.not_mem_nil, or_false, forall_eq_or_imp, forall_eq]; decide +kernel⟩
instance : Fx "_end" [(11, 4)] := ⟨by simp only [List.mem_cons, List.not_mem_nil, or_false, forall_eq_or_imp, forall_eq]; decide +kernel⟩
instance : Fx "_marking" [(12, 0)] := ⟨by simp only [List.mem_cons, List.not_mem_nil, or_false, forall_eq_or_imp, forall_eq]; decide +kernel⟩
instance : Fx "_places" [(12, 1)] := ⟨by simp only [List.mem_cons, List.not_mem_nil, or_false, forall_eq_or_imp, forall_eq]; decide +kernel⟩
instance : Fx "_counting" [(12, 2)] := ⟨by simp only [List.mem_cons, List.not_mem_nil, or_false, forall_eq_or_imp, forall_eq]; decide +kernel⟩
instance : Fx "_deeds" [(12, 3)] := ⟨by simp only [List.mem_cons, List.not_mem_nil, or_false, forall_eq_or_imp, forall_eq]; decide +kernel⟩
end TL
namespace TL
open PySem L2
/-! ### what is walked -/
def Res.stl : Res → Prop
  | .fz _ => True
  | .vw _ => True
  | _ => False
def IOk (S : Sx) (F1 : Hp) (J : It) (ds : List Res) : Prop := (∀ r ∈ ds, r.stl) ∧ ∀ B E σ F O H, St { S with B := B } E σ F O H → Fz F1 F →
  (∀ i, i < ds.length → J.go i H) ∧ J.stop ds.length H ∧ ∀ i x H' r, J.yld i H x H' → ds[i]? = some r → ∃ F', Fz F F' ∧ St { S with B := B } E σ F' O H' ∧ RR { S with B := B } E σ F' O H' r x
theorem stl_mkVw (d : D) : (mkVw d).stl := by cases d <;> trivial
theorem stl_map {f : D → Res} (h : f = .fz ∨ f = mkVw) {ds : List D} : ∀ r ∈ ds.map f, r.stl := fun r hr => by
  obtain ⟨d, _, rfl⟩ := List.mem_map.mp hr
  rcases h with rfl | rfl
  · trivial
  · exact stl_mkVw d
abbrev TXI := En → (List Res → En → Prop) → Prop
class LfI (c : Cls) (P : List Nat) (W F0 : Hp) (pv : Nat → V) (w : TI) (T : outParam TXI) : Prop where
  run : ∀ {B : Hp} {E : En} {σ : L2.St} {F : Hp} {O : Ow} {H : Hp} {K : List Res → En → Prop} {R : It → Hp → Prop}, St ⟨c, W, B, F0, P, pv⟩ E σ F O H → T E K →
    (∀ ds E' J F' O' H', K ds E' → Fz F F' → St ⟨c, W, B, F0, P, pv⟩ E' σ F' O' H' → IOk ⟨c, W, B, F0, P, pv⟩ F' J ds → R J H') → w σ H R
def itL : Res → En → (List Res → En → Prop) → Prop
  | .fz (.lst ds), E, K => K (ds.map .fz) E
  | .vw (.lst ds), E, K => K (ds.map mkVw) E
  | .pl j p o, E, K => p = [] ∧ o.full ∧ E[j]? = some (.ow o) ∧ ∃ ds, o.er = .lst ds ∧ K (ds.map .fz) (E.set j (.fz o.er))
  | _, _, _ => False
def itT : Res → En → (List Res → En → Prop) → Prop
  | .fz (.tup ds), E, K => K (ds.map .fz) E
  | .vw (.tup ds), E, K => K (ds.map mkVw) E
  | _, _, _ => False
section
variable {S : Sx} {E : En} {σ : L2.St} {F F1 H : Hp} {O : Ow} {r : Res} {v : V}
theorem itl_ok {K : PySem.W.Frag} {a : Addr} {vs : List V} {f : D → Res} {ds : List D} (hf : (f = .fz ∧ F1 a = some (.lst vs) ∧ RfL S.c F1 ds vs) ∨ (f = TL.mkVw ∧ (uni F1 S.W) a = some (.lst vs) ∧ RfL S.c (uni F1 S.W) ds vs)) : IOk S F1 (Itl K a) (ds.map f) := ⟨stl_map (hf.imp (·.1) (·.1)), fun B E σ F O H I g => by
  have hH : H a = some (.lst vs) := by
    rcases hf with ⟨_, e, _⟩ | ⟨_, e, _⟩
    · exact I.fh _ _ (g _ _ e)
    · exact uni_fz (g.trans I.fh) I.wh _ _ e
  have hl : vs.length = ds.length := by rcases hf with ⟨_, _, l⟩ | ⟨_, _, l⟩ <;> exact l.len
  have sq : SqL K H a vs := SqL.of hH
  refine ⟨fun i hi => ?_, ⟨vs, sq, by rw [List.length_map, hl]; exact Nat.le_refl _⟩, fun i x H' r y e => ?_⟩
  · rw [List.length_map, ← hl] at hi
    exact ⟨vs, vs[i], sq, List.getElem?_eq_getElem hi⟩
  · obtain ⟨rfl, y⟩ := y
    have hx := y vs sq
    rw [List.getElem?_map] at e
    rcases hf with ⟨rfl, _, l⟩ | ⟨rfl, _, l⟩
    · obtain ⟨d, hd, rd⟩ := l.back hx
      rw [hd] at e; cases e
      exact ⟨F, .refl _, I, rd.mono g⟩
    · obtain ⟨d, hd, rd⟩ := l.back hx
      rw [hd] at e; cases e
      exact ⟨F, .refl _, I, RR.mkVw (rd.mono (uni_mono g I.fh I.wh))⟩⟩
theorem itt_ok {K : PySem.W.Frag} {a : Addr} {vs : List V} {f : D → Res} {ds : List D} (hf : (f = .fz ∧ F1 a = some (.tup vs) ∧ RfL S.c F1 ds vs) ∨ (f = TL.mkVw ∧ (uni F1 S.W) a = some (.tup vs) ∧ RfL S.c (uni F1 S.W) ds vs)) : IOk S F1 (Itt K a) (ds.map f) := ⟨stl_map (hf.imp (·.1) (·.1)), fun B E σ F O H I g => by
  have hH : H a = some (.tup vs) := by
    rcases hf with ⟨_, e, _⟩ | ⟨_, e, _⟩
    · exact I.fh _ _ (g _ _ e)
    · exact uni_fz (g.trans I.fh) I.wh _ _ e
  have hl : vs.length = ds.length := by rcases hf with ⟨_, _, l⟩ | ⟨_, _, l⟩ <;> exact l.len
  have sq : SqT K H a vs := SqT.of hH
  refine ⟨fun i hi => ?_, ⟨vs, sq, by rw [List.length_map, hl]; exact Nat.le_refl _⟩, fun i x H' r y e => ?_⟩
  · rw [List.length_map, ← hl] at hi
    exact ⟨vs, vs[i], sq, List.getElem?_eq_getElem hi⟩
  · obtain ⟨rfl, y⟩ := y
    have hx := y vs sq
    rw [List.getElem?_map] at e
    rcases hf with ⟨rfl, _, l⟩ | ⟨rfl, _, l⟩
    · obtain ⟨d, hd, rd⟩ := l.back hx
      rw [hd] at e; cases e
      exact ⟨F, .refl _, I, rd.mono g⟩
    · obtain ⟨d, hd, rd⟩ := l.back hx
      rw [hd] at e; cases e
      exact ⟨F, .refl _, I, RR.mkVw (rd.mono (uni_mono g I.fh I.wh))⟩⟩
/-- a walk over (x, y)s that are made anew -/
theorem pair_new {E : En} {σ : L2.St} {F H : Hp} {O : Ow} (I : St S E σ F O H) {T : Addr} {x y : V} {dx dy : D} (hT : H T = none) :
    (Rf S.c F dx x → Rf S.c F dy y → ∃ F', Fz F F' ∧ St S E σ F' O (upd H T (.tup [x, y])) ∧ RR S E σ F' O (upd H T (.tup [x, y])) (.fz (.tup [dx, dy])) (.ref T)) ∧
    (Rf S.c (uni F S.W) dx x → Rf S.c (uni F S.W) dy y → ∃ F', Fz F F' ∧ St S E σ F' O (upd H T (.tup [x, y])) ∧ RR S E σ F' O (upd H T (.tup [x, y])) (.vw (.tup [dx, dy])) (.ref T)) := by
  have f := fz_upd (o := .tup [x, y]) (I.fh.none hT)
  have J := I.newF hT (.tup [x, y])
  refine ⟨fun hx hy => ⟨_, f, J, ?_⟩, fun hx hy => ⟨_, f, J, ?_⟩⟩
  · simp only [RR, Rf]
    exact ⟨T, [x, y], rfl, upd_same, .cons (hx.mono f) (.cons (hy.mono f) .nil)⟩
  · simp only [RR, Rf]
    have u := uni_mono f J.fh J.wh
    exact ⟨T, [x, y], rfl, uni_l _ _ upd_same, .cons (hx.mono u) (.cons (hy.mono u) .nil)⟩
end
section
variable {c : Cls} {P : List Nat} {W F0 : Hp} {pv : Nat → V}
def TItL (T : TX) : TXI := fun E K => T E fun r E1 => itL r E1 K
def TItT (T : TX) : TXI := fun E K => T E fun r E1 => itT r E1 K
instance lf_iList {Kf : PySem.W.Frag} {te : TE} {T : TX} [a : LfE c P W F0 pv te T] : LfI c P W F0 pv (iList Kf te) (TItL T) := ⟨fun {B E σ F O H K R} I h q =>
  a.run I h fun r E1 v F1 O1 H1 h1 f1 I1 r1 => by
    cases r with
    | fz d =>
      cases d with
      | lst ds =>
        simp only [RR, Rf] at r1
        obtain ⟨a, vs, rfl, e, l⟩ := r1
        exact ⟨a, rfl, ⟨vs, SqL.of (I1.fh _ _ e)⟩, q _ _ _ _ _ _ h1 f1 I1 (itl_ok (.inl ⟨rfl, e, l⟩))⟩
      | _ => exact h1.elim
    | vw d =>
      cases d with
      | lst ds =>
        simp only [RR, Rf] at r1
        obtain ⟨a, vs, rfl, e, l⟩ := r1
        exact ⟨a, rfl, ⟨vs, SqL.of (uni_fz I1.fh I1.wh _ _ e)⟩, q _ _ _ _ _ _ h1 f1 I1 (itl_ok (.inr ⟨rfl, e, l⟩))⟩
      | _ => exact h1.elim
    | pl j p o =>
      obtain ⟨rfl, full, e, ds, hd, k⟩ := h1
      obtain ⟨F2, O2, f2, J, k2, _⟩ := I1.freeze e (p := []) rfl full
      have := k2 v r1.2.2
      rw [hd] at this
      simp only [Rf] at this
      obtain ⟨a, vs, rfl, e2, l⟩ := this
      exact ⟨a, rfl, ⟨vs, SqL.of (J.fh _ _ e2)⟩, q _ _ _ _ _ _ k (f1.trans f2) J (itl_ok (.inl ⟨rfl, e2, l⟩))⟩
    | nw o => exact h1.elim⟩
instance lf_iTup {Kf : PySem.W.Frag} {te : TE} {T : TX} [a : LfE c P W F0 pv te T] : LfI c P W F0 pv (iTup Kf te) (TItT T) := ⟨fun {B E σ F O H K R} I h q =>
  a.run I h fun r E1 v F1 O1 H1 h1 f1 I1 r1 => by
    cases r with
    | fz d =>
      cases d with
      | tup ds =>
        simp only [RR, Rf] at r1
        obtain ⟨a, vs, rfl, e, l⟩ := r1
        exact ⟨a, rfl, ⟨vs, SqT.of (I1.fh _ _ e)⟩, q _ _ _ _ _ _ h1 f1 I1 (itt_ok (.inl ⟨rfl, e, l⟩))⟩
      | _ => exact h1.elim
    | vw d =>
      cases d with
      | tup ds =>
        simp only [RR, Rf] at r1
        obtain ⟨a, vs, rfl, e, l⟩ := r1
        exact ⟨a, rfl, ⟨vs, SqT.of (uni_fz I1.fh I1.wh _ _ e)⟩, q _ _ _ _ _ _ h1 f1 I1 (itt_ok (.inr ⟨rfl, e, l⟩))⟩
      | _ => exact h1.elim
    | pl j p o => exact h1.elim
    | nw o => exact h1.elim⟩
def iOr (w1 w2 : TI) : TI := fun σ H R => w1 σ H R ∨ w2 σ H R
theorem pi_or' {X : Cx} {tg iter : Expr} {w1 w2 : TI} (a : PI X tg iter w1) (b : PI X tg iter w2) : PI X tg iter (iOr w1 w2) := R9.pi_or a b
instance lf_iOr {w1 w2 : TI} {T U : TXI} [a : LfI c P W F0 pv w1 T] [b : LfI c P W F0 pv w2 U] : LfI c P W F0 pv (iOr w1 w2) (fun E K => T E K ∨ U E K) := ⟨fun {B E σ F O H K R} I h q =>
  h.elim (fun h => .inl (a.run I h q)) (fun h => .inr (b.run I h q))⟩
def intsR (lo : Int) (n : Nat) : List Res := (List.range n).map fun (k : Nat) => .fz (.int (lo + (k : Int)))
theorem itr_ok {S : Sx} {F1 : Hp} {lo : Int} {n : Nat} : IOk S F1 (Itr lo n) (intsR lo n) := ⟨fun r hr => by
    obtain ⟨k, _, rfl⟩ := List.mem_map.mp hr
    trivial, fun B E σ F O H I g => by
  refine ⟨fun i hi => by simpa [intsR, Itr] using hi, by simp [intsR, Itr], fun i x H' r y e => ?_⟩
  obtain ⟨rfl, rfl⟩ := y
  unfold intsR at e
  rw [List.getElem?_map] at e
  by_cases hi : i < n
  · rw [List.getElem?_range hi] at e
    cases e
    exact ⟨F, .refl _, I, by simp only [RR, Rf]⟩
  · rw [List.getElem?_eq_none (by simpa using hi)] at e; cases e⟩
def TRg1 (T : TXA) : TXI := fun E K => T E fun rs E1 => match rs with
  | [.fz (.int j)] => (-(2 ^ 62) ≤ j ∧ j < 2 ^ 62) ∧ K (intsR 0 j.toNat) E1
  | _ => False
def TRg2 (T : TXA) : TXI := fun E K => T E fun rs E1 => match rs with
  | [.fz (.int i), .fz (.int j)] => (-(2 ^ 62) ≤ i ∧ i < 2 ^ 62 ∧ -(2 ^ 62) ≤ j ∧ j < 2 ^ 62) ∧ K (intsR i (j - i).toNat) E1
  | _ => False
theorem map1 {α β : Type} {f : α → β} {l : List α} {y : β} (e : l.map f = [y]) : ∃ x, l = [x] ∧ f x = y := by
  cases l with
  | nil => cases e
  | cons a t =>
    cases t with
    | nil => exact ⟨a, rfl, by simpa using e⟩
    | cons b u => simp at e
theorem map2 {α β : Type} {f : α → β} {l : List α} {y z : β} (e : l.map f = [y, z]) : ∃ a b, l = [a, b] ∧ f a = y ∧ f b = z := by
  cases l with
  | nil => cases e
  | cons a t =>
    cases t with
    | nil => simp at e
    | cons b u =>
      cases u with
      | nil => simp at e; exact ⟨a, b, rfl, e.1, e.2⟩
      | cons d w => simp at e
theorem Res.int_full {r : Res} {i : Int} (h : r.d = .int i) : r.full := by
  cases r with
  | pl i p o => cases o <;> simp_all [Res.d, OD.er, Res.full, OD.full]
  | nw o => cases o <;> simp_all [Res.d, OD.er, Res.full, OD.full]
  | _ => trivial
theorem RR.int {S : Sx} {E : En} {σ : L2.St} {F H : Hp} {O : Ow} (I : St S E σ F O H) {r : Res} {v : V} {i : Int} (h : RR S E σ F O H r v) (e : r.d = .int i) : v = .int i := by
  have := h.rf I (Res.int_full e)
  rw [e] at this
  simpa only [Rf] using this
instance lf_rng1 {ta : TA} {T : TXA} [a : LfA c P W F0 pv ta T] : LfI c P W F0 pv (iRng1 ta) (TRg1 T) := ⟨fun {B E σ F O H K R} I h q =>
  a.run I h fun rs E1 vs F1 O1 H1 h1 f1 I1 r1 => by
    split at h1
    rotate_left
    · exact h1.elim
    rename_i j
    obtain ⟨⟨hj1, hj2⟩, k⟩ := h1
    simp only [RRs] at r1
    obtain ⟨v, us, rfl, rv, rfl⟩ := r1
    exact ⟨j, by rw [rv.int I1 rfl], hj1, hj2, q _ _ _ _ _ _ k f1 I1 itr_ok⟩⟩
instance lf_rng2 {ta : TA} {T : TXA} [a : LfA c P W F0 pv ta T] : LfI c P W F0 pv (iRng2 ta) (TRg2 T) := ⟨fun {B E σ F O H K R} I h q =>
  a.run I h fun rs E1 vs F1 O1 H1 h1 f1 I1 r1 => by
    split at h1
    rotate_left
    · exact h1.elim
    rename_i i j
    obtain ⟨hb, k⟩ := h1
    simp only [RRs] at r1
    obtain ⟨v, us, rfl, rv, v', us', rfl, rv', rfl⟩ := r1
    exact ⟨i, j, by rw [rv.int I1 rfl, rv'.int I1 rfl], hb, q _ _ _ _ _ _ k f1 I1 itr_ok⟩⟩
/-! ### for, while -/
def TFor (Ti : TXI) (G : TXG) (T : TXS) : TXS := fun D E => Ti E fun ds E1 => ∃ I : Nat → En → Prop, I 0 E1 ∧
  (∀ i r E, ds[i]? = some r → I i E → G r E fun E2 => T { D with nx := I (i + 1), ct := I (i + 1), bk := D.nx } E2) ∧ ∀ E, I ds.length E → D.nx E
instance lf_for {w : TI} {g : TG} {tb : TS} {Ti : TXI} {G : TXG} {T : TXS} [a : LfI c P W F0 pv w Ti] [b : LfG c P W F0 pv g G] [z : LfS c P W F0 pv tb T] : LfS c P W F0 pv (tFor w g tb) (TFor Ti G T) := ⟨fun {E σ F O H TD D} I h q =>
  a.run I h fun ds E1 J F1 O1 H1 h1 f1 I1 ok => by
    obtain ⟨Iv, i0, turn, fin⟩ := h1
    refine ⟨fun i m σ' H' => m = ds.length - i ∧ i ≤ ds.length ∧ ∃ E' F' O', Iv i E' ∧ Fz F1 F' ∧ St ⟨c, W, W, F0, P, pv⟩ E' σ' F' O' H', ⟨_, rfl, Nat.zero_le _, E1, F1, O1, i0, .refl _, I1⟩, ?_⟩
    rintro i m σ2 H2 ⟨rfl, hi, E2, F2, O2, iv, f2, I2⟩
    obtain ⟨go, stop, yld⟩ := ok.2 W E2 σ2 F2 O2 H2 I2 f2
    by_cases hlt : i < ds.length
    · refine .inr ⟨go i hlt, fun σ' H' => ∃ E' F' O', Iv (i + 1) E' ∧ Fz F1 F' ∧ St ⟨c, W, W, F0, P, pv⟩ E' σ' F' O' H', fun σ' H' n => ⟨ds.length - (i + 1), by omega, rfl, hlt, n⟩, fun x H' y => ?_⟩
      obtain ⟨F3, f3, I3, rr⟩ := yld i x H' _ y (List.getElem?_eq_getElem hlt)
      have f13 : Fz F1 F3 := f2.trans f3
      refine b.run I3 rr (turn i _ E2 (List.getElem?_eq_getElem hlt) iv) fun E4 σ4 F4 O4 H4 h4 f4 I4 => z.run I4 h4 ?_
      have f14 : Fz F1 F4 := f13.trans f4
      refine ⟨fun E' σ' F' O' H' k f I' => ⟨E', F', O', k, f14.trans f, I'⟩, fun r E' σ' v F' O' H' k f I' rr => q.rt _ _ _ _ _ _ _ k (f1.trans (f14.trans f)) I' rr,
        fun E' σ' F' O' H' k f I' => q.nx _ _ _ _ _ k (f1.trans (f14.trans f)) I', fun E' σ' F' O' H' k f I' => ⟨E', F', O', k, f14.trans f, I'⟩⟩
    · have e : i = ds.length := by omega
      subst e
      exact .inl ⟨stop, q.nx _ _ _ _ _ (fin E2 iv) (f1.trans f2) I2⟩⟩
def TWhile (C : TXT) (T : TXS) : TXS := fun D E => ∃ I : Nat → En → Prop, (∃ m, I m E) ∧ ∀ m E, I m E → C E fun b E1 => if b = true then T { D with nx := fun E' => ∃ m', m' < m ∧ I m' E', ct := fun E' => ∃ m', m' < m ∧ I m' E', bk := D.nx } E1 else D.nx E1
instance lf_while {tc : TT} {tb : TS} {C : TXT} {T : TXS} [a : LfT c P W F0 pv tc C] [b : LfS c P W F0 pv tb T] : LfS c P W F0 pv (tWhile tc tb) (TWhile C T) := ⟨fun {E σ F O H TD D} I h q => by
  obtain ⟨Iv, ⟨m0, i0⟩, turn⟩ := h
  refine ⟨fun m σ' H' => ∃ E' F' O', Iv m E' ∧ Fz F F' ∧ St ⟨c, W, W, F0, P, pv⟩ E' σ' F' O' H', ⟨m0, E, F, O, i0, .refl _, I⟩, ?_⟩
  rintro m σ1 H1 ⟨E1, F1, O1, iv, f1, I1⟩
  refine a.run I1 (turn m E1 iv) fun x E2 F2 O2 H2 h2 f2 I2 => ?_
  cases x with
  | false => rw [if_neg Bool.false_ne_true] at h2 ⊢; exact q.nx _ _ _ _ _ h2 (f1.trans f2) I2
  | true =>
    rw [if_pos rfl] at h2 ⊢
    have f12 := f1.trans f2
    refine ⟨fun σ' H' => ∃ m', m' < m ∧ ∃ E' F' O', Iv m' E' ∧ Fz F F' ∧ St ⟨c, W, W, F0, P, pv⟩ E' σ' F' O' H', fun σ' H' ⟨m', hm, n⟩ => ⟨m', hm, n⟩, b.run I2 h2 ?_⟩
    exact ⟨fun E' σ' F' O' H' ⟨m', hm, k⟩ f I' => ⟨m', hm, E', F', O', k, f12.trans f, I'⟩, fun r E' σ' v F' O' H' k f I' rr => q.rt _ _ _ _ _ _ _ k (f12.trans f) I' rr,
      fun E' σ' F' O' H' k f I' => q.nx _ _ _ _ _ k (f12.trans f) I', fun E' σ' F' O' H' ⟨m', hm, k⟩ f I' => ⟨m', hm, E', F', O', k, f12.trans f, I'⟩⟩⟩
/-- what lies between -/
def TMid (T U : TXS) : TXS := fun D E => ∃ M : En → Prop, T { D with nx := M } E ∧ ∀ E', M E' → U D E'
instance lf_mid {t u : TS} {T U : TXS} [a : LfS c P W F0 pv t T] [b : LfS c P W F0 pv u U] : LfS c P W F0 pv (R9.tMid t u) (TMid T U) := ⟨fun {E σ F O H TD D} I h q => by
  obtain ⟨M, h1, h2⟩ := h
  refine ⟨fun σ' H' => ∃ E' F' O', M E' ∧ Fz F F' ∧ St ⟨c, W, W, F0, P, pv⟩ E' σ' F' O' H', a.run I h1 ⟨fun E' σ' F' O' H' k f I' => ⟨E', F', O', k, f, I'⟩, q.rt, q.bk, q.ct⟩, fun σ' H' ⟨E', F', O', k, f, I'⟩ => b.run I' (h2 E' k) (q.mono f)⟩⟩
end
end TL
namespace TL
open PySem L2
section
variable {S : Sx} {E E' : En} {σ σ' : L2.St} {F F' H H' : Hp} {O O' : Ow} {D : Addr} {o o' : HO}
/-- what is built stands aside -/
structure Side (S : Sx) (F : Hp) (O : Ow) (D : Addr) : Prop where
  f : F D = none
  f0 : S.F0 D = none
  b : S.B D = none
  ow : O D = none
theorem St.shield (I : St S E σ F O H) (s : Side S F O D) (h : H D = some o) : St { S with B := upd S.B D o } E σ F O H where
  fh := I.fh
  bh := fun a u e => by
    have e : upd S.B D o a = some u := e
    by_cases c : a = D
    · subst c; rw [upd_same] at e; cases e; exact h
    · rw [upd_ne c] at e; exact I.bh _ _ e
  vb := fun a u e => by
    have := I.vb _ _ e
    show upd S.B D o a = some u
    rw [upd_ne (fun z => by rw [z, s.b] at this; cases this)]
    exact this
  f0 := I.f0
  fn := fun a h1 h2 => by
    show upd S.B D o a = none
    rw [upd_ne (fun z => h1 (by rw [z, s.f]))]
    exact I.fn a h1 h2
  ob := fun a t e => by
    obtain ⟨h1, h2, h3⟩ := I.ob a t e
    refine ⟨h1, ?_, h3⟩
    show upd S.B D o a = none
    rw [upd_ne (fun z => by rw [z, s.ow] at e; cases e)]
    exact h2
  un := I.un
  len := I.len
  sl := I.sl
  pin := I.pin
theorem St.unshield (I : St { S with B := upd S.B D o } E σ F O H) (vb : Fz S.W S.B) (f0 : S.F0 D = none) (b : S.B D = none) : St S E σ F O H ∧ Side S F O D ∧ H D = some o := by
  have fD : F D = none := by
    cases q : F D with
    | none => rfl
    | some u =>
      have := I.fn D (by rw [q]; exact Option.some_ne_none _) f0
      have h : upd S.B D o D = none := this
      rw [upd_same] at h; cases h
  have bb : ∀ a, S.B a ≠ none → upd S.B D o a = S.B a := fun a h => upd_ne (fun z => h (by rw [z, b]))
  refine ⟨⟨I.fh, fun a u e => I.bh a u ((bb a (by rw [e]; exact Option.some_ne_none _)).trans e), vb, I.f0, fun a h1 h2 => ?_, fun a t e => ?_, I.un, I.len, I.sl, I.pin⟩, ⟨fD, f0, b, ?_⟩, I.bh D o upd_same⟩
  · have := I.fn a h1 h2
    cases q : S.B a with
    | none => rfl
    | some u => exact absurd ((bb a (by rw [q]; exact Option.some_ne_none _)).symm.trans this) (by rw [q]; exact Option.some_ne_none _)
  · obtain ⟨h1, h2, h3⟩ := I.ob a t e
    refine ⟨h1, ?_, h3⟩
    cases q : S.B a with
    | none => rfl
    | some u => exact absurd ((bb a (by rw [q]; exact Option.some_ne_none _)).symm.trans h2) (by rw [q]; exact Option.some_ne_none _)
  · cases q : O D with
    | none => rfl
    | some t =>
      have := (I.ob D t q).2.1
      have h : upd S.B D o D = none := this
      rw [upd_same] at h; cases h
theorem St.junk (I : St S E σ F O H) (s : Side S F O D) : St S E σ F O (upd H D o') := by
  have k : ∀ a, a ≠ D → upd H D o' a = H a := fun a h => upd_ne h
  have nf : ∀ a u, F a = some u → a ≠ D := fun a u e z => by rw [z, s.f] at e; cases e
  have nb : ∀ a u, S.B a = some u → a ≠ D := fun a u e z => by rw [z, s.b] at e; cases e
  have no : ∀ a u, O a = some u → a ≠ D := fun a u e z => by rw [z, s.ow] at e; cases e
  have fh : Fz F (upd H D o') := fun a u e => (k a (nf a u e)).trans (I.fh _ _ e)
  have bh : Fz S.B (upd H D o') := fun a u e => (k a (nb a u e)).trans (I.bh _ _ e)
  refine ⟨fh, bh, I.vb, I.f0, I.fn, fun a t e => ?_, I.un, I.len, fun i e he => ?_, I.pin⟩
  · obtain ⟨h1, h2, h3⟩ := I.ob a t e
    exact ⟨h1, h2, by rw [k a (no a t e)]; exact h3⟩
  · have z := I.sl i e he
    cases e with
    | nil => trivial
    | fz d => exact z
    | vw d => exact z
    | ow x => obtain ⟨w, hw, r⟩ := z; exact ⟨w, hw, r.mono (.refl _) fun q a _ t => ⟨t, k a (no a _ t)⟩⟩
/-- what stood aside is frozen -/
theorem St.adopt (I : St S E σ F O H) (s : Side S F O D) (h : H D = some o) : St S E σ (upd F D o) O H := by
  have f : Fz F (upd F D o) := fz_upd s.f
  have fh : Fz (upd F D o) H := fun a u e => by
    by_cases c : a = D
    · subst c; rw [upd_same] at e; cases e; exact h
    · rw [upd_ne c] at e; exact I.fh _ _ e
  refine ⟨fh, I.bh, I.vb, I.f0.trans f, fun a h1 h2 => ?_, fun a t e => ?_, I.un, I.len, fun i e he => ?_, I.pin⟩
  · by_cases c : a = D
    · rw [c]; exact s.b
    · rw [upd_ne c] at h1; exact I.fn a h1 h2
  · obtain ⟨h1, h2, h3⟩ := I.ob a t e
    exact ⟨by rw [upd_ne (fun z => by rw [z, s.ow] at e; cases e)]; exact h1, h2, h3⟩
  · have z := I.sl i e he
    cases e with
    | nil => trivial
    | fz d => obtain ⟨v, hv, r⟩ := z; exact ⟨v, hv, r.mono f⟩
    | vw d => obtain ⟨v, hv, r⟩ := z; exact ⟨v, hv, r.mono (uni_mono f fh I.wh)⟩
    | ow x => obtain ⟨w, hw, r⟩ := z; exact ⟨w, hw, r.mono f fun q a _ t => ⟨t, rfl⟩⟩
/-- .. or one's own -/
theorem St.take (I : St S E σ F O H) (s : Side S F O D) (h : H D = some o) : St S E σ F (newT D O) H := by
  refine { fh := I.fh, bh := I.bh, vb := I.vb, f0 := I.f0, fn := I.fn, ob := fun a t e => ?_, un := fun a b t h1 h2 => ?_, len := I.len, sl := fun j y hj => ?_, pin := I.pin }
  · by_cases c : a = D
    · subst c; exact ⟨s.f, s.b, by rw [h]; exact Option.some_ne_none _⟩
    · exact I.ob a t (newT_ne e c).1
  · by_cases c : a = D
    · subst c
      rw [newT_self] at h1; cases h1
      by_cases d : b = a
      · exact d.symm
      · exact absurd rfl (newT_ne h2 d).2
    · by_cases d : b = D
      · subst d
        rw [newT_self] at h2; cases h2
        exact absurd rfl (newT_ne h1 c).2
      · exact I.un a b t (newT_ne h1 c).1 (newT_ne h2 d).1
  · have z := I.sl j y hj
    cases y with
    | nil => trivial
    | fz d => exact z
    | vw d => exact z
    | ow x =>
      obtain ⟨w, e, r⟩ := z
      refine ⟨w, e, r.mono (.refl _) fun q a _ t => ⟨newT_keep t (fun z => ?_), rfl⟩⟩
      subst z
      have t' : O a = some (j + 1, q) := t
      rw [s.ow] at t'; cases t'
theorem St.fresh (I : St S E σ F O H) (h : H D = none) : Side S F O D ∧ St S E σ F O (upd H D o) := by
  have s : Side S F O D := ⟨I.fh.none h, I.f0.none (I.fh.none h), I.bh.none h, by
    cases q : O D with
    | none => rfl
    | some t => exact absurd h (I.ob D t q).2.2⟩
  exact ⟨s, I.junk s⟩
end
/-! ### a comprehension's names -/
theorem wipe_get {σ : L2.St} : ∀ {vs : List Nat} {k : Nat}, (wipe σ vs)[k]? = if k ∈ vs then (σ[k]?).map (fun _ => none) else σ[k]?
  | [], k => by simp [wipe]
  | v :: vs, k => by
    simp only [wipe]
    by_cases c : v = k
    · subst c
      rw [if_pos List.mem_cons_self, List.getElem?_set_self']
      have := wipe_length σ vs
      by_cases h : v < σ.length
      · rw [List.getElem?_eq_getElem (by rw [this]; exact h), List.getElem?_eq_getElem h]; rfl
      · rw [List.getElem?_eq_none (by rw [this]; omega), List.getElem?_eq_none (by omega)]; rfl
    · rw [List.getElem?_set_ne c, wipe_get]
      by_cases h : k ∈ vs
      · rw [if_pos h, if_pos (List.mem_cons_of_mem _ h)]
      · rw [if_neg h, if_neg (by simp only [List.mem_cons, not_or]; exact ⟨fun z => c z.symm, h⟩)]
theorem wipe_eq {σ σ' : L2.St} {vs : List Nat} (hl : σ.length = σ'.length) (h : ∀ k, k ∉ vs → σ[k]? = σ'[k]?) : wipe σ vs = wipe σ' vs := by
  apply List.ext_getElem?
  intro k
  rw [wipe_get, wipe_get]
  by_cases c : k ∈ vs
  · rw [if_pos c, if_pos c]
    by_cases q : k < σ.length
    · rw [List.getElem?_eq_getElem q, List.getElem?_eq_getElem (by omega)]; rfl
    · rw [List.getElem?_eq_none (by omega), List.getElem?_eq_none (by omega)]
  · rw [if_neg c, if_neg c]; exact h k c
theorem wipe_out {σ σ' : L2.St} {vs : List Nat} (h : wipe σ vs = wipe σ' vs) {k : Nat} (hk : k ∉ vs) : σ[k]? = σ'[k]? := by
  have := congrArg (fun l => l[k]?) h
  simp only [wipe_get, if_neg hk] at this
  exact this
theorem wipe_wipe {σ : L2.St} {vs : List Nat} : wipe (wipe σ vs) vs = wipe σ vs := wipe_eq (wipe_length σ vs) fun k hk => by rw [wipe_get, if_neg hk]
theorem wipe_set {σ : L2.St} {vs : List Nat} {i : Nat} {x : Option V} (h : i ∈ vs) : wipe (σ.set i x) vs = wipe σ vs := wipe_eq (by rw [List.length_set]) fun k hk => by
  rw [List.getElem?_set_ne (fun z => hk (by rw [← z]; exact h))]
def wipeE (vs : List Nat) : Nat → En → En
  | _, [] => []
  | j, e :: E => (if j ∈ vs then .nil else e) :: wipeE vs (j + 1) E
theorem wipeE_len {vs : List Nat} : ∀ {j : Nat} {E : En}, (wipeE vs j E).length = E.length
  | _, [] => rfl
  | j, e :: E => by simp only [wipeE, List.length_cons, wipeE_len]
theorem wipeE_get {vs : List Nat} : ∀ {j k : Nat} {E : En} {e : Ent}, (wipeE vs j E)[k]? = some e → (j + k ∈ vs ∧ e = .nil) ∨ (j + k ∉ vs ∧ E[k]? = some e)
  | _, _, [], _, h => by simp [wipeE] at h
  | j, 0, x :: E, e, h => by
    simp only [wipeE, List.getElem?_cons_zero, Option.some.injEq] at h
    by_cases c : j ∈ vs
    · rw [if_pos c] at h; exact .inl ⟨c, h.symm⟩
    · rw [if_neg c] at h; exact .inr ⟨c, by rw [h]; rfl⟩
  | j, k + 1, x :: E, e, h => by
    simp only [wipeE, List.getElem?_cons_succ] at h
    have := wipeE_get h
    rw [show j + 1 + k = j + (k + 1) by omega] at this
    simpa using this
def Ent.keep : Ent → Ent
  | .ow _ => .nil
  | e => e
def restE (vs : List Nat) : Nat → En → En → En
  | j, e :: E, e' :: E' => (if j ∈ vs then e.keep else e') :: restE vs (j + 1) E E'
  | _, _, _ => []
theorem restE_len {vs : List Nat} : ∀ {j : Nat} {E E' : En}, E.length = E'.length → (restE vs j E E').length = E.length
  | _, [], _, _ => by simp [restE]
  | j, e :: E, [], h => by simp at h
  | j, e :: E, e' :: E', h => by simp only [restE, List.length_cons, restE_len (by simpa using h)]
theorem restE_get {vs : List Nat} : ∀ {j k : Nat} {E E' : En} {e : Ent}, (restE vs j E E')[k]? = some e → (j + k ∈ vs ∧ ∃ x, E[k]? = some x ∧ e = x.keep) ∨ (j + k ∉ vs ∧ E'[k]? = some e)
  | _, _, [], _, _, h => by simp [restE] at h
  | _, _, _ :: _, [], _, h => by simp [restE] at h
  | j, 0, x :: E, y :: E', e, h => by
    simp only [restE, List.getElem?_cons_zero, Option.some.injEq] at h
    by_cases c : j ∈ vs
    · rw [if_pos c] at h; exact .inl ⟨c, x, rfl, h.symm⟩
    · rw [if_neg c] at h; exact .inr ⟨c, by rw [h]; rfl⟩
  | j, k + 1, x :: E, y :: E', e, h => by
    simp only [restE, List.getElem?_cons_succ] at h
    have := restE_get h
    rw [show j + 1 + k = j + (k + 1) by omega] at this
    simpa using this
section
variable {S : Sx} {E E' : En} {σ σ' : L2.St} {F F' H H' : Hp} {O O' : Ow}
theorem St.wipe (I : St S E σ F O H) {vs : List Nat} (hP : ∀ k ∈ vs, k ∉ S.P) : St S (wipeE vs 0 E) (L2.wipe σ vs) F O H where
  fh := I.fh
  bh := I.bh
  vb := I.vb
  f0 := I.f0
  fn := I.fn
  ob := I.ob
  un := I.un
  len := by rw [wipeE_len, wipe_length]; exact I.len
  sl := fun i e he => by
    rcases wipeE_get he with ⟨_, rfl⟩ | ⟨h1, h2⟩
    · trivial
    · rw [Nat.zero_add] at h1
      rw [wipe_get, if_neg h1]
      exact I.sl i e h2
  pin := fun j hj => by rw [wipe_get, if_neg (fun z => hP j z hj)]; exact I.pin j hj
theorem St.rest (I : St S E σ F O H) (J : St S E' σ' F' O' H') (f : Fz F F') {vs : List Nat} (hP : ∀ k ∈ vs, k ∉ S.P) (hw : L2.wipe σ' vs = L2.wipe σ vs) : St S (restE vs 0 E E') σ F' O' H' := by
  have hl : σ'.length = σ.length := by rw [← wipe_length σ' vs, hw, wipe_length]
  refine ⟨J.fh, J.bh, J.vb, J.f0, J.fn, J.ob, J.un, ?_, fun i e he => ?_, fun j hj => ?_⟩
  · rw [restE_len (by rw [I.len, J.len, hl])]; exact I.len
  · rcases restE_get he with ⟨h1, x, h2, rfl⟩ | ⟨h1, h2⟩
    · have z := I.sl i x h2
      cases x with
      | nil => trivial
      | fz d => obtain ⟨v, hv, r⟩ := z; exact ⟨v, hv, r.mono f⟩
      | vw d => obtain ⟨v, hv, r⟩ := z; exact ⟨v, hv, r.mono (uni_mono f J.fh J.wh)⟩
      | ow o => trivial
    · rw [Nat.zero_add] at h1
      rw [← wipe_out hw h1]
      exact J.sl i e h2
  · rw [← wipe_out hw (fun z => hP j z hj)]; exact J.pin j hj
end
class LfGw (c : Cls) (P : List Nat) (W F0 : Hp) (pv : Nat → V) (vs : List Nat) (g : TG) (T : outParam TXG) : Prop where
  run : ∀ {B : Hp} {E : En} {σ : L2.St} {F : Hp} {O : Ow} {H : Hp} {r : Res} {v : V} {K : En → Prop} {Q : L2.St → Hp → Prop}, St ⟨c, W, B, F0, P, pv⟩ E σ F O H → RR ⟨c, W, B, F0, P, pv⟩ E σ F O H r v → T r E K →
    (∀ E' σ' F' O' H', K E' → Fz F F' → St ⟨c, W, B, F0, P, pv⟩ E' σ' F' O' H' → wipe σ' vs = wipe σ vs → Q σ' H') → g v σ H Q
class LfGws (c : Cls) (P : List Nat) (W F0 : Hp) (pv : Nat → V) (vs : List Nat) (g : TGs) (T : outParam TXGs) : Prop where
  run : ∀ {B : Hp} {E : En} {σ : L2.St} {F : Hp} {O : Ow} {H : Hp} {rs : List Res} {ws : List V} {K : En → Prop} {Q : L2.St → Hp → Prop}, St ⟨c, W, B, F0, P, pv⟩ E σ F O H → RRs ⟨c, W, B, F0, P, pv⟩ E σ F O H rs ws → T rs E K →
    (∀ E' σ' F' O' H', K E' → Fz F F' → St ⟨c, W, B, F0, P, pv⟩ E' σ' F' O' H' → wipe σ' vs = wipe σ vs → Q σ' H') → g ws σ H Q
section
variable {c : Cls} {P vs : List Nat} {W F0 : Hp} {pv : Nat → V}
def TNameW (P vs : List Nat) (i : Nat) : TXG := fun r E K => (i ∉ P ∧ i ∈ vs) ∧ match r with
  | .fz d => K (E.set i (.fz d))
  | .vw d => K (E.set i (.vw d))
  | _ => False
instance lf_gNameW {i : Nat} : LfGw c P W F0 pv vs (gName i) (TNameW P vs i) := ⟨fun {B E σ F O H r v K Q} I rr h q => by
  obtain ⟨⟨hi, hv⟩, h⟩ := h
  cases r with
  | fz d => exact q _ _ _ _ _ h (.refl _) (I.set0 hi ⟨v, rfl, rr⟩) (wipe_set hv)
  | vw d => exact q _ _ _ _ _ h (.refl _) (I.set0 hi ⟨v, rfl, rr⟩) (wipe_set hv)
  | pl j p o => exact h.elim
  | nw o => exact h.elim⟩
instance lf_gNilW : LfGws c P W F0 pv vs gNil TGNil := ⟨fun {B E σ F O H rs ws K Q} I rr h q => by
  cases rs with
  | nil => exact ⟨rr, q _ _ _ _ _ h (.refl _) I rfl⟩
  | cons r rs => exact h.elim⟩
instance lf_gConsW {g : TG} {gs : TGs} {T : TXG} {U : TXGs} [a : LfGw c P W F0 pv vs g T] [b : LfGws c P W F0 pv vs gs U] : LfGws c P W F0 pv vs (gCons g gs) (TGCons T U) := ⟨fun {B E σ F O H rs ws K Q} I rr h q => by
  cases rs with
  | nil => exact h.elim
  | cons r rest =>
  simp only [RRs] at rr
  obtain ⟨v, us, rfl, r1, r2⟩ := rr
  refine ⟨v, us, rfl, a.run I r1 h fun E1 σ1 F1 O1 H1 h1 f1 I1 w1 => b.run I1 (r2.still f1 I1 (stlK_ok h1).1) (stlK_ok h1).2 fun E2 σ2 F2 O2 H2 h2 f2 I2 w2 => q _ _ _ _ _ h2 (f1.trans f2) I2 (w2.trans w1)⟩⟩
instance lf_gTupW {K : PySem.W.Frag} {n : Nat} {t : TGs} {U : TXGs} [a : LfGws c P W F0 pv vs t U] : LfGw c P W F0 pv vs (gTup K n t) (TGTup n U) := ⟨fun {B E σ F O H r v K Q} I rr h q => by
  unfold TGTup at h
  split at h
  rotate_left 2
  · exact h.elim
  · rename_i ds
    obtain ⟨hn, h⟩ := h
    simp only [RR, Rf] at rr
    obtain ⟨p, vs, rfl, e, l⟩ := rr
    exact ⟨p, vs, rfl, SqT.of (I.fh _ _ e), by rw [l.len]; exact hn, a.run I (rrs_fz l) h q⟩
  · rename_i ds
    obtain ⟨hn, h⟩ := h
    simp only [RR, Rf] at rr
    obtain ⟨p, vs, rfl, e, l⟩ := rr
    exact ⟨p, vs, rfl, SqT.of (uni_fz I.fh I.wh _ _ e), by rw [l.len]; exact hn, a.run I (rrs_vw l) h q⟩⟩
/-! ### a comprehension -/
/-- one turn, then Nx -/
def TTurn (vs : List Nat) (G : TXG) (Tt : TXT) (Te : TX) (r : Res) (E : En) (yes : D → En → Prop) (no : En → Prop) : Prop :=
  G r (wipeE vs 0 E) fun E2 => Tt E2 fun b E3 => ifK b (Te E3 fun y E4 => Frz [y] E4 fun ds E5 => (match ds with
    | [d] => yes d (restE vs 0 E E5)
    | _ => False)) (no (restE vs 0 E E3))
def TLc (P vs : List Nat) (Ti : TXI) (G : TXG) (Tt : TXT) (Te : TX) : TX := fun E K => Ti E fun ds E1 => (∀ k ∈ vs, k ∉ P) ∧ ∃ I : Nat → List D → En → Prop, I 0 [] E1 ∧
  (∀ i r acc E, ds[i]? = some r → I i acc E → TTurn vs G Tt Te r E (fun d E' => acc.length < 100000 ∧ I (i + 1) (acc ++ [d]) E') (I (i + 1) acc)) ∧ ∀ acc E, I ds.length acc E → K (.fz (.lst acc)) E
theorem RR.stl {S : Sx} {E E' : En} {σ σ' : L2.St} {F H : Hp} {O O' : Ow} {r : Res} {v : V} (s : r.stl) (h : RR S E σ F O H r v) : RR S E' σ' F O' H r v := by
  cases r with
  | fz d => exact h
  | vw d => exact h
  | pl i p o => exact s.elim
  | nw o => exact s.elim
theorem turn_ok {g : TG} {tt : TT} {te : TE} {G : TXG} {Tt : TXT} {Te : TX} [b : LfGw c P W F0 pv vs g G] [z : LfT c P W F0 pv tt Tt] [e : LfE c P W F0 pv te Te] {B : Hp} {E : En} {σ : L2.St} {F3 : Hp} {O : Ow} {H3 : Hp} {r : Res} {x : V} {o : HO} {Da : Addr} {yes : D → En → Prop} {no : En → Prop} {Ny : V → Hp → Prop} {Nn : Hp → Prop}
    (hP : ∀ k ∈ vs, k ∉ P) (vb : Fz W B) (f0 : F0 Da = none) (bD : B Da = none) (I : St ⟨c, W, upd B Da o, F0, P, pv⟩ E σ F3 O H3) (rr : RR ⟨c, W, B, F0, P, pv⟩ E σ F3 O H3 r x) (s : r.stl) (h : TTurn vs G Tt Te r E yes no)
    (qy : ∀ d E' v F' O' H', yes d E' → Fz F3 F' → St ⟨c, W, B, F0, P, pv⟩ E' σ F' O' H' → Side ⟨c, W, B, F0, P, pv⟩ F' O' Da → H' Da = some o → Rf c F' d v → Ny v H')
    (qn : ∀ E' F' O' H', no E' → Fz F3 F' → St ⟨c, W, B, F0, P, pv⟩ E' σ F' O' H' → Side ⟨c, W, B, F0, P, pv⟩ F' O' Da → H' Da = some o → Nn H') :
    g x (wipe σ vs) H3 fun σ2 H2 => wipe σ2 vs = wipe σ vs ∧ tt σ2 H2 fun b H3 => if b = true then te σ2 H3 Ny else Nn H3 := by
  refine b.run (I.wipe hP) (RR.stl s rr) h fun E2 σ2 F2 O2 H2 h2 f2 I2 w2 => ?_
  have w2 : wipe σ2 vs = wipe σ vs := w2.trans wipe_wipe
  refine ⟨w2, z.run I2 h2 fun bb E4 F4 O4 H4 h4 f4 I4 => ?_⟩
  cases bb with
  | false =>
    rw [if_neg Bool.false_ne_true]
    have J := I.rest I4 (f2.trans f4) hP w2
    obtain ⟨J1, s1, hd⟩ := St.unshield (S := ⟨c, W, B, F0, P, pv⟩) J vb f0 bD
    exact qn _ _ _ _ h4 (f2.trans f4) J1 s1 hd
  | true =>
    rw [if_pos rfl]
    refine e.run I4 h4 fun y E5 v F5 O5 H5 h5 f5 I5 r5 => ?_
    have rr : RRs ⟨c, W, upd B Da o, F0, P, pv⟩ E5 σ2 F5 O5 H5 [y] [v] := ⟨v, [], rfl, r5, rfl⟩
    obtain ⟨ds, E6, F6, O6, kk, f6, I6, l⟩ := Frz.ok I5 rr.frz.2 rr.frz.1 h5
    have hds : ∃ d, ds = [d] := by
      have := l.len
      cases ds with
      | nil => cases this
      | cons d r =>
        cases r with
        | nil => exact ⟨d, rfl⟩
        | cons x y => cases this
    obtain ⟨d, rfl⟩ := hds
    have f := f2.trans (f4.trans (f5.trans f6))
    have J := I.rest I6 f hP w2
    obtain ⟨J1, s1, hd⟩ := St.unshield (S := ⟨c, W, B, F0, P, pv⟩) J vb f0 bD
    simp only [RfL] at l
    obtain ⟨v', r', e', rd, _⟩ := l
    cases e'
    exact qy _ _ _ _ _ _ kk f J1 s1 hd rd
instance lf_lc {w : TI} {g : TG} {tt : TT} {te : TE} {Ti : TXI} {G : TXG} {Tt : TXT} {Te : TX} [a : LfI c P W F0 pv w Ti] [b : LfGw c P W F0 pv vs g G] [z : LfT c P W F0 pv tt Tt] [e : LfE c P W F0 pv te Te] : LfE c P W F0 pv (tLc w g tt te vs) (TLc P vs Ti G Tt Te) := ⟨fun {B E σ F O H K Q} I h q =>
  a.run I h fun ds E1 J F1 O1 H1 h1 f1 I1 ok D hD => by
    obtain ⟨hP, Iv, i0, turn, fin⟩ := h1
    obtain ⟨s0, J0⟩ := I1.fresh (o := .lst []) hD
    refine ⟨fun i m H' => m = ds.length - i ∧ i ≤ ds.length ∧ ∃ acc E' F' O' us, Iv i acc E' ∧ Fz F1 F' ∧ St ⟨c, W, B, F0, P, pv⟩ E' σ F' O' H' ∧ Side ⟨c, W, B, F0, P, pv⟩ F' O' D ∧ H' D = some (.lst us) ∧ RfL c F' acc us,
      ⟨_, rfl, Nat.zero_le _, [], E1, F1, O1, [], i0, .refl _, J0, s0, upd_same, .nil⟩, ?_⟩
    rintro i m H2 ⟨rfl, hi, acc, E2, F2, O2, us, iv, f2, I2, s2, hd, l⟩
    obtain ⟨go, stop, yld⟩ := ok.2 _ E2 σ F2 O2 H2 (I2.shield s2 hd) f2
    by_cases hlt : i < ds.length
    · refine .inr ⟨go i hlt, fun H' => ∃ acc E' F' O' us, Iv (i + 1) acc E' ∧ Fz F1 F' ∧ St ⟨c, W, B, F0, P, pv⟩ E' σ F' O' H' ∧ Side ⟨c, W, B, F0, P, pv⟩ F' O' D ∧ H' D = some (.lst us) ∧ RfL c F' acc us, fun H' n => ⟨ds.length - (i + 1), by omega, rfl, hlt, n⟩, fun x H' y => ?_⟩
      obtain ⟨F3, f3, I3, rr⟩ := yld i x H' _ y (List.getElem?_eq_getElem hlt)
      have f13 : Fz F1 F3 := f2.trans f3
      refine turn_ok (c := c) (P := P) (vs := vs) (Da := D) hP I1.vb s0.f0 s0.b I3 rr (ok.1 _ (List.getElem_mem hlt)) (turn i _ acc E2 (List.getElem?_eq_getElem hlt) iv) (fun d E' v F' O' H' k f I' s' hd' rd => ?_) (fun E' F' O' H' k f I' s' hd' => ?_)
      · refine ⟨us, hd', szL2 (by rw [l.len]; exact k.1), acc ++ [d], E', F', O', us ++ [v], k.2, f13.trans f, I'.junk s', s', upd_same, ?_⟩
        exact (l.mono (f3.trans f)).app (.one rd)
      · exact ⟨acc, E', F', O', us, k, f13.trans f, I', s', hd', l.mono (f3.trans f)⟩
    · have e0 : i = ds.length := by omega
      subst e0
      refine .inl ⟨stop, ?_⟩
      -- the list is frozen
      have fz := I2.adopt s2 hd
      exact q _ _ _ _ _ _ (fin acc E2 iv) (f1.trans (f2.trans (fz_upd s2.f))) fz (by simp only [RR, Rf]; exact ⟨D, us, rfl, upd_same, l.mono (fz_upd s2.f)⟩)⟩
/-- a list that will be changed -/
def TLcN (P vs : List Nat) (Ti : TXI) (G : TXG) (Tt : TXT) (Te : TX) : TX := fun E K => Ti E fun ds E1 => (∀ k ∈ vs, k ∉ P) ∧ ∃ I : Nat → List D → En → Prop, I 0 [] E1 ∧
  (∀ i r acc E, ds[i]? = some r → I i acc E → TTurn vs G Tt Te r E (fun d E' => acc.length < 100000 ∧ I (i + 1) (acc ++ [d]) E') (I (i + 1) acc)) ∧ ∀ acc E, I ds.length acc E → K (.nw (.fl acc)) E
instance lf_lcN {w : TI} {g : TG} {tt : TT} {te : TE} {Ti : TXI} {G : TXG} {Tt : TXT} {Te : TX} [a : LfI c P W F0 pv w Ti] [b : LfGw c P W F0 pv vs g G] [z : LfT c P W F0 pv tt Tt] [e : LfE c P W F0 pv te Te] : LfE c P W F0 pv (tNw (tLc w g tt te vs)) (TLcN P vs Ti G Tt Te) := ⟨fun {B E σ F O H K Q} I h q =>
  a.run I h fun ds E1 J F1 O1 H1 h1 f1 I1 ok D hD => by
    obtain ⟨hP, Iv, i0, turn, fin⟩ := h1
    obtain ⟨s0, J0⟩ := I1.fresh (o := .lst []) hD
    refine ⟨fun i m H' => m = ds.length - i ∧ i ≤ ds.length ∧ ∃ acc E' F' O' us, Iv i acc E' ∧ Fz F1 F' ∧ St ⟨c, W, B, F0, P, pv⟩ E' σ F' O' H' ∧ Side ⟨c, W, B, F0, P, pv⟩ F' O' D ∧ H' D = some (.lst us) ∧ RfL c F' acc us,
      ⟨_, rfl, Nat.zero_le _, [], E1, F1, O1, [], i0, .refl _, J0, s0, upd_same, .nil⟩, ?_⟩
    rintro i m H2 ⟨rfl, hi, acc, E2, F2, O2, us, iv, f2, I2, s2, hd, l⟩
    obtain ⟨go, stop, yld⟩ := ok.2 _ E2 σ F2 O2 H2 (I2.shield s2 hd) f2
    by_cases hlt : i < ds.length
    · refine .inr ⟨go i hlt, fun H' => ∃ acc E' F' O' us, Iv (i + 1) acc E' ∧ Fz F1 F' ∧ St ⟨c, W, B, F0, P, pv⟩ E' σ F' O' H' ∧ Side ⟨c, W, B, F0, P, pv⟩ F' O' D ∧ H' D = some (.lst us) ∧ RfL c F' acc us, fun H' n => ⟨ds.length - (i + 1), by omega, rfl, hlt, n⟩, fun x H' y => ?_⟩
      obtain ⟨F3, f3, I3, rr⟩ := yld i x H' _ y (List.getElem?_eq_getElem hlt)
      have f13 : Fz F1 F3 := f2.trans f3
      refine turn_ok (c := c) (P := P) (vs := vs) (Da := D) hP I1.vb s0.f0 s0.b I3 rr (ok.1 _ (List.getElem_mem hlt)) (turn i _ acc E2 (List.getElem?_eq_getElem hlt) iv) (fun d E' v F' O' H' k f I' s' hd' rd => ?_) (fun E' F' O' H' k f I' s' hd' => ?_)
      · refine ⟨us, hd', szL2 (by rw [l.len]; exact k.1), acc ++ [d], E', F', O', us ++ [v], k.2, f13.trans f, I'.junk s', s', upd_same, ?_⟩
        exact (l.mono (f3.trans f)).app (.one rd)
      · exact ⟨acc, E', F', O', us, k, f13.trans f, I', s', hd', l.mono (f3.trans f)⟩
    · have e0 : i = ds.length := by omega
      subst e0
      refine .inl ⟨stop, ?_⟩
      -- the list is frozen
      have fz := I2.take s2 hd
      exact q _ _ _ _ _ _ (fin acc E2 iv) (f1.trans f2) fz (by simp only [RR, Ro]; exact ⟨D, us, rfl, newT_self, hd, l⟩)⟩
end
end TL
namespace TL
open PySem L2
section
variable {S : Sx} {E : En} {σ : L2.St} {F H : Hp} {O : Ow}
def fullL : List Res → Prop
  | [] => True
  | r :: rs => r.full ∧ fullL rs
theorem RRs.rf (I : St S E σ F O H) : ∀ {rs : List Res} {vs : List V}, RRs S E σ F O H rs vs → fullL rs → RfL S.c H (rs.map Res.d) vs
  | [], _, h, _ => by simp only [RRs] at h; subst h; exact .nil
  | r :: rs, vs, h, f => by
    simp only [RRs] at h
    obtain ⟨v, us, rfl, a, b⟩ := h
    exact .cons (a.rf I f.1) (RRs.rf I b f.2)
theorem RfL.one_inv {c : Cls} {F : Hp} {d : D} {vs : List V} (h : RfL c F [d] vs) : ∃ v, vs = [v] ∧ Rf c F d v := by
  simp only [RfL] at h
  obtain ⟨v, r, rfl, a, rfl⟩ := h
  exact ⟨v, rfl, a⟩
theorem RfL.two_inv {c : Cls} {F : Hp} {d e : D} {vs : List V} (h : RfL c F [d, e] vs) : ∃ v w, vs = [v, w] ∧ Rf c F d v ∧ Rf c F e w := by
  simp only [RfL] at h
  obtain ⟨v, r, rfl, a, w, r', rfl, b, rfl⟩ := h
  exact ⟨v, w, rfl, a, b⟩
theorem rf_ints {c : Cls} {F : Hp} : ∀ {ns : List Int} {vs : List V}, RfL c F (ns.map .int) vs → vs = ns.map .int
  | [], _, h => by simp only [List.map_nil, RfL] at h; exact h
  | n :: ns, _, h => by
    simp only [List.map_cons, RfL, Rf] at h
    obtain ⟨v, r, rfl, rfl, l⟩ := h
    rw [rf_ints l]; rfl
theorem rf_strs {c : Cls} {F : Hp} : ∀ {ns : List Str} {vs : List V}, RfL c F (ns.map .str) vs → vs = ns.map .str
  | [], _, h => by simp only [List.map_nil, RfL] at h; exact h
  | n :: ns, _, h => by
    simp only [List.map_cons, RfL, Rf] at h
    obtain ⟨v, r, rfl, rfl, l⟩ := h
    rw [rf_strs l]; rfl
theorem rf_bls {c : Cls} {F : Hp} : ∀ {ns : List Bool} {vs : List V}, RfL c F (ns.map .bl) vs → vs = ns.map .bl
  | [], _, h => by simp only [List.map_nil, RfL] at h; exact h
  | n :: ns, _, h => by
    simp only [List.map_cons, RfL, Rf] at h
    obtain ⟨v, r, rfl, rfl, l⟩ := h
    rw [rf_bls l]; rfl
theorem strs_rf {c : Cls} {F : Hp} : ∀ {ns : List Str}, RfL c F (ns.map .str) (ns.map .str)
  | [] => .nil
  | n :: ns => .cons (by simp only [Rf]) strs_rf
theorem ints_rf {c : Cls} {F : Hp} : ∀ {ns : List Int}, RfL c F (ns.map .int) (ns.map .int)
  | [] => .nil
  | n :: ns => .cons (by simp only [Rf]) ints_rf
end
class LfC (c : Cls) (r : List V → Hp → VK → Prop) (R : outParam (List D → (D → Prop) → Prop)) : Prop where
  run : ∀ {H : Hp} {xs : List V} {ds : List D} {Q : VK} {K : D → Prop}, RfL c H ds xs → R ds K → (∀ d v, K d → (∀ F, Rf c F d v) → Q v H) → r xs H Q
section
variable {c : Cls} {P : List Nat} {W F0 : Hp} {pv : Nat → V} {Kf : PySem.W.Frag}
def fullLK : List Res → Prop → Prop
  | [], p => p
  | r :: rs, p => fullK r (fullLK rs p)
theorem fullLK_ok : ∀ {rs : List Res} {p : Prop}, fullLK rs p → fullL rs ∧ p
  | [], _, h => ⟨trivial, h⟩
  | r :: rs, p, h => by
    obtain ⟨a, h⟩ := fullK_ok h
    obtain ⟨b, h⟩ := fullLK_ok h
    exact ⟨⟨a, b⟩, h⟩
def TCB (R : List D → (D → Prop) → Prop) (T : TXA) : TX := fun E K => T E fun rs E1 => fullLK rs (R (rs.map Res.d) fun d => K (.fz d) E1)
instance lf_cb {r : List V → Hp → VK → Prop} {t : TA} {R : List D → (D → Prop) → Prop} {T : TXA} [z : LfC c r R] [a : LfA c P W F0 pv t T] : LfE c P W F0 pv (tCB r t) (TCB R T) := ⟨fun {B E σ F O H K Q} I h q =>
  a.run I h fun rs E1 vs F1 O1 H1 h1 f1 I1 r1 => z.run (r1.rf I1 (fullLK_ok h1).1) (fullLK_ok h1).2 fun d v k rv => q _ _ _ _ _ _ k f1 I1 (rv _)⟩
/-! named rules -/
def rAbs : List V → Hp → VK → Prop := fun xs H Q => ∃ i, xs = [.int i] ∧ Q (.int (if i < 0 then -i else i)) H
theorem n_abs {X : Cx} : CallR X (.builtin "abs") rAbs := call_abs
def rInt1 : List V → Hp → VK → Prop := fun xs H Q => (∃ i, xs = [.int i] ∧ Q (.int i) H) ∨ ∃ k, xs = [.bl k] ∧ Q (.int (if k then 1 else 0)) H
theorem n_int1 {X : Cx} : CallR X (.type "int") rInt1 := call_int1
def rMx2 : List V → Hp → VK → Prop := fun xs H Q => ∃ i j, xs = [.int i, .int j] ∧ Q (.int (if j > i then j else i)) H
theorem n_max2 {X : Cx} (hc : X.calm = true) : CallR X (.builtin "max") rMx2 := call_max2 hc
def rMn2 : List V → Hp → VK → Prop := fun xs H Q => ∃ i j, xs = [.int i, .int j] ∧ Q (.int (if j < i then j else i)) H
theorem n_min2 {X : Cx} (hc : X.calm = true) : CallR X (.builtin "min") rMn2 := call_min2 hc
def rLenS : List V → Hp → VK → Prop := fun xs H Q => ∃ z, xs = [.str z] ∧ z.length ≤ sizeLine ∧ Q (.int z.length) H
theorem n_len_str {X : Cx} : CallR X (.builtin "len") rLenS := call_len_str
def rStrI : List V → Hp → VK → Prop := fun xs H Q => ∃ i, xs = [.int i] ∧ i.natAbs.log2 < 1920 ∧ Q (.str (toString i)) H
theorem n_str_int {X : Cx} : CallR X (.type "str") rStrI := call_str_int
instance lf_abs : LfC c rAbs (fun ds K => match ds with
  | [.int i] => K (.int (if i < 0 then -i else i))
  | _ => False) := ⟨fun {H xs ds Q K} hx h q => by
  split at h
  rotate_left
  · exact h.elim
  rename_i i
  have k := h
  obtain ⟨v, rfl, rv⟩ := hx.one_inv
  exact ⟨i, by rw [show v = V.int i by simpa only [Rf] using rv], q _ _ k fun _ => by simp only [Rf]⟩⟩
instance lf_int1 : LfC c rInt1 (fun ds K => match ds with
  | [.int i] => K (.int i)
  | _ => False) := ⟨fun {H xs ds Q K} hx h q => by
  split at h
  rotate_left
  · exact h.elim
  rename_i i
  have k := h
  obtain ⟨v, rfl, rv⟩ := hx.one_inv
  exact .inl ⟨i, by rw [show v = V.int i by simpa only [Rf] using rv], q _ _ k fun _ => by simp only [Rf]⟩⟩
instance lf_mx2 : LfC c rMx2 (fun ds K => match ds with
  | [.int i, .int j] => K (.int (if j > i then j else i))
  | _ => False) := ⟨fun {H xs ds Q K} hx h q => by
  split at h
  rotate_left
  · exact h.elim
  rename_i i j
  have k := h
  obtain ⟨v, w, rfl, rv, rw_⟩ := hx.two_inv
  exact ⟨i, j, by rw [show v = V.int i by simpa only [Rf] using rv, show w = V.int j by simpa only [Rf] using rw_], q _ _ k fun _ => by simp only [Rf]⟩⟩
instance lf_mn2 : LfC c rMn2 (fun ds K => match ds with
  | [.int i, .int j] => K (.int (if j < i then j else i))
  | _ => False) := ⟨fun {H xs ds Q K} hx h q => by
  split at h
  rotate_left
  · exact h.elim
  rename_i i j
  have k := h
  obtain ⟨v, w, rfl, rv, rw_⟩ := hx.two_inv
  exact ⟨i, j, by rw [show v = V.int i by simpa only [Rf] using rv, show w = V.int j by simpa only [Rf] using rw_], q _ _ k fun _ => by simp only [Rf]⟩⟩
instance lf_lenS : LfC c rLenS (fun ds K => match ds with
  | [.str z] => z.length ≤ 100000 ∧ K (.int z.length)
  | _ => False) := ⟨fun {H xs ds Q K} hx h q => by
  split at h
  rotate_left
  · exact h.elim
  rename_i i
  obtain ⟨hl, k⟩ := h
  obtain ⟨v, rfl, rv⟩ := hx.one_inv
  exact ⟨i, by rw [show v = V.str i by simpa only [Rf] using rv], szL hl, q _ _ k fun _ => by simp only [Rf]⟩⟩
instance lf_strI : LfC c rStrI (fun ds K => match ds with
  | [.int i] => i.natAbs.log2 < 1920 ∧ K (.str (toString i))
  | _ => False) := ⟨fun {H xs ds Q K} hx h q => by
  split at h
  rotate_left
  · exact h.elim
  rename_i i
  obtain ⟨hl, k⟩ := h
  obtain ⟨v, rfl, rv⟩ := hx.one_inv
  exact ⟨i, by rw [show v = V.int i by simpa only [Rf] using rv], hl, q _ _ k fun _ => by simp only [Rf]⟩⟩
instance lf_gcd : LfC c rGcd (fun ds K => match ds with
  | [.int a, .int b] => K (.int ((Nat.gcd a.natAbs b.natAbs : Nat) : Int))
  | _ => False) := ⟨fun {H xs ds Q K} hx h q => by
  split at h
  rotate_left
  · exact h.elim
  rename_i i j
  have k := h
  obtain ⟨v, w, rfl, rv, rw_⟩ := hx.two_inv
  exact ⟨i, j, by rw [show v = V.int i by simpa only [Rf] using rv, show w = V.int j by simpa only [Rf] using rw_], q _ _ k fun _ => by simp only [Rf]⟩⟩
instance lf_sum : LfC c (rSum Kf) (fun ds K => ∃ ns : List Int, ds = [.lst (ns.map .int)] ∧ K (.int ns.sum)) := ⟨fun {H xs ds Q K} hx h q => by
  obtain ⟨ns, rfl, k⟩ := h
  obtain ⟨v, rfl, rv⟩ := hx.one_inv
  simp only [Rf] at rv
  obtain ⟨a, vs, rfl, e, l⟩ := rv
  rw [rf_ints l] at e
  exact ⟨a, ns, rfl, SqL.of e, q _ _ k fun _ => by simp only [Rf]⟩⟩
/-- the items of a list or tuple -/
def sqD : D → Option (List D)
  | .lst ds => some ds
  | .tup ds => some ds
  | _ => none
theorem sqD_rf {F : Hp} {d : D} {ds : List D} {v : V} (h : sqD d = some ds) (r : Rf c F d v) : ∃ a vs, v = .ref a ∧ (F a = some (.lst vs) ∨ F a = some (.tup vs)) ∧ RfL c F ds vs := by
  cases d with
  | lst xs =>
    cases h
    simp only [Rf] at r
    obtain ⟨a, vs, e, q, l⟩ := r
    exact ⟨a, vs, e, .inl q, l⟩
  | tup xs =>
    cases h
    simp only [Rf] at r
    obtain ⟨a, vs, e, q, l⟩ := r
    exact ⟨a, vs, e, .inr q, l⟩
  | _ => cases h
instance lf_len : LfC c (K01.rLenSeq Kf) (fun ds K => match ds with
  | [d] => (match sqD d with
    | some xs => K (.int (xs.length : Nat))
    | none => False)
  | _ => False) := ⟨fun {H xs ds Q K} hx h q => by
  split at h
  rotate_left
  · exact h.elim
  rename_i d
  split at h
  rotate_left
  · exact h.elim
  rename_i es he
  have k := h
  obtain ⟨v, rfl, rv⟩ := hx.one_inv
  obtain ⟨a, vs, rfl, e, l⟩ := sqD_rf he rv
  refine ⟨a, vs, rfl, e.imp SqL.of SqT.of, ?_⟩
  rw [l.len]
  exact q _ _ k fun _ => by simp only [Rf]⟩
/-! ### in a list or tuple of plain things -/
def flD : D → Option V
  | .non => some .non
  | .bl b => some (.bl b)
  | .int i => some (.int i)
  | .str x => some (.str x)
  | _ => none
def flL : List D → Option (List V)
  | [] => some []
  | d :: ds => (flD d).bind fun v => (flL ds).bind fun vs => some (v :: vs)
theorem flD_rf {F : Hp} {d : D} {v w : V} (h : flD d = some w) (r : Rf c F d v) : v = w ∧ flatV w = true := by
  cases d <;> simp only [flD, Option.some.injEq, reduceCtorEq] at h <;> subst h <;> exact ⟨by simpa only [Rf] using r, rfl⟩
theorem flL_rf {F : Hp} : ∀ {ds : List D} {vs ws : List V}, flL ds = some ws → RfL c F ds vs → vs = ws ∧ ws.all flatV = true
  | [], _, _, h, r => by
    simp only [flL, Option.some.injEq] at h
    simp only [RfL] at r
    subst h r
    exact ⟨rfl, rfl⟩
  | d :: ds, _, ws, h, r => by
    simp only [RfL] at r
    obtain ⟨v, s, rfl, a, l⟩ := r
    simp only [flL] at h
    cases e : flD d with
    | none => rw [e] at h; cases h
    | some w =>
      rw [e] at h
      cases e2 : flL ds with
      | none => rw [e2] at h; cases h
      | some us =>
        rw [e2] at h
        simp at h
        subst h
        obtain ⟨rfl, f1⟩ := flD_rf e a
        obtain ⟨rfl, f2⟩ := flL_rf e2 l
        exact ⟨rfl, by rw [List.all_cons, f1, f2]; rfl⟩
theorem flL_strs : ∀ (xs : List Str), flL (xs.map .str) = some (xs.map .str)
  | [] => rfl
  | x :: xs => by simp only [List.map_cons, flL, flD, Option.bind_some, flL_strs xs]
theorem flL_ints : ∀ (xs : List Int), flL (xs.map .int) = some (xs.map .int)
  | [] => rfl
  | x :: xs => by simp only [List.map_cons, flL, flD, Option.bind_some, flL_ints xs]
theorem inV_strs (x : Str) : ∀ xs : List Str, inV (.str x) (xs.map .str) = decide (x ∈ xs)
  | [] => by simp [inV]
  | y :: ys => by
    have := inV_strs x ys
    unfold inV at this ⊢
    rw [List.map_cons, List.any_cons, this]
    show ((y == x) || decide (x ∈ ys)) = decide (x ∈ y :: ys)
    by_cases h : y = x
    · subst h; simp
    · have h1 : (y == x) = false := beq_eq_false_iff_ne.mpr h
      rw [h1, Bool.false_or]
      have h2 : ¬ x = y := fun z => h z.symm
      simp [List.mem_cons, h2]
def RIn (neg : Bool) : RX := fun x y K => match x, sqD y with
  | .str a, some ys => ∃ xs : List Str, ys = xs.map .str ∧ K (.bl (if neg then !decide (a ∈ xs) else decide (a ∈ xs)))
  | x, some ys => ∃ xv vs, flD x = some xv ∧ flL ys = some vs ∧ K (.bl (if neg then !inV xv vs else inV xv vs))
  | _, _ => False
instance lf_in {neg : Bool} : LfR c (rIn Kf neg) (RIn neg) := ⟨fun {H x y dx dy Q K} hx hy h q => by
  unfold RIn at h
  split at h
  · rename_i a ys h2
    obtain ⟨xs, rfl, k⟩ := h
    obtain rfl : x = .str a := by simpa only [Rf] using hx
    obtain ⟨p, us, rfl, e, l⟩ := sqD_rf h2 hy
    obtain rfl := rf_strs l
    refine ⟨p, _, rfl, e.imp SqL.of SqT.of, rfl, by simp [flatV], ?_⟩
    rw [inV_strs]
    exact q _ _ k fun _ => by simp only [Rf]
  · rename_i ys h2 _
    obtain ⟨xv, vs, h1, h3, k⟩ := h
    obtain ⟨rfl, f1⟩ := flD_rf h1 hx
    obtain ⟨a, us, rfl, e, l⟩ := sqD_rf (by assumption) hy
    obtain ⟨rfl, f2⟩ := flL_rf h3 l
    exact ⟨a, us, rfl, e.imp SqL.of SqT.of, f1, f2, q _ _ k fun _ => by simp only [Rf]⟩
  · exact h.elim⟩
/-! ### further operations -/
def rIsN : R2 := fun x y H Q => y = .non ∧ Q (.bl (decide (x = .non))) H
def rNotN : R2 := fun x y H Q => y = .non ∧ Q (.bl (!decide (x = .non))) H
theorem n_isN {X : Cx} : OpR X (compareOp .Is) rIsN := op_isN
theorem n_notN {X : Cx} : OpR X (compareOp .IsNot) rNotN := op_notN
def isNonD : D → Bool
  | .non => true
  | _ => false
theorem isNon_rf {F : Hp} {d : D} {v : V} (r : Rf c F d v) (h : ∀ w, d ≠ .cst w) : decide (v = .non) = isNonD d := by
  cases d <;> simp only [Rf] at r <;> first | exact absurd rfl (h _) | (obtain ⟨rfl, _⟩ := r; rfl) | (subst r; rfl) | (obtain ⟨_, _, _, rfl, _⟩ := r; rfl) | (obtain ⟨_, _, rfl, _⟩ := r; rfl) | (obtain ⟨_, rfl, _⟩ := r; rfl)
def RIsN (f : Bool → Bool) : RX := fun x y K => match x, y with
  | .cst _, _ => False
  | x, .non => K (.bl (f (isNonD x)))
  | _, _ => False
instance lf_isN : LfR c rIsN (RIsN id) := ⟨fun {H x y dx dy Q K} hx hy h q => by
  unfold RIsN at h
  split at h
  · exact h.elim
  rotate_left
  · exact h.elim
  rename_i h2
  have k := h
  refine ⟨by simpa only [Rf] using hy, ?_⟩
  rw [isNon_rf hx h2]
  exact q _ _ k fun _ => by simp only [Rf]; rfl⟩
instance lf_notN : LfR c rNotN (RIsN not) := ⟨fun {H x y dx dy Q K} hx hy h q => by
  unfold RIsN at h
  split at h
  · exact h.elim
  rotate_left
  · exact h.elim
  rename_i h2
  have k := h
  refine ⟨by simpa only [Rf] using hy, ?_⟩
  rw [isNon_rf hx h2]
  exact q _ _ k fun _ => by simp only [Rf]⟩
def rAddS : R2 := fun x y H Q => ∃ i j, x = .str i ∧ y = .str j ∧ i.length + j.length ≤ sizeLine ∧ Q (.str (i ++ j)) H
theorem n_add_str {X : Cx} : OpR X (binaryOp .Add) rAddS := op_add_str
instance lf_addS : LfR c rAddS (fun x y K => match x, y with
  | .str i, .str j => i.length + j.length ≤ 100000 ∧ K (.str (i ++ j))
  | _, _ => False) := ⟨fun {H x y dx dy Q K} hx hy h q => by
  split at h
  rotate_left
  · exact h.elim
  rename_i i j
  obtain ⟨hl, k⟩ := h
  exact ⟨i, j, by simpa only [Rf] using hx, by simpa only [Rf] using hy, szL hl, q _ _ k fun _ => by simp only [Rf]⟩⟩
instance lf_rU {g : Int → V} : LfU c (rU g) (fun x K => match x with
  | .int i => K (atomD (g i))
  | _ => False) := ⟨fun {H x dx Q K} hx h q => by
  split at h
  rotate_left
  · exact h.elim
  rename_i i
  have k := h
  exact ⟨i, by simpa only [Rf] using hx, q _ _ k fun _ => atomD_rf⟩⟩
def TBits (T : TX) : TX := fun E K => T E fun x E1 => intK x fun i => K (.fz (.int (Builtin.Int.intBits i : Nat))) E1
instance lf_bits {to : TE} {T : TX} [a : LfE c P W F0 pv to T] : LfE c P W F0 pv (tBits to) (TBits T) := ⟨fun {B E σ F O H K Q} I h q =>
  a.run I h fun x E1 v F1 O1 H1 h1 f1 I1 r1 => by
    obtain ⟨i, e, _, k⟩ := intK_ok h1
    exact ⟨i, r1.int I1 e, q _ _ _ _ _ _ k f1 I1 (by simp only [RR, Rf])⟩⟩
end
end TL
namespace TL
open PySem L2
section
variable {S : Sx} {E : En} {σ : L2.St} {F H : Hp} {O : Ow}
/-- slot i's own list is another one -/
theorem St.chgL (I : St S E σ F O H) {i : Nat} {ds es : List D} {us ws : List V} {a : Addr} (he : E[i]? = some (.ow (.fl ds))) (hs : σ[i]? = some (some (.ref a))) (l : RfL S.c F es ws) : St S (E.set i (.ow (.fl es))) σ F O (upd H a (.lst ws)) := by
  obtain ⟨w, hw, ro⟩ := I.sl i _ he
  rw [hs] at hw
  obtain rfl : V.ref a = w := by simpa using hw
  have ro0 := ro
  simp only [Ro] at ro
  obtain ⟨b, vs, eb, tb, e, _⟩ := ro
  cases eb
  refine I.chg (n := .fl es) he (p := []) rfl tb fun w hw => ?_
  simp only [Ro] at hw ⊢
  obtain ⟨b, _, rfl, tb2, _⟩ := hw
  rw [I.un a b _ tb tb2]
  exact ⟨b, ws, rfl, tb2, upd_same, l⟩
theorem RR.own {r : Res} {v : V} {i : Nat} {p : List Nat} {ds : List D} (h : RR S E σ F O H (.pl i [] (.fl ds)) v) : ∃ a vs, v = .ref a ∧ H a = some (.lst vs) ∧ RfL S.c F ds vs ∧ σ[i]? = some (some (.ref a)) ∧ E[i]? = some (.ow (.fl ds)) := by
  obtain ⟨⟨r, he, hr⟩, hs, ro⟩ := h
  cases hr
  simp only [Ro] at ro
  obtain ⟨a, vs, rfl, _, e, l⟩ := ro
  exact ⟨a, vs, rfl, e, l, hs rfl, he⟩
end
section
variable {c : Cls} {P : List Nat} {W F0 : Hp} {pv : Nat → V} {Kf : PySem.W.Frag}
def flK (E : En) (i : Nat) (K : List D → Prop) : Prop := match E[i]? with
  | some (.ow (.fl ds)) => K ds
  | _ => False
theorem flK_ok {E : En} {i : Nat} {K : List D → Prop} (h : flK E i K) : ∃ ds, E[i]? = some (.ow (.fl ds)) ∧ K ds := by
  unfold flK at h
  split at h
  · rename_i ds e; exact ⟨ds, e, h⟩
  · exact h.elim
def oneK (ds : List D) (K : D → Prop) : Prop := match ds with
  | [d] => K d
  | _ => False
theorem oneK_ok {ds : List D} {K : D → Prop} (h : oneK ds K) : ∃ d, ds = [d] ∧ K d := by
  unfold oneK at h
  split at h
  · rename_i d; exact ⟨d, rfl, h⟩
  · exact h.elim
def TApp (T : TX) (U : TXA) : TX := fun E K => T E fun x E1 => match x with
  | .pl i [] (.fl ds) => U E1 fun rs E2 => E2[i]? = some (.ow (.fl ds)) ∧ Frz rs E2 fun es E3 => oneK es fun d => E3[i]? = some (.ow (.fl ds)) ∧ ds.length < 100000 ∧ K (.fz .non) (E3.set i (.ow (.fl (ds ++ [d]))))
  | _ => False
instance lf_app {to : TE} {t : TA} {T : TX} {U : TXA} [a : LfE c P W F0 pv to T] [b : LfA c P W F0 pv t U] : LfE c P W F0 pv (tBM Kf "list" rAppend to t) (TApp T U) := ⟨fun {B E σ F O H K Q} I h q =>
  a.run I h fun x E1 v F1 O1 H1 h1 f1 I1 r1 => by
    split at h1
    rotate_left
    · exact h1.elim
    rename_i i ds
    obtain ⟨a0, us0, e0, q0, _⟩ := r1.own (r := .fz .non) (p := [])
    refine ⟨by rw [e0]; exact .inl ⟨rfl, us0, SqL.of q0⟩, b.run I1 h1 fun rs E2 vs F2 O2 H2 h2 f2 I2 r2 => ?_⟩
    obtain ⟨hn, h2⟩ := h2
    have r1 := r1.now f2 I2 ⟨rfl, hn⟩
    obtain ⟨es, E3, F3, O3, k, f3, I3, l⟩ := Frz.ok I2 r2.frz.2 r2.frz.1 h2
    obtain ⟨d, rfl, he, hl, k⟩ := oneK_ok k
    obtain ⟨a, us, rfl, e, lu, hs, _⟩ := r1.own (r := .fz .non) (p := [])
    obtain ⟨y, rfl, ry⟩ := l.one_inv
    obtain ⟨w, hw, ro⟩ := I3.sl i _ he
    rw [hs] at hw
    obtain rfl : V.ref a = w := by simpa using hw
    simp only [Ro] at ro
    obtain ⟨b', us', eb, _, e', l'⟩ := ro
    cases eb
    rw [e] at e'
    cases e'
    exact ⟨a, us, y, rfl, rfl, e, szL2 (by rw [l'.len]; exact hl), q _ _ _ _ _ _ k (f1.trans (f2.trans f3)) (I3.chgL he hs (l'.app (.one ry)) (us := us)) (by simp only [RR, Rf])⟩⟩
/-- xs[i] = e, xs an own list -/
def TSetL (T U : TX) : TXG := fun r E K => Frz [r] E fun es E1 => oneK es fun d => T E1 fun x E2 => U E2 fun y E3 => match x with
  | .pl i [] (.fl ds) => E3[i]? = some (.ow (.fl ds)) ∧ intK y fun k => match ixN ds.length k with
    | some j => K (E3.set i (.ow (.fl (ds.set j d))))
    | none => False
  | _ => False
instance lf_setL {to ti : TE} {T U : TX} [a : LfE c P W F0 pv to T] [b : LfE c P W F0 pv ti U] : LfG c P W F0 pv (gSub to ti rSetL) (TSetL T U) := ⟨fun {B E σ F O H r v K Q} I rr h q => by
  have r0 : RRs ⟨c, W, B, F0, P, pv⟩ E σ F O H [r] [v] := ⟨v, [], rfl, rr, rfl⟩
  obtain ⟨es, E1, F1, O1, h1, f1, I1, l⟩ := Frz.ok I r0.frz.2 r0.frz.1 h
  obtain ⟨d, rfl, h1⟩ := oneK_ok h1
  obtain ⟨v', e', rd⟩ := l.one_inv
  cases e'
  refine a.run I1 h1 fun x E2 w F2 O2 H2 h2 f2 I2 r2 => b.run I2 h2 fun y E3 u F3 O3 H3 h3 f3 I3 r3 => ?_
  split at h3
  rotate_left
  · exact h3.elim
  rename_i i ds
  obtain ⟨hn, h3⟩ := h3
  obtain ⟨k, ey, fy, h3⟩ := intK_ok h3
  split at h3
  rotate_left
  · exact h3.elim
  rename_i j ej
  have kk := h3
  have r2 := r2.now f3 I3 ⟨rfl, hn⟩
  obtain ⟨a, us, rfl, e, lu, hs, he⟩ := r2.own (r := .fz .non) (p := [])
  refine ⟨a, us, k, j, rfl, r3.int I3 ey, e, by rw [lu.len]; exact ej, ?_⟩
  exact q _ _ _ _ _ kk (f1.trans (f2.trans f3)) (I3.chgL he hs (lu.set (rd.mono (f2.trans f3))) (us := us))⟩
/-- a, b = x, y -/
def TPar (P : List Nat) (i j : Nat) (T : TXA) : TXS := fun D E => T E fun rs E1 => (i ∉ P ∧ j ∉ P) ∧ match rs with
  | [.fz d, .fz e] => D.nx ((E1.set i (.fz d)).set j (.fz e))
  | _ => False
instance lf_par {i j : Nat} {ta : TA} {T : TXA} [a : LfA c P W F0 pv ta T] : LfS c P W F0 pv (tPar i j ta) (TPar P i j T) := ⟨fun {E σ F O H TD D} I h q =>
  a.run I h fun rs E1 vs F1 O1 H1 h1 f1 I1 r1 => by
    obtain ⟨⟨hi, hj⟩, h1⟩ := h1
    split at h1
    rotate_left
    · exact h1.elim
    rename_i d e
    have k := h1
    simp only [RRs, RR] at r1
    obtain ⟨v, us, rfl, rv, w, us', rfl, rw_, rfl⟩ := r1
    exact ⟨v, w, rfl, q.nx _ _ _ _ _ k f1 (St.set0 (e := .fz e) (St.set0 (e := .fz d) I1 hi ⟨v, rfl, rv⟩) hj ⟨w, rfl, rw_⟩)⟩⟩
/-! ### methods -/
class IsC (c : Cls) (C : Addr) (k : outParam Nat) : Prop where
  e : c.at_ k = C
def insD : D → Option (Nat × List D)
  | .ins k fs => some (k, fs)
  | _ => none
/-- m is no field of an instance -/
class NoF (k : Nat) (m : Str) : Prop where
  no : (nm k).contains m = false
def isK (k : Nat) : Res → Prop → Prop
  | .fz (.ins j _), p => j = k ∧ p
  | .vw (.ins j _), p => j = k ∧ p
  | .pl _ _ (.ins j fs), p => (j = k ∧ (OD.ins j fs).full) ∧ p
  | _, _ => False
theorem isK_ok {k : Nat} {x : Res} {p : Prop} (h : isK k x p) : (∃ fs, x.d = .ins k fs ∧ x.full) ∧ p := by
  unfold isK at h
  split at h
  · exact ⟨⟨_, by rw [h.1]; rfl, trivial⟩, h.2⟩
  · exact ⟨⟨_, by rw [h.1]; rfl, trivial⟩, h.2⟩
  · obtain ⟨⟨rfl, f⟩, h⟩ := h
    exact ⟨⟨_, rfl, f⟩, h⟩
  · exact h.elim
def TMeth (k : Nat) (md : List Md) (tsp : TSp) (T : TX) (U : TXA) : TX := fun E K => T E fun x E1 => isK k x <| U E1 fun rs E2 => nowK E2 x <| callK md tsp (x :: rs) E2 K
theorem ins_at {S : Sx} {E : En} {σ : L2.St} {F H : Hp} {O : Ow} (I : St S E σ F O H) {r : Res} {v : V} {k : Nat} {fs : List D} (h : RR S E σ F O H r v) (e : r.d = .ins k fs) (f : r.full) {m : Str} (hm : (nm k).contains m = false) :
    ∃ a dx us, v = .ref a ∧ H a = some (.ins (S.c.at_ k) dx us) ∧ us.lookup m = none := by
  have := h.rf I f
  rw [e] at this
  simp only [Rf] at this
  obtain ⟨a, dx, us, rfl, q, n, _⟩ := this
  refine ⟨a, dx, us, rfl, q, ?_⟩
  cases z : us.lookup m with
  | none => rfl
  | some w =>
    exfalso
    have : m ∈ us.map (·.1) := by
      have : ∀ {us : List (Str × V)}, us.lookup m = some w → m ∈ us.map (·.1) := by
        intro us
        induction us with
        | nil => intro h; cases h
        | cons x us ih =>
          intro h
          simp only [List.lookup] at h
          split at h
          · rename_i hx; simp only [List.map_cons, List.mem_cons]; exact .inl (by simpa using hx)
          · simp only [List.map_cons, List.mem_cons]; exact .inr (ih h)
      exact this z
    rw [n] at this
    have h2 : (nm k).contains m = true := by simpa using this
    rw [h2] at hm; cases hm
instance lf_meth {C : Addr} {k : Nat} {m : Str} {md : List Md} {tsp : TSp} {X : XK} {ta : TE} {t : TA} {T : TX} {U : TXA} [i : IsC c C k] [nf : NoF k m] [a : LfE c P W F0 pv ta T] [b : LfA c P W F0 pv t U] : LfE c P W F0 pv (tMeth C m (lift c md tsp) [] X ta t) (TMeth k md tsp T U) := ⟨fun {B E σ F O H K Q} I h q =>
  a.run I h fun x E1 v F1 O1 H1 h1 f1 I1 r1 => by
    obtain ⟨⟨fs, hx, full⟩, h1⟩ := isK_ok h1
    obtain ⟨a', dx, us, rfl, e, l⟩ := ins_at I1 r1 hx full nf.no
    refine ⟨a', dx, us, rfl, by rw [e, i.e], l, b.run I1 h1 fun rs E2 vs F2 O2 H2 h2 f2 I2 r2 => ?_⟩
    rw [List.append_nil]
    exact call_ok I2 (rs := x :: rs) ⟨_, vs, rfl, r1.now f2 I2 (nowK_ok h2).1, r2⟩ (nowK_ok h2).2 fun r E' v F' O' H' kk f J rr => q _ _ _ _ _ _ kk (f1.trans (f2.trans f)) J rr⟩
end
end TL
namespace TL
open PySem L2
/-! ### isinstance -/
def tyS : Nat → String
  | 0 => "NoneType" | 1 => "bool" | 2 => "int" | 3 => "str" | 4 => "list" | 5 => "tuple" | _ => "dict"
def tyN : D → Option Nat
  | .non => some 0
  | .bl _ => some 1
  | .int _ => some 2
  | .str _ => some 3
  | .lst _ => some 4
  | .tup _ => some 5
  | .dk _ => some 6
  | _ => none
/-- a built-in class by its number -/
class TyS (s : String) (n : outParam Nat) : Prop where
  e : tyS n = s ∧ n ≤ 6
  p : 1 ≤ n
instance : TyS "bool" 1 := ⟨⟨rfl, by decide⟩, by decide⟩
instance : TyS "int" 2 := ⟨⟨rfl, by decide⟩, by decide⟩
instance : TyS "str" 3 := ⟨⟨rfl, by decide⟩, by decide⟩
instance : TyS "list" 4 := ⟨⟨rfl, by decide⟩, by decide⟩
instance : TyS "tuple" 5 := ⟨⟨rfl, by decide⟩, by decide⟩
instance : TyS "dict" 6 := ⟨⟨rfl, by decide⟩, by decide⟩
/-- a bool is an int too -/
def bt (a b : Nat) : Bool := match Nat.beq a b with
  | true => true
  | false => match Nat.beq a 1, Nat.beq b 2 with
    | true, true => true
    | _, _ => false
theorem bt_ok {K : PySem.W.Frag} {a b : Nat} (ha : a ≤ 6) (hb : 1 ≤ b ∧ b ≤ 6) : PySem.W.kitOne K (.type (tyS a)) (.type (tyS b)) = some (bt a b) := by
  have h : ∀ a ∈ List.range 7, ∀ b ∈ [1, 2, 3, 4, 5, 6], kitB (tyS a) (tyS b) = some (bt a b) := by decide +kernel
  exact kit_ty (h a (List.mem_range.mpr (by omega)) b (by simp; omega))
class TxI (K : PySem.W.Frag) (c : Cls) (L : outParam (List Nat)) (N1 N2 : outParam (List Nat)) : Prop where
  ins : ∀ k ∈ L, L2.Cls K (c.at_ k) ∧ PySem.W.findIn K (.ref (c.at_ k)) "__class__" = some (some (.builtin "object.__class__")) ∧ PySem.W.specialIn K (.builtin "object.__class__") "__get__" = some (some (.builtin "getset_descriptor.__get__")) ∧
    PySem.W.takesIn K (.builtin "object.__class__") = some true ∧ PySem.W.mroIn K (c.at_ k) (.type "object") = some true
  self : ∀ k ∈ L, PySem.W.kitOne K (.ref (c.at_ k)) (.ref (c.at_ k)) = some true
  bc : ∀ k ∈ L, ∀ n ∈ N1, PySem.W.kitOne K (.type (tyS n)) (.ref (c.at_ k)) = some false
  cb : ∀ k ∈ L, ∀ n ∈ N2, PySem.W.kitOne K (.ref (c.at_ k)) (.type (tyS n)) = some false
def isiT (L N2 : List Nat) (n : Nat) (d : D) (K : Bool → Prop) : Prop := match d with
  | .ins k _ => memK k L <| memK n N2 <| K false
  | d => match tyN d with
    | some a => K (bt a n)
    | none => False
def isiC (L N1 : List Nat) (j : Nat) (d : D) (K : Bool → Prop) : Prop := match d with
  | .ins k _ => (match Nat.beq k j with
    | true => memK k L <| K true
    | false => False)
  | d => match tyN d with
    | some a => memK a N1 <| memK j L <| K false
    | none => False
theorem tyN_le {d : D} {n : Nat} (h : tyN d = some n) : n ≤ 6 := by
  cases d <;> simp only [tyN, Option.some.injEq, reduceCtorEq] at h <;> omega
theorem ty_rf {K : PySem.W.Frag} {c : Cls} {H : Hp} {d : D} {v : V} {n : Nat} (h : tyN d = some n) (r : Rf c H d v) : TyX K H v (.type (tyS n)) := by
  cases d with
  | non => cases h; simp only [Rf] at r; subst r; exact .base .non
  | bl b => cases h; simp only [Rf] at r; subst r; exact .base (.bl b)
  | int i => cases h; simp only [Rf] at r; subst r; exact .base (.int i)
  | str x => cases h; simp only [Rf] at r; subst r; exact .base (.str x)
  | lst xs => cases h; simp only [Rf] at r; obtain ⟨a, vs, rfl, e, _⟩ := r; exact .base (.lst e)
  | tup xs => cases h; simp only [Rf] at r; obtain ⟨a, vs, rfl, e, _⟩ := r; exact .base (.tup e)
  | dk xs => cases h; simp only [Rf] at r; obtain ⟨a, vs, rfl, e, _⟩ := r; exact .base (.dK e)
  | ins k fs => cases h
  | cst w => cases h
  | set l => cases h
  | scr l => cases h
  | exc _ _ _ _ => cases h
  | dl _ => cases h
section
variable {c : Cls} {P : List Nat} {W F0 : Hp} {pv : Nat → V} {K : PySem.W.Frag} {L : List Nat} {N1 N2 : List Nat}
theorem ins_ty [t : TxI K c L N1 N2] {H : Hp} {k : Nat} {fs : List D} {v : V} (hk : k ∈ L) (r : Rf c H (.ins k fs) v) : TyX K H v (.ref (c.at_ k)) := by
  simp only [Rf] at r
  obtain ⟨a, dx, us, rfl, e, _⟩ := r
  obtain ⟨h1, h2, h3, h4, h5⟩ := t.ins k hk
  exact .base (.ins e h1 h2 h3 h4 h5)
def TIsi (g : D → (Bool → Prop) → Prop) (T : TX) : TX := fun E K => T E fun x E1 => fullK x <| g x.d fun b => K (.fz (.bl b)) E1
instance lf_isiT {s : String} {n : Nat} {ta : TE} {T : TX} [t : TxI K c L N1 N2] [ts : TyS s n] [a : LfE c P W F0 pv ta T] : LfE c P W F0 pv (tCB (rIsi K) (tCons ta (tCons (tC (.ty s)) tNil))) (TIsi (isiT L N2 n) T) := ⟨fun {B E σ F O H Kk Q} I h q =>
  a.run I h fun x E1 v F1 O1 H1 h1 f1 I1 r1 => by
    obtain ⟨full, h1⟩ := fullK_ok h1
    have rd := r1.rf I1 full
    have fin : ∀ t' b, Kk (.fz (.bl b)) E1 → TyX K H1 v t' → PySem.W.kitOne K t' (.type s) = some b → rIsi K [v, .ty s] H1 Q := fun t' b k h1 h2 => ⟨v, .ty s, t', .type s, b, rfl, .ty s, h1, h2, q _ _ _ _ _ _ k f1 I1 (by simp only [RR, Rf])⟩
    show rIsi K [v, .ty s] H1 Q
    unfold isiT at h1
    split at h1
    · rename_i k' fs hd
      obtain ⟨m1, h1⟩ := memK_ok h1
      obtain ⟨m2, h1⟩ := memK_ok h1
      rw [hd] at rd
      have := t.cb k' m1 n m2
      rw [ts.e.1] at this
      exact fin _ _ h1 (ins_ty (t := t) m1 rd) this
    · split at h1
      · rename_i a hn
        have := bt_ok (K := K) (tyN_le hn) ⟨ts.p, ts.e.2⟩
        rw [ts.e.1] at this
        exact fin _ _ h1 (ty_rf hn rd) this
      · exact h1.elim⟩
instance lf_isiC {C : Addr} {j : Nat} {ta : TE} {T : TX} [t : TxI K c L N1 N2] [ic : IsC c C j] [a : LfE c P W F0 pv ta T] : LfE c P W F0 pv (tCB (rIsi K) (tCons ta (tCons (tC (.ref C)) tNil))) (TIsi (isiC L N1 j) T) := ⟨fun {B E σ F O H Kk Q} I h q =>
  a.run I h fun x E1 v F1 O1 H1 h1 f1 I1 r1 => by
    obtain ⟨full, h5⟩ := fullK_ok h1
    have rd := r1.rf I1 full
    have fin : ∀ t' b, Kk (.fz (.bl b)) E1 → TyX K H1 v t' → PySem.W.kitOne K t' (.ref C) = some b → rIsi K [v, .ref C] H1 Q := fun t' b k h1 h2 => ⟨v, .ref C, t', .ref C, b, rfl, .own C, h1, h2, q _ _ _ _ _ _ k f1 I1 (by simp only [RR, Rf])⟩
    show rIsi K [v, .ref C] H1 Q
    unfold isiC at h5
    split at h5
    · rename_i k' fs hd
      rw [hd] at rd
      split at h5
      · rename_i e
        obtain rfl := Nat.eq_of_beq_eq_true e
        obtain ⟨m1, h6⟩ := memK_ok h5
        have := t.self k' m1
        rw [ic.e] at this
        have ty := ins_ty (t := t) m1 rd
        rw [ic.e] at ty
        exact fin _ _ h6 ty this
      · exact h5.elim
    · split at h5
      · rename_i a hn
        obtain ⟨m1, h6⟩ := memK_ok h5
        obtain ⟨m2, h6⟩ := memK_ok h6
        have := t.bc j m2 a m1
        rw [ic.e] at this
        exact fin _ _ h6 (ty_rf hn rd) this
      · exact h5.elim⟩
end
/-! ### a new instance -/
section
variable {S : Sx} {E E' : En} {σ : L2.St} {F H : Hp} {O : Ow} {r : Res} {v : V}
theorem St.push (I : St S E σ F O H) {o : OD} (h : Ro S.c F H (tgO O 0) [] o v) (hP : ∀ j ∈ S.P, j < E.length) : St S (E ++ [Ent.ow o]) (σ ++ [some v]) F (retag (E.length + 1) O) H := by
  have hl : E.length = σ.length := I.len
  refine ⟨I.fh, I.bh, I.vb, I.f0, I.fn, fun a t e => ?_, retag_un I.un, by simp [hl], fun j e he => ?_, fun j hj => ?_⟩
  · obtain ⟨m, e', _⟩ := retag_some e
    exact I.ob a _ e'
  · by_cases hj : j < E.length
    · rw [List.getElem?_append_left hj] at he
      rw [List.getElem?_append_left (by omega)]
      have z := I.sl j e he
      cases e with
      | nil => trivial
      | fz d => exact z
      | vw d => exact z
      | ow x =>
        obtain ⟨w, hw, r⟩ := z
        refine ⟨w, hw, r.mono (.refl _) fun q a _ t => ⟨?_, rfl⟩⟩
        show retag (E.length + 1) O a = some (j + 1, q)
        unfold retag
        rw [show O a = some (j + 1, q) from t]
        show (if j + 1 = 0 then _ else if j + 1 = E.length + 1 then _ else _) = _
        rw [if_neg (by omega), if_neg (by omega)]
    · have hj2 : j < E.length + 1 := by
        have := (List.getElem?_eq_some_iff.mp he).1
        simpa using this
      obtain rfl : j = E.length := by omega
      rw [List.getElem?_append_right (Nat.le_refl _)] at he
      simp at he
      subst he
      rw [hl, List.getElem?_append_right (Nat.le_refl _)]
      simp only [Nat.sub_self, List.getElem?_cons_zero]
      refine ⟨v, rfl, h.mono (.refl _) fun q a _ t => ⟨?_, rfl⟩⟩
      show retag (σ.length + 1) O a = some (σ.length + 1, q)
      unfold retag
      rw [show O a = some (0, q) from t]; rfl
  · have := hP j hj
    rw [List.getElem?_append_left (by omega)]
    exact I.pin j hj
theorem St.pop {e : Ent} {x : Option V} (I : St S (E ++ [e]) (σ ++ [x]) F O H) (hP : ∀ j ∈ S.P, j < E.length) : St S E σ F O H := by
  have hl : E.length = σ.length := by have := I.len; simpa using this
  refine ⟨I.fh, I.bh, I.vb, I.f0, I.fn, I.ob, I.un, hl, fun j e he => ?_, fun j hj => ?_⟩
  · have hj := (List.getElem?_eq_some_iff.mp he).1
    have := I.sl j e (by rw [List.getElem?_append_left hj]; exact he)
    rw [List.getElem?_append_left (by omega)] at this
    exact this
  · have := I.pin j hj
    rw [List.getElem?_append_left (by have := hP j hj; omega)] at this
    exact this
theorem RR.push {O' : Ow} {H' : Hp} {e : Ent} {x : Option V} (h : RR S E σ F O H r v) (hn : ∀ o, r ≠ .nw o) (hl : E.length = σ.length) (k : ∀ a j q, O a = some (j + 1, q) → j < E.length → O' a = some (j + 1, q) ∧ H' a = H a) : RR S (E ++ [e]) (σ ++ [x]) F O' H' r v := by
  cases r with
  | fz d => exact h
  | vw d => exact h
  | nw o => exact absurd rfl (hn o)
  | pl i p o =>
    obtain ⟨⟨r, he, hr⟩, hs, ro⟩ := h
    have hi := (List.getElem?_eq_some_iff.mp he).1
    exact ⟨⟨r, by rw [List.getElem?_append_left hi]; exact he, hr⟩, fun z => by rw [List.getElem?_append_left (by omega)]; exact hs z, ro.mono (.refl _) fun q a _ t => k a i q t hi⟩
end
end TL
namespace TL
open PySem PySem.Spec PyProof.Rows L2
section
variable {c : Cls} {P : List Nat} {W F0 : Hp} {pv : Nat → V} {Kf : PySem.W.Frag}
def nonw : List Res → Prop
  | [] => True
  | .nw _ :: _ => False
  | _ :: rs => nonw rs
/-- a new instance that will not be changed -/
def makeK (P : List Nat) (k : Nat) (md : List Md) (tsp : TSp) (rs : List Res) (E : En) (K : Res → En → Prop) : Prop := (∀ j ∈ P, j < E.length) ∧ nonw rs ∧
  callK (.l :: md) tsp (.pl E.length [] (.ins k []) :: rs) (E ++ [.ow (.ins k [])]) fun r E' => match r, E'.getLast? with
    | .fz .non, some (.ow o) => E'.length = E.length + 1 ∧ o.full ∧ K (.fz o.er) E'.dropLast
    | _, _ => False
theorem RRs.push {S : Sx} {E : En} {σ : L2.St} {F H : Hp} {O O' : Ow} {H' : Hp} {e : Ent} {x : Option V} (hl : E.length = σ.length) (k : ∀ a j q, O a = some (j + 1, q) → j < E.length → O' a = some (j + 1, q) ∧ H' a = H a) : ∀ {rs : List Res} {vs : List V}, RRs S E σ F O H rs vs → nonw rs → RRs S (E ++ [e]) (σ ++ [x]) F O' H' rs vs
  | [], _, h, _ => h
  | r :: rs, vs, h, n => by
    simp only [RRs] at h ⊢
    obtain ⟨v, us, rfl, a, b⟩ := h
    cases r with
    | nw o => exact n.elim
    | fz d => exact ⟨v, us, rfl, a.push (fun _ => by simp) hl k, RRs.push hl k b n⟩
    | vw d => exact ⟨v, us, rfl, a.push (fun _ => by simp) hl k, RRs.push hl k b n⟩
    | pl i p o => exact ⟨v, us, rfl, a.push (fun _ => by simp) hl k, RRs.push hl k b n⟩
theorem make_ok {S : Sx} {E : En} {σ : L2.St} {F H : Hp} {O : Ow} (I : St S E σ F O H) {k : Nat} {md : List Md} {tsp : TSp} {rs : List Res} {vs : List V} {K : Res → En → Prop} {Q : VK} {X : XK} {x dx : Addr} {C : Addr} (hC : S.c.at_ k = C) (rr : RRs S E σ F O H rs vs) (h : makeK S.P k md tsp rs E K)
    (hx : H x = none) (hdx : H dx = none) (hne : dx ≠ x) (q : ∀ r E' F' O' H', K r E' → Fz F F' → St S E' σ F' O' H' → RR S E' σ F' O' H' r (.ref x) → Q (.ref x) H') :
    lift S.c (.l :: md) tsp (.ref x :: vs) (upd (upd H dx (.own x)) x (.ins C dx [])) (fun v H2 => v = .non ∧ Q (.ref x) H2) X := by
  obtain ⟨hP, nn, h⟩ := h
  obtain ⟨s0, I0⟩ := I.fresh (o := .own x) hdx
  have hx' : upd H dx (.own x) x = none := by rw [upd_ne (Ne.symm hne)]; exact hx
  have I1 := I0.newO hx' (.ins C dx [])
  have ro : Ro S.c F (upd (upd H dx (.own x)) x (.ins C dx [])) (tgO (newT x O) 0) [] (.ins k []) (.ref x) := by
    simp only [Ro, RoL]
    exact ⟨x, dx, [], rfl, newT_self, by rw [upd_same, hC], rfl, rfl⟩
  have I2 := I1.push ro hP
  have ox : O x = none := by
    cases q : O x with
    | none => rfl
    | some t => exact absurd hx (I.ob x t q).2.2
  have od : ∀ a j q, O a = some (j + 1, q) → j < E.length → retag (E.length + 1) (newT x O) a = some (j + 1, q) ∧ upd (upd H dx (.own x)) x (.ins C dx []) a = H a := fun a j q e hj => by
    have h1 : a ≠ x := fun z => by rw [z, ox] at e; cases e
    have h2 : a ≠ dx := fun z => by rw [z, s0.ow] at e; cases e
    refine ⟨?_, by rw [upd_ne h1, upd_ne h2]⟩
    unfold retag
    rw [newT_keep e h1]
    show (if j + 1 = 0 then _ else if j + 1 = E.length + 1 then _ else _) = _
    rw [if_neg (by omega), if_neg (by omega)]
  have rr2 := rr.push (e := .ow (.ins k [])) (x := some (V.ref x)) I.len od nn
  have hlast : (E ++ [Ent.ow (.ins k [])])[E.length]? = some (.ow (.ins k [])) := by rw [List.getElem?_append_right (Nat.le_refl _)]; simp
  have slast : (σ ++ [some (V.ref x)])[E.length]? = some (some (V.ref x)) := by rw [I.len, List.getElem?_append_right (Nat.le_refl _)]; simp
  refine call_ok I2 (rs := .pl E.length [] (.ins k []) :: rs) (vs := .ref x :: vs) ⟨.ref x, vs, rfl, ⟨⟨_, hlast, rfl⟩, fun _ => slast, ?_⟩, rr2⟩ h fun r E' v F' O' H' kk f J rv => ?_
  · refine ro.mono (.refl _) fun q a _ t => ⟨?_, rfl⟩
    show retag (E.length + 1) (newT x O) a = some (E.length + 1, q)
    unfold retag
    rw [show newT x O a = some (0, q) from t]; rfl
  · split at kk
    rotate_left
    · exact kk.elim
    rename_i o hg
    obtain ⟨hlen, full, kk⟩ := kk
    refine ⟨by simpa only [RR, Rf] using rv, ?_⟩
    have e1 : E' = E'.dropLast ++ [.ow o] := by
      have hne' : E' ≠ [] := fun z => by rw [z] at hg; cases hg
      rw [List.getLast?_eq_some_getLast hne'] at hg
      have := List.dropLast_concat_getLast hne'
      rw [Option.some.inj hg] at this
      exact this.symm
    have hdl : E'.dropLast.length = E.length := by rw [List.length_dropLast, hlen]; omega
    rw [e1] at J
    have hl2 : (E'.dropLast ++ [Ent.ow o])[E.length]? = some (.ow o) := by rw [← hdl, List.getElem?_append_right (Nat.le_refl _)]; simp
    obtain ⟨w, hw, rw_⟩ := J.sl _ _ hl2
    rw [slast] at hw
    obtain rfl : V.ref x = w := by simpa using hw
    obtain ⟨F2, O2, f2, J2, k2, _⟩ := J.freeze hl2 (p := []) rfl full
    have e3 : (E'.dropLast ++ [Ent.ow o]).set E.length (Ent.mk (OD.put (.fz o.er) [] o)) = E'.dropLast ++ [.fz o.er] := by
      rw [← hdl, List.set_append_right _ _ (Nat.le_refl _)]; simp [OD.put, Ent.mk]
    rw [e3] at J2
    have J3 := J2.pop (fun j hj => by rw [hdl]; exact hP j hj)
    exact q _ _ _ _ _ kk (f.trans f2) J3 (k2 _ rw_)
def TMake (P : List Nat) (k : Nat) (md : List Md) (tsp : TSp) (T : TXA) : TX := fun E K => T E fun rs E1 => makeK P k md tsp rs E1 K
instance lf_make {C : Addr} {k : Nat} {md : List Md} {tsp : TSp} {X : XK} {t : TA} {T : TXA} [ic : IsC c C k] [a : LfA c P W F0 pv t T] : LfE c P W F0 pv (tMake C (lift c (.l :: md) tsp) [] X t) (TMake P k md tsp T) := ⟨fun {B E σ F O H K Q} I h q =>
  a.run I h fun rs E1 vs F1 O1 H1 h1 f1 I1 r1 x dx hx hdx hne => by
    rw [List.append_nil]
    exact make_ok I1 ic.e r1 h1 hx hdx hne fun r E' F' O' H' kk f J rr => q _ _ _ _ _ _ kk (f1.trans f) J rr⟩
/-! ### a chain -/
def TChn (R R' : RX) (T U Z : TX) : TX := fun E K => T E fun x E1 => U E1 fun y E2 => nowK E2 x <| fullK x <| fullK y <| R x.d y.d fun d => match d with
  | .bl k => ifK k (Z E2 fun z E3 => nowK E3 y <| fullK z <| R' y.d z.d fun d => K (.fz d) E3) (K (.fz (.bl false)) E2)
  | _ => False
instance lf_chain {r r' : R2} {ta tb tc : TE} {R R' : RX} {T U Z : TX} [z : LfR c r R] [z' : LfR c r' R'] [a : LfE c P W F0 pv ta T] [b : LfE c P W F0 pv tb U] [d : LfE c P W F0 pv tc Z] : LfE c P W F0 pv (tChain r r' ta tb tc) (TChn R R' T U Z) := ⟨fun {B E σ F O H K Q} I h q =>
  a.run I h fun x E1 v F1 O1 H1 h1 f1 I1 r1 => b.run I1 h1 fun y E2 u F2 O2 H2 h2 f2 I2 r2 =>
    have h2 := nowK_ok h2
    have h3 := fullK_ok h2.2
    have h4 := fullK_ok h3.2
    z.run ((r1.now f2 I2 h2.1).rf I2 h3.1) (r2.rf I2 h4.1) h4.2 fun d' w k rw_ => by
      split at k
      rotate_left
      · exact k.elim
      rename_i b'
      refine ⟨b', by simpa only [Rf] using rw_ H2, ?_⟩
      cases b' with
      | false => rw [if_neg Bool.false_ne_true]; exact q _ _ _ _ _ _ k (f1.trans f2) I2 (by simp only [RR, Rf])
      | true =>
        rw [if_pos rfl]
        exact d.run I2 k fun z E3 w3 F3 O3 H3 h5 f3 I3 r3 => by
          have h6 := nowK_ok h5
          have h7 := fullK_ok h6.2
          exact z'.run ((r2.now f3 I3 h6.1).rf I3 (by
            cases y with
            | nw o => exact h6.1.elim
            | _ => exact h4.1)) (r3.rf I3 h7.1) h7.2 fun d4 w4 k4 r4 => q _ _ _ _ _ _ k4 (f1.trans (f2.trans f3)) I3 (r4 _)⟩
/-! ### copies -/
def isAt : D → Prop
  | .non => True
  | .bl _ => True
  | .int _ => True
  | .str _ => True
  | .cst _ => True
  | _ => False
theorem at_rf {F G : Hp} {d : D} {v : V} (h : isAt d) (r : Rf c F d v) : Rf c G d v := by
  cases d <;> first | exact h.elim | (simp only [Rf] at r ⊢; exact r)
theorem ats_rf {F G : Hp} : ∀ {ds : List D} {vs : List V}, (∀ d ∈ ds, isAt d) → RfL c F ds vs → RfL c G ds vs
  | [], _, _, r => by simpa only [RfL] using r
  | d :: ds, _, h, r => by
    simp only [RfL] at r ⊢
    obtain ⟨v, s, e, a, l⟩ := r
    exact ⟨v, s, e, at_rf (h d List.mem_cons_self) a, ats_rf (fun x hx => h x (List.mem_cons_of_mem _ hx)) l⟩
/-- the items, frozen -/
class IsK (c : Cls) (K : PySem.W.Frag) : Prop where
  e : c.K = K
def seqK : Res → (List D → Prop) → Prop
  | .fz (.scr ns), K => K (ns.map .int)
  | .fz (.lst ds), K => K ds
  | .fz (.tup ds), K => K ds
  | .vw (.lst ds), K => (∀ d ∈ ds, isAt d) ∧ K ds
  | .vw (.tup ds), K => (∀ d ∈ ds, isAt d) ∧ K ds
  | .pl _ _ (.fl ds), K => K ds
  | .nw (.fl ds), K => K ds
  | _, _ => False
theorem seq_ok {S : Sx} {Kf : PySem.W.Frag} [ik : IsK S.c Kf] {E : En} {σ : L2.St} {F H : Hp} {O : Ow} (I : St S E σ F O H) {r : Res} {v : V} {K : List D → Prop} (rr : RR S E σ F O H r v) (h : seqK r K) : ∃ p vs ds, v = .ref p ∧ (SqL Kf H p vs ∨ SqT Kf H p vs) ∧ RfL S.c F ds vs ∧ K ds := by
  cases r with
  | fz d =>
    cases d with
    | lst ds => simp only [RR, Rf] at rr; obtain ⟨p, vs, rfl, e, l⟩ := rr; exact ⟨p, vs, ds, rfl, .inl (SqL.of (I.fh _ _ e)), l, h⟩
    | tup ds => simp only [RR, Rf] at rr; obtain ⟨p, vs, rfl, e, l⟩ := rr; exact ⟨p, vs, ds, rfl, .inr (SqT.of (I.fh _ _ e)), l, h⟩
    | scr ns => simp only [RR, Rf] at rr; obtain ⟨p, rfl, e⟩ := rr; exact ⟨p, _, _, rfl, .inl (by rw [← ik.e]; exact fz_sql I.fh e), ints_rf, h⟩
    | _ => exact h.elim
  | vw d =>
    cases d with
    | lst ds => simp only [RR, Rf] at rr; obtain ⟨p, vs, rfl, e, l⟩ := rr; exact ⟨p, vs, ds, rfl, .inl (SqL.of (uni_fz I.fh I.wh _ _ e)), ats_rf h.1 l, h.2⟩
    | tup ds => simp only [RR, Rf] at rr; obtain ⟨p, vs, rfl, e, l⟩ := rr; exact ⟨p, vs, ds, rfl, .inr (SqT.of (uni_fz I.fh I.wh _ _ e)), ats_rf h.1 l, h.2⟩
    | _ => exact h.elim
  | pl i p o =>
    cases o with
    | fl ds => have := rr.2.2; simp only [Ro] at this; obtain ⟨p, vs, rfl, _, e, l⟩ := this; exact ⟨p, vs, ds, rfl, .inl (SqL.of e), l, h⟩
    | _ => exact h.elim
  | nw o =>
    cases o with
    | fl ds => simp only [RR, Ro] at rr; obtain ⟨p, vs, rfl, _, e, l⟩ := rr; exact ⟨p, vs, ds, rfl, .inl (SqL.of e), l, h⟩
    | _ => exact h.elim
def TList (T : TX) : TX := fun E K => T E fun x E1 => seqK x fun ds => K (.fz (.lst ds)) E1
def TListN (T : TX) : TX := fun E K => T E fun x E1 => seqK x fun ds => K (.nw (.fl ds)) E1
instance lf_list {te : TE} {T : TX} [ik : IsK c Kf] [a : LfE c P W F0 pv te T] : LfE c P W F0 pv (tCB (K01.rListOf Kf) (tCons te tNil)) (TList T) := ⟨fun {B E σ F O H K Q} I h q =>
  a.run I h fun x E1 v F1 O1 H1 h1 f1 I1 r1 => by
    obtain ⟨p, vs, ds, rfl, e, l, k⟩ := seq_ok (Kf := Kf) (ik := ik) I1 r1 h1
    refine ⟨p, vs, rfl, e, fun y hy => ?_⟩
    have f := fz_upd (o := .lst vs) (I1.fh.none hy)
    exact q _ _ _ _ _ _ k (f1.trans f) (I1.newF hy (.lst vs)) (by simp only [RR, Rf]; exact ⟨y, vs, rfl, upd_same, l.mono f⟩)⟩
instance lf_listN {te : TE} {T : TX} [ik : IsK c Kf] [a : LfE c P W F0 pv te T] : LfE c P W F0 pv (tNw (tCB (K01.rListOf Kf) (tCons te tNil))) (TListN T) := ⟨fun {B E σ F O H K Q} I h q =>
  a.run I h fun x E1 v F1 O1 H1 h1 f1 I1 r1 => by
    obtain ⟨p, vs, ds, rfl, e, l, k⟩ := seq_ok (Kf := Kf) (ik := ik) I1 r1 h1
    exact ⟨p, vs, rfl, e, fun y hy => q _ _ _ _ _ _ k f1 (I1.newO hy (.lst vs)) (by simp only [RR, Ro]; exact ⟨y, vs, rfl, newT_self, upd_same, l⟩)⟩⟩
def tupK : Res → (Res → Prop) → Prop
  | .fz (.lst ds), K => K (.fz (.tup ds))
  | .fz (.tup ds), K => K (.fz (.tup ds))
  | .vw (.lst ds), K => (∀ d ∈ ds, isAt d) ∧ K (.fz (.tup ds))
  | .vw (.tup ds), K => K (.vw (.tup ds))
  | .pl _ _ (.fl ds), K => K (.fz (.tup ds))
  | .nw (.fl ds), K => K (.fz (.tup ds))
  | _, _ => False
def TTuple (T : TX) : TX := fun E K => T E fun x E1 => tupK x fun r => K r E1
instance lf_tuple {te : TE} {T : TX} [a : LfE c P W F0 pv te T] : LfE c P W F0 pv (tCB (K01.rTupleOf Kf) (tCons te tNil)) (TTuple T) := ⟨fun {B E σ F O H K Q} I h q =>
  a.run I h fun x E1 v F1 O1 H1 h1 f1 I1 r1 => by
    have fin : ∀ {p : Addr} {vs : List V} {ds : List D}, v = .ref p → H1 p = some (.lst vs) → RfL c F1 ds vs → K (.fz (.tup ds)) E1 → K01.rTupleOf Kf [v] H1 Q := fun {p vs ds} hv e l k => by
      refine ⟨p, vs, by rw [hv], .inl ⟨SqL.of e, fun y hy => ?_⟩⟩
      have f := fz_upd (o := .tup vs) (I1.fh.none hy)
      exact q _ _ _ _ _ _ k (f1.trans f) (I1.newF hy (.tup vs)) (by simp only [RR, Rf]; exact ⟨y, vs, rfl, upd_same, l.mono f⟩)
    show K01.rTupleOf Kf [v] H1 Q
    cases x with
    | fz d =>
      cases d with
      | lst ds => simp only [RR, Rf] at r1; obtain ⟨p, vs, hv, e, l⟩ := r1; exact fin hv (I1.fh _ _ e) l h1
      | tup ds =>
        have r0 := r1
        simp only [RR, Rf] at r1
        obtain ⟨p, vs, rfl, e, l⟩ := r1
        exact ⟨p, vs, rfl, .inr ⟨SqT.of (I1.fh _ _ e), q _ _ _ _ _ _ h1 f1 I1 r0⟩⟩
      | _ => exact h1.elim
    | vw d =>
      cases d with
      | lst ds => simp only [RR, Rf] at r1; obtain ⟨p, vs, hv, e, l⟩ := r1; exact fin hv (uni_fz I1.fh I1.wh _ _ e) (ats_rf h1.1 l) h1.2
      | tup ds =>
        have r0 := r1
        simp only [RR, Rf] at r1
        obtain ⟨p, vs, rfl, e, l⟩ := r1
        exact ⟨p, vs, rfl, .inr ⟨SqT.of (uni_fz I1.fh I1.wh _ _ e), q _ _ _ _ _ _ h1 f1 I1 r0⟩⟩
      | _ => exact h1.elim
    | pl i p o =>
      cases o with
      | fl ds => have := r1.2.2; simp only [Ro] at this; obtain ⟨p, vs, hv, _, e, l⟩ := this; exact fin hv e l h1
      | _ => exact h1.elim
    | nw o =>
      cases o with
      | fl ds => simp only [RR, Ro] at r1; obtain ⟨p, vs, hv, _, e, l⟩ := r1; exact fin hv e l h1
      | _ => exact h1.elim⟩
/-- sorted of texts -/
def strsD : D → Option (List D) := sqD
def TSortS (T : TX) : TX := fun E K => T E fun x E1 => x.full ∧ ∃ xs : List Str, sqD x.d = some (xs.map .str) ∧ xs.length < 64 ∧ ∀ ys : List Str, ys.Perm xs → sortedS ys = true → K (.fz (.lst (ys.map .str))) E1
instance lf_sortSq {te : TE} {T : TX} [a : LfE c P W F0 pv te T] : LfE c P W F0 pv (tCB (R9S.rSortSq Kf) (tCons te tNil)) (TSortS T) := ⟨fun {B E σ F O H K Q} I h q =>
  a.run I h fun x E1 v F1 O1 H1 h1 f1 I1 r1 => by
    obtain ⟨full, xs, e, hl, k⟩ := h1
    obtain ⟨p, vs, rfl, ep, l⟩ := sqD_rf e (r1.rf I1 full)
    rw [rf_strs l] at ep
    refine ⟨p, xs, rfl, ep.imp SqL.of SqT.of, hl, fun ys y h1 h2 hy => ?_⟩
    have f := fz_upd (o := .lst (ys.map .str)) (I1.fh.none hy)
    exact q _ _ _ _ _ _ (k ys h1 h2) (f1.trans f) (I1.newF hy _) (by simp only [RR, Rf]; exact ⟨y, _, rfl, upd_same, strs_rf⟩)⟩
end
end TL
namespace TL
open PySem PySem.Spec PyProof.Rows L2
/-! ### promises by the number of arguments -/
abbrev KE := Ent → List Ent → Prop
def t0 (f : KE → Prop) : TSp := fun as K => as = [] ∧ f K
def t1 (f : Ent → KE → Prop) : TSp := fun as K => ∃ a, as = [a] ∧ f a K
def t2 (f : Ent → Ent → KE → Prop) : TSp := fun as K => ∃ a b, as = [a, b] ∧ f a b K
def t3 (f : Ent → Ent → Ent → KE → Prop) : TSp := fun as K => ∃ a b d, as = [a, b, d] ∧ f a b d K
def t4 (f : Ent → Ent → Ent → Ent → KE → Prop) : TSp := fun as K => ∃ a b d e, as = [a, b, d, e] ∧ f a b d e K
def t5 (f : Ent → Ent → Ent → Ent → Ent → KE → Prop) : TSp := fun as K => ∃ a b d e g, as = [a, b, d, e, g] ∧ f a b d e g K
def t6 (f : Ent → Ent → Ent → Ent → Ent → Ent → KE → Prop) : TSp := fun as K => ∃ a b d e g h, as = [a, b, d, e, g, h] ∧ f a b d e g h K
theorem lift_len {c : Cls} {md : List Md} {tsp : TSp} {vs : List V} {H : Hp} {Q : VK} {X : XK} {n : Nat} (h : lift c md tsp vs H Q X) (k : ∀ as K, tsp as K → as.length = n) : vs.length = n := by
  obtain ⟨_, _, _, as, K, hl, _, hk, _⟩ := h
  rw [← hl]; exact k as K hk
def ownsIn (P : List Nat) : Nat → List Ent → Prop
  | _, [] => True
  | j, .ow _ :: r => j ∈ P ∧ ownsIn P (j + 1) r
  | j, _ :: r => ownsIn P (j + 1) r
theorem ownsIn_ok {P : List Nat} : ∀ {as : List Ent} {n j : Nat} {o : OD}, ownsIn P n as → as[j]? = some (.ow o) → n + j ∈ P
  | [], _, _, _, _, e => by simp at e
  | x :: as, n, 0, o, h, e => by
    simp at e
    subst e
    exact h.1
  | x :: as, n, j + 1, o, h, e => by
    have : ownsIn P (n + 1) as := by
      cases x with
      | ow _ => exact h.2
      | _ => exact h
    have := ownsIn_ok this (by simpa using e)
    rw [show n + (j + 1) = n + 1 + j by omega]
    exact this
theorem bodyN {c : Cls} {P : List Nat} {md : List Md} {tsp : TSp} {t : TS} {T : TXS} [z : ∀ W F0 pv, LfS c P W F0 pv t T] {n : Nat} {N : List Str} {vs : List V} {H : Hp} {Q : VK} {X : XK} (nl : List Ent) (h : lift c md tsp vs H Q X) (hN : N.length = n + nl.length) (hn : nl = List.replicate nl.length .nil)
    (b : ∀ as K, tsp as K → as.length = n ∧ ownsIn P 0 as ∧ (∀ j ∈ P, j < n) ∧ T ⟨fun E => K (.fz .non) (outs P n 0 E), fun r E => retK P r E fun x E' => K x (outs P n 0 E'), fun _ => False, fun _ => False⟩ (as ++ nl)) :
    t { nx := fun _ H' => Q .non H', rt := Q } (L2.start N vs) H := by
  have hl : vs.length = n := lift_len h fun as K hk => (b as K hk).1
  refine body_ok (z := z) (n := n) (m := nl.length) nl h ?_ hn fun as K hk => ?_
  · unfold L2.start
    rw [hN, hl, Nat.add_sub_cancel_left]
  · obtain ⟨h1, h2, h3, h4⟩ := b as K hk
    exact ⟨h1, fun j o e => by have := ownsIn_ok h2 e; rwa [Nat.zero_add] at this, h3, h4⟩
/-- the law's own call: its script is a tree -/
theorem lift_law {c : Cls} {K : PySem.W.Frag} [ik : IsK c K] {tsp : TSp} {H : Hp} {Q : VK} {X : XK} {s : Addr} {ns : List Int} (h : SqL K H s (ns.map V.int)) (k : tsp [.fz (.scr ns)] (fun r _ => ∃ b, r = .fz (.bl b) ∧ ∀ H', Q (.bl b) H')) : lift c [.f] tsp [.ref s] H Q X := by
  refine ⟨H, fun a => if a = s then H a else none, fun _ => none, [.fz (.scr ns)], _, rfl, ?_, k, ?_⟩
  · have f : Fz (fun a => if a = s then H a else none) H := fun a o e => by
      by_cases c : a = s
      · have e : (if a = s then H a else none) = some o := e
        rw [if_pos c] at e; exact e
      · have e : (if a = s then H a else none) = some o := e
        rw [if_neg c] at e; cases e
    refine ⟨f, .refl _, .refl _, .refl _, fun a h1 h2 => absurd h2 h1, fun a t e => (nomatch e), fun a b t e => (nomatch e), rfl, fun i e he => ?_, fun j hj => (nomatch hj)⟩
    cases i with
    | succ i => simp at he
    | zero =>
      simp at he
      subst he
      refine ⟨.ref s, rfl, ?_⟩
      simp only [Rf]
      refine ⟨s, rfl, ?_⟩
      rw [show (Sc c H (fun a => if a = s then H a else none)).c.K = K from ik.e]
      rcases h with h | h
      · rcases h with h | ⟨o, h⟩
        · exact .inl (.inl (by show (if s = s then H s else none) = _; rw [if_pos rfl]; exact h))
        · exact .inl (.inr ⟨o, by show (if s = s then H s else none) = _; rw [if_pos rfl]; exact h⟩)
      · exact .inr h
  · rintro r as' v F' O' H' ⟨b, rfl, q⟩ _ hl J
    have s := J.sl 1 (.fz (.bl b)) (by match as', hl with | [x], _ => rfl)
    obtain ⟨w, hw, r⟩ := s
    simp at hw
    subst hw
    simp only [Rf] at r
    subst r
    exact q H'
end TL
namespace TL
open PySem PySem.Spec PyProof.Rows L2
theorem intsR_len {lo : Int} {n : Nat} : (intsR lo n).length = n := by unfold intsR; simp
theorem intsR_get {lo : Int} {n i : Nat} {r : Res} (h : (intsR lo n)[i]? = some r) : i < n ∧ r = .fz (.int (lo + i)) := by
  have hl := (List.getElem?_eq_some_iff.mp h).1
  rw [intsR_len] at hl
  refine ⟨hl, ?_⟩
  unfold intsR at h
  rw [List.getElem?_map, List.getElem?_range hl] at h
  exact (Option.some.inj h).symm
section
variable {E1 : En} {G : TXG} {B : (Nat → En → Prop) → Nat → En → Prop} {N : En → Prop}
/-- a loop over numbers -/
theorem forI {lo : Int} {n : Nat} (I : Nat → En → Prop) (h0 : I 0 E1) (turn : ∀ (i : Nat) (E : En), i < n → I i E → G (.fz (.int (lo + i))) E fun E2 => B I i E2) (fin : ∀ E, I n E → N E) :
    ∃ I : Nat → En → Prop, I 0 E1 ∧ (∀ (i : Nat) (r : Res) (E : En), (intsR lo n)[i]? = some r → I i E → G r E fun E2 => B I i E2) ∧ ∀ E, I (intsR lo n).length E → N E :=
  ⟨I, h0, fun i r E e h => by obtain ⟨h1, rfl⟩ := intsR_get e; exact turn i E h1 h, fun E h => fin E (by rwa [intsR_len] at h)⟩
/-- a loop over frozen items -/
theorem forD {f : D → Res} {ds : List D} (I : Nat → En → Prop) (h0 : I 0 E1) (turn : ∀ (i : Nat) (d : D) (E : En), ds[i]? = some d → I i E → G (f d) E fun E2 => B I i E2) (fin : ∀ E, I ds.length E → N E) :
    ∃ I : Nat → En → Prop, I 0 E1 ∧ (∀ (i : Nat) (r : Res) (E : En), (ds.map f)[i]? = some r → I i E → G r E fun E2 => B I i E2) ∧ ∀ E, I (ds.map f).length E → N E :=
  ⟨I, h0, fun i r E e h => by
    rw [List.getElem?_map] at e
    cases hd : ds[i]? with
    | none => rw [hd] at e; cases e
    | some d => rw [hd] at e; cases e; exact turn i d E hd h, fun E h => fin E (by rwa [List.length_map] at h)⟩
/-- over texts -/
theorem forX {α : Type} {g : α → D} {f : D → Res} {xs : List α} (I : Nat → En → Prop) (h0 : I 0 E1) (turn : ∀ (i : Nat) (x : α) (E : En), xs[i]? = some x → I i E → G (f (g x)) E fun E2 => B I i E2) (fin : ∀ E, I xs.length E → N E) :
    ∃ I : Nat → En → Prop, I 0 E1 ∧ (∀ (i : Nat) (r : Res) (E : En), ((xs.map g).map f)[i]? = some r → I i E → G r E fun E2 => B I i E2) ∧ ∀ E, I ((xs.map g).map f).length E → N E := by
  refine forD I h0 (fun i d E e h => ?_) (fun E h => fin E (by rwa [List.length_map] at h))
  rw [List.getElem?_map] at e
  cases hd : xs[i]? with
  | none => rw [hd] at e; cases e
  | some d => rw [hd] at e; cases e; exact turn i d E hd h
end
end TL
namespace TL
open PySem PySem.Spec PyProof.Rows L2
/-! ### slices -/
abbrev TXO := En → (Option Int → En → Prop) → Prop
class LfO (c : Cls) (P : List Nat) (W F0 : Hp) (pv : Nat → V) (t : TO) (T : outParam TXO) : Prop where
  run : ∀ {B : Hp} {E : En} {σ : L2.St} {F : Hp} {O : Ow} {H : Hp} {K : Option Int → En → Prop} {Q : Option Int → Hp → Prop}, St ⟨c, W, B, F0, P, pv⟩ E σ F O H → T E K →
    (∀ b E' F' O' H', K b E' → Fz F F' → St ⟨c, W, B, F0, P, pv⟩ E' σ F' O' H' → Q b H') → t σ H Q
/-- a cut of any list -/
def cutD (xs : List D) (lo hi : Option Int) : List D := (xs.drop (HT.sIx xs.length 0 lo)).take (HT.sIx xs.length xs.length hi - HT.sIx xs.length 0 lo)
section
variable {c : Cls} {P : List Nat} {W F0 : Hp} {pv : Nat → V} {Kf : PySem.W.Frag}
def TNoP : TXO := fun E K => K none E
def TPart (T : TX) : TXO := fun E K => T E fun x E1 => intK x fun i => K (some i) E1
instance lf_noP : LfO c P W F0 pv tNoPart TNoP := ⟨fun I h q => q _ _ _ _ _ h (.refl _) I⟩
instance lf_part {t : TE} {T : TX} [a : LfE c P W F0 pv t T] : LfO c P W F0 pv (tPart t) (TPart T) := ⟨fun {B E σ F O H K Q} I h q =>
  a.run I h fun x E1 v F1 O1 H1 h1 f1 I1 r1 => by
    obtain ⟨i, e, _, k⟩ := intK_ok h1
    exact ⟨i, r1.int I1 e, q _ _ _ _ _ k f1 I1⟩⟩
theorem cut_rf {F : Hp} {ds : List D} {vs : List V} {lo hi : Option Int} (l : RfL c F ds vs) : RfL c F (cutD ds lo hi) (cutV vs lo hi) := by
  unfold cutD cutV
  rw [l.len]
  exact (l.drop).take (n := 0)
/-- the items of a list alone -/
def lstK : Res → (List D → Prop) → Prop
  | .fz (.lst ds), K => K ds
  | .vw (.lst ds), K => (∀ d ∈ ds, isAt d) ∧ K ds
  | .pl _ _ (.fl ds), K => K ds
  | .nw (.fl ds), K => K ds
  | _, _ => False
theorem lst_ok {S : Sx} {E : En} {σ : L2.St} {F H : Hp} {O : Ow} (I : St S E σ F O H) {r : Res} {v : V} {K : List D → Prop} (rr : RR S E σ F O H r v) (h : lstK r K) : ∃ p vs ds, v = .ref p ∧ H p = some (.lst vs) ∧ RfL S.c F ds vs ∧ K ds := by
  cases r with
  | fz d =>
    cases d with
    | lst ds => simp only [RR, Rf] at rr; obtain ⟨p, vs, rfl, e, l⟩ := rr; exact ⟨p, vs, ds, rfl, I.fh _ _ e, l, h⟩
    | _ => exact h.elim
  | vw d =>
    cases d with
    | lst ds => simp only [RR, Rf] at rr; obtain ⟨p, vs, rfl, e, l⟩ := rr; exact ⟨p, vs, ds, rfl, uni_fz I.fh I.wh _ _ e, ats_rf h.1 l, h.2⟩
    | _ => exact h.elim
  | pl i p o =>
    cases o with
    | fl ds => have := rr.2.2; simp only [Ro] at this; obtain ⟨p, vs, rfl, _, e, l⟩ := this; exact ⟨p, vs, ds, rfl, e, l, h⟩
    | _ => exact h.elim
  | nw o =>
    cases o with
    | fl ds => simp only [RR, Ro] at rr; obtain ⟨p, vs, rfl, _, e, l⟩ := rr; exact ⟨p, vs, ds, rfl, e, l, h⟩
    | _ => exact h.elim
def tupsK : Res → (List D → Prop) → Prop
  | .fz (.tup ds), K => K ds
  | .vw (.tup ds), K => (∀ d ∈ ds, isAt d) ∧ K ds
  | _, _ => False
theorem tups_ok {S : Sx} {E : En} {σ : L2.St} {F H : Hp} {O : Ow} (I : St S E σ F O H) {r : Res} {v : V} {K : List D → Prop} (rr : RR S E σ F O H r v) (h : tupsK r K) : ∃ p vs ds, v = .ref p ∧ H p = some (.tup vs) ∧ RfL S.c F ds vs ∧ K ds := by
  cases r with
  | fz d =>
    cases d with
    | tup ds => simp only [RR, Rf] at rr; obtain ⟨p, vs, rfl, e, l⟩ := rr; exact ⟨p, vs, ds, rfl, I.fh _ _ e, l, h⟩
    | _ => exact h.elim
  | vw d =>
    cases d with
    | tup ds => simp only [RR, Rf] at rr; obtain ⟨p, vs, rfl, e, l⟩ := rr; exact ⟨p, vs, ds, rfl, uni_fz I.fh I.wh _ _ e, ats_rf h.1 l, h.2⟩
    | _ => exact h.elim
  | pl i p o => exact h.elim
  | nw o => exact h.elim
def TSlS (T : TX) (U Z : TXO) : TX := fun E K => T E fun x E1 => U E1 fun l E2 => Z E2 fun u E3 => match x with
  | .fz (.str z) => z.length ≤ 100000 ∧ K (.fz (.str (cutS z l u))) E3
  | _ => False
instance lf_slS {te : TE} {tl th : TO} {T : TX} {U Z : TXO} [a : LfE c P W F0 pv te T] [b : LfO c P W F0 pv tl U] [d : LfO c P W F0 pv th Z] : LfE c P W F0 pv (tSl rSlS te tl th) (TSlS T U Z) := ⟨fun {B E σ F O H K Q} I h q =>
  a.run I h fun x E1 v F1 O1 H1 h1 f1 I1 r1 => b.run I1 h1 fun l E2 F2 O2 H2 h2 f2 I2 => d.run I2 h2 fun u E3 F3 O3 H3 h3 f3 I3 => by
    split at h3
    rotate_left
    · exact h3.elim
    rename_i z
    simp only [RR, Rf] at r1
    exact ⟨z, r1, szL h3.1, q _ _ _ _ _ _ h3.2 (f1.trans (f2.trans f3)) I3 (by simp only [RR, Rf])⟩⟩
def TSlL (T : TX) (U Z : TXO) : TX := fun E K => T E fun x E1 => U E1 fun l E2 => Z E2 fun u E3 => nowK E3 x <| lstK x fun ds => K (.fz (.lst (cutD ds l u))) E3
instance lf_slL {te : TE} {tl th : TO} {T : TX} {U Z : TXO} [a : LfE c P W F0 pv te T] [b : LfO c P W F0 pv tl U] [d : LfO c P W F0 pv th Z] : LfE c P W F0 pv (tSl (rSlL Kf) te tl th) (TSlL T U Z) := ⟨fun {B E σ F O H K Q} I h q =>
  a.run I h fun x E1 v F1 O1 H1 h1 f1 I1 r1 => b.run I1 h1 fun l E2 F2 O2 H2 h2 f2 I2 => d.run I2 h2 fun u E3 F3 O3 H3 h3 f3 I3 => by
    obtain ⟨n, h3⟩ := nowK_ok h3
    obtain ⟨p, vs, ds, rfl, e, lr, k⟩ := lst_ok I3 (r1.now (f2.trans f3) I3 n) h3
    refine ⟨p, vs, rfl, SqL.of e, fun y hy => ?_⟩
    have f := fz_upd (o := .lst (cutV vs l u)) (I3.fh.none hy)
    exact q _ _ _ _ _ _ k (f1.trans (f2.trans (f3.trans f))) (I3.newF hy _) (by simp only [RR, Rf]; exact ⟨y, _, rfl, upd_same, (cut_rf lr).mono f⟩)⟩
/-- xs + ys, lists -/
def TCat (T U : TX) : TX := fun E K => T E fun x E1 => U E1 fun y E2 => nowK E2 x <| lstK x fun ds => lstK y fun es => ds.length + es.length ≤ 100000 ∧ K (.fz (.lst (ds ++ es))) E2
instance lf_cat {ta tb : TE} {T U : TX} [a : LfE c P W F0 pv ta T] [b : LfE c P W F0 pv tb U] : LfE c P W F0 pv (tOp rCat ta tb) (TCat T U) := ⟨fun {B E σ F O H K Q} I h q =>
  a.run I h fun x E1 v F1 O1 H1 h1 f1 I1 r1 => b.run I1 h1 fun y E2 u F2 O2 H2 h2 f2 I2 r2 => by
    obtain ⟨n, h2⟩ := nowK_ok h2
    obtain ⟨p, vs, ds, rfl, e, lr, k⟩ := lst_ok I2 (r1.now f2 I2 n) h2
    obtain ⟨p', us, es, rfl, e', lr', hl, k⟩ := lst_ok I2 r2 k
    refine ⟨p, p', vs, us, rfl, rfl, e, e', szL (by rw [lr.len, lr'.len]; exact hl), fun y hy => ?_⟩
    have f := fz_upd (o := .lst (vs ++ us)) (I2.fh.none hy)
    exact q _ _ _ _ _ _ k (f1.trans (f2.trans f)) (I2.newF hy _) (by simp only [RR, Rf]; exact ⟨y, _, rfl, upd_same, (lr.app lr').mono f⟩)⟩
/-- xs + ys, tuples -/
def TCatT (T U : TX) : TX := fun E K => T E fun x E1 => U E1 fun y E2 => nowK E2 x <| tupsK x fun ds => tupsK y fun es => (ds ≠ [] ∧ ds.length + es.length ≤ 100000) ∧ K (.fz (.tup (ds ++ es))) E2
end
end TL
namespace TL
open PySem PySem.Spec PyProof.Rows L2
/-! ### the program and the world -/
class IsP (c : Cls) (P : Program) (w : World) : Prop where
  p : c.P = P
  w : c.w = w
/-! ### one class made, at once frozen -/
section
variable {c : Cls} {P : List Nat} {W F0 : Hp} {pv : Nat → V} {Kf : PySem.W.Frag}
instance lf_makeN {C : Addr} {k : Nat} {md : List Md} {tsp : TSp} {X : XK} {t : TA} {T : TXA} [ic : IsC c C k] [a : LfA c P W F0 pv t T] : LfE c P W F0 pv (tNw (tMake C (lift c (.l :: md) tsp) [] X t)) (TMake P k md tsp T) := lf_make
def TMakeF (P : List Nat) (k : Nat) (md : List Md) (tsp : TSp) (T : TXA) : TX := fun E K => T E fun rs E1 => makeK P k md tsp rs E1 fun r E2 => match r with
  | .fz d => K (.fz d) E2
  | .nw o => odK o (K (.fz o.er) E2)
  | _ => False
theorem nw_frz {S : Sx} {E : En} {σ : L2.St} {F H : Hp} {O : Ow} {o : OD} {v : V} (I : St S E σ F O H) (rr : RR S E σ F O H (.nw o) v) (full : o.full) : ∃ F' O', Fz F F' ∧ St S E σ F' O' H ∧ Rf S.c F' o.er v := by
  have hP : ∀ j ∈ S.P, j < E.length := fun j hj => by rw [I.len]; exact (List.getElem?_eq_some_iff.mp (I.pin j hj)).1
  have J := I.push rr hP
  have he : (E ++ [Ent.ow o])[E.length]? = some (.ow o) := by simp
  obtain ⟨F2, O2, f2, J2, k2, _⟩ := J.freeze he (p := []) rfl full
  obtain ⟨w, hw, r⟩ := J.sl _ _ he
  rw [I.len] at hw
  have hw' : w = v := by simpa using hw.symm
  subst hw'
  refine ⟨F2, O2, f2, ?_, k2 w r⟩
  rw [List.set_append_right _ _ (Nat.le_refl _)] at J2
  simp only [Nat.sub_self, List.set_cons_zero] at J2
  exact J2.pop hP
instance (priority := high) lf_makeF {C : Addr} {k : Nat} {md : List Md} {tsp : TSp} {X : XK} {t : TA} {T : TXA} [ic : IsC c C k] [a : LfA c P W F0 pv t T] : LfE c P W F0 pv (tMake C (lift c (.l :: md) tsp) [] X t) (TMakeF P k md tsp T) := ⟨fun {B E σ F O H K Q} I h q =>
  (lf_make (md := md) (tsp := tsp) (X := X) (a := a)).run I h fun r E1 v F1 O1 H1 h1 f1 I1 r1 => by
    cases r with
    | fz d => exact q _ _ _ _ _ _ h1 f1 I1 r1
    | nw o =>
      obtain ⟨full, k⟩ := odK_ok h1
      obtain ⟨F2, O2, f2, I2, r2⟩ := nw_frz I1 r1 full
      exact q _ _ _ _ _ _ k (f1.trans f2) I2 r2
    | vw d => exact h1.elim
    | pl i p o => exact h1.elim⟩
/-! ### pairs that are walked -/
/-- the items of a list (kd) or tuple that is walked: frozen (b) or looked at -/
def seqI : Res → En → (Bool → Bool → List D → En → Prop) → Prop
  | .fz (.lst ds), E, K => K true true ds E
  | .vw (.lst ds), E, K => K true false ds E
  | .fz (.tup ds), E, K => K false true ds E
  | .vw (.tup ds), E, K => K false false ds E
  | .pl j p (.fl ds), E, K => (p = [] ∧ E[j]? = some (.ow (.fl ds))) ∧ K true true ds (E.set j (.fz (.lst ds)))
  | _, _, _ => False
def sqO (kd : Bool) (vs : List V) : HO := if kd then .lst vs else .tup vs
/-- where they lie -/
def SrcD (S : Sx) (F : Hp) (kd : Bool) (v : V) (b : Bool) (ds : List D) : Prop := ∃ a vs, v = .ref a ∧ ((b = true ∧ F a = some (sqO kd vs) ∧ RfL S.c F ds vs) ∨ (b = false ∧ uni F S.W a = some (sqO kd vs) ∧ RfL S.c (uni F S.W) ds vs))
theorem seqI_ok {S : Sx} {E : En} {σ : L2.St} {F H : Hp} {O : Ow} {r : Res} {v : V} {K : Bool → Bool → List D → En → Prop} (I : St S E σ F O H) (rr : RR S E σ F O H r v) (h : seqI r E K) :
    ∃ kd b ds E' F' O', K kd b ds E' ∧ Fz F F' ∧ St S E' σ F' O' H ∧ SrcD S F' kd v b ds := by
  cases r with
  | fz d =>
    cases d with
    | lst ds => simp only [RR, Rf] at rr; obtain ⟨a, vs, rfl, e, l⟩ := rr; exact ⟨true, true, ds, E, F, O, h, .refl _, I, a, vs, rfl, .inl ⟨rfl, e, l⟩⟩
    | tup ds => simp only [RR, Rf] at rr; obtain ⟨a, vs, rfl, e, l⟩ := rr; exact ⟨false, true, ds, E, F, O, h, .refl _, I, a, vs, rfl, .inl ⟨rfl, e, l⟩⟩
    | _ => exact h.elim
  | vw d =>
    cases d with
    | lst ds => simp only [RR, Rf] at rr; obtain ⟨a, vs, rfl, e, l⟩ := rr; exact ⟨true, false, ds, E, F, O, h, .refl _, I, a, vs, rfl, .inr ⟨rfl, e, l⟩⟩
    | tup ds => simp only [RR, Rf] at rr; obtain ⟨a, vs, rfl, e, l⟩ := rr; exact ⟨false, false, ds, E, F, O, h, .refl _, I, a, vs, rfl, .inr ⟨rfl, e, l⟩⟩
    | _ => exact h.elim
  | pl j p o =>
    cases o with
    | fl ds =>
      obtain ⟨⟨rfl, e⟩, k⟩ := h
      obtain ⟨F2, O2, f2, J, k2, _⟩ := I.freeze e (p := []) rfl trivial
      have := k2 v rr.2.2
      simp only [OD.er, Rf] at this
      obtain ⟨a, vs, rfl, e2, l⟩ := this
      exact ⟨true, true, ds, _, F2, O2, k, f2, J, a, vs, rfl, .inl ⟨rfl, e2, l⟩⟩
    | _ => exact h.elim
  | nw o => exact h.elim
theorem SrcD.mono {S : Sx} {F F' H : Hp} {kd : Bool} {v : V} {b : Bool} {ds : List D} (s : SrcD S F kd v b ds) (f : Fz F F') (h : Fz F' H) (g : Fz S.W H) : SrcD S F' kd v b ds := by
  obtain ⟨a, vs, e, q⟩ := s
  refine ⟨a, vs, e, q.imp (fun ⟨h1, h2, l⟩ => ⟨h1, f _ _ h2, l.mono f⟩) fun ⟨h1, h2, l⟩ => ?_⟩
  have u := uni_mono f h g
  exact ⟨h1, u _ _ h2, l.mono u⟩
def skO (kd : Bool) : R9S.Sk := if kd then .list else .tup
theorem SrcD.at_ {K : PySem.W.Frag} {S : Sx} {F H : Hp} {kd : Bool} {v : V} {b : Bool} {ds : List D} (s : SrcD S F kd v b ds) (h : Fz F H) (g : Fz S.W H) :
    ∃ a vs, v = .ref a ∧ H a = some (sqO kd vs) ∧ R9S.SrcV K H (skO kd) v vs ∧ vs.length = ds.length ∧ ∀ (i : Nat) (x : V), vs[i]? = some x → ∃ d, ds[i]? = some d ∧ (if b then Rf S.c F d x else Rf S.c (uni F S.W) d x) := by
  have sv : ∀ {a vs}, H a = some (sqO kd vs) → R9S.SrcV K H (skO kd) (.ref a) vs := fun {a vs} e => by
    cases kd
    · exact ⟨a, rfl, SqT.of e⟩
    · exact ⟨a, rfl, SqL.of e⟩
  obtain ⟨a, vs, rfl, ⟨rfl, h1, l⟩ | ⟨rfl, h1, l⟩⟩ := s
  · exact ⟨a, vs, rfl, h _ _ h1, sv (h _ _ h1), l.len, fun i x hx => l.back hx⟩
  · have u := uni_fz h g
    exact ⟨a, vs, rfl, u _ _ h1, sv (u _ _ h1), l.len, fun i x hx => l.back hx⟩
def pairR (b : Bool) (x y : D) : Res := if b then .fz (.tup [x, y]) else .vw (.tup [x, y])
theorem pairR_stl {b : Bool} {x y : D} : (pairR b x y).stl := by cases b <;> trivial
theorem pairR_new {b1 b2 : Bool} {S : Sx} {E : En} {σ : L2.St} {F H : Hp} {O : Ow} (I : St S E σ F O H) {T : Addr} {x y : V} {dx dy : D} (hT : H T = none) (hx : if b1 then Rf S.c F dx x else Rf S.c (uni F S.W) dx x) (hy : if b2 then Rf S.c F dy y else Rf S.c (uni F S.W) dy y) :
    ∃ F', Fz F F' ∧ St S E σ F' O (upd H T (.tup [x, y])) ∧ RR S E σ F' O (upd H T (.tup [x, y])) (pairR (b1 && b2) dx dy) (.ref T) := by
  have w : ∀ {b : Bool} {d : D} {v : V}, (if b then Rf S.c F d v else Rf S.c (uni F S.W) d v) → Rf S.c (uni F S.W) d v := fun {b d v} q => by
    cases b
    · exact q
    · exact Rf.mono uni_l q
  cases b1 <;> cases b2
  · exact (pair_new I hT).2 (w hx) (w hy)
  · exact (pair_new I hT).2 (w hx) (w hy)
  · exact (pair_new I hT).2 (w hx) (w hy)
  · exact (pair_new I hT).1 hx hy
def enR (b : Bool) (ds : List D) : List Res := ds.mapIdx fun i d => pairR b (.int (i : Nat)) d
def zipR (b : Bool) (ds es : List D) : List Res := (ds.zip es).map fun p => pairR b p.1 p.2
theorem en_ok {K : PySem.W.Frag} {S : Sx} {F1 : Hp} {a : Addr} {b : Bool} {ds : List D} (s : SrcD S F1 true (.ref a) b ds) : IOk S F1 (Ite K a) (enR b ds) := by
  refine ⟨fun r hr => ?_, fun B E σ F O H I g => ?_⟩
  · unfold enR at hr
    obtain ⟨i, h, rfl⟩ := List.mem_mapIdx.mp hr
    exact pairR_stl
  · obtain ⟨a', vs, e, hv, _, hl, get⟩ := (s.mono g I.fh I.wh).at_ (K := K) I.fh I.wh
    cases e
    have q : SqL K H a vs := SqL.of hv
    have el : (enR b ds).length = ds.length := by unfold enR; simp
    refine ⟨fun i hi => ?_, ⟨vs, q, by rw [hl, el]; exact Nat.le_refl _⟩, fun i x H' r y hr => ?_⟩
    · rw [el, ← hl] at hi
      exact ⟨vs, vs[i], q, List.getElem?_eq_getElem hi⟩
    · obtain ⟨T, u, rfl, hT, rfl, hu⟩ := y
      obtain ⟨d, hd, rd⟩ := get i u (hu vs q)
      unfold enR at hr
      rw [List.getElem?_mapIdx, hd] at hr
      cases hr
      exact pairR_new (b1 := true) I hT (by simp only [if_true, Rf]) rd
theorem enT_ok {K : PySem.W.Frag} {S : Sx} {F1 : Hp} {a : Addr} {b : Bool} {ds : List D} (s : SrcD S F1 false (.ref a) b ds) : IOk S F1 (R9.IteT K a) (enR b ds) := by
  refine ⟨fun r hr => ?_, fun B E σ F O H I g => ?_⟩
  · unfold enR at hr
    obtain ⟨i, h, rfl⟩ := List.mem_mapIdx.mp hr
    exact pairR_stl
  · obtain ⟨a', vs, e, hv, _, hl, get⟩ := (s.mono g I.fh I.wh).at_ (K := K) I.fh I.wh
    cases e
    have q : SqT K H a vs := SqT.of hv
    have el : (enR b ds).length = ds.length := by unfold enR; simp
    refine ⟨fun i hi => ?_, ⟨vs, q, by rw [hl, el]; exact Nat.le_refl _⟩, fun i x H' r y hr => ?_⟩
    · rw [el, ← hl] at hi
      exact ⟨vs, vs[i], q, List.getElem?_eq_getElem hi⟩
    · obtain ⟨T, u, rfl, hT, rfl, hu⟩ := y
      obtain ⟨d, hd, rd⟩ := get i u (hu vs q)
      unfold enR at hr
      rw [List.getElem?_mapIdx, hd] at hr
      cases hr
      exact pairR_new (b1 := true) I hT (by simp only [if_true, Rf]) rd
theorem zip_ok {K : PySem.W.Frag} {S : Sx} {F1 : Hp} {k1 k2 : Bool} {v1 v2 : V} {b1 b2 : Bool} {ds es : List D} (s1 : SrcD S F1 k1 v1 b1 ds) (s2 : SrcD S F1 k2 v2 b2 es) : IOk S F1 (R9S.ItzG K (skO k1) v1 (skO k2) v2) (zipR (b1 && b2) ds es) := by
  refine ⟨fun r hr => ?_, fun B E σ F O H I g => ?_⟩
  · unfold zipR at hr
    obtain ⟨p, h, rfl⟩ := List.mem_map.mp hr
    exact pairR_stl
  · obtain ⟨a, vs, _, _, q1, l1, g1⟩ := (s1.mono g I.fh I.wh).at_ (K := K) I.fh I.wh
    obtain ⟨a', us, _, _, q2, l2, g2⟩ := (s2.mono g I.fh I.wh).at_ (K := K) I.fh I.wh
    have el : (zipR (b1 && b2) ds es).length = min ds.length es.length := by unfold zipR; simp
    refine ⟨fun i hi => ?_, ⟨vs, us, q1, q2, by rw [el]; omega, by rw [el]; omega, by rw [el]; omega⟩, fun i x H' r y hr => ?_⟩
    · rw [el] at hi
      exact ⟨vs, us, vs[i], us[i], q1, q2, List.getElem?_eq_getElem (by omega), List.getElem?_eq_getElem (by omega)⟩
    · obtain ⟨T, x, y, rfl, hT, rfl, hx, hy⟩ := y
      obtain ⟨d, hd, rd⟩ := g1 i x (hx vs q1)
      obtain ⟨e, he, re⟩ := g2 i y (hy us q2)
      unfold zipR at hr
      rw [List.getElem?_map, (List.getElem?_zip_eq_some (z := (d, e))).mpr ⟨hd, he⟩] at hr
      cases hr
      exact pairR_new (b1 := b1) (b2 := b2) I hT rd re
def TEn (T : TXA) : TXI := fun E K => T E fun rs E1 => match rs with
  | [r] => seqI r E1 fun kd b ds E2 => kd = true ∧ K (enR b ds) E2
  | _ => False
instance lf_iEnum {t : TA} {T : TXA} [a : LfA c P W F0 pv t T] : LfI c P W F0 pv (iEnum Kf t) (TEn T) := ⟨fun {B E σ F O H K R} I h q =>
  a.run I h fun rs E1 vs F1 O1 H1 h1 f1 I1 r1 => by
    split at h1
    rotate_left
    · exact h1.elim
    rename_i r
    obtain ⟨v, us, rfl, r1, rfl⟩ := r1
    obtain ⟨kd, b, ds, E2, F2, O2, ⟨rfl, k⟩, f2, I2, s⟩ := seqI_ok I1 r1 h1
    obtain ⟨a, ws, rfl, e, q1, _⟩ := s.at_ (K := Kf) I2.fh I2.wh
    exact ⟨a, ws, rfl, SqL.of e, q _ _ _ _ _ _ k (f1.trans f2) I2 (en_ok s)⟩⟩
def TEnT (T : TXA) : TXI := fun E K => T E fun rs E1 => match rs with
  | [r] => seqI r E1 fun kd b ds E2 => kd = false ∧ K (enR b ds) E2
  | _ => False
instance lf_iEnumT {t : TA} {T : TXA} [a : LfA c P W F0 pv t T] : LfI c P W F0 pv (R9.iEnumT Kf t) (TEnT T) := ⟨fun {B E σ F O H K R} I h q =>
  a.run I h fun rs E1 vs F1 O1 H1 h1 f1 I1 r1 => by
    split at h1
    rotate_left
    · exact h1.elim
    rename_i r
    obtain ⟨v, us, rfl, r1, rfl⟩ := r1
    obtain ⟨kd, b, ds, E2, F2, O2, ⟨rfl, k⟩, f2, I2, s⟩ := seqI_ok I1 r1 h1
    obtain ⟨a, ws, rfl, e, q1, _⟩ := s.at_ (K := Kf) I2.fh I2.wh
    exact ⟨a, ws, rfl, SqT.of e, q _ _ _ _ _ _ k (f1.trans f2) I2 (enT_ok s)⟩⟩
section
variable {E1 : En} {G : TXG} {B : (Nat → En → Prop) → Nat → En → Prop} {N : En → Prop}
/-- a loop over pairs with their place -/
theorem forE {b : Bool} {ds : List D} (I : Nat → En → Prop) (h0 : I 0 E1) (turn : ∀ (i : Nat) (d : D) (E : En), ds[i]? = some d → I i E → G (pairR b (.int (i : Nat)) d) E fun E2 => B I i E2) (fin : ∀ E, I ds.length E → N E) :
    ∃ I : Nat → En → Prop, I 0 E1 ∧ (∀ (i : Nat) (r : Res) (E : En), (enR b ds)[i]? = some r → I i E → G r E fun E2 => B I i E2) ∧ ∀ E, I (enR b ds).length E → N E :=
  ⟨I, h0, fun i r E e h => by
    unfold enR at e
    rw [List.getElem?_mapIdx] at e
    cases hd : ds[i]? with
    | none => rw [hd] at e; cases e
    | some d => rw [hd] at e; cases e; exact turn i d E hd h, fun E h => fin E (by unfold enR at h; rwa [List.length_mapIdx] at h)⟩
/-- a loop over pairs of two lists -/
theorem forZ {α β : Type} {b : Bool} {g : α → D} {g' : β → D} {xs : List α} {ys : List β} (hl : xs.length = ys.length) (I : Nat → En → Prop) (h0 : I 0 E1) (turn : ∀ (i : Nat) (x : α) (y : β) (E : En), xs[i]? = some x → ys[i]? = some y → I i E → G (pairR b (g x) (g' y)) E fun E2 => B I i E2) (fin : ∀ E, I xs.length E → N E) :
    ∃ I : Nat → En → Prop, I 0 E1 ∧ (∀ (i : Nat) (r : Res) (E : En), (zipR b (xs.map g) (ys.map g'))[i]? = some r → I i E → G r E fun E2 => B I i E2) ∧ ∀ E, I (zipR b (xs.map g) (ys.map g')).length E → N E :=
  ⟨I, h0, fun i r E e h => by
    unfold zipR at e
    have hi := (List.getElem?_eq_some_iff.mp e).1
    simp at hi
    have hx : i < xs.length := by omega
    have hy : i < ys.length := by omega
    rw [List.getElem?_map, (List.getElem?_zip_eq_some (z := (g xs[i], g' ys[i]))).mpr ⟨by rw [List.getElem?_map, List.getElem?_eq_getElem hx]; rfl, by rw [List.getElem?_map, List.getElem?_eq_getElem hy]; rfl⟩] at e
    cases e
    exact turn i _ _ E (List.getElem?_eq_getElem hx) (List.getElem?_eq_getElem hy) h, fun E h => fin E (by
    have e : (zipR b (xs.map g) (ys.map g')).length = xs.length := by unfold zipR; simp; omega
    rwa [e] at h)⟩
end
def TZp (T : TXA) : TXI := fun E K => T E fun rs E1 => match rs with
  | [r, r'] => seqI r E1 fun _ b ds E2 => nowK E2 r' <| seqI r' E2 fun _ b' es E3 => K (zipR (b && b') ds es) E3
  | _ => False
instance lf_iZip {t : TA} {T : TXA} [a : LfA c P W F0 pv t T] : LfI c P W F0 pv (R9S.iZipG Kf t) (TZp T) := ⟨fun {B E σ F O H K R} I h q =>
  a.run I h fun rs E1 vs F1 O1 H1 h1 f1 I1 r1 => by
    split at h1
    rotate_left
    · exact h1.elim
    rename_i r r'
    obtain ⟨v, us, rfl, r1, v', us', rfl, r2, rfl⟩ := r1
    obtain ⟨kd, b, ds, E2, F2, O2, h2, f2, I2, s⟩ := seqI_ok I1 r1 h1
    obtain ⟨n, h2⟩ := nowK_ok h2
    obtain ⟨kd', b', es, E3, F3, O3, h3, f3, I3, s'⟩ := seqI_ok I2 (r2.now f2 I2 n) h2
    have s := s.mono f3 I3.fh I3.wh
    obtain ⟨a, ws, _, _, q1, _⟩ := s.at_ (K := Kf) I3.fh I3.wh
    obtain ⟨a', ws', _, _, q2, _⟩ := s'.at_ (K := Kf) I3.fh I3.wh
    exact ⟨_, _, v, v', ws, ws', rfl, q1, q2, q _ _ _ _ _ _ h3 (f1.trans (f2.trans f3)) I3 (zip_ok s s')⟩⟩
/-- sorted of a set of texts -/
def TSortX (T : TX) : TX := fun E K => T E fun x E1 => match x with
  | .fz (.set l) => l.length < 64 ∧ ∀ ys : List Str, ys.Perm l → sortedS ys = true → K (.fz (.lst (ys.map .str))) E1
  | _ => False
instance lf_sortX {Pg : Program} {w : World} [ip : IsP c Pg w] {te : TE} {T : TX} [a : LfE c P W F0 pv te T] : LfE c P W F0 pv (tCB (R9S.rSortSS Pg w) (tCons te tNil)) (TSortX T) := ⟨fun {B E σ F O H K Q} I h q =>
  a.run I h fun x E1 v F1 O1 H1 h1 f1 I1 r1 => by
    split at h1
    rotate_left
    · exact h1.elim
    rename_i l
    simp only [RR, Rf] at r1
    obtain ⟨p, rfl, e⟩ := r1
    rw [ip.p, ip.w] at e
    refine ⟨p, l, rfl, I1.fh _ _ e, h1.1, fun ys y h2 h3 hy => ?_⟩
    have f := fz_upd (o := .lst (ys.map .str)) (I1.fh.none hy)
    exact q _ _ _ _ _ _ (h1.2 ys h2 h3) (f1.trans f) (I1.newF hy _) (by simp only [RR, Rf]; exact ⟨y, _, rfl, upd_same, strs_rf⟩)⟩
instance lf_max : LfC c (rMax Kf) (fun ds K => match ds with
  | [.lst ds] => ∃ ns : List Int, ds = ns.map .int ∧ 0 < ns.length ∧ ∀ m, m ∈ ns → (∀ y, y ∈ ns → y ≤ m) → K (.int m)
  | _ => False) := ⟨fun {H xs ds Q K} hx h q => by
  split at h
  rotate_left
  · exact h.elim
  obtain ⟨ns, rfl, h0, k⟩ := h
  obtain ⟨v, rfl, rv⟩ := hx.one_inv
  simp only [Rf] at rv
  obtain ⟨a, vs, rfl, e, l⟩ := rv
  rw [rf_ints l] at e
  exact ⟨a, ns, rfl, SqL.of e, h0, fun m h1 h2 => q _ _ (k m h1 h2) fun _ => by simp only [Rf]⟩⟩
instance lf_min : LfC c (rMin Kf) (fun ds K => match ds with
  | [.lst ds] => ∃ ns : List Int, ds = ns.map .int ∧ 0 < ns.length ∧ ∀ m, m ∈ ns → (∀ y, y ∈ ns → m ≤ y) → K (.int m)
  | _ => False) := ⟨fun {H xs ds Q K} hx h q => by
  split at h
  rotate_left
  · exact h.elim
  obtain ⟨ns, rfl, h0, k⟩ := h
  obtain ⟨v, rfl, rv⟩ := hx.one_inv
  simp only [Rf] at rv
  obtain ⟨a, vs, rfl, e, l⟩ := rv
  rw [rf_ints l] at e
  exact ⟨a, ns, rfl, SqL.of e, h0, fun m h1 h2 => q _ _ (k m h1 h2) fun _ => by simp only [Rf]⟩⟩
end
end TL
namespace TL
open PySem PySem.Spec PyProof.Rows L2
/-! ### sets of texts that are built -/
def addK (acc : List Str) (k : Str) : List Str := if k ∈ acc then acc else k :: acc
def strK : D → (Str → Prop) → Prop
  | .str k, K => K k
  | _, _ => False
section
variable {c : Cls} {P vs vs1 : List Nat} {W F0 : Hp} {pv : Nat → V} {Kf : PySem.W.Frag} {Pg : Program} {w : World}
def TScS (P vs : List Nat) (Ti : TXI) (G : TXG) (Tt : TXT) (Te : TX) : TX := fun E K => Ti E fun ds E1 => (∀ k ∈ vs, k ∉ P) ∧ ∃ I : Nat → List Str → En → Prop, I 0 [] E1 ∧
  (∀ i r acc E, ds[i]? = some r → I i acc E → TTurn vs G Tt Te r E (fun d E' => strK d fun k => acc.length < 1000 ∧ I (i + 1) (addK acc k) E') (I (i + 1) acc)) ∧ ∀ acc E, I ds.length acc E → K (.fz (.set acc)) E
instance lf_scS [ip : IsP c Pg w] {wi : TI} {g : TG} {tt : TT} {te : TE} {Ti : TXI} {G : TXG} {Tt : TXT} {Te : TX} [a : LfI c P W F0 pv wi Ti] [b : LfGw c P W F0 pv vs g G] [z : LfT c P W F0 pv tt Tt] [e : LfE c P W F0 pv te Te] : LfE c P W F0 pv (R9S.tScF (R9S.famS Pg w) wi g tt te vs) (TScS P vs Ti G Tt Te) := ⟨fun {B E σ F O H K Q} I h q =>
  a.run I h fun ds E1 J F1 O1 H1 h1 f1 I1 ok D hD => by
    obtain ⟨hP, Iv, i0, turn, fin⟩ := h1
    obtain ⟨s0, J0⟩ := I1.fresh (o := R9S.SetS Pg w D []) hD
    refine ⟨fun i m H' => m = ds.length - i ∧ i ≤ ds.length ∧ ∃ acc E' F' O', Iv i acc E' ∧ Fz F1 F' ∧ St ⟨c, W, B, F0, P, pv⟩ E' σ F' O' H' ∧ Side ⟨c, W, B, F0, P, pv⟩ F' O' D ∧ H' D = some (R9S.SetS Pg w D acc),
      ⟨_, rfl, Nat.zero_le _, [], E1, F1, O1, i0, .refl _, J0, s0, upd_same⟩, ?_⟩
    rintro i m H2 ⟨rfl, hi, acc, E2, F2, O2, iv, f2, I2, s2, hd⟩
    obtain ⟨go, stop, yld⟩ := ok.2 _ E2 σ F2 O2 H2 (I2.shield s2 hd) f2
    by_cases hlt : i < ds.length
    · refine .inr ⟨go i hlt, fun H' => ∃ acc E' F' O', Iv (i + 1) acc E' ∧ Fz F1 F' ∧ St ⟨c, W, B, F0, P, pv⟩ E' σ F' O' H' ∧ Side ⟨c, W, B, F0, P, pv⟩ F' O' D ∧ H' D = some (R9S.SetS Pg w D acc), fun H' n => ⟨ds.length - (i + 1), by omega, rfl, hlt, n⟩, fun x H' y => ?_⟩
      obtain ⟨F3, f3, I3, rr⟩ := yld i x H' _ y (List.getElem?_eq_getElem hlt)
      have f13 : Fz F1 F3 := f2.trans f3
      refine turn_ok (c := c) (P := P) (vs := vs) (Da := D) hP I1.vb s0.f0 s0.b I3 rr (ok.1 _ (List.getElem_mem hlt)) (turn i _ acc E2 (List.getElem?_eq_getElem hlt) iv) (fun d E' v F' O' H' k f I' s' hd' rd => ?_) (fun E' F' O' H' k f I' s' hd' => ?_)
      · cases d with
        | str x =>
          obtain rfl : v = .str x := by simpa only [Rf] using rd
          have sb : acc.length + 1 < scanBound := Nat.lt_of_lt_of_le (Nat.succ_lt_succ k.1) (by decide)
          exact ⟨acc, hd', ⟨sb, x, rfl⟩, addK acc x, E', F', O', k.2, f13.trans f, I'.junk s', s', upd_same⟩
        | _ => exact k.elim
      · exact ⟨acc, E', F', O', k, f13.trans f, I', s', hd'⟩
    · have e0 : i = ds.length := by omega
      subst e0
      refine .inl ⟨stop, ?_⟩
      have fz := I2.adopt s2 hd
      exact q _ _ _ _ _ _ (fin acc E2 iv) (f1.trans (f2.trans (fz_upd s2.f))) fz (by simp only [RR, Rf]; rw [ip.p, ip.w]; exact ⟨D, rfl, upd_same⟩)⟩
/-- the turn of the first clause: the second clause's items, then the end -/
def TTurn2 (vs : List Nat) (G : TXG) (Tt : TXT) (Ti : TXI) (r : Res) (E : En) (yes : List Res → En → (En → Prop) → Prop) (no : En → Prop) : Prop :=
  G r (wipeE vs 0 E) fun E2 => Tt E2 fun b E3 => ifK b (Ti E3 fun es E4 => yes es E4 fun E5 => no (restE vs 0 E E5)) (no (restE vs 0 E E3))
def TScS2 (P vs vs1 : List Nat) (Ti : TXI) (G : TXG) (Tt : TXT) (Ti1 : TXI) (G1 : TXG) (Tt1 : TXT) (Te : TX) : TX := fun E K => Ti E fun ds E1 => ((∀ k ∈ vs, k ∉ P) ∧ ∀ k ∈ vs1, k ∈ vs) ∧ ∃ I : Nat → List Str → En → Prop, I 0 [] E1 ∧
  (∀ i r acc E, ds[i]? = some r → I i acc E → G r (wipeE vs 0 E) fun E2 => Tt E2 fun b E3 => ifK b (Ti1 E3 fun es E4 => ∃ J : Nat → List Str → En → Prop, J 0 acc E4 ∧
    (∀ j r acc E, es[j]? = some r → J j acc E → TTurn vs1 G1 Tt1 Te r E (fun d E' => strK d fun k => acc.length < 1000 ∧ J (j + 1) (addK acc k) E') (J (j + 1) acc)) ∧ ∀ acc E5, J es.length acc E5 → I (i + 1) acc (restE vs 0 E E5)) (I (i + 1) acc (restE vs 0 E E3))) ∧ ∀ acc E, I ds.length acc E → K (.fz (.set acc)) E
instance lf_scS2 [ip : IsP c Pg w] {wi wi1 : TI} {g g1 : TG} {tt tt1 : TT} {te : TE} {Ti Ti1 : TXI} {G G1 : TXG} {Tt Tt1 : TXT} {Te : TX} [a : LfI c P W F0 pv wi Ti] [b : LfGw c P W F0 pv vs g G] [z : LfT c P W F0 pv tt Tt] [a1 : LfI c P W F0 pv wi1 Ti1] [b1 : LfGw c P W F0 pv vs1 g1 G1] [z1 : LfT c P W F0 pv tt1 Tt1] [e : LfE c P W F0 pv te Te] :
    LfE c P W F0 pv (R9S.tScF2 (R9S.famS Pg w) wi g tt wi1 g1 tt1 te vs vs1) (TScS2 P vs vs1 Ti G Tt Ti1 G1 Tt1 Te) := ⟨fun {B E σ F O H K Q} I h q =>
  a.run I h fun ds E1 J F1 O1 H1 h1 f1 I1 ok D hD => by
    obtain ⟨⟨hP, hV⟩, Iv, i0, turn, fin⟩ := h1
    have hP1 : ∀ k ∈ vs1, k ∉ P := fun k hk => hP k (hV k hk)
    obtain ⟨s0, J0⟩ := I1.fresh (o := R9S.SetS Pg w D []) hD
    have vb := I1.vb
    refine ⟨fun i m H' => m = ds.length - i ∧ i ≤ ds.length ∧ ∃ acc E' F' O', Iv i acc E' ∧ Fz F1 F' ∧ St ⟨c, W, B, F0, P, pv⟩ E' σ F' O' H' ∧ Side ⟨c, W, B, F0, P, pv⟩ F' O' D ∧ H' D = some (R9S.SetS Pg w D acc),
      ⟨_, rfl, Nat.zero_le _, [], E1, F1, O1, i0, .refl _, J0, s0, upd_same⟩, ?_⟩
    rintro i m H2 ⟨rfl, hi, acc, E2, F2, O2, iv, f2, I2, s2, hd⟩
    obtain ⟨go, stop, yld⟩ := ok.2 _ E2 σ F2 O2 H2 (I2.shield s2 hd) f2
    by_cases hlt : i < ds.length
    · refine .inr ⟨go i hlt, fun H' => ∃ acc E' F' O', Iv (i + 1) acc E' ∧ Fz F1 F' ∧ St ⟨c, W, B, F0, P, pv⟩ E' σ F' O' H' ∧ Side ⟨c, W, B, F0, P, pv⟩ F' O' D ∧ H' D = some (R9S.SetS Pg w D acc), fun H' n => ⟨ds.length - (i + 1), by omega, rfl, hlt, n⟩, fun x H' y => ?_⟩
      obtain ⟨F3, f3, I3, rr⟩ := yld i x H' _ y (List.getElem?_eq_getElem hlt)
      have f13 : Fz F1 F3 := f2.trans f3
      obtain ⟨I3', _, _⟩ := St.unshield (S := ⟨c, W, B, F0, P, pv⟩) I3 vb s0.f0 s0.b
      -- the first clause's target and tests, the set set aside
      refine b.run (I3.wipe hP) (RR.stl (ok.1 _ (List.getElem_mem hlt)) rr) (turn i _ acc E2 (List.getElem?_eq_getElem hlt) iv) fun E4 σ4 F4 O4 H4 h4 f4 I4 w4 => ?_
      have w4 : wipe σ4 vs = wipe σ vs := w4.trans wipe_wipe
      refine ⟨w4, z.run I4 h4 fun bb E5 F5 O5 H5 h5 f5 I5 => ?_⟩
      obtain ⟨I5', s5, hd5⟩ := St.unshield (S := ⟨c, W, B, F0, P, pv⟩) I5 vb s0.f0 s0.b
      cases bb with
      | false =>
        rw [if_neg Bool.false_ne_true]
        exact ⟨acc, _, F5, O5, h5, f13.trans (f4.trans f5), I3'.rest I5' (f4.trans f5) hP w4, s5, hd5⟩
      | true =>
        rw [if_pos rfl]
        refine a1.run I5 h5 fun es E6 J6 F6 O6 H6 h6 f6 I6 ok6 => ?_
        obtain ⟨I6', s6, hd6⟩ := St.unshield (S := ⟨c, W, B, F0, P, pv⟩) I6 vb s0.f0 s0.b
        obtain ⟨Jv, j0, turn1, fin1⟩ := h6
        refine ⟨fun j m H' => m = es.length - j ∧ j ≤ es.length ∧ ∃ acc E' F' O', Jv j acc E' ∧ Fz F6 F' ∧ St ⟨c, W, B, F0, P, pv⟩ E' σ4 F' O' H' ∧ Side ⟨c, W, B, F0, P, pv⟩ F' O' D ∧ H' D = some (R9S.SetS Pg w D acc),
          ⟨_, rfl, Nat.zero_le _, acc, E6, F6, O6, j0, .refl _, I6', s6, hd6⟩, ?_⟩
        rintro j m H7 ⟨rfl, hj, acc7, E7, F7, O7, jv, f7, I7, s7, hd7⟩
        have y6 := ok6.2 (upd B D (R9S.SetS Pg w D acc7)) E7 σ4 F7 O7 H7 (I7.shield s7 hd7) f7
        obtain ⟨go1, stop1, yld1⟩ := y6
        by_cases hlt1 : j < es.length
        · refine .inr ⟨go1 j hlt1, fun H' => ∃ acc E' F' O', Jv (j + 1) acc E' ∧ Fz F6 F' ∧ St ⟨c, W, B, F0, P, pv⟩ E' σ4 F' O' H' ∧ Side ⟨c, W, B, F0, P, pv⟩ F' O' D ∧ H' D = some (R9S.SetS Pg w D acc), fun H' n => ⟨es.length - (j + 1), by omega, rfl, hlt1, n⟩, fun x H' y => ?_⟩
          obtain ⟨F8, f8, I8, rr8⟩ := yld1 j x H' _ y (List.getElem?_eq_getElem hlt1)
          have f68 : Fz F6 F8 := f7.trans f8
          refine turn_ok (c := c) (P := P) (vs := vs1) (Da := D) hP1 vb s0.f0 s0.b I8 rr8 (ok6.1 _ (List.getElem_mem hlt1)) (turn1 j _ acc7 E7 (List.getElem?_eq_getElem hlt1) jv) (fun d E' v F' O' H' k f I' s' hd' rd => ?_) (fun E' F' O' H' k f I' s' hd' => ?_)
          · cases d with
            | str x =>
              obtain rfl : v = .str x := by simpa only [Rf] using rd
              have sb : acc7.length + 1 < scanBound := Nat.lt_of_lt_of_le (Nat.succ_lt_succ k.1) (by decide)
              exact ⟨acc7, hd', ⟨sb, x, rfl⟩, addK acc7 x, E', F', O', k.2, f68.trans f, I'.junk s', s', upd_same⟩
            | _ => exact k.elim
          · exact ⟨acc7, E', F', O', k, f68.trans f, I', s', hd'⟩
        · have e0 : j = es.length := by omega
          subst e0
          have f37 : Fz F3 F7 := f4.trans (f5.trans (f6.trans f7))
          exact .inl ⟨stop1, acc7, _, F7, O7, fin1 acc7 E7 jv, f13.trans f37, I3'.rest I7 f37 hP w4, s7, hd7⟩
    · have e0 : i = ds.length := by omega
      subst e0
      refine .inl ⟨stop, ?_⟩
      have fz := I2.adopt s2 hd
      exact q _ _ _ _ _ _ (fin acc E2 iv) (f1.trans (f2.trans (fz_upd s2.f))) fz (by simp only [RR, Rf]; rw [ip.p, ip.w]; exact ⟨D, rfl, upd_same⟩)⟩
end
end TL
namespace R9S
open PySem PySem.Spec PyProof.Rows L2 R9
section
variable {X : Cx} {St : Type} {P : Program} {w : World}
theorem scF (F : Fam P w St) (hp : X.prog = P) (hw : X.w = w) {elt tg iter : Expr} {ifs : List Expr} {scope : Scope} {own : List (PySem.Str × Nat)} {pos : Pos} {wi : TI} {g : TG} {tt : TT} {te : TE} (hc : X.calm = true) (hN : X.N.Nodup) (hi : PI X tg iter wi) (ok : BlkOk X.N X.env.scope scope own)
    (hg : ∀ s H C cl fp, PG (X.blk s H scope (compEnvC scope cl C X.env) fp) tg g) (ht : ∀ s H C cl fp, PTs (X.blk s H scope (compEnvC scope cl C X.env) fp) ifs tt)
    (he : ∀ s H C cl fp, PE (X.blk s H scope (compEnvC scope cl C X.env) fp) elt te) (hs : ∀ x, foldedSetIterable iter X.env x = pure x := by intro _; rfl) : PE X (.SetComp elt [⟨tg, iter, ifs, 0⟩] scope pos) (tScF F wi g tt te (own.map (·.2))) := by
  subst hp hw
  exact pe_scF F hc hN hi ok hg ht he hs
theorem scF2 (F : Fam P w St) (hp : X.prog = P) (hw : X.w = w) {elt tg iter tg1 iter1 : Expr} {ifs ifs1 : List Expr} {scope : Scope} {own : List (PySem.Str × Nat)} {vs1 : List Nat} {pos : Pos} {wi wi1 : TI} {g g1 : TG} {tt tt1 : TT} {te : TE} (hc : X.calm = true) (hN : X.N.Nodup) (hi : PI X tg iter wi) (ok : BlkOk X.N X.env.scope scope own) (hv : ∀ i ∈ vs1, i ∈ own.map (·.2))
    (hg : ∀ s H C cl fp, PG (X.blk s H scope (compEnvC scope cl C X.env) fp) tg g) (ht : ∀ s H C cl fp, PTs (X.blk s H scope (compEnvC scope cl C X.env) fp) ifs tt)
    (hi1 : ∀ s H C cl fp, PI (X.blk s H scope (compEnvC scope cl C X.env) fp) tg1 iter1 wi1) (hg1 : ∀ s H C cl fp, PG (X.blk s H scope (compEnvC scope cl C X.env) fp) tg1 g1) (ht1 : ∀ s H C cl fp, PTs (X.blk s H scope (compEnvC scope cl C X.env) fp) ifs1 tt1)
    (he : ∀ s H C cl fp, PE (X.blk s H scope (compEnvC scope cl C X.env) fp) elt te) (hs : ∀ x, foldedSetIterable iter X.env x = pure x := by intro _; rfl) (hs1 : ∀ env x, foldedSetIterable iter1 env x = pure x := by intro _ _; rfl) :
    PE X (.SetComp elt [⟨tg, iter, ifs, 0⟩, ⟨tg1, iter1, ifs1, 0⟩] scope pos) (tScF2 F wi g tt wi1 g1 tt1 te (own.map (·.2)) vs1) := by
  subst hp hw
  exact pe_scF2 F hc hN hi ok hv hg ht hi1 hg1 ht1 he hs hs1
theorem sortSS (P : Program) (w : World) (hp : X.prog = P) (hw : X.w = w) (hc : X.calm = true) : CallR X (.builtin "sorted") (rSortSS P w) := by
  subst hp hw
  exact cr_sortSS hc
end
end R9S
namespace TL
open PySem PySem.Spec PyProof.Rows L2
theorem allJ {P : List Nat} {n : Nat} (h : (P.all fun j => Nat.blt j n) = true) : ∀ j ∈ P, j < n := fun j hj => Nat.le_of_ble_eq_true (List.all_eq_true.mp h j hj)
/-! ### the methods' names are no fields -/
instance : NoF 0 "by" := ⟨by decide⟩
instance : NoF 0 "is_below" := ⟨by decide⟩
instance : NoF 0 "written" := ⟨by decide⟩
instance : NoF 1 "drawn" := ⟨by decide⟩
instance : NoF 1 "share_of" := ⟨by decide⟩
instance : NoF 1 "texts" := ⟨by decide⟩
instance : NoF 1 "weight_of" := ⟨by decide⟩
instance : NoF 2 "_sizes" := ⟨by decide⟩
instance : NoF 2 "drawn" := ⟨by decide⟩
instance : NoF 2 "share_of" := ⟨by decide⟩
instance : NoF 2 "texts" := ⟨by decide⟩
instance : NoF 2 "weight_of" := ⟨by decide⟩
instance : NoF 3 "of" := ⟨by decide⟩
instance : NoF 3 "readable" := ⟨by decide⟩
instance : NoF 3 "texts" := ⟨by decide⟩
instance : NoF 4 "_entry" := ⟨by decide⟩
instance : NoF 4 "accused_share" := ⟨by decide⟩
instance : NoF 4 "accuses" := ⟨by decide⟩
instance : NoF 4 "key_of" := ⟨by decide⟩
instance : NoF 4 "texts" := ⟨by decide⟩
instance : NoF 4 "write" := ⟨by decide⟩
instance : NoF 4 "written_share" := ⟨by decide⟩
instance : NoF 5 "amounts" := ⟨by decide⟩
instance : NoF 5 "entering" := ⟨by decide⟩
instance : NoF 5 "exchange" := ⟨by decide⟩
instance : NoF 5 "leaving" := ⟨by decide⟩
instance : NoF 5 "placed" := ⟨by decide⟩
instance : NoF 5 "prices" := ⟨by decide⟩
instance : NoF 5 "solve" := ⟨by decide⟩
instance : NoF 6 "fill" := ⟨by decide⟩
instance : NoF 6 "hand" := ⟨by decide⟩
instance : NoF 6 "hand_the_rest" := ⟨by decide⟩
instance : NoF 6 "search" := ⟨by decide⟩
instance : NoF 6 "takers_from" := ⟨by decide⟩
instance : NoF 6 "way_to" := ⟨by decide⟩
instance : NoF 7 "_check_key" := ⟨by decide⟩
instance : NoF 7 "_check_maker" := ⟨by decide⟩
instance : NoF 7 "_point" := ⟨by decide⟩
instance : NoF 7 "_step" := ⟨by decide⟩
instance : NoF 7 "_turned" := ⟨by decide⟩
instance : NoF 7 "arcs" := ⟨by decide⟩
instance : NoF 7 "credited" := ⟨by decide⟩
instance : NoF 7 "texts" := ⟨by decide⟩
instance : NoF 7 "who" := ⟨by decide⟩
instance : NoF 7 "write" := ⟨by decide⟩
instance : NoF 8 "_check_maker" := ⟨by decide⟩
instance : NoF 8 "found_share" := ⟨by decide⟩
instance : NoF 8 "mean_found" := ⟨by decide⟩
instance : NoF 8 "named_share" := ⟨by decide⟩
instance : NoF 8 "written_share" := ⟨by decide⟩
instance : NoF 9 "accused_share" := ⟨by decide⟩
instance : NoF 9 "found_share" := ⟨by decide⟩
instance : NoF 9 "row_share" := ⟨by decide⟩
instance : NoF 10 "counts" := ⟨by decide⟩
instance : NoF 10 "has" := ⟨by decide⟩
instance : NoF 10 "share_of" := ⟨by decide⟩
instance : NoF 10 "share_with" := ⟨by decide⟩
instance : NoF 10 "worth_at" := ⟨by decide⟩
instance : NoF 11 "_block_of" := ⟨by decide⟩
instance : NoF 11 "_check_key" := ⟨by decide⟩
instance : NoF 11 "_following" := ⟨by decide⟩
instance : NoF 11 "_none" := ⟨by decide⟩
instance : NoF 11 "_sizes" := ⟨by decide⟩
instance : NoF 11 "_text_at" := ⟨by decide⟩
instance : NoF 11 "accuses" := ⟨by decide⟩
instance : NoF 11 "arc_of" := ⟨by decide⟩
instance : NoF 11 "rest_of" := ⟨by decide⟩
instance : NoF 11 "write" := ⟨by decide⟩
instance : NoF 12 "_check_ticket" := ⟨by decide⟩
instance : NoF 12 "asked" := ⟨by decide⟩
instance : NoF 12 "chance" := ⟨by decide⟩
instance : NoF 12 "come_back" := ⟨by decide⟩
instance : NoF 12 "issue" := ⟨by decide⟩
instance : NoF 12 "journal" := ⟨by decide⟩
instance : NoF 12 "key_of" := ⟨by decide⟩
instance : NoF 12 "restore" := ⟨by decide⟩
instance : NoF 12 "text_of" := ⟨by decide⟩
instance : NoF 12 "withdraw" := ⟨by decide⟩
end TL
namespace TL
open PySem PySem.Spec PyProof.Rows L2
section
variable {c : Cls} {P : List Nat} {W F0 : Hp} {pv : Nat → V} {Kf : PySem.W.Frag}
/-! ### a class's own + - * -/
def TOwn (k : Nat) (md : List Md) (tsp : TSp) (T U : TX) : TX := fun E K => T E fun x E1 => U E1 fun y E2 => nowK E2 x <| isK k x <| isK k y <| callK md tsp [x, y] E2 K
instance lf_own {C : Addr} {k : Nat} {md : List Md} {tsp : TSp} {X : XK} {ta tb : TE} {T U : TX} [i : IsC c C k] [a : LfE c P W F0 pv ta T] [b : LfE c P W F0 pv tb U] : LfE c P W F0 pv (tOp (R9.rOwn C (lift c md tsp) X) ta tb) (TOwn k md tsp T U) := ⟨fun {B E σ F O H K Q} I h q =>
  a.run I h fun x E1 v F1 O1 H1 h1 f1 I1 r1 => b.run I1 h1 fun y E2 u F2 O2 H2 h2 f2 I2 r2 => by
    obtain ⟨n, h2⟩ := nowK_ok h2
    have r1 := r1.now f2 I2 n
    obtain ⟨⟨fs, hx, fx⟩, h2⟩ := isK_ok h2
    obtain ⟨⟨gs, hy, fy⟩, h2⟩ := isK_ok h2
    have q1 := r1.rf I2 fx
    rw [hx] at q1
    simp only [Rf] at q1
    obtain ⟨p, dx, us, rfl, e1, _⟩ := q1
    have q2 := r2.rf I2 fy
    rw [hy] at q2
    simp only [Rf] at q2
    obtain ⟨p2, dy, ws, rfl, e2, _⟩ := q2
    refine ⟨p, p2, dx, dy, us, ws, rfl, rfl, by rw [← i.e]; exact e1, by rw [← i.e]; exact e2, ?_⟩
    exact call_ok I2 (rs := [x, y]) ⟨_, _, rfl, r1, _, _, rfl, r2, rfl⟩ h2 fun r E' v F' O' H' kk f J rr => q _ _ _ _ _ _ kk (f1.trans (f2.trans f)) J rr⟩
/-! ### a class's own == and != of two of it -/
class TxQ (K : PySem.W.Frag) (c : Cls) (L : outParam (List Nat)) : Prop where
  same : ∀ k ∈ L, PySem.W.notFirst K (c.at_ k) (.ref (c.at_ k)) = true
  ins : ∀ k ∈ L, L2.Cls K (c.at_ k) ∧ PySem.W.findIn K (.ref (c.at_ k)) "__class__" = some (some (.builtin "object.__class__")) ∧ PySem.W.specialIn K (.builtin "object.__class__") "__get__" = some (some (.builtin "getset_descriptor.__get__")) ∧
    PySem.W.takesIn K (.builtin "object.__class__") = some true ∧ PySem.W.mroIn K (c.at_ k) (.type "object") = some true
theorem own_two {S : Sx} {E : En} {σ : L2.St} {F H : Hp} {O : Ow} {k : Nat} {x y : Res} {v u : V} {p : Prop} (I : St S E σ F O H) (r1 : RR S E σ F O H x v) (r2 : RR S E σ F O H y u) (h : isK k x (isK k y p)) :
    ∃ a dx fs b dy gs, v = .ref a ∧ H a = some (.ins (S.c.at_ k) dx fs) ∧ u = .ref b ∧ H b = some (.ins (S.c.at_ k) dy gs) ∧ p := by
  obtain ⟨⟨fs, hx, fx⟩, h2⟩ := isK_ok h
  obtain ⟨⟨gs, hy, fy⟩, h2⟩ := isK_ok h2
  have q1 := r1.rf I fx
  rw [hx] at q1
  simp only [Rf] at q1
  obtain ⟨p, dx, us, rfl, e1, _⟩ := q1
  have q2 := r2.rf I fy
  rw [hy] at q2
  simp only [Rf] at q2
  obtain ⟨p2, dy, ws, rfl, e2, _⟩ := q2
  exact ⟨p, dx, us, p2, dy, ws, rfl, e1, rfl, e2, h2⟩
def TOwnEq (L : List Nat) (k : Nat) (md : List Md) (tsp : TSp) (T U : TX) : TX := fun E K => T E fun x E1 => U E1 fun y E2 => memK k L <| nowK E2 x <| isK k x <| isK k y <| callK md tsp [x, y] E2 K
instance lf_ownEq {L : List Nat} {C : Addr} {k : Nat} {md : List Md} {tsp : TSp} {X : XK} {ta tb : TE} {T U : TX} [tq : TxQ Kf c L] [i : IsC c C k] [a : LfE c P W F0 pv ta T] [b : LfE c P W F0 pv tb U] : LfE c P W F0 pv (tOp (R9.rOwnEq Kf C (lift c md tsp) X) ta tb) (TOwnEq L k md tsp T U) := ⟨fun {B E σ F O H K Q} I h q =>
  a.run I h fun x E1 v F1 O1 H1 h1 f1 I1 r1 => b.run I1 h1 fun y E2 u F2 O2 H2 h2 f2 I2 r2 => by
    obtain ⟨hk, h2⟩ := memK_ok h2
    obtain ⟨n, h2⟩ := nowK_ok h2
    have r1 := r1.now f2 I2 n
    obtain ⟨a, dx, fs, b, dy, gs, rfl, e1, rfl, e2, k2⟩ := own_two I2 r1 r2 h2
    have e1 : H2 a = some (.ins C dx fs) := by rw [← i.e]; exact e1
    have e2 : H2 b = some (.ins C dy gs) := by rw [← i.e]; exact e2
    have z := tq.ins k hk
    rw [i.e] at z
    refine ⟨a, dx, fs, .ref C, rfl, e1, .base (.ins e2 z.1 z.2.1 z.2.2.1 z.2.2.2.1 z.2.2.2.2), by rw [← i.e]; exact tq.same k hk, ?_⟩
    exact call_ok I2 (rs := [x, y]) ⟨_, _, rfl, r1, _, _, rfl, r2, rfl⟩ k2 fun r E' v F' O' H' kk f J rr => q _ _ _ _ _ _ kk (f1.trans (f2.trans f)) J rr⟩
def TOwnNe (L : List Nat) (k : Nat) (md : List Md) (tsp : TSp) (T U : TX) : TX := fun E K => T E fun x E1 => U E1 fun y E2 => memK k L <| nowK E2 x <| isK k x <| isK k y <| callK md tsp [x, y] E2 fun r E3 => match r with
  | .fz (.bl b) => K (.fz (.bl (!b))) E3
  | _ => False
instance lf_ownNe {L : List Nat} {C : Addr} {k : Nat} {md : List Md} {tsp : TSp} {X : XK} {ta tb : TE} {T U : TX} [tq : TxQ Kf c L] [i : IsC c C k] [a : LfE c P W F0 pv ta T] [b : LfE c P W F0 pv tb U] : LfE c P W F0 pv (tOp (R9.rOwnNe Kf C (lift c md tsp) X) ta tb) (TOwnNe L k md tsp T U) := ⟨fun {B E σ F O H K Q} I h q =>
  a.run I h fun x E1 v F1 O1 H1 h1 f1 I1 r1 => b.run I1 h1 fun y E2 u F2 O2 H2 h2 f2 I2 r2 => by
    obtain ⟨hk, h2⟩ := memK_ok h2
    obtain ⟨n, h2⟩ := nowK_ok h2
    have r1 := r1.now f2 I2 n
    obtain ⟨a, dx, fs, b, dy, gs, rfl, e1, rfl, e2, k2⟩ := own_two I2 r1 r2 h2
    have e1 : H2 a = some (.ins C dx fs) := by rw [← i.e]; exact e1
    have e2 : H2 b = some (.ins C dy gs) := by rw [← i.e]; exact e2
    have z := tq.ins k hk
    rw [i.e] at z
    refine ⟨a, dx, fs, .ref C, rfl, e1, .base (.ins e2 z.1 z.2.1 z.2.2.1 z.2.2.2.1 z.2.2.2.2), by rw [← i.e]; exact tq.same k hk, ?_⟩
    exact call_ok I2 (rs := [x, y]) ⟨_, _, rfl, r1, _, _, rfl, r2, rfl⟩ k2 fun r E' v F' O' H' kk f J rr => by
      split at kk
      rotate_left
      · exact kk.elim
      rename_i bb
      simp only [RR, Rf] at rr
      exact ⟨bb, rr, q _ _ _ _ _ _ kk (f1.trans (f2.trans f)) J (by simp only [RR, Rf])⟩⟩
/-! ### any, all of a list of truth values -/
theorem rf_bools {F : Hp} : ∀ {bs : List Bool} {vs : List V}, RfL c F (bs.map .bl) vs → vs = bs.map .bl
  | [], _, h => by simpa only [List.map_nil, RfL] using h
  | b :: bs, _, h => by
    simp only [List.map_cons, RfL, Rf] at h
    obtain ⟨v, r, rfl, rfl, l⟩ := h
    rw [rf_bools l]; rfl
instance lf_all : LfC c (rAll Kf) (fun ds K => match ds with
  | [.lst ds] => ∃ bs : List Bool, ds = bs.map .bl ∧ K (.bl (bs.all id))
  | _ => False) := ⟨fun {H xs ds Q K} hx h q => by
  split at h
  rotate_left
  · exact h.elim
  obtain ⟨bs, rfl, k⟩ := h
  obtain ⟨v, rfl, rv⟩ := hx.one_inv
  simp only [Rf] at rv
  obtain ⟨a, vs, rfl, e, l⟩ := rv
  rw [rf_bools l] at e
  exact ⟨a, bs, rfl, SqL.of e, q _ _ k fun _ => by simp only [Rf]⟩⟩
instance lf_any : LfC c (rAny Kf) (fun ds K => match ds with
  | [.lst ds] => ∃ bs : List Bool, ds = bs.map .bl ∧ K (.bl (bs.any id))
  | _ => False) := ⟨fun {H xs ds Q K} hx h q => by
  split at h
  rotate_left
  · exact h.elim
  obtain ⟨bs, rfl, k⟩ := h
  obtain ⟨v, rfl, rv⟩ := hx.one_inv
  simp only [Rf] at rv
  obtain ⟨a, vs, rfl, e, l⟩ := rv
  rw [rf_bools l] at e
  exact ⟨a, bs, rfl, SqL.of e, q _ _ k fun _ => by simp only [Rf]⟩⟩
end
end TL
namespace TL
open PySem PySem.Spec PyProof.Rows L2 R9
/-! ### exceptions -/
/-- an exception of the text's own: its class's number, its fields (the last set first) -/
structure Xn where
  k : Nat
  fs : List D
def RXn (c : Cls) (F : Hp) (x : Xn) (cls : Value) (d : Option Addr) : Prop := cls = .ref (c.at_ x.k) ∧ ∃ dd us, d = some dd ∧ F dd = some (.xd us) ∧ us.map (·.1) = nm x.k ∧ RfL c F x.fs (us.map (·.2))
abbrev TSpX := List Ent → (Ent → List Ent → Prop) → (Xn → Prop) → Prop
def liftX (c : Cls) (md : List Md) (tsp : TSpX) : Sp := fun vs H Q X => ∃ (B F : Hp) (O : Ow) (as : List Ent) (K : Ent → List Ent → Prop) (KX : Xn → Prop), as.length = vs.length ∧ St (Sc c B F) as (vs.map some) F O H ∧ tsp as K KX ∧
  (∀ r as' v F' O' H', K r as' → Fz F F' → as'.length = vs.length → St (Sc c B F) (as' ++ [r]) (vs.map some ++ [some v]) F' O' H' → Q v H') ∧
  ∀ x cls d F' O' H', KX x → Fz F F' → St (Sc c B F) (List.replicate vs.length .nil ++ [.fz .non]) (vs.map some ++ [some .non]) F' O' H' → RXn c F' x cls d → X cls d H'
section
variable {S : Sx} {E : En} {σ : L2.St} {F H : Hp} {O : Ow}
theorem call_core (I : St S E σ F O H) {md : List Md} {rs : List Res} {vs : List V} {Z : En → List Ent → Prop} (rr : RRs S E σ F O H rs vs)
    (h : frzs md rs E fun E2 => ndK ((lntL 0 md rs).map (·.1)) <| asOf E2 (frzL md rs) ((lntL 0 md rs).map (·.1)) md rs fun as => Z E2 as) :
    ∃ E2 B F2 O2 as, as.length = vs.length ∧ St (Sc S.c B F2) as (vs.map some) F2 O2 H ∧ Z E2 as ∧ ∀ r as' v F' O' H' (K : Res → En → Prop), (backE md rs as' E2 fun E3 => resK r fun x => K x E3) → Fz F2 F' → as'.length = vs.length →
      St (Sc S.c B F2) (as' ++ [r]) (vs.map some ++ [some v]) F' O' H' → ∃ x E3 O3, K x E3 ∧ Fz F F' ∧ St S E3 σ F' O3 H' ∧ RR S E3 σ F' O3 H' x v := by
  obtain ⟨E2, F2, O2, h2, I2, f2, kk, g⟩ := frzs_ok I h
  obtain ⟨nd, h2⟩ := ndK_ok h2
  obtain ⟨as, h3, la, ga⟩ := asOf_ok h2
  have lv : rs.length = vs.length := rr.len
  have hp : ∀ i i' j, (i, j) ∈ lntL 0 md rs → (i', j) ∈ lntL 0 md rs → i = i' := fun i i' j h1 h2 => lntL_pos h1 h2
  have hl : ∀ i j, (i, j) ∈ lntL 0 md rs → j < vs.length := fun i j h => by
    obtain ⟨k, p, o, rfl, _, e⟩ := lntL_mem.mp h
    have := (List.getElem?_eq_some_iff.mp e).1
    omega
  have bw : Fz S.W (Bc (lntL 0 md rs) O2 H) := fun a o e => Bc_some.mpr ⟨I2.wh _ _ e, fun i j q _ h => by rw [I2.nb (I2.vb _ _ e)] at h; cases h⟩
  have fb : Fz F2 (uni F2 (Bc (lntL 0 md rs) O2 H)) := uni_l
  have bh : Fz (Bc (lntL 0 md rs) O2 H) H := fun a o e => (Bc_some.mp e).1
  refine ⟨E2, Bc (lntL 0 md rs) O2 H, F2, Oc (lntL 0 md rs) O2, as, by omega, I2.callee nd hp (by omega) fun j e he => ?_, h3, fun r as' v F' O' H' K k f la' J => ?_⟩
  · obtain ⟨m, r, em, er, a⟩ := ga j e he
    obtain ⟨v, ev, rv⟩ := rr.at er
    rw [ev]
    cases m with
    | f =>
      cases r with
      | fz d => cases a; exact ⟨v, rfl, Rf.mono f2 rv⟩
      | pl i p o =>
        cases a
        simp only [RR] at rv
        -- frozen whole
        exact ⟨v, rfl, by
          refine g j i o p v em er ?_
          by_cases hp0 : p = []
          · exact rv.2.1 hp0
          · exfalso
            have : ∀ {md : List Md} {rs : List Res} {E : En} {K : En → Prop} {j : Nat}, frzs md rs E K → md[j]? = some .f → rs[j]? = some (.pl i p o) → p = [] := by
              intro md
              induction md with
              | nil => intro rs E K j _ e; simp at e
              | cons m md ih =>
                intro rs E K j h e1 e2
                cases rs with
                | nil => simp at e2
                | cons x rs =>
                  cases j with
                  | zero => simp at e1 e2; subst e1 e2; simp only [frzs] at h; exact h.1.1
                  | succ j =>
                    cases m with
                    | f =>
                      cases x <;> simp only [frzs] at h
                      · exact ih h (by simpa using e1) (by simpa using e2)
                      · exact ih h (by simpa using e1) (by simpa using e2)
                      · exact ih (odK_ok h.2).2 (by simpa using e1) (by simpa using e2)
                      · exact ih h (by simpa using e1) (by simpa using e2)
                    | v => simp only [frzs] at h; exact ih h (by simpa using e1) (by simpa using e2)
                    | l => simp only [frzs] at h; exact ih h (by simpa using e1) (by simpa using e2)
            exact hp0 (this h em er)⟩
      | vw d => exact a.elim
      | nw o => exact a.elim
    | v =>
      cases r with
      | fz d => cases a; exact Sl.vwE (Rf.mono (f2.trans fb) rv)
      | vw d => cases a; exact Sl.vwE (Rf.mono (Fz.trans (uni_mono f2 I2.fh I2.wh) (uni_le bw)) rv)
      | pl i p o =>
        obtain ⟨hfl, hll, full, rfl⟩ := a
        refine Sl.vwE (((rv.2.2).mono (tg' := fun q a => O2 a = some (i + 1, q)) f2 fun q a _ t => ⟨kk a i q t hfl, rfl⟩).rf fb (fun q a y t e => ?_) full)
        refine uni_r I2.fh bh _ _ (Bc_some.mpr ⟨e, fun i' j' q' h1 h2 => ?_⟩)
        rw [show O2 a = some (i + 1, q) from t] at h2
        cases h2
        exact hll (List.mem_map.mpr ⟨_, h1, rfl⟩)
      | nw o => exact a.elim
    | l =>
      cases r with
      | pl i p o =>
        obtain ⟨rfl, e2, rfl⟩ := a
        obtain ⟨w, hw, ro⟩ := I2.sl i _ e2
        obtain rfl : v = w := by
          have := rv.2.1 rfl
          rw [hw] at this; simpa using this.symm
        have hm : (i, j) ∈ lntL 0 md rs := lntL_mem.mpr ⟨j, [], o, by omega, em, er⟩
        exact ⟨v, rfl, ro.mono (.refl _) fun q a _ t => ⟨(Oc_some nd).mpr ⟨i, j, hm, t, rfl⟩, rfl⟩⟩
      | fz d => exact a.elim
      | vw d => exact a.elim
      | nw o => exact a.elim
  · obtain ⟨E3, k, l3, e1, e2⟩ := backE_ok nd (by omega) k
    obtain ⟨J3, j1, j2⟩ := I2.back nd hp hl la' J f l3 e1 fun k j hk hkl => by
      obtain ⟨e, g1, g2, g3, g4⟩ := e2 k j hk hkl
      refine ⟨e, by simpa using g1, g3, ?_, g4⟩
      obtain ⟨k', p, o, e', em, er⟩ := lntL_mem.mp hk
      obtain rfl : j = k' := by omega
      obtain ⟨v, ev, rv⟩ := rr.at er
      rw [ev]
      have hj : j < as.length := by have := (List.getElem?_eq_some_iff.mp er).1; omega
      obtain ⟨m', r', em', er', a⟩ := ga j _ (List.getElem?_eq_getElem hj)
      rw [em] at em'
      rw [er] at er'
      cases em'
      cases er'
      exact rv.2.1 a.1
    cases r with
    | nil => exact k.elim
    | vw d => exact k.elim
    | fz d => exact ⟨_, _, _, k, f2.trans f, J3, j2 d rfl⟩
    | ow o => exact ⟨_, _, _, k, f2.trans f, J3, j1 o rfl⟩
end
def callXK (md : List Md) (tsp : TSpX) (rs : List Res) (E : En) (K : Res → En → Prop) (KX : Xn → En → Prop) : Prop :=
  frzs md rs E fun E2 => ndK ((lntL 0 md rs).map (·.1)) <| asOf E2 (frzL md rs) ((lntL 0 md rs).map (·.1)) md rs fun as => tsp as (fun r as' => backE md rs as' E2 fun E3 => resK r fun x => K x E3) (fun x => backE md rs (List.replicate as.length .nil) E2 fun E3 => KX x E3)
section
variable {S : Sx} {E : En} {σ : L2.St} {F H : Hp} {O : Ow}
theorem callX_ok (I : St S E σ F O H) {md : List Md} {tsp : TSpX} {rs : List Res} {vs : List V} {K : Res → En → Prop} {KX : Xn → En → Prop} {Q : VK} {X : XK} (rr : RRs S E σ F O H rs vs) (h : callXK md tsp rs E K KX)
    (q : ∀ r E' v F' O' H', K r E' → Fz F F' → St S E' σ F' O' H' → RR S E' σ F' O' H' r v → Q v H')
    (qx : ∀ x E' cls d F' O' H', KX x E' → Fz F F' → St S E' σ F' O' H' → RXn S.c F' x cls d → X cls d H') : liftX S.c md tsp vs H Q X := by
  obtain ⟨E2, B, F2, O2, as, la, J, z, w⟩ := call_core I rr h
  refine ⟨B, F2, O2, as, _, _, la, J, z, fun r as' v F' O' H' k f l J' => ?_, fun x cls d F' O' H' k f J' rx => ?_⟩
  · obtain ⟨x, E3, O3, k, f3, J3, rr3⟩ := w _ _ _ _ _ _ _ k f l J'
    exact q _ _ _ _ _ _ k f3 J3 rr3
  · have J2 : St (Sc S.c B F2) (List.replicate as.length .nil ++ [.fz .non]) (vs.map some ++ [some .non]) F' O' H' := by rw [la]; exact J'
    obtain ⟨_, E3, O3, k, f3, J3, _⟩ := w (.fz .non) _ .non F' O' H' (fun _ E3 => KX x E3) k f (by rw [List.length_replicate, la]) J2
    exact qx _ _ _ _ _ _ _ k f3 J3 rx
end
/-- what may leave: a wish, and what it is on trees -/
class LfX (c : Cls) (P : List Nat) (W F0 : Hp) (pv : Nat → V) (Wx : WX) (TX : outParam (Xn → En → Prop)) : Prop where
  run : ∀ {B : Hp} {E : En} {σ : L2.St} {F : Hp} {O : Ow} {H : Hp} {x : Xn} {cls : Value} {d : Option Addr}, St ⟨c, W, B, F0, P, pv⟩ E σ F O H → TX x E → RXn c F x cls d → Wx cls d σ H
/-- the wish that says just this -/
def XW (c : Cls) (P : List Nat) (W F0 : Hp) (pv : Nat → V) (KX : Xn → En → Prop) : WX := fun cls d σ H => ∃ B E F O x, St ⟨c, W, B, F0, P, pv⟩ E σ F O H ∧ KX x E ∧ RXn c F x cls d
instance lfx_XW {c : Cls} {P : List Nat} {W F0 : Hp} {pv : Nat → V} {KX : Xn → En → Prop} : LfX c P W F0 pv (XW c P W F0 pv KX) KX := ⟨fun {B E σ F O H x cls d} I k r => ⟨B, E, F, O, x, I, k, r⟩⟩
section
variable {c : Cls} {P : List Nat} {W F0 : Hp} {pv : Nat → V} {KX : Xn → En → Prop} {Wx : WX}
def TCallX (md : List Md) (tsp : TSpX) (KX : Xn → En → Prop) (T : TXA) : TX := fun E K => T E fun rs E1 => callXK md tsp rs E1 K KX
instance lf_callX {md : List Md} {tsp : TSpX} {t : TA} {T : TXA} [x : LfX c P W F0 pv Wx KX] [a : LfA c P W F0 pv t T] : LfE c P W F0 pv (tCallS (liftX c md tsp) (WE Wx) t) (TCallX md tsp KX T) := ⟨fun {B E σ F O H K Q} I h q =>
  a.run I h fun rs E1 vs F1 O1 H1 h1 f1 I1 r1 => callX_ok I1 r1 h1 (fun r E' v F' O' H' k f J rr => q _ _ _ _ _ _ k (f1.trans f) J rr) fun x E' cls d F' O' H' k f J rx => ‹LfX c P W F0 pv Wx KX›.run J k rx⟩
/-- where it raises nothing -/
instance lf_callX0 {md : List Md} {tsp : TSpX} {X : XK} {t : TA} {T : TXA} [a : LfA c P W F0 pv t T] : LfE c P W F0 pv (tCall (liftX c md tsp) [] X t) (TCallX md tsp (fun _ _ => False) T) := ⟨fun {B E σ F O H K Q} I h q =>
  a.run I h fun rs E1 vs F1 O1 H1 h1 f1 I1 r1 => by
    rw [List.append_nil]
    exact callX_ok I1 r1 h1 (fun r E' v F' O' H' k f J rr => q _ _ _ _ _ _ k (f1.trans f) J rr) fun _ _ _ _ _ _ _ k _ _ _ => k.elim⟩
def TMethX (k : Nat) (md : List Md) (tsp : TSpX) (KX : Xn → En → Prop) (T : TX) (U : TXA) : TX := fun E K => T E fun x E1 => isK k x <| U E1 fun rs E2 => nowK E2 x <| callXK md tsp (x :: rs) E2 K KX
instance lf_methX {C : Addr} {k : Nat} {m : Str} {md : List Md} {tsp : TSpX} {ta : TE} {t : TA} {T : TX} {U : TXA} [x : LfX c P W F0 pv Wx KX] [i : IsC c C k] [nf : NoF k m] [a : LfE c P W F0 pv ta T] [b : LfA c P W F0 pv t U] : LfE c P W F0 pv (tMethX C m (liftX c md tsp) (WE Wx) ta t) (TMethX k md tsp KX T U) := ⟨fun {B E σ F O H K Q} I h q =>
  a.run I h fun x E1 v F1 O1 H1 h1 f1 I1 r1 => by
    obtain ⟨⟨fs, hx, full⟩, h1⟩ := isK_ok h1
    obtain ⟨a', dx, us, rfl, e, l⟩ := ins_at I1 r1 hx full nf.no
    refine ⟨a', dx, us, rfl, by rw [e, i.e], l, b.run I1 h1 fun rs E2 vs F2 O2 H2 h2 f2 I2 r2 => ?_⟩
    exact callX_ok I2 (rs := x :: rs) ⟨_, vs, rfl, r1.now f2 I2 (nowK_ok h2).1, r2⟩ (nowK_ok h2).2 (fun r E' v F' O' H' kk f J rr => q _ _ _ _ _ _ kk (f1.trans (f2.trans f)) J rr) fun x E' cls d F' O' H' k f J rx => ‹LfX c P W F0 pv Wx KX›.run J k rx⟩
instance lf_methX0 {C : Addr} {k : Nat} {m : Str} {md : List Md} {tsp : TSpX} {X : XK} {ta : TE} {t : TA} {T : TX} {U : TXA} [i : IsC c C k] [nf : NoF k m] [a : LfE c P W F0 pv ta T] [b : LfA c P W F0 pv t U] : LfE c P W F0 pv (tMeth C m (liftX c md tsp) [] X ta t) (TMethX k md tsp (fun _ _ => False) T U) := ⟨fun {B E σ F O H K Q} I h q =>
  a.run I h fun x E1 v F1 O1 H1 h1 f1 I1 r1 => by
    obtain ⟨⟨fs, hx, full⟩, h1⟩ := isK_ok h1
    obtain ⟨a', dx, us, rfl, e, l⟩ := ins_at I1 r1 hx full nf.no
    refine ⟨a', dx, us, rfl, by rw [e, i.e], l, b.run I1 h1 fun rs E2 vs F2 O2 H2 h2 f2 I2 r2 => ?_⟩
    rw [List.append_nil]
    exact callX_ok I2 (rs := x :: rs) ⟨_, vs, rfl, r1.now f2 I2 (nowK_ok h2).1, r2⟩ (nowK_ok h2).2 (fun r E' v F' O' H' kk f J rr => q _ _ _ _ _ _ kk (f1.trans (f2.trans f)) J rr) fun _ _ _ _ _ _ _ k _ _ _ => k.elim⟩
end
/-! ### a def that may raise -/
theorem St.thru {c : Cls} {P : List Nat} {W B F0 : Hp} {pv : Nat → V} {E : En} {σ : L2.St} {F : Hp} {O : Ow} {H : Hp} (I : St ⟨c, W, B, F0, P, pv⟩ E σ F O H) {n : Nat} {vs : List V} (hl : vs.length = n) : St (Sc c W F0) (List.replicate n .nil ++ [.fz .non]) (vs.map some ++ [some .non]) F (fun _ => none) H := by
  refine ⟨I.fh, I.vb.trans I.bh, .refl _, I.f0, fun a h1 h2 => ?_, fun a t e => (nomatch e), fun a b t e => (nomatch e), by simp [hl], fun i e he => ?_, fun j hj => (nomatch hj)⟩
  · have := I.fn a h1 h2
    exact I.vb.none this
  · by_cases hi : i < n
    · rw [List.getElem?_append_left (by simpa using hi)] at he
      have := List.mem_of_getElem? he
      rw [List.mem_replicate] at this
      rw [this.2]; trivial
    · rw [List.getElem?_append_right (by simpa using hi)] at he
      rw [List.getElem?_append_right (by simpa [hl] using hi)]
      simp only [List.length_replicate, List.length_map, hl] at he ⊢
      cases h : i - n with
      | zero => rw [h] at he; simp at he; subst he; exact ⟨.non, rfl, by simp only [Rf]⟩
      | succ k => rw [h] at he; simp at he
theorem liftX_len {c : Cls} {md : List Md} {tsp : TSpX} {vs : List V} {H : Hp} {Q : VK} {X : XK} {n : Nat} (h : liftX c md tsp vs H Q X) (k : ∀ as K KX, tsp as K KX → as.length = n) : vs.length = n := by
  obtain ⟨_, _, _, as, K, KX, hl, _, hk, _⟩ := h
  rw [← hl]; exact k as K KX hk
theorem bodyNX {c : Cls} {P : List Nat} {md : List Md} {tsp : TSpX} {X : XK} {t : TS} {T : (Xn → En → Prop) → TXS} (z : ∀ W F0 pv TXw, LfX c P W F0 pv (fun cls d _ H => X cls d H) TXw → LfS c P W F0 pv t (T TXw)) {n : Nat} {N : List Str} {vs : List V} {H : Hp} {Q : VK} (nl : List Ent) (h : liftX c md tsp vs H Q X) (hN : N.length = n + nl.length) (hn : nl = List.replicate nl.length .nil)
    (b : ∀ as K KX, tsp as K KX → as.length = n ∧ ownsIn P 0 as ∧ (∀ j ∈ P, j < n) ∧ T (fun x _ => KX x) ⟨fun E => K (.fz .non) (outs P n 0 E), fun r E => retK P r E fun x E' => K x (outs P n 0 E'), fun _ => False, fun _ => False⟩ (as ++ nl)) :
    t { nx := fun _ H' => Q .non H', rt := Q } (L2.start N vs) H := by
  obtain ⟨B, F, O, as, K, KX, hl, I, hk, q, qx⟩ := h
  obtain ⟨ha, how, hP, hT⟩ := b as K KX hk
  have hvn : vs.length = n := by omega
  have pin : ∀ j ∈ P, vs[j]? = some ((vs[j]?).getD .non) := fun j hj => by
    rw [List.getElem?_eq_getElem (by have := hP j hj; omega)]; rfl
  obtain ⟨m, hm⟩ : ∃ m, m = nl.length := ⟨_, rfl⟩
  rw [← hm] at hn
  have hst : L2.start N vs = vs.map some ++ List.replicate m none := by
    unfold L2.start
    rw [hN, hvn, Nat.add_sub_cancel_left, hm]
  rw [hst]
  clear hm
  subst hn
  have J : St ⟨c, B, B, F, P, fun j => (vs[j]?).getD .non⟩ (as ++ List.replicate m .nil) (vs.map some ++ List.replicate m none) F O H := by
    refine ⟨I.fh, I.bh, .refl _, .refl _, I.fn, I.ob, I.un, by simp [hl], fun j e he => ?_, fun j hj => ?_⟩
    · by_cases c : j < n
      · rw [List.getElem?_append_left (by omega)] at he
        rw [List.getElem?_append_left (by rw [List.length_map]; omega)]
        exact I.sl j e he
      · rw [List.getElem?_append_right (by omega)] at he
        have := List.mem_of_getElem? he
        rw [List.mem_replicate] at this
        rw [this.2]; trivial
    · rw [List.getElem?_append_left (by rw [List.length_map]; have := hP j hj; omega), List.getElem?_map, pin j hj]; rfl
  have fin : ∀ (r : Ent) (E' : En) (σ' : L2.St) (v : V) (F' : Hp) (O' : Ow) (H' : Hp) (m : Nat), K r (outs P n 0 E') → Fz F F' → St ⟨c, B, B, F, P, fun j => (vs[j]?).getD .non⟩ E' σ' F' O' H' → (∀ j ∈ P, m ≠ j + 1) →
      ((∃ d, r = .fz d ∧ Rf c F' d v) ∨ (∃ o, r = .ow o ∧ Ro c F' H' (tgO O' m) [] o v)) → Q v H' := fun r E' σ' v F' O' H' m k f I' hm hr =>
    q r _ v F' _ H' k f (by rw [outs_len, hvn]) (I'.ret hvn hP pin hm hr)
  have lx : LfX c P B F (fun j => (vs[j]?).getD .non) (fun cls d _ H => X cls d H) (fun x _ => KX x) := ⟨fun {B' E' σ' F' O' H' x cls d} I' k rx => qx x cls d F' _ H' k I'.f0 (by rw [hvn]; exact I'.thru hvn) rx⟩
  refine (z B F _ (fun x _ => KX x) lx).run J hT ⟨fun E' σ' F' O' H' k f I' => ?_, fun r E' σ' v F' O' H' k f I' rr => ?_, fun _ _ _ _ _ k => k.elim, fun _ _ _ _ _ k => k.elim⟩
  · exact fin _ _ _ _ _ _ _ 0 k f I' (fun j _ => by omega) (.inl ⟨.non, rfl, by simp only [Rf]⟩)
  · cases r with
    | fz d => exact fin _ _ _ _ _ _ _ 0 k f I' (fun j _ => by omega) (.inl ⟨d, rfl, rr⟩)
    | vw d => exact k.elim
    | nw o => exact fin _ _ _ _ _ _ _ 0 k f I' (fun j _ => by omega) (.inr ⟨o, rfl, rr⟩)
    | pl i p o =>
      obtain ⟨⟨rfl, e⟩, k⟩ := k
      obtain ⟨full, k⟩ := odK_ok k
      obtain ⟨F1, O1, f1, J1, k1, _⟩ := I'.freeze e (p := []) rfl full
      exact fin _ _ _ _ _ _ _ 0 k (f.trans f1) J1 (fun j _ => by omega) (.inl ⟨_, rfl, k1 v rr.2.2⟩)
end TL
namespace TL
open PySem PySem.Spec PyProof.Rows L2 R9
/-! ### an exception's making, raised -/
def spX1 (C : Addr) (f : Str) : Sp := fun vs H Q _ => ∃ e v, vs = [.ref e, v] ∧ H e = some (exo e C none) ∧ ∀ dx, H dx = none → dx ≠ e → Q .non (upd (upd H dx (exd dx [(f, v)])) e (exo e C (some dx)))
def spX2 (C : Addr) (f g : Str) : Sp := fun vs H Q _ => ∃ e u v, vs = [.ref e, u, v] ∧ H e = some (exo e C none) ∧ ∀ dx, H dx = none → dx ≠ e → Q .non (upd (upd (upd H dx (exd dx [(f, u)])) e (exo e C (some dx))) dx (exd dx [(g, v), (f, u)]))
class TxE (K : PySem.W.Frag) (c : Cls) (L : outParam (List Nat)) : Prop where
  ve : ∀ k ∈ L, PySem.W.kitOne K (.ref (c.at_ k)) (.type "ValueError") = some true
  exm : ∀ k ∈ L, PySem.W.exmOne K (.ref (c.at_ k)) (.ref (c.at_ k)) = some true
section
variable {c : Cls} {P : List Nat} {W F0 : Hp} {pv : Nat → V} {KX : Xn → En → Prop} {Wx : WX}
theorem raised {H1 : Hp} {a dx : Addr} {o1 o2 o3 o4 x : HO} (ha : H1 a = none) (hd : dx ≠ a) : upd (del (upd (upd (upd H1 a o1) dx o2) a o3) a) dx x = upd H1 dx x := by
  funext b
  by_cases h1 : b = dx
  · subst h1; rw [upd_same, upd_same]
  · rw [upd_ne h1, upd_ne h1]
    by_cases h2 : b = a
    · subst h2; rw [del_same, ha]
    · rw [del_ne h2, upd_ne h2, upd_ne h1, upd_ne h2]
theorem raised2 {H1 : Hp} {a dx : Addr} {o1 o2 o3 o4 x : HO} (ha : H1 a = none) (hd : dx ≠ a) : upd (del (upd (upd (upd (upd H1 a o1) dx o2) a o3) dx o4) a) dx x = upd H1 dx x := by
  funext b
  by_cases h1 : b = dx
  · subst h1; rw [upd_same, upd_same]
  · rw [upd_ne h1, upd_ne h1]
    by_cases h2 : b = a
    · subst h2; rw [del_same, ha]
    · rw [del_ne h2, upd_ne h1, upd_ne h2, upd_ne h1, upd_ne h2]
def TRaise1 (k : Nat) (f : Str) (KX : Xn → En → Prop) (T : TXA) : TXS := fun D E => T E fun rs E1 => match rs with
  | [.fz d] => nm k = [f] ∧ KX ⟨k, [d]⟩ E1
  | _ => False
instance lf_raise1 {C : Addr} {k : Nat} {f : Str} {ta : TA} {T : TXA} [i : IsC c C k] [x : LfX c P W F0 pv Wx KX] [a : LfA c P W F0 pv ta T] : LfS c P W F0 pv (tRaise Wx (tMkO C (spX1 C f) [] ta)) (TRaise1 k f KX T) := ⟨fun {E σ F O H TD D} I h q =>
  a.run I h fun rs E1 vs F1 O1 H1 h1 f1 I1 r1 => by
    split at h1
    rotate_left
    · exact h1.elim
    rename_i d
    obtain ⟨hn, kx⟩ := h1
    simp only [RRs, RR] at r1
    obtain ⟨v, us, rfl, rv, rfl⟩ := r1
    refine ⟨by simp, fun e he => ⟨e, v, rfl, upd_same, fun dx hx hne => ⟨rfl, dx, [(f, v)], upd_same, by rw [upd_ne hne, upd_same], ?_, ?_⟩⟩⟩
    · rwa [upd_ne hne] at hx
    · have hx : H1 dx = none := by rwa [upd_ne hne] at hx
      rw [raised he hne (o4 := .xd [])]
      have I2 := I1.newF hx (.xd [(f, v)])
      exact ‹LfX c P W F0 pv Wx KX›.run I2 kx ⟨by rw [i.e], dx, [(f, v)], rfl, upd_same, hn.symm, v, [], rfl, rv.mono (fz_upd (I1.fh.none hx)), rfl⟩⟩
def TRaise2 (k : Nat) (f g : Str) (KX : Xn → En → Prop) (T : TXA) : TXS := fun D E => T E fun rs E1 => match rs with
  | [.fz d, .fz e] => nm k = [g, f] ∧ KX ⟨k, [e, d]⟩ E1
  | _ => False
instance lf_raise2 {C : Addr} {k : Nat} {f g : Str} {ta : TA} {T : TXA} [i : IsC c C k] [x : LfX c P W F0 pv Wx KX] [a : LfA c P W F0 pv ta T] : LfS c P W F0 pv (tRaise Wx (tMkO C (spX2 C f g) [] ta)) (TRaise2 k f g KX T) := ⟨fun {E σ F O H TD D} I h q =>
  a.run I h fun rs E1 vs F1 O1 H1 h1 f1 I1 r1 => by
    split at h1
    rotate_left
    · exact h1.elim
    rename_i d d2
    obtain ⟨hn, kx⟩ := h1
    simp only [RRs, RR] at r1
    obtain ⟨v, us, rfl, rv, v2, us2, rfl, rv2, rfl⟩ := r1
    refine ⟨by simp, fun e he => ⟨e, v, v2, rfl, upd_same, fun dx hx hne => ⟨rfl, dx, [(g, v2), (f, v)], by rw [upd_ne (Ne.symm hne), upd_same], upd_same, ?_, ?_⟩⟩⟩
    · rwa [upd_ne hne] at hx
    · have hx : H1 dx = none := by rwa [upd_ne hne] at hx
      rw [raised2 he hne]
      have I2 := I1.newF hx (.xd [(g, v2), (f, v)])
      have fz := fz_upd (o := .xd [(g, v2), (f, v)]) (I1.fh.none hx)
      exact ‹LfX c P W F0 pv Wx KX›.run I2 kx ⟨by rw [i.e], dx, [(g, v2), (f, v)], rfl, upd_same, hn.symm, v2, [v], rfl, rv2.mono fz, v, [], rfl, rv.mono fz, rfl⟩⟩
/-! ### try .. except .. as -/
def TTryAs (P L : List Nat) (k i : Nat) (C : Addr) (TB : Hp → (Xn → En → Prop) → TXS) (Ts : Addr → Value → Option Addr → TXS) : TXS := fun D E => (i ∉ P) ∧ (memK k L <| ∀ F1, TB F1 (fun x E' => match Nat.beq x.k k with
  | true => ∀ a dd, Ts a (.ref C) (some dd) ⟨fun E2 => D.nx (E2.set i .nil), D.rt, fun E2 => D.bk (E2.set i .nil), fun E2 => D.ct (E2.set i .nil)⟩ (E'.set i (.fz (.exc a dd k x.fs)))
  | false => False) D E)
theorem St.reF {W B F0 : Hp} {pv : Nat → V} {E E' : En} {σ σ' : L2.St} {F F' H H' : Hp} {O O' : Ow} (I : St ⟨c, W, B, F0, P, pv⟩ E σ F O H) (J : St ⟨c, W, B, F, P, pv⟩ E' σ' F' O' H') : St ⟨c, W, B, F0, P, pv⟩ E' σ' F' O' H' :=
  ⟨J.fh, J.bh, J.vb, I.f0.trans J.f0, fun a h1 h2 => by
    by_cases e : F a = none
    · exact J.fn a h1 e
    · exact I.fn a e h2, J.ob, J.un, J.len, J.sl, J.pin⟩
theorem St.atF {W B F0 : Hp} {pv : Nat → V} {E : En} {σ : L2.St} {F H : Hp} {O : Ow} (I : St ⟨c, W, B, F0, P, pv⟩ E σ F O H) : St ⟨c, W, B, F, P, pv⟩ E σ F O H :=
  ⟨I.fh, I.bh, I.vb, .refl _, fun a h1 h2 => absurd h2 h1, I.ob, I.un, I.len, I.sl, I.pin⟩
theorem St.unB {W B F0 : Hp} {pv : Nat → V} {E : En} {σ : L2.St} {F H : Hp} {O : Ow} (I : St ⟨c, W, B, F0, P, pv⟩ E σ F O H) : St ⟨c, W, W, F0, P, pv⟩ E σ F O H :=
  ⟨I.fh, I.vb.trans I.bh, .refl _, I.f0, fun a h1 h2 => I.vb.none (I.fn a h1 h2), fun a t e => let ⟨h1, h2, h3⟩ := I.ob a t e; ⟨h1, I.vb.none h2, h3⟩, I.un, I.len, I.sl, I.pin⟩
theorem RR.reF {W B F0 F1 : Hp} {pv : Nat → V} {E : En} {σ : L2.St} {F H : Hp} {O : Ow} {r : Res} {v : V} (h : RR ⟨c, W, B, F1, P, pv⟩ E σ F O H r v) : RR ⟨c, W, B, F0, P, pv⟩ E σ F O H r v := by
  cases r <;> exact h
instance lf_tryAs {K : PySem.W.Frag} {L : List Nat} {C : Addr} {k i : Nat} {tb : WX → TS} {ts : Addr → Value → Option Addr → TS} {Wout : WX} {TB : Hp → (Xn → En → Prop) → TXS} {Ts : Addr → Value → Option Addr → TXS} [ic : IsC c C k] [tx : TxE K c L]
    [zb : ∀ (F1 : Hp) (KX : Xn → En → Prop), LfS c P W F1 pv (tb (XW c P W F1 pv KX)) (TB F1 KX)] [zs : ∀ a cls d, LfS c P W F0 pv (ts a cls d) (Ts a cls d)] : LfS c P W F0 pv (tTryAs K (.ref C) i tb ts Wout) (TTryAs P L k i C TB Ts) := ⟨fun {E σ F O H TD D} I h q => by
  obtain ⟨hi, h⟩ := h
  obtain ⟨hk, h⟩ := memK_ok h
  obtain ⟨KX, hKX⟩ : ∃ KX : Xn → En → Prop, KX = (fun x E' => match Nat.beq x.k k with
    | true => ∀ a dd, Ts a (.ref C) (some dd) ⟨fun E2 => TD.nx (E2.set i .nil), TD.rt, fun E2 => TD.bk (E2.set i .nil), fun E2 => TD.ct (E2.set i .nil)⟩ (E'.set i (.fz (.exc a dd k x.fs)))
    | false => False) := ⟨_, rfl⟩
  rw [← hKX] at h
  have q' : EOk ⟨c, W, W, F, P, pv⟩ F TD D := ⟨fun E' σ' F' O' H' k f J => q.nx _ _ _ _ _ k f (I.reF J), fun r E' σ' v F' O' H' k f J rr => q.rt _ _ _ _ _ _ _ k f (I.reF J) rr.reF, fun E' σ' F' O' H' k f J => q.bk _ _ _ _ _ k f (I.reF J), fun E' σ' F' O' H' k f J => q.ct _ _ _ _ _ k f (I.reF J)⟩
  have lx : ∀ cls d σ' H', XW c P W F pv KX cls d σ' H' → wAs K (.ref C) i ts Wout D cls d σ' H' := fun cls d σ' H' ⟨B', E', F', O', x, J, kx, rx⟩ => by
    rw [hKX] at kx
    split at kx
    rotate_left
    · exact kx.elim
    rename_i e
    have e := Nat.eq_of_beq_eq_true e
    obtain ⟨rfl, dd, us, rfl, eu, en, rl⟩ := rx
    rw [e] at en
    refine ⟨true, by rw [e]; have := tx.exm k hk; rw [ic.e] at this ⊢; exact this, fun _ a _ => ?_, fun z => Bool.noConfusion z⟩
    have J0 := I.reF J.unB
    have J1 := St.set0 (x := some (.ref a)) (e := .fz (.exc a dd k x.fs)) J0 hi ⟨.ref a, rfl, by simp only [Rf]; exact ⟨trivial, us, eu, en, rl⟩⟩
    have kx := kx a dd
    rw [e, ic.e]
    have gone : ∀ {E2 : En} {σ2 : L2.St} {F2 : Hp} {O2 : Ow} {H2 : Hp}, St ⟨c, W, W, F0, P, pv⟩ E2 σ2 F2 O2 H2 → St ⟨c, W, W, F0, P, pv⟩ (E2.set i .nil) (σ2.set i none) F2 O2 H2 := fun I2 => St.set0 (x := none) (e := .nil) I2 hi trivial
    exact (zs a (.ref C) (some dd)).run J1 kx ⟨fun E2 σ2 F2 O2 H2 k2 f2 I2 => q.nx _ _ _ _ _ k2 (J.f0.trans f2) (gone I2), fun r E2 σ2 v F2 O2 H2 k2 f2 I2 rr => q.rt _ _ _ _ _ _ _ k2 (J.f0.trans f2) I2 rr, fun E2 σ2 F2 O2 H2 k2 f2 I2 => q.bk _ _ _ _ _ k2 (J.f0.trans f2) (gone I2), fun E2 σ2 F2 O2 H2 k2 f2 I2 => q.ct _ _ _ _ _ k2 (J.f0.trans f2) (gone I2)⟩
  exact ⟨_, lx, (zb F KX).run I.atF (h F) q'⟩⟩
/-! ### in an except suite -/
def TXf (C a : Addr) (cls : Value) (d : Option Addr) (n : Str) (T : TX) : TX := fun E K => T E fun r E1 => match r with
  | .fz (.exc a' dd k fs) => (a' = a) ∧ (cls = .ref C) ∧ (d = some dd) ∧ match fidx k n with
    | some j => match fs[j]? with
      | some x => K (.fz x) E1
      | none => False
    | none => False
  | _ => False
theorem lookup_get {n : Str} : ∀ {us : List (Str × V)} {k : Nat} {l : List Str} {j : Nat} {v : V}, us.map (·.1) = l → (l.findIdx? fun x => decide (x = n)) = some j → (us.map (·.2))[j]? = some v → us.lookup n = some v
  | [], _, l, j, v, h, e, g => by simp at g
  | (f, u) :: us, k, l, j, v, h, e, g => by
    subst h
    simp only [List.map_cons, List.findIdx?_cons] at e
    by_cases hf : f = n
    · subst hf
      simp at e
      subst e
      simp at g
      simp [List.lookup, g]
    · rw [if_neg (by simpa using hf)] at e
      cases z : (us.map (·.1)).findIdx? fun x => decide (x = n) with
      | none => rw [z] at e; cases e
      | some m =>
        rw [z] at e
        simp at e
        subst e
        simp only [List.map_cons, List.getElem?_cons_succ] at g
        have := lookup_get (k := k) rfl z g
        simp only [List.lookup]
        rw [show (n == f) = false from by simpa using fun z => hf z.symm]
        exact this
theorem rfL_get {c : Cls} {F : Hp} : ∀ {ds : List D} {vs : List V} {j : Nat} {d : D}, RfL c F ds vs → ds[j]? = some d → ∃ v, vs[j]? = some v ∧ Rf c F d v
  | [], _, _, _, _, e => by simp at e
  | x :: ds, vs, j, d, h, e => by
    simp only [RfL] at h
    obtain ⟨v, us, rfl, h1, h2⟩ := h
    cases j with
    | zero => simp at e; subst e; exact ⟨v, rfl, h1⟩
    | succ j => simpa using rfL_get (j := j) h2 (by simpa using e)
instance lf_xf {C a : Addr} {cls : Value} {d : Option Addr} {n : Str} {te : TE} {T : TX} [e : LfE c P W F0 pv te T] : LfE c P W F0 pv (tXf C a cls d n te) (TXf C a cls d n T) := ⟨fun {B E σ F O H K Q} I h q =>
  e.run I h fun r E1 v F1 O1 H1 h1 f1 I1 r1 => by
    split at h1
    rotate_left
    · exact h1.elim
    obtain ⟨rfl, rfl, rfl, h1⟩ := h1
    split at h1
    rotate_left
    · exact h1.elim
    rename_i j hj
    split at h1
    rotate_left
    · exact h1.elim
    rename_i x hx
    simp only [RR, Rf] at r1
    obtain ⟨rfl, us, eu, en, rl⟩ := r1
    obtain ⟨v, hv, rv⟩ := rfL_get rl hx
    exact ⟨rfl, rfl, _, us, v, rfl, I1.fh _ _ eu, lookup_get (k := 0) en hj hv, q _ _ _ _ _ _ h1 f1 I1 rv⟩⟩
def RIsVE (L : List Nat) (k0 : Nat) (C a : Addr) (cls : Value) (d : Option Addr) : List D → (D → Prop) → Prop := fun ds K => match ds with
  | [.exc a' dd k _, .cst (.ty s)] => (a' = a) ∧ (cls = .ref C) ∧ (d = some dd) ∧ (k = k0) ∧ (s = "ValueError") ∧ memK k L (K (.bl true))
  | _ => False
instance lf_isVE {Kf : PySem.W.Frag} {L : List Nat} {C a : Addr} {k0 : Nat} {cls : Value} {d : Option Addr} [ic : IsC c C k0] [tx : TxE Kf c L] : LfC c (rIsP Kf C a cls d) (RIsVE L k0 C a cls d) := ⟨fun {H xs ds Q K} r h q => by
  unfold RIsVE at h
  split at h
  rotate_left
  · exact h.elim
  obtain ⟨rfl, rfl, rfl, rfl, rfl, h⟩ := h
  obtain ⟨hk, h⟩ := memK_ok h
  simp only [RfL, Rf] at r
  obtain ⟨v, us, rfl, ⟨rfl, ls, eu, _⟩, w, us', rfl, rfl, rfl⟩ := r
  have := tx.ve _ hk
  rw [ic.e] at this
  exact ⟨_, .type "ValueError", true, rfl, rfl, .ty _, this, fun dd' e => by cases e; exact ⟨_, eu⟩, q _ _ h fun _ => by simp only [Rf]⟩⟩
end
end TL
namespace TL
open PySem PySem.Spec PyProof.Rows L2 R9
/-! ### dicts by trees -/
def kD : Key → D
  | .inl i => .int i
  | .inr x => .str x
def getD' (kvs : List (Key × D)) (k : Key) : Option D := (kvs.find? fun kv => decide (kv.1 = k)).map (·.2)
def putD (kvs : List (Key × D)) (k : Key) (d : D) : List (Key × D) :=
  if (kvs.any fun kv => decide (kv.1 = k)) = true then kvs.map (fun kv => if kv.1 = k then (kv.1, d) else kv) else kvs ++ [(k, d)]
def keyK : Res → (Key → Prop) → Prop
  | .fz (.int i), K => K (.inl i)
  | .fz (.str x), K => K (.inr x)
  | _, _ => False
theorem keyK_ok {r : Res} {K : Key → Prop} (h : keyK r K) : ∃ k, r = .fz (kD k) ∧ K k := by
  unfold keyK at h
  split at h
  · exact ⟨.inl _, rfl, h⟩
  · exact ⟨.inr _, rfl, h⟩
  · exact h.elim
theorem kD_rf {c : Cls} {F : Hp} {k : Key} {v : V} : Rf c F (kD k) v ↔ v = kV k := by
  cases k <;> simp only [kD, Rf, kV]
section
variable {c : Cls} {F F' : Hp}
theorem RfK.len : ∀ {kvs : List (Key × D)} {us : List (Key × V)}, RfK c F kvs us → us.length = kvs.length
  | [], us, h => by simp only [RfK] at h; subst h; rfl
  | (k, d) :: kvs, us, h => by
    simp only [RfK] at h
    obtain ⟨v, s, rfl, _, l⟩ := h
    simp only [List.length_cons, l.len]
theorem RfK.keys : ∀ {kvs : List (Key × D)} {us : List (Key × V)}, RfK c F kvs us → us.map (·.1) = kvs.map (·.1)
  | [], us, h => by simp only [RfK] at h; subst h; rfl
  | (k, d) :: kvs, us, h => by
    simp only [RfK] at h
    obtain ⟨v, s, rfl, _, l⟩ := h
    simp only [List.map_cons, l.keys]
theorem RfK.get {k : Key} : ∀ {kvs : List (Key × D)} {us : List (Key × V)}, RfK c F kvs us → (valV us k = none ∧ getD' kvs k = none) ∨ ∃ d v, getD' kvs k = some d ∧ valV us k = some v ∧ Rf c F d v
  | [], us, h => by simp only [RfK] at h; subst h; exact .inl ⟨rfl, rfl⟩
  | (k', d) :: kvs, us, h => by
    simp only [RfK] at h
    obtain ⟨v, s, rfl, rv, l⟩ := h
    by_cases e : k' = k
    · exact .inr ⟨d, v, by simp [getD', List.find?_cons, e], valV_pos e, rv⟩
    · rcases l.get (k := k) with ⟨h1, h2⟩ | ⟨d', v', h1, h2, h3⟩
      · exact .inl ⟨by rw [valV_neg e]; exact h1, by simpa [getD', List.find?_cons, e] using h2⟩
      · exact .inr ⟨d', v', by simpa [getD', List.find?_cons, e] using h1, by rw [valV_neg e]; exact h2, h3⟩
theorem RfK.app : ∀ {kvs : List (Key × D)} {us : List (Key × V)} {k : Key} {d : D} {v : V}, RfK c F kvs us → Rf c F d v → RfK c F (kvs ++ [(k, d)]) (us ++ [(k, v)])
  | [], us, k, d, v, h, r => by simp only [RfK] at h; subst h; simp only [List.nil_append, RfK]; exact ⟨v, [], rfl, r, rfl⟩
  | (k', d') :: kvs, us, k, d, v, h, r => by
    simp only [RfK] at h
    obtain ⟨v', s, rfl, rv, l⟩ := h
    simp only [List.cons_append, RfK]
    exact ⟨v', _, rfl, rv, l.app r⟩
theorem RfK.upd {k : Key} {d : D} {v : V} (r : Rf c F d v) : ∀ {kvs : List (Key × D)} {us : List (Key × V)}, RfK c F kvs us → RfK c F (kvs.map (fun kv => if kv.1 = k then (kv.1, d) else kv)) (us.map (fun kv => if kv.1 = k then (kv.1, v) else kv))
  | [], us, h => by simp only [RfK] at h; subst h; simp [RfK]
  | (k', d') :: kvs, us, h => by
    simp only [RfK] at h
    obtain ⟨v', s, rfl, rv, l⟩ := h
    by_cases e : k' = k
    · subst e
      simp only [List.map_cons, if_true, RfK]
      exact ⟨v, _, rfl, r, l.upd r⟩
    · simp only [List.map_cons, if_neg e, RfK]
      exact ⟨v', _, rfl, rv, l.upd r⟩
theorem any_keys {α β : Type} {k : Key} : ∀ {xs : List (Key × α)} {ys : List (Key × β)}, xs.map (·.1) = ys.map (·.1) → (xs.any fun kv => decide (kv.1 = k)) = (ys.any fun kv => decide (kv.1 = k))
  | [], [], _ => rfl
  | [], _ :: _, h => by cases h
  | _ :: _, [], h => by cases h
  | x :: xs, y :: ys, h => by
    simp only [List.map_cons, List.cons.injEq] at h
    simp only [List.any_cons, h.1, any_keys h.2]
theorem RfK.put {kvs : List (Key × D)} {us : List (Key × V)} (l : RfK c F kvs us) {k : Key} {d : D} {v : V} (r : Rf c F d v) : RfK c F (putD kvs k d) (putK us k v) := by
  unfold putD putK
  rw [any_keys l.keys]
  split
  · exact l.upd r
  · exact l.app r
theorem RfK.vals : ∀ {kvs : List (Key × D)} {us : List (Key × V)}, RfK c F kvs us → RfL c F (kvs.map (·.2)) (us.map (·.2))
  | [], us, h => by simp only [RfK] at h; subst h; simp [RfL]
  | (k, d) :: kvs, us, h => by
    simp only [RfK] at h
    obtain ⟨v, s, rfl, r, l⟩ := h
    simp only [List.map_cons, RfL]
    exact ⟨v, _, rfl, r, l.vals⟩
end
def rdK : Res → ((D → Res) → List (Key × D) → Prop) → Prop
  | .fz (.dk kvs), K => K .fz kvs
  | .fz (.dl kvs), K => K .fz kvs
  | .vw (.dk kvs), K => K mkVw kvs
  | .vw (.dl kvs), K => K mkVw kvs
  | .pl _ _ (.fd kvs), K => K .fz kvs
  | _, _ => False
section
variable {S : Sx} {E : En} {σ : L2.St} {F H : Hp} {O : Ow} {r : Res} {v : V}
theorem rdK_ok (I : St S E σ F O H) (rr : RR S E σ F O H r v) {K : (D → Res) → List (Key × D) → Prop} (h : rdK r K) :
    ∃ a us f kvs G, v = .ref a ∧ Rd H a (.dK us) ∧ RfK S.c G kvs us ∧ (∀ d w, Rf S.c G d w → RR S E σ F O H (f d) w) ∧ K f kvs := by
  unfold rdK at h
  split at h
  · simp only [RR, Rf] at rr
    obtain ⟨a, us, rfl, e, l⟩ := rr
    exact ⟨a, us, .fz, _, F, rfl, .inl (I.fh _ _ e), l, fun d w r => r, h⟩
  · simp only [RR, Rf] at rr
    obtain ⟨a, o, us, rfl, e, l⟩ := rr
    exact ⟨a, us, .fz, _, F, rfl, .inr ⟨o, I.fh _ _ e⟩, l, fun d w r => r, h⟩
  · simp only [RR, Rf] at rr
    obtain ⟨a, us, rfl, e, l⟩ := rr
    exact ⟨a, us, _, _, _, rfl, .inl (uni_fz I.fh I.wh _ _ e), l, fun d w r => RR.mkVw r, h⟩
  · simp only [RR, Rf] at rr
    obtain ⟨a, o, us, rfl, e, l⟩ := rr
    exact ⟨a, us, _, _, _, rfl, .inr ⟨o, uni_fz I.fh I.wh _ _ e⟩, l, fun d w r => RR.mkVw r, h⟩
  · have := rr.2.2
    simp only [Ro] at this
    obtain ⟨a, us, rfl, _, e, l⟩ := this
    exact ⟨a, us, .fz, _, F, rfl, .inl e, l, fun d w r => r, h⟩
  · exact h.elim
/-- slot i's own dict is another one -/
theorem St.chgD (I : St S E σ F O H) {i : Nat} {ds es : List (Key × D)} {ws : List (Key × V)} {a : Addr} (he : E[i]? = some (.ow (.fd ds))) (hs : σ[i]? = some (some (.ref a))) (l : RfK S.c F es ws) : St S (E.set i (.ow (.fd es))) σ F O (upd H a (.dK ws)) := by
  obtain ⟨w, hw, ro⟩ := I.sl i _ he
  rw [hs] at hw
  obtain rfl : V.ref a = w := by simpa using hw
  have ro0 := ro
  simp only [Ro] at ro
  obtain ⟨b, vs, eb, tb, e, _⟩ := ro
  cases eb
  refine I.chg (n := .fd es) he (p := []) rfl tb fun w hw => ?_
  simp only [Ro] at hw ⊢
  obtain ⟨b, _, rfl, tb2, _⟩ := hw
  rw [I.un a b _ tb tb2]
  exact ⟨b, ws, rfl, tb2, upd_same, l⟩
end
section
variable {c : Cls} {P vs : List Nat} {W F0 : Hp} {pv : Nat → V} {Kf : PySem.W.Frag}
def TDGet (T U : TX) : TX := fun E K => T E fun x E1 => U E1 fun y E2 => nowK E2 x <| rdK x fun f kvs => keyK y fun k => ∃ d, getD' kvs k = some d ∧ K (f d) E2
instance lf_dget {td ty : TE} {T U : TX} [a : LfE c P W F0 pv td T] [b : LfE c P W F0 pv ty U] : LfE c P W F0 pv (tDGet td ty) (TDGet T U) := ⟨fun {B E σ F O H K Q} I h q =>
  a.run I h fun x E1 v F1 O1 H1 h1 f1 I1 r1 => b.run I1 h1 fun y E2 w F2 O2 H2 h2 f2 I2 r2 => by
    obtain ⟨hn, h2⟩ := nowK_ok h2
    obtain ⟨p, us, f, kvs, G, rfl, rd, l, rv, h2⟩ := rdK_ok I2 (r1.now f2 I2 hn) h2
    obtain ⟨k, rfl, d, hd, kk⟩ := keyK_ok h2
    have e := kD_rf.mp (show Rf c F2 (kD k) w from r2)
    rcases l.get (k := k) with ⟨_, h0⟩ | ⟨d', u, h1, hv, rw_⟩
    · rw [h0] at hd; cases hd
    · rw [h1] at hd; cases hd
      exact ⟨p, u, rfl, .inl ⟨us, k, rd, e, hv.symm⟩, q _ _ _ _ _ _ kk (f1.trans f2) I2 (rv _ _ rw_)⟩⟩
def TDIn (n : Bool) (U T : TX) : TX := fun E K => U E fun y E1 => T E1 fun x E2 => rdK x fun _ kvs => keyK y fun k => K (.fz (.bl (n ^^ (getD' kvs k).isSome))) E2
theorem din_aux {n : Bool} {td ty : TE} {T U : TX} [a : LfE c P W F0 pv td T] [b : LfE c P W F0 pv ty U] {B : Hp} {E : En} {σ : L2.St} {F : Hp} {O : Ow} {H : Hp} {K : Res → En → Prop} {Q : Bool → Hp → Prop} (I : St ⟨c, W, B, F0, P, pv⟩ E σ F O H) (h : TDIn n U T E K)
    (q : ∀ b E' F' O' H', K (.fz (.bl (n ^^ b))) E' → Fz F F' → St ⟨c, W, B, F0, P, pv⟩ E' σ F' O' H' → Q b H') : ty σ H fun y H1 => td σ H1 fun x H2 => ∃ a o, x = .ref a ∧ DGet H2 a y o ∧ Q o.isSome H2 :=
  b.run I h fun y E1 w F1 O1 H1 h1 f1 I1 r1 => a.run I1 h1 fun x E2 v F2 O2 H2 h2 f2 I2 r2 => by
    obtain ⟨p, us, f, kvs, G, rfl, rd, l, rv, h2⟩ := rdK_ok I2 r2 h2
    obtain ⟨k, rfl, kk⟩ := keyK_ok h2
    have e := kD_rf.mp (show Rf c F1 (kD k) w from r1)
    refine ⟨p, _, rfl, .inl ⟨us, k, rd, e, rfl⟩, q _ _ _ _ _ ?_ (f1.trans f2) I2⟩
    rcases l.get (k := k) with ⟨h0, h1⟩ | ⟨d', u, h1, hv, rw_⟩
    · rw [h1] at kk; rw [h0]; exact kk
    · rw [h1] at kk; rw [hv]; exact kk
instance lf_din {td ty : TE} {T U : TX} [a : LfE c P W F0 pv td T] [b : LfE c P W F0 pv ty U] : LfE c P W F0 pv (tDIn ty td) (TDIn false U T) := ⟨fun {B E σ F O H K Q} I h q =>
  din_aux (n := false) (Q := fun b H => Q (.bl b) H) I h fun b E' F' O' H' k f J => q _ _ _ _ _ _ k f J (by simp only [RR, Rf, Bool.false_xor])⟩
instance lf_dnotin {td ty : TE} {T U : TX} [a : LfE c P W F0 pv td T] [b : LfE c P W F0 pv ty U] : LfE c P W F0 pv (tDNotIn ty td) (TDIn true U T) := ⟨fun {B E σ F O H K Q} I h q =>
  din_aux (n := true) (Q := fun b H => Q (.bl !b) H) I h fun b E' F' O' H' k f J => q _ _ _ _ _ _ k f J (by simp only [RR, Rf, Bool.true_xor])⟩
def TDGet2 (T U V' : TX) : TX := fun E K => T E fun x E1 => rdK x fun _ _ => U E1 fun y E2 => V' E2 fun z E3 => nowK E3 x <| rdK x fun f kvs => keyK y fun k => (∃ d, z = .fz d) ∧ ((∀ d, getD' kvs k = some d → K (f d) E3) ∧ (getD' kvs k = none → K z E3))
instance lf_dget2 {td ty tx : TE} {T U V' : TX} [a : LfE c P W F0 pv td T] [b : LfE c P W F0 pv ty U] [d : LfE c P W F0 pv tx V'] : LfE c P W F0 pv (tDGet2 td ty tx) (TDGet2 T U V') := ⟨fun {B E σ F O H K Q} I h q =>
  a.run I h fun x E1 v F1 O1 H1 h1 f1 I1 r1 => by
    obtain ⟨p, us, f, kvs, G, rfl, rd, l, rv, h1⟩ := rdK_ok I1 r1 h1
    refine ⟨p, rfl, .inl ⟨us, rd⟩, b.run I1 h1 fun y E2 w F2 O2 H2 h2 f2 I2 r2 => d.run I2 h2 fun z E3 u F3 O3 H3 h3 f3 I3 r3 => ?_⟩
    obtain ⟨hn, h3⟩ := nowK_ok h3
    obtain ⟨p', us', f', kvs', G', e', rd', l', rv', h3⟩ := rdK_ok I3 (r1.now (f2.trans f3) I3 hn) h3
    cases e'
    obtain ⟨k, rfl, ⟨dz, rfl⟩, k1, k2⟩ := keyK_ok h3
    have e := kD_rf.mp (show Rf c F2 (kD k) w from r2)
    refine ⟨_, .inl ⟨us', k, rd', e, rfl⟩, ?_⟩
    rcases l'.get (k := k) with ⟨h0, h1⟩ | ⟨d', v', h1, hv, rw_⟩
    · rw [h0]; exact q _ _ _ _ _ _ (k2 h1) (f1.trans (f2.trans f3)) I3 r3
    · rw [hv]; exact q _ _ _ _ _ _ (k1 _ h1) (f1.trans (f2.trans f3)) I3 (rv' _ _ rw_)⟩
/-- d[k] = v, d an own dict -/
def TDPut (T U V' : TX) : TXS := fun D E => V' E fun r E1 => Frz [r] E1 fun es E2 => oneK es fun d => T E2 fun x E3 => U E3 fun y E4 => match x with
  | .pl i [] (.fd kvs) => E4[i]? = some (.ow (.fd kvs)) ∧ keyK y fun k => kvs.length < 100000 ∧ D.nx (E4.set i (.ow (.fd (putD kvs k d))))
  | _ => False
instance lf_dput {td ty tv : TE} {T U V' : TX} [a : LfE c P W F0 pv td T] [b : LfE c P W F0 pv ty U] [d : LfE c P W F0 pv tv V'] : LfS c P W F0 pv (sDPut td ty tv) (TDPut T U V') := ⟨fun {E σ F O H TD D} I h q =>
  d.run I h fun r E1 v F1 O1 H1 h1 f1 I1 r1 => by
    have r0 : RRs ⟨c, W, W, F0, P, pv⟩ E1 σ F1 O1 H1 [r] [v] := ⟨v, [], rfl, r1, rfl⟩
    obtain ⟨es, E2, F2, O2, h2, f2, I2, l⟩ := Frz.ok I1 r0.frz.2 r0.frz.1 h1
    obtain ⟨d, rfl, h2⟩ := oneK_ok h2
    obtain ⟨v', e', rd⟩ := l.one_inv
    cases e'
    refine a.run I2 h2 fun x E3 w F3 O3 H3 h3 f3 I3 r3 => b.run I3 h3 fun y E4 u F4 O4 H4 h4 f4 I4 r4 => ?_
    split at h4
    rotate_left
    · exact h4.elim
    rename_i i kvs
    obtain ⟨hn, h4⟩ := h4
    obtain ⟨k, rfl, hl, kk⟩ := keyK_ok h4
    have e := kD_rf.mp (show Rf c F4 (kD k) u from r4)
    have r3 := r3.now f4 I4 ⟨rfl, hn⟩
    obtain ⟨⟨r, he, hr⟩, hs, ro⟩ := r3
    cases hr
    simp only [Ro] at ro
    obtain ⟨p, us, rfl, _, hp, lu⟩ := ro
    exact ⟨p, _, rfl, .inl ⟨us, k, hp, e, szL2 (by rw [lu.len]; exact hl), rfl⟩, q.nx _ _ _ _ _ kk (f1.trans (f2.trans (f3.trans f4))) (I4.chgD he (hs rfl) (lu.put (rd.mono (f3.trans f4))))⟩⟩
def TDNew (r : Res) : TX := fun E K => K r E
instance lf_dnew : LfE c P W F0 pv tDNewK (TDNew (.fz (.dk []))) := ⟨fun {B E σ F O H K Q} I h q y hy => by
  have f := fz_upd (o := .dK []) (I.fh.none hy)
  exact q _ _ _ _ _ _ h f (I.newF hy (.dK [])) (by simp only [RR, Rf]; exact ⟨y, [], rfl, upd_same, rfl⟩)⟩
instance lf_dnewN : LfE c P W F0 pv (tNw tDNewK) (TDNew (.nw (.fd []))) := ⟨fun {B E σ F O H K Q} I h q y hy =>
  q _ _ _ _ _ _ h (.refl _) (I.newO hy (.dK [])) (by simp only [RR, Ro]; exact ⟨y, [], rfl, newT_self, upd_same, rfl⟩)⟩
def TTupD (T : TX) : TX := fun E K => T E fun x E1 => rdK x fun _ kvs => K (.fz (.tup (kvs.map fun p => kD p.1))) E1
theorem keys_rf {F G : Hp} : ∀ {kvs : List (Key × D)} {us : List (Key × V)}, RfK c F kvs us → RfL c G (kvs.map fun p => kD p.1) (us.map fun p => kV p.1)
  | [], us, h => by simp only [RfK] at h; subst h; simp [RfL]
  | (k, d) :: kvs, us, h => by
    simp only [RfK] at h
    obtain ⟨v, s, rfl, r, l⟩ := h
    simp only [List.map_cons, RfL]
    exact ⟨kV k, _, rfl, kD_rf.mpr rfl, keys_rf l⟩
instance lf_tupD {te : TE} {T : TX} [a : LfE c P W F0 pv te T] : LfE c P W F0 pv (tCB rTupDR (tCons te tNil)) (TTupD T) := ⟨fun {B E σ F O H K Q} I h q =>
  a.run I h fun x E1 v F1 O1 H1 h1 f1 I1 r1 => by
    obtain ⟨p, us, f, kvs, G, rfl, rd, l, rv, k⟩ := rdK_ok I1 r1 h1
    refine ⟨p, us, rfl, rd, fun y hy => ?_⟩
    have fz := fz_upd (o := .tup (us.map fun kv => kV kv.1)) (I1.fh.none hy)
    exact q _ _ _ _ _ _ k (f1.trans fz) (I1.newF hy _) (by simp only [RR, Rf]; exact ⟨y, _, rfl, upd_same, keys_rf l⟩)⟩
def TSortD (T : TX) : TX := fun E K => T E fun x E1 => rdK x fun _ kvs => ∃ ss : List Str, kvs.map (·.1) = ss.map Sum.inr ∧ ss.length < 64 ∧ ∀ ys : List Str, ys.Perm ss → sortedS ys = true → K (.fz (.lst (ys.map .str))) E1
instance lf_sortD {te : TE} {T : TX} [a : LfE c P W F0 pv te T] : LfE c P W F0 pv (tCB rSortedDR (tCons te tNil)) (TSortD T) := ⟨fun {B E σ F O H K Q} I h q =>
  a.run I h fun x E1 v F1 O1 H1 h1 f1 I1 r1 => by
    obtain ⟨p, us, f, kvs, G, rfl, rd, l, rv, ss, e1, e2, k⟩ := rdK_ok I1 r1 h1
    refine ⟨p, us, ss, rfl, rd, by rw [l.keys]; exact e1, e2, fun ys y h1 h2 hy => ?_⟩
    have fz := fz_upd (o := .lst (ys.map .str)) (I1.fh.none hy)
    exact q _ _ _ _ _ _ (k ys h1 h2) (f1.trans fz) (I1.newF hy _) (by simp only [RR, Rf]; exact ⟨y, _, rfl, upd_same, strs_rf⟩)⟩
/-- d.values(), d known to stay -/
def itV : Res → (List Res → Prop) → Prop
  | .fz (.dl kvs), K => K ((kvs.map (·.2)).map .fz)
  | .vw (.dl kvs), K => K ((kvs.map (·.2)).map mkVw)
  | _, _ => False
def TItV (T : TX) : TXI := fun E K => T E fun r E1 => itV r fun ds => K ds E1
theorem itv_ok {S : Sx} {F1 : Hp} {a : Addr} {o : Obj} {us : List (Key × V)} {f : D → Res} {ds : List D} (hf : (f = .fz ∧ F1 a = some (.frz o (.dK us)) ∧ RfL S.c F1 ds (us.map (·.2))) ∨ (f = TL.mkVw ∧ (uni F1 S.W) a = some (.frz o (.dK us)) ∧ RfL S.c (uni F1 S.W) ds (us.map (·.2)))) : IOk S F1 (Itd a o us) (ds.map f) := ⟨stl_map (hf.imp (·.1) (·.1)), fun B E σ F O H I g => by
  have hH : H a = some (.frz o (.dK us)) := by
    rcases hf with ⟨_, e, _⟩ | ⟨_, e, _⟩
    · exact I.fh _ _ (g _ _ e)
    · exact uni_fz (g.trans I.fh) I.wh _ _ e
  have hl : us.length = ds.length := by rcases hf with ⟨_, _, l⟩ | ⟨_, _, l⟩ <;> (have := l.len; rw [List.length_map] at this; exact this)
  refine ⟨fun i hi => ?_, ⟨hH, by rw [List.length_map, hl]; exact Nat.le_refl _⟩, fun i x H' r y e => ?_⟩
  · rw [List.length_map, ← hl] at hi
    exact ⟨hH, hi⟩
  · obtain ⟨rfl, k, hk⟩ := y
    have hx : (us.map (·.2))[i]? = some x := by rw [List.getElem?_map, hk]; rfl
    rw [List.getElem?_map] at e
    rcases hf with ⟨rfl, _, l⟩ | ⟨rfl, _, l⟩
    · obtain ⟨d, hd, rd⟩ := l.back hx
      rw [hd] at e; cases e
      exact ⟨F, .refl _, I, rd.mono g⟩
    · obtain ⟨d, hd, rd⟩ := l.back hx
      rw [hd] at e; cases e
      exact ⟨F, .refl _, I, RR.mkVw (rd.mono (uni_mono g I.fh I.wh))⟩⟩
instance lf_iVals {te : TE} {T : TX} [a : LfE c P W F0 pv te T] : LfI c P W F0 pv (iVals te) (TItV T) := ⟨fun {B E σ F O H K R} I h q =>
  a.run I h fun r E1 v F1 O1 H1 h1 f1 I1 r1 => by
    unfold itV at h1
    split at h1
    · simp only [RR, Rf] at r1
      obtain ⟨p, o, us, rfl, e, l⟩ := r1
      exact ⟨p, o, us, rfl, I1.fh _ _ e, q _ _ _ _ _ _ h1 f1 I1 (itv_ok (.inl ⟨rfl, e, l.vals⟩))⟩
    · simp only [RR, Rf] at r1
      obtain ⟨p, o, us, rfl, e, l⟩ := r1
      exact ⟨p, o, us, rfl, uni_fz I1.fh I1.wh _ _ e, q _ _ _ _ _ _ h1 f1 I1 (itv_ok (.inr ⟨rfl, e, l.vals⟩))⟩
    · exact h1.elim⟩
end
end TL
namespace TL
open PySem PySem.Spec PyProof.Rows L2 R9
/-! ### dict comprehensions -/
def frzE : En → En := fun E => E.map fun e => match e with
  | .ow _ => .nil
  | e => e
def TTurnD (vs : List Nat) (G : TXG) (Tt : TXT) (Tk Tv : TX) (r : Res) (E : En) (yes : Key → D → En → Prop) (no : En → Prop) : Prop :=
  G r (wipeE vs 0 E) fun E2 => Tt E2 fun b E3 => ifK b (Tk E3 fun x E4 => keyK x fun k => Tv E4 fun y E5 => Frz [y] E5 fun ds E6 => (match ds with
    | [d] => yes k d (restE vs 0 E E6)
    | _ => False)) (no (restE vs 0 E E3))
def TDcX (P vs : List Nat) (KXo : Xn → En → Prop) (Ti : TXI) (G : TXG) (Tt : TXT) (Tk : TX) (TvX : Hp → (Xn → En → Prop) → TX) : TX := fun E K => Ti E fun ds E1 => (∀ k ∈ vs, k ∉ P) ∧ ∃ I : Nat → List (Key × D) → En → Prop, I 0 [] E1 ∧
  (∀ i r acc E, ds[i]? = some r → I i acc E → TTurnD vs G Tt Tk (fun E' K' => ∀ F1, TvX F1 (fun x _ => KXo x (frzE E)) E' K') r E (fun k d E' => acc.length < 100000 ∧ I (i + 1) (putD acc k d) E') (I (i + 1) acc)) ∧ ∀ acc E, I ds.length acc E → K (.fz (.dl acc)) E
def TDc (P vs : List Nat) (Ti : TXI) (G : TXG) (Tt : TXT) (Tk Tv : TX) : TX := fun E K => Ti E fun ds E1 => (∀ k ∈ vs, k ∉ P) ∧ ∃ I : Nat → List (Key × D) → En → Prop, I 0 [] E1 ∧
  (∀ i r acc E, ds[i]? = some r → I i acc E → TTurnD vs G Tt Tk Tv r E (fun k d E' => acc.length < 100000 ∧ I (i + 1) (putD acc k d) E') (I (i + 1) acc)) ∧ ∀ acc E, I ds.length acc E → K (.fz (.dl acc)) E
def TDcN (P vs : List Nat) (Ti : TXI) (G : TXG) (Tt : TXT) (Tk Tv : TX) : TX := fun E K => Ti E fun ds E1 => (∀ k ∈ vs, k ∉ P) ∧ ∃ I : Nat → List (Key × D) → En → Prop, I 0 [] E1 ∧
  (∀ i r acc E, ds[i]? = some r → I i acc E → TTurnD vs G Tt Tk Tv r E (fun k d E' => acc.length < 100000 ∧ I (i + 1) (putD acc k d) E') (I (i + 1) acc)) ∧ ∀ acc E, I ds.length acc E → K (.nw (.fd acc)) E
section
variable {c : Cls} {P vs : List Nat} {W F0 : Hp} {pv : Nat → V} {Kf : PySem.W.Frag}
theorem St.past {B B5 B' : Hp} {E E5 E' : En} {σ σ5 σ' : L2.St} {F F5 F' H H5 H' : Hp} {O O5 O' : Ow} (I : St ⟨c, W, B, F0, P, pv⟩ E σ F O H) (I5 : St ⟨c, W, B5, F0, P, pv⟩ E5 σ5 F5 O5 H5) (f5 : Fz F F5) (J : St ⟨c, W, B', F5, P, pv⟩ E' σ' F' O' H') : St ⟨c, W, W, F0, P, pv⟩ (frzE E) σ F' (fun _ => none) H' := by
  have f := f5.trans J.f0
  refine ⟨J.fh, J.vb.trans J.bh, .refl _, I5.f0.trans J.f0, fun a h1 h2 => ?_, fun a t e => (nomatch e), fun a b t e => (nomatch e), by unfold frzE; rw [List.length_map]; exact I.len, fun i e he => ?_, I.pin⟩
  · by_cases h : F5 a = none
    · exact J.vb.none (J.fn a h1 h)
    · exact I5.vb.none (I5.fn a h h2)
  · unfold frzE at he
    rw [List.getElem?_map] at he
    cases h : E[i]? with
    | none => rw [h] at he; cases he
    | some e0 =>
      rw [h] at he
      have s := I.sl i e0 h
      cases e0 with
      | nil => cases he; trivial
      | fz d => cases he; obtain ⟨v, e, r⟩ := s; exact ⟨v, e, r.mono f⟩
      | vw d => cases he; obtain ⟨v, e, r⟩ := s; exact ⟨v, e, r.mono (uni_mono f J.fh (J.vb.trans J.bh))⟩
      | ow o => cases he; trivial
theorem turnD_ok {g : TG} {tt : TT} {tk tv : TE} {G : TXG} {Tt : TXT} {Tk Tv : TX} [b : LfGw c P W F0 pv vs g G] [z : LfT c P W F0 pv tt Tt] [kk : LfE c P W F0 pv tk Tk] {B : Hp} {E : En} {σ : L2.St} {F3 : Hp} {O : Ow} {H3 : Hp} {r : Res} {x : V} {o : HO} {Da : Addr} {yes : Key → D → En → Prop} {no : En → Prop} {Ny : V → V → Hp → Prop} {Nn : Hp → Prop}
    (hv : ∀ {B5 : Hp} {E5 : En} {σ5 : L2.St} {F5 : Hp} {O5 : Ow} {H5 : Hp}, St ⟨c, W, B5, F0, P, pv⟩ E5 σ5 F5 O5 H5 → Fz F3 F5 → LfE c P W F5 pv tv Tv)
    (hP : ∀ k ∈ vs, k ∉ P) (vb : Fz W B) (f0 : F0 Da = none) (bD : B Da = none) (I : St ⟨c, W, upd B Da o, F0, P, pv⟩ E σ F3 O H3) (rr : RR ⟨c, W, B, F0, P, pv⟩ E σ F3 O H3 r x) (s : r.stl) (h : TTurnD vs G Tt Tk Tv r E yes no)
    (qy : ∀ k d E' v F' O' H', yes k d E' → Fz F3 F' → St ⟨c, W, B, F0, P, pv⟩ E' σ F' O' H' → Side ⟨c, W, B, F0, P, pv⟩ F' O' Da → H' Da = some o → Rf c F' d v → Ny (kV k) v H')
    (qn : ∀ E' F' O' H', no E' → Fz F3 F' → St ⟨c, W, B, F0, P, pv⟩ E' σ F' O' H' → Side ⟨c, W, B, F0, P, pv⟩ F' O' Da → H' Da = some o → Nn H') :
    g x (wipe σ vs) H3 fun σ2 H2 => wipe σ2 vs = wipe σ vs ∧ tt σ2 H2 fun b H3 => if b = true then tk σ2 H3 (fun y H4 => tv σ2 H4 fun z H5 => Ny y z H5) else Nn H3 := by
  refine b.run (I.wipe hP) (RR.stl s rr) h fun E2 σ2 F2 O2 H2 h2 f2 I2 w2 => ?_
  have w2 : wipe σ2 vs = wipe σ vs := w2.trans wipe_wipe
  refine ⟨w2, z.run I2 h2 fun bb E4 F4 O4 H4 h4 f4 I4 => ?_⟩
  cases bb with
  | false =>
    rw [if_neg Bool.false_ne_true]
    have J := I.rest I4 (f2.trans f4) hP w2
    obtain ⟨J1, s1, hd⟩ := St.unshield (S := ⟨c, W, B, F0, P, pv⟩) J vb f0 bD
    exact qn _ _ _ _ h4 (f2.trans f4) J1 s1 hd
  | true =>
    rw [if_pos rfl]
    refine kk.run I4 h4 fun y0 E5 v0 F5 O5 H5 h5 f5 I5 r5 => ?_
    obtain ⟨k, rfl, h5'⟩ := keyK_ok h5
    obtain rfl := kD_rf.mp (show Rf c F5 (kD k) v0 from r5)
    refine (hv I5 (f2.trans (f4.trans f5))).run I5.atF h5' fun y E6 v F6 O6 H6 h6 f6 I6 r6 => ?_
    have I6 := I5.reF I6
    have r6 := r6.reF (F0 := F0)
    have rr : RRs ⟨c, W, upd B Da o, F0, P, pv⟩ E6 σ2 F6 O6 H6 [y] [v] := ⟨v, [], rfl, r6, rfl⟩
    obtain ⟨ds, E7, F7, O7, kk7, f7, I7, l⟩ := Frz.ok I6 rr.frz.2 rr.frz.1 h6
    have hds : ∃ d, ds = [d] := by
      have := l.len
      cases ds with
      | nil => cases this
      | cons d r =>
        cases r with
        | nil => exact ⟨d, rfl⟩
        | cons x y => cases this
    obtain ⟨d, rfl⟩ := hds
    have f := f2.trans (f4.trans (f5.trans (f6.trans f7)))
    have J := I.rest I7 f hP w2
    obtain ⟨J1, s1, hd⟩ := St.unshield (S := ⟨c, W, B, F0, P, pv⟩) J vb f0 bD
    simp only [RfL] at l
    obtain ⟨v', r', e', rd, _⟩ := l
    cases e'
    exact qy _ _ _ _ _ _ _ kk7 f J1 s1 hd rd
theorem dc_lf {wi : TI} {g : TG} {tt : TT} {tk tv : TE} {Ti : TXI} {G : TXG} {Tt : TXT} {Tk : TX} [a : LfI c P W F0 pv wi Ti] [b : LfGw c P W F0 pv vs g G] [z : LfT c P W F0 pv tt Tt] [kk : LfE c P W F0 pv tk Tk]
    {B : Hp} {E : En} {σ : L2.St} {F : Hp} {O : Ow} {H : Hp} {Q : VK} {fin : List Res → En → List (Key × D) → En → Prop} (TvE : En → TX)
    (hv : ∀ {B : Hp} {E2 : En} {F2 : Hp} {O2 : Ow} {H2 : Hp} {B5 : Hp} {E5 : En} {σ5 : L2.St} {F5 : Hp} {O5 : Ow} {H5 : Hp}, St ⟨c, W, B, F0, P, pv⟩ E2 σ F2 O2 H2 → St ⟨c, W, B5, F0, P, pv⟩ E5 σ5 F5 O5 H5 → Fz F2 F5 → LfE c P W F5 pv tv (TvE E2))
    (I : St ⟨c, W, B, F0, P, pv⟩ E σ F O H) (h : Ti E fun ds E1 => (∀ k ∈ vs, k ∉ P) ∧ ∃ I : Nat → List (Key × D) → En → Prop, I 0 [] E1 ∧
      (∀ i r acc E, ds[i]? = some r → I i acc E → TTurnD vs G Tt Tk (TvE E) r E (fun k d E' => acc.length < 100000 ∧ I (i + 1) (putD acc k d) E') (I (i + 1) acc)) ∧ ∀ acc E, I ds.length acc E → fin ds E1 acc E)
    (q : ∀ ds E1 acc E2 F2 O2 H2 Da us, fin ds E1 acc E2 → Fz F F2 → St ⟨c, W, B, F0, P, pv⟩ E2 σ F2 O2 H2 → Side ⟨c, W, B, F0, P, pv⟩ F2 O2 Da → H2 Da = some (.dK us) → RfK c F2 acc us → Q (.ref Da) H2) : tDc wi g tt tk tv vs σ H Q :=
  a.run I h fun ds E1 J F1 O1 H1 h1 f1 I1 ok D hD => by
    obtain ⟨hP, Iv, i0, turn, fin⟩ := h1
    obtain ⟨s0, J0⟩ := I1.fresh (o := .dK []) hD
    refine ⟨fun i m H' => m = ds.length - i ∧ i ≤ ds.length ∧ ∃ acc E' F' O' us, Iv i acc E' ∧ Fz F1 F' ∧ St ⟨c, W, B, F0, P, pv⟩ E' σ F' O' H' ∧ Side ⟨c, W, B, F0, P, pv⟩ F' O' D ∧ H' D = some (.dK us) ∧ RfK c F' acc us,
      ⟨_, rfl, Nat.zero_le _, [], E1, F1, O1, [], i0, .refl _, J0, s0, upd_same, rfl⟩, ?_⟩
    rintro i m H2 ⟨rfl, hi, acc, E2, F2, O2, us, iv, f2, I2, s2, hd, l⟩
    obtain ⟨go, stop, yld⟩ := ok.2 _ E2 σ F2 O2 H2 (I2.shield s2 hd) f2
    by_cases hlt : i < ds.length
    · refine .inr ⟨go i hlt, fun H' => ∃ acc E' F' O' us, Iv (i + 1) acc E' ∧ Fz F1 F' ∧ St ⟨c, W, B, F0, P, pv⟩ E' σ F' O' H' ∧ Side ⟨c, W, B, F0, P, pv⟩ F' O' D ∧ H' D = some (.dK us) ∧ RfK c F' acc us, fun H' n => ⟨ds.length - (i + 1), by omega, rfl, hlt, n⟩, fun x H' y => ?_⟩
      obtain ⟨F3, f3, I3, rr⟩ := yld i x H' _ y (List.getElem?_eq_getElem hlt)
      have f13 : Fz F1 F3 := f2.trans f3
      refine turnD_ok (c := c) (P := P) (vs := vs) (Da := D) (Ny := fun y z H5 => ∃ kvs k, y = kV k ∧ H5 D = some (.dK kvs) ∧ kvs.length < sizeLine ∧ _) (fun I5 f5 => hv I3 I5 f5) hP I1.vb s0.f0 s0.b I3 rr (ok.1 _ (List.getElem_mem hlt)) (turn i _ acc E2 (List.getElem?_eq_getElem hlt) iv) (fun k d E' v F' O' H' kk f I' s' hd' rd => ?_) (fun E' F' O' H' k f I' s' hd' => ?_)
      · refine ⟨us, k, rfl, hd', szL2 (by rw [l.len]; exact kk.1), putD acc k d, E', F', O', putK us k v, kk.2, f13.trans f, I'.junk s', s', upd_same, ?_⟩
        exact (RfK.mono (f3.trans f) l).put rd
      · exact ⟨acc, E', F', O', us, k, f13.trans f, I', s', hd', RfK.mono (f3.trans f) l⟩
    · have e0 : i = ds.length := by omega
      subst e0
      exact .inl ⟨stop, q _ _ _ _ _ _ _ _ _ (fin acc E2 iv) (f1.trans f2) I2 s2 hd l⟩
theorem keep_aux {B : Hp} {E2 : En} {σ : L2.St} {F F2 : Hp} {O2 : Ow} {H2 : Hp} {Da : Addr} {us : List (Key × V)} {acc : List (Key × D)} {K : Res → En → Prop} {Q : VK} (f : Fz F F2) (I2 : St ⟨c, W, B, F0, P, pv⟩ E2 σ F2 O2 H2) (s2 : Side ⟨c, W, B, F0, P, pv⟩ F2 O2 Da) (hd : H2 Da = some (.dK us)) (l : RfK c F2 acc us) (k : K (.fz (.dl acc)) E2)
    (q : ∀ r E' v F' O' H', K r E' → Fz F F' → St ⟨c, W, B, F0, P, pv⟩ E' σ F' O' H' → RR ⟨c, W, B, F0, P, pv⟩ E' σ F' O' H' r v → Q v H') : ∃ (d : Addr) (kvs : List (Key × V)), V.ref Da = .ref d ∧ H2 d = some (.dK kvs) ∧ ∀ o, Q (.ref Da) (upd H2 d (.frz o (.dK kvs))) := by
  refine ⟨Da, us, rfl, hd, fun o => ?_⟩
  have fz := (I2.junk (o' := .frz o (.dK us)) s2).adopt s2 upd_same
  exact q _ _ _ _ _ _ k (f.trans (fz_upd s2.f)) fz (by simp only [RR, Rf]; exact ⟨Da, o, us, rfl, upd_same, RfK.mono (fz_upd s2.f) l⟩)
instance lf_dcX {wi : TI} {g : TG} {tt : TT} {tk : TE} {tvX : WX → TE} {Ti : TXI} {G : TXG} {Tt : TXT} {Tk : TX} {TvX : Hp → (Xn → En → Prop) → TX} {Wo : WX} {KXo : Xn → En → Prop} [xo : LfX c P W F0 pv Wo KXo] [a : LfI c P W F0 pv wi Ti] [b : LfGw c P W F0 pv vs g G] [z : LfT c P W F0 pv tt Tt] [kk : LfE c P W F0 pv tk Tk]
    [e : ∀ (F1 : Hp) (KX : Xn → En → Prop), LfE c P W F1 pv (tvX (XW c P W F1 pv KX)) (TvX F1 KX)] : LfE c P W F0 pv (tKeep (tDcX Wo wi g tt tk (tW tvX) vs)) (TDcX P vs KXo Ti G Tt Tk TvX) := ⟨fun {B E σ F O H K Q} I h q => by
  unfold tKeep tDcX
  refine dc_lf (fun E E' K' => ∀ F1, TvX F1 (fun x _ => KXo x (frzE E)) E' K') (fun {B E2 F2 O2 H2 B5 E5 σ5 F5 O5 H5} I2 I5 f5 => ?_) I h fun ds E1 acc E2 F2 O2 H2 D us k f I2 s2 hd l => keep_aux f I2 s2 hd l k q
  exact ⟨fun {B E σ' F O H K Q} I h q => ⟨XW c P W F5 pv (fun x _ => KXo x (frzE E2)), fun cls d σ' H' ⟨B', E', F', O', x, J, kx, rx⟩ => xo.run (I2.past I5 f5 J) kx rx, (e F5 _).run I (h F5) q⟩⟩⟩
instance lf_dc {wi : TI} {g : TG} {tt : TT} {tk tv : TE} {Ti : TXI} {G : TXG} {Tt : TXT} {Tk Tv : TX} [a : LfI c P W F0 pv wi Ti] [b : LfGw c P W F0 pv vs g G] [z : LfT c P W F0 pv tt Tt] [kk : LfE c P W F0 pv tk Tk] [e : ∀ (F1 : Hp), LfE c P W F1 pv tv Tv] : LfE c P W F0 pv (tKeep (tDc wi g tt tk tv vs)) (TDc P vs Ti G Tt Tk Tv) := ⟨fun {B E σ F O H K Q} I h q => by
  unfold tKeep
  exact dc_lf (fun _ => Tv) (fun _ _ _ => e _) I h fun ds E1 acc E2 F2 O2 H2 D us k f I2 s2 hd l => keep_aux f I2 s2 hd l k q⟩
instance lf_dcN {wi : TI} {g : TG} {tt : TT} {tk tv : TE} {Ti : TXI} {G : TXG} {Tt : TXT} {Tk Tv : TX} [a : LfI c P W F0 pv wi Ti] [b : LfGw c P W F0 pv vs g G] [z : LfT c P W F0 pv tt Tt] [kk : LfE c P W F0 pv tk Tk] [e : ∀ (F1 : Hp), LfE c P W F1 pv tv Tv] : LfE c P W F0 pv (tNw (tDc wi g tt tk tv vs)) (TDcN P vs Ti G Tt Tk Tv) := ⟨fun {B E σ F O H K Q} I h q => by
  show tDc wi g tt tk tv vs σ H _
  exact dc_lf (fun _ => Tv) (fun _ _ _ => e _) I h fun ds E1 acc E2 F2 O2 H2 D us k f I2 s2 hd l => q _ _ _ _ _ _ k f (I2.take s2 hd) (by simp only [RR, Ro]; exact ⟨D, us, rfl, newT_self, hd, l⟩)⟩
end
end TL
namespace TL
open PySem PySem.Spec PyProof.Rows L2 R9
/-! ### promises that may raise, by the number of arguments -/
abbrev KXT := Xn → Prop
def x0 (f : KE → KXT → Prop) : TSpX := fun as K X => as = [] ∧ f K X
def x1 (f : Ent → KE → KXT → Prop) : TSpX := fun as K X => ∃ a, as = [a] ∧ f a K X
def x2 (f : Ent → Ent → KE → KXT → Prop) : TSpX := fun as K X => ∃ a b, as = [a, b] ∧ f a b K X
def x3 (f : Ent → Ent → Ent → KE → KXT → Prop) : TSpX := fun as K X => ∃ a b d, as = [a, b, d] ∧ f a b d K X
def x4 (f : Ent → Ent → Ent → Ent → KE → KXT → Prop) : TSpX := fun as K X => ∃ a b d e, as = [a, b, d, e] ∧ f a b d e K X
def x5 (f : Ent → Ent → Ent → Ent → Ent → KE → KXT → Prop) : TSpX := fun as K X => ∃ a b d e g, as = [a, b, d, e, g] ∧ f a b d e g K X
section
variable {c : Cls} {P : List Nat} {W F0 : Hp} {pv : Nat → V} {Kf : PySem.W.Frag} {Pg : Program} {w : World}
/-! ### [x, *xs] -/
theorem RRs.fzs {S : Sx} {E : En} {σ : L2.St} {F : Hp} {O : Ow} {H : Hp} {rs : List Res} {us : List V} (r : RRs S E σ F O H rs us) : ∀ {ds : List D} {vs : List V}, RfL S.c F ds vs → RRs S E σ F O H (ds.map .fz ++ rs) (vs ++ us)
  | [], vs, h => by simp only [RfL] at h; subst h; exact r
  | d :: ds, vs, h => by
    simp only [RfL] at h
    obtain ⟨v, s, rfl, a, b⟩ := h
    exact ⟨v, _, rfl, a, RRs.fzs r b⟩
def TStar (T : TX) (U : TXA) : TXA := fun E K => T E fun r E1 => seqK r fun ds => U E1 fun rs E2 => K (ds.map .fz ++ rs) E2
instance lf_star {te : TE} {t : TA} {T : TX} {U : TXA} [ik : IsK c Kf] [a : LfE c P W F0 pv te T] [b : LfA c P W F0 pv t U] : LfA c P W F0 pv (StX.tStar Kf te t) (TStar T U) := ⟨fun {B E σ F O H K Q} I h q =>
  a.run I h fun r E1 v F1 O1 H1 h1 f1 I1 r1 => by
    obtain ⟨p, vs, ds, rfl, e, l, k⟩ := seq_ok (Kf := Kf) (ik := ik) I1 r1 h1
    exact ⟨p, vs, rfl, e.symm, b.run I1 k fun rs E2 us F2 O2 H2 h2 f2 I2 r2 => q _ _ _ _ _ _ h2 (f1.trans f2) I2 (r2.fzs (l.mono f2))⟩⟩
/-! ### set(xs) of texts -/
def TSetOf (T : TX) : TX := fun E K => T E fun x E1 => fullK x (∃ ks : List Str, x.d = .lst (ks.map .str) ∧ ks.length < 1000 ∧ K (.fz (.set (ks.foldl R9S.addL []))) E1)
instance lf_setOf {te : TE} {T : TX} [ip : IsP c Pg w] [a : LfE c P W F0 pv te T] : LfE c P W F0 pv (tCB (R9S.rSetOfS Kf Pg w) (tCons te tNil)) (TSetOf T) := ⟨fun {B E σ F O H K Q} I h q =>
  a.run I h fun x E1 v F1 O1 H1 h1 f1 I1 r1 => by
    obtain ⟨full, ks, e, hl, k⟩ := fullK_ok h1
    have rd := r1.rf I1 full
    rw [e] at rd
    simp only [Rf] at rd
    obtain ⟨p, vs, rfl, ep, l⟩ := rd
    rw [rf_strs l] at ep
    refine ⟨p, ks, rfl, SqL.of ep, hl, fun y hy => ?_⟩
    have f := fz_upd (o := R9S.SetS Pg w y (ks.foldl R9S.addL [])) (I1.fh.none hy)
    exact q _ _ _ _ _ _ k (f1.trans f) (I1.newF hy _) (by simp only [RR, Rf]; rw [ip.p, ip.w]; exact ⟨y, rfl, upd_same⟩)⟩
theorem addL_mem {ks l : List Str} {x : Str} : x ∈ ks.foldl R9S.addL l ↔ x ∈ l ∨ x ∈ ks := by
  induction ks generalizing l with
  | nil => simp
  | cons k ks ih =>
    simp only [List.foldl_cons, ih, List.mem_cons]
    unfold R9S.addL
    split
    · rename_i h
      constructor
      · rintro (a | a)
        · exact .inl a
        · exact .inr (.inr a)
      · rintro (a | a | a)
        · exact .inl a
        · exact .inl (a ▸ h)
        · exact .inr a
    · simp only [List.mem_cons]
      constructor
      · rintro ((a | a) | a)
        · exact .inr (.inl a)
        · exact .inl a
        · exact .inr (.inr a)
      · rintro (a | a | a)
        · exact .inl (.inr a)
        · exact .inl (.inl a)
        · exact .inr a
theorem addL_nd {ks l : List Str} (h : l.Nodup) : (ks.foldl R9S.addL l).Nodup := by
  induction ks generalizing l with
  | nil => exact h
  | cons k ks ih =>
    simp only [List.foldl_cons]
    refine ih ?_
    unfold R9S.addL
    split
    · exact h
    · rename_i hk; exact List.nodup_cons.mpr ⟨hk, h⟩
end
end TL
namespace TL
open PySem PySem.Spec PyProof.Rows L2 R9
/-! ### a class made whose __init__ may raise -/
def makeKX (P : List Nat) (k : Nat) (md : List Md) (tsp : TSpX) (rs : List Res) (E : En) (K : Res → En → Prop) (KX : Xn → En → Prop) : Prop := (∀ j ∈ P, j < E.length) ∧ nonw rs ∧
  callXK (.l :: md) tsp (.pl E.length [] (.ins k []) :: rs) (E ++ [.ow (.ins k [])]) (fun r E' => match r, E'.getLast? with
    | .fz .non, some (.ow o) => E'.length = E.length + 1 ∧ o.full ∧ K (.fz o.er) E'.dropLast
    | _, _ => False) fun x E' => E'.length = E.length + 1 ∧ KX x E'.dropLast
theorem makeX_ok {S : Sx} {E : En} {σ : L2.St} {F H : Hp} {O : Ow} (I : St S E σ F O H) {k : Nat} {md : List Md} {tsp : TSpX} {rs : List Res} {vs : List V} {K : Res → En → Prop} {KX : Xn → En → Prop} {Q : VK} {X : XK} {x dx : Addr} {C : Addr} (hC : S.c.at_ k = C) (rr : RRs S E σ F O H rs vs) (h : makeKX S.P k md tsp rs E K KX)
    (hx : H x = none) (hdx : H dx = none) (hne : dx ≠ x) (q : ∀ r E' F' O' H', K r E' → Fz F F' → St S E' σ F' O' H' → RR S E' σ F' O' H' r (.ref x) → Q (.ref x) H')
    (qx : ∀ x E' cls d F' O' H', KX x E' → Fz F F' → St S E' σ F' O' H' → RXn S.c F' x cls d → X cls d H') :
    liftX S.c (.l :: md) tsp (.ref x :: vs) (upd (upd H dx (.own x)) x (.ins C dx [])) (fun v H2 => v = .non ∧ Q (.ref x) H2) X := by
  obtain ⟨hP, nn, h⟩ := h
  obtain ⟨s0, I0⟩ := I.fresh (o := .own x) hdx
  have hx' : upd H dx (.own x) x = none := by rw [upd_ne (Ne.symm hne)]; exact hx
  have I1 := I0.newO hx' (.ins C dx [])
  have ro : Ro S.c F (upd (upd H dx (.own x)) x (.ins C dx [])) (tgO (newT x O) 0) [] (.ins k []) (.ref x) := by
    simp only [Ro, RoL]
    exact ⟨x, dx, [], rfl, newT_self, by rw [upd_same, hC], rfl, rfl⟩
  have I2 := I1.push ro hP
  have ox : O x = none := by
    cases q : O x with
    | none => rfl
    | some t => exact absurd hx (I.ob x t q).2.2
  have od : ∀ a j q, O a = some (j + 1, q) → j < E.length → retag (E.length + 1) (newT x O) a = some (j + 1, q) ∧ upd (upd H dx (.own x)) x (.ins C dx []) a = H a := fun a j q e hj => by
    have h1 : a ≠ x := fun z => by rw [z, ox] at e; cases e
    have h2 : a ≠ dx := fun z => by rw [z, s0.ow] at e; cases e
    refine ⟨?_, by rw [upd_ne h1, upd_ne h2]⟩
    unfold retag
    rw [newT_keep e h1]
    show (if j + 1 = 0 then _ else if j + 1 = E.length + 1 then _ else _) = _
    rw [if_neg (by omega), if_neg (by omega)]
  have rr2 := rr.push (e := .ow (.ins k [])) (x := some (V.ref x)) I.len od nn
  have hlast : (E ++ [Ent.ow (.ins k [])])[E.length]? = some (.ow (.ins k [])) := by rw [List.getElem?_append_right (Nat.le_refl _)]; simp
  have slast : (σ ++ [some (V.ref x)])[E.length]? = some (some (V.ref x)) := by rw [I.len, List.getElem?_append_right (Nat.le_refl _)]; simp
  refine callX_ok I2 (rs := .pl E.length [] (.ins k []) :: rs) (vs := .ref x :: vs) ⟨.ref x, vs, rfl, ⟨⟨_, hlast, rfl⟩, fun _ => slast, ?_⟩, rr2⟩ h (fun r E' v F' O' H' kk f J rv => ?_) fun xn E' cls d F' O' H' kk f J rx => ?_
  · refine ro.mono (.refl _) fun q a _ t => ⟨?_, rfl⟩
    show retag (E.length + 1) (newT x O) a = some (E.length + 1, q)
    unfold retag
    rw [show newT x O a = some (0, q) from t]; rfl
  · split at kk
    rotate_left
    · exact kk.elim
    rename_i o hg
    obtain ⟨hlen, full, kk⟩ := kk
    refine ⟨by simpa only [RR, Rf] using rv, ?_⟩
    have e1 : E' = E'.dropLast ++ [.ow o] := by
      have hne' : E' ≠ [] := fun z => by rw [z] at hg; cases hg
      rw [List.getLast?_eq_some_getLast hne'] at hg
      have := List.dropLast_concat_getLast hne'
      rw [Option.some.inj hg] at this
      exact this.symm
    have hdl : E'.dropLast.length = E.length := by rw [List.length_dropLast, hlen]; omega
    rw [e1] at J
    have hl2 : (E'.dropLast ++ [Ent.ow o])[E.length]? = some (.ow o) := by rw [← hdl, List.getElem?_append_right (Nat.le_refl _)]; simp
    obtain ⟨w, hw, rw_⟩ := J.sl _ _ hl2
    rw [slast] at hw
    obtain rfl : V.ref x = w := by simpa using hw
    obtain ⟨F2, O2, f2, J2, k2, _⟩ := J.freeze hl2 (p := []) rfl full
    have e3 : (E'.dropLast ++ [Ent.ow o]).set E.length (Ent.mk (OD.put (.fz o.er) [] o)) = E'.dropLast ++ [.fz o.er] := by
      rw [← hdl, List.set_append_right _ _ (Nat.le_refl _)]; simp [OD.put, Ent.mk]
    rw [e3] at J2
    have J3 := J2.pop (fun j hj => by rw [hdl]; exact hP j hj)
    exact q _ _ _ _ _ kk (f.trans f2) J3 (k2 _ rw_)
  · obtain ⟨hlen, kk⟩ := kk
    have hne' : E' ≠ [] := fun z => by rw [z] at hlen; simp at hlen
    have e1 := (List.dropLast_concat_getLast hne').symm
    have hdl : E'.dropLast.length = E.length := by rw [List.length_dropLast, hlen]; omega
    rw [e1] at J
    exact qx _ _ _ _ _ _ _ kk f (J.pop (fun j hj => by rw [hdl]; exact hP j hj)) rx

section
variable {c : Cls} {P : List Nat} {W F0 : Hp} {pv : Nat → V} {KX : Xn → En → Prop} {Wx : WX}
def TMakeX (P : List Nat) (k : Nat) (md : List Md) (tsp : TSpX) (KX : Xn → En → Prop) (T : TXA) : TX := fun E K => T E fun rs E1 => makeKX P k md tsp rs E1 K KX
instance lf_makeX {C : Addr} {k : Nat} {md : List Md} {tsp : TSpX} {t : TA} {T : TXA} [x : LfX c P W F0 pv Wx KX] [ic : IsC c C k] [a : LfA c P W F0 pv t T] : LfE c P W F0 pv (tMakeX C (liftX c (.l :: md) tsp) (WE Wx) t) (TMakeX P k md tsp KX T) := ⟨fun {B E σ F O H K Q} I h q =>
  a.run I h fun rs E1 vs F1 O1 H1 h1 f1 I1 r1 x dx hx hdx hne =>
    makeX_ok I1 ic.e r1 h1 hx hdx hne (fun r E' F' O' H' kk f J rr => q _ _ _ _ _ _ kk (f1.trans f) J rr) fun xn E' cls d F' O' H' k f J rx => ‹LfX c P W F0 pv Wx KX›.run J k rx⟩
instance lf_makeX0 {C : Addr} {k : Nat} {md : List Md} {tsp : TSpX} {X : XK} {t : TA} {T : TXA} [ic : IsC c C k] [a : LfA c P W F0 pv t T] : LfE c P W F0 pv (tMake C (liftX c (.l :: md) tsp) [] X t) (TMakeX P k md tsp (fun _ _ => False) T) := ⟨fun {B E σ F O H K Q} I h q =>
  a.run I h fun rs E1 vs F1 O1 H1 h1 f1 I1 r1 x dx hx hdx hne => by
    rw [List.append_nil]
    exact makeX_ok I1 ic.e r1 h1 hx hdx hne (fun r E' F' O' H' kk f J rr => q _ _ _ _ _ _ kk (f1.trans f) J rr) fun xn E' cls d F' O' H' k f J rx => k.elim⟩
end
end TL
namespace TL
open PySem PySem.Spec PyProof.Rows L2 R9
/-! ### what a dict gives -/
theorem getD'_none {kvs : List (Key × D)} {k : Key} : getD' kvs k = none ↔ k ∉ kvs.map (·.1) := by
  unfold getD'
  rw [Option.map_eq_none_iff, List.find?_eq_none]
  constructor
  · intro h hm
    obtain ⟨p, hp, e⟩ := List.mem_map.mp hm
    exact h p hp (by simp [e])
  · intro h p hp e
    exact h (List.mem_map.mpr ⟨p, hp, by simpa using e⟩)
theorem getD'_app {kvs : List (Key × D)} {k k' : Key} {d : D} (h : k ∉ kvs.map (·.1)) : getD' (kvs ++ [(k, d)]) k' = if k' = k then some d else getD' kvs k' := by
  by_cases e : k' = k
  · subst e
    rw [if_pos rfl]
    have := (getD'_none (kvs := kvs) (k := k')).mpr h
    unfold getD' at this ⊢
    rw [Option.map_eq_none_iff] at this
    rw [List.find?_append, this]
    simp
  · rw [if_neg e]
    unfold getD'
    rw [List.find?_append]
    cases q : kvs.find? fun kv => decide (kv.1 = k') with
    | some p => simp
    | none => simp [Ne.symm e]
theorem putD_new {kvs : List (Key × D)} {k : Key} {d : D} (h : k ∉ kvs.map (·.1)) : putD kvs k d = kvs ++ [(k, d)] := by
  unfold putD
  rw [if_neg]
  intro c
  obtain ⟨p, hp, e⟩ := List.any_eq_true.mp c
  exact h (List.mem_map.mpr ⟨p, hp, by simpa using e⟩)
theorem getD'_mem {kvs : List (Key × D)} {k : Key} {d : D} (h : getD' kvs k = some d) : k ∈ kvs.map (·.1) := by
  by_cases c : k ∈ kvs.map (·.1)
  · exact c
  · rw [getD'_none.mpr c] at h; cases h
theorem inr_mem {t : Str} {ts : List Str} : (Sum.inr t : Key) ∈ ts.map Sum.inr ↔ t ∈ ts := by
  simp
/-- what is spread is frozen -/
theorem frz_fzs {rs : List Res} {E : En} : ∀ {ds : List D} {K : List D → En → Prop}, Frz rs E (fun es E' => K (ds ++ es) E') → Frz (ds.map .fz ++ rs) E K
  | [], K, h => h
  | d :: ds, K, h => frz_fzs (ds := ds) (K := fun es E' => K (d :: es) E') h
/-! ### truth -/
def truD : D → (Bool → Prop) → Prop
  | .non, K => K false
  | .bl b, K => K b
  | .int i, K => K (i != 0)
  | .str y, K => y.length ≤ 100000 ∧ K ((y.length : Int) != 0)
  | .lst ds, K => K (!ds.isEmpty)
  | .tup ds, K => K (!ds.isEmpty)
  | _, _ => False
theorem isEmpty_of {α β : Type} {xs : List α} {ys : List β} (h : xs.length = ys.length) : xs.isEmpty = ys.isEmpty := by
  cases xs <;> cases ys <;> first | rfl | cases h
def TTru (T : TX) : TXT := fun E K => T E fun x E1 => fullK x <| truD x.d fun b => K b E1
instance lf_tru {c : Cls} {P : List Nat} {W F0 : Hp} {pv : Nat → V} {Kf : PySem.W.Frag} {te : TE} {T : TX} [a : LfE c P W F0 pv te T] : LfT c P W F0 pv (tTrV Kf te) (TTru T) := ⟨fun {B E σ F O H K Q} I h q =>
  a.run I h fun x E1 v F1 O1 H1 h1 f1 I1 r1 => by
    obtain ⟨full, h1⟩ := fullK_ok h1
    have rd := r1.rf I1 full
    generalize x.d = d at h1 rd
    cases d with
    | non => simp only [Rf] at rd; subst rd; exact ⟨false, rfl, q _ _ _ _ _ h1 f1 I1⟩
    | bl b => simp only [Rf] at rd; subst rd; exact ⟨b, rfl, q _ _ _ _ _ h1 f1 I1⟩
    | int i => simp only [Rf] at rd; subst rd; exact ⟨_, rfl, q _ _ _ _ _ h1 f1 I1⟩
    | str y => simp only [Rf] at rd; subst rd; exact ⟨_, ⟨szL h1.1, rfl⟩, q _ _ _ _ _ h1.2 f1 I1⟩
    | lst ds => simp only [Rf] at rd; obtain ⟨p, vs, rfl, e, l⟩ := rd; exact ⟨_, .inl ⟨vs, SqL.of e, by rw [isEmpty_of l.len.symm]⟩, q _ _ _ _ _ h1 f1 I1⟩
    | tup ds => simp only [Rf] at rd; obtain ⟨p, vs, rfl, e, l⟩ := rd; exact ⟨_, .inr (.inl ⟨vs, SqT.of e, by rw [isEmpty_of l.len.symm]⟩), q _ _ _ _ _ h1 f1 I1⟩
    | _ => exact h1.elim⟩
/-! ### slices of lists that are written by a function -/
def cutL {α : Type} (xs : List α) (lo hi : Option Int) : List α := (xs.drop (HT.sIx xs.length 0 lo)).take (HT.sIx xs.length xs.length hi - HT.sIx xs.length 0 lo)
theorem cutD_map {α : Type} {g : α → D} {xs : List α} {lo hi : Option Int} : cutD (xs.map g) lo hi = (cutL xs lo hi).map g := by
  unfold cutD cutL
  rw [List.length_map, List.map_take, List.map_drop]
theorem cutL_mem {α : Type} {xs : List α} {lo hi : Option Int} {x : α} (h : x ∈ cutL xs lo hi) : x ∈ xs := List.mem_of_mem_drop (List.mem_of_mem_take h)
theorem cutL_len {α : Type} {xs : List α} {lo hi : Option Int} : (cutL xs lo hi).length ≤ xs.length := by
  unfold cutL
  rw [List.length_take, List.length_drop]
  omega
theorem cutL_sub {α : Type} {xs : List α} {lo hi : Option Int} : (cutL xs lo hi).Sublist xs := (List.take_sublist _ _).trans (List.drop_sublist _ _)
theorem cutL_to {α : Type} {xs : List α} {m : Int} (h0 : 0 ≤ m) : cutL xs none (some m) = xs.take m.toNat := by
  unfold cutL
  obtain ⟨k, rfl⟩ := Int.eq_ofNat_of_zero_le h0
  rw [HT.sIx_none, HT.sIx_nat, Int.toNat_natCast, List.drop_zero, Nat.sub_zero]
  by_cases c : k ≤ xs.length
  · rw [Nat.min_eq_left c]
  · rw [Nat.min_eq_right (by omega), List.take_length, List.take_of_length_le (by omega)]
theorem cutL_from {α : Type} {xs : List α} {m : Int} (h0 : 0 ≤ m) : cutL xs (some m) none = xs.drop m.toNat := by
  unfold cutL
  obtain ⟨k, rfl⟩ := Int.eq_ofNat_of_zero_le h0
  rw [HT.sIx_none, HT.sIx_nat, Int.toNat_natCast]
  by_cases c : k ≤ xs.length
  · rw [Nat.min_eq_left c, List.take_of_length_le (by rw [List.length_drop]; omega)]
  · rw [Nat.min_eq_right (by omega), List.drop_of_length_le (by omega), List.drop_of_length_le (by omega)]; simp
theorem cut_out {α : Type} {xs : List α} {m : Int} (h0 : 0 ≤ m) : (cutL xs none (some m) ++ cutL xs (some (m + 1)) none).Sublist xs := by
  rw [cutL_to h0, cutL_from (by omega)]
  have e : (m + 1).toNat = m.toNat + 1 := by omega
  rw [e]
  have := (List.Sublist.refl (xs.take m.toNat)).append (List.drop_sublist_drop_left xs (Nat.le_succ m.toNat))
  rwa [List.take_append_drop] at this
end TL
namespace TL
open PySem PySem.Spec PyProof.Rows L2 R9
/-! ### new things with new things in them -/
abbrev Mk := Addr → Option (List Nat)
def mkT (m : Mk) : List Nat → Addr → Prop := fun p a => m a = some p
/-- nodes that stand aside, their places, what they hold -/
structure Nd (S : Sx) (F : Hp) (O : Ow) (G : Hp) (m : Mk) : Prop where
  side : ∀ a, G a ≠ none → F a = none ∧ S.F0 a = none ∧ S.B a = none ∧ O a = none
  un : ∀ a b p, m a = some p → m b = some p → a = b
  dom : ∀ a p, m a = some p → G a ≠ none
section
variable {S : Sx} {E E' : En} {σ σ' : L2.St} {F F' H H' G : Hp} {O O' : Ow} {m : Mk}
theorem St.shieldN (I : St S E σ F O H) (s : ∀ a, G a ≠ none → F a = none ∧ S.F0 a = none ∧ S.B a = none ∧ O a = none) (g : Fz G H) : St { S with B := uni G S.B } E σ F O H where
  fh := I.fh
  bh := fun a u e => by
    have e : uni G S.B a = some u := e
    unfold uni at e
    split at e
    · rename_i x hx; cases e; exact g _ _ hx
    · exact I.bh _ _ e
  vb := fun a u e => by
    have h := I.vb _ _ e
    show uni G S.B a = some u
    unfold uni
    split
    · rename_i x hx
      have := (s a (by rw [hx]; exact Option.some_ne_none _)).2.2.1
      rw [h] at this; cases this
    · exact h
  f0 := I.f0
  fn := fun a h1 h2 => by
    show uni G S.B a = none
    unfold uni
    split
    · rename_i x hx
      exact absurd (s a (by rw [hx]; exact Option.some_ne_none _)).1 h1
    · exact I.fn a h1 h2
  ob := fun a t e => by
    obtain ⟨h1, h2, h3⟩ := I.ob a t e
    refine ⟨h1, ?_, h3⟩
    show uni G S.B a = none
    unfold uni
    split
    · rename_i x hx
      have := (s a (by rw [hx]; exact Option.some_ne_none _)).2.2.2
      rw [e] at this; cases this
    · exact h2
  un := I.un
  len := I.len
  sl := I.sl
  pin := I.pin
theorem uni_none {G B : Hp} {a : Addr} (h : uni G B a = none) : G a = none ∧ B a = none := by
  unfold uni at h
  split at h
  · cases h
  · rename_i e; exact ⟨e, h⟩
theorem St.unshieldN (I : St { S with B := uni G S.B } E σ F O H) (vb : Fz S.W S.B) (s : ∀ a, G a ≠ none → S.F0 a = none ∧ S.B a = none) : St S E σ F O H ∧ (∀ a, G a ≠ none → F a = none ∧ S.F0 a = none ∧ S.B a = none ∧ O a = none) ∧ Fz G H := by
  have fa : ∀ a, G a ≠ none → F a = none := fun a h => by
    cases q : F a with
    | none => rfl
    | some u =>
      have := I.fn a (by rw [q]; exact Option.some_ne_none _) (s a h).1
      exact absurd (uni_none this).1 h
  have gh : Fz G H := fun a o e => I.bh a o (by show uni G S.B a = some o; unfold uni; rw [e])
  refine ⟨⟨I.fh, fun a u e => ?_, vb, I.f0, fun a h1 h2 => (uni_none (I.fn a h1 h2)).2, fun a t e => ?_, I.un, I.len, I.sl, I.pin⟩, fun a h => ⟨fa a h, (s a h).1, (s a h).2, ?_⟩, gh⟩
  · refine I.bh a u ?_
    show uni G S.B a = some u
    unfold uni
    split
    · rename_i x hx
      have := (s a (by rw [hx]; exact Option.some_ne_none _)).2
      rw [e] at this; cases this
    · exact e
  · obtain ⟨h1, h2, h3⟩ := I.ob a t e
    exact ⟨h1, (uni_none h2).2, h3⟩
  · cases q : O a with
    | none => rfl
    | some t => exact absurd (uni_none (I.ob a t q).2.1).1 h
/-- .. become one's own -/
def newN (m : Mk) (O : Ow) : Ow := fun a => match m a with
  | some p => some (0, p)
  | none => match O a with
    | some (k, q) => if k = 0 then none else some (k, q)
    | none => none
theorem newN_some {a : Addr} {t : Tag} (h : newN m O a = some t) : (m a = some t.2 ∧ t.1 = 0) ∨ (m a = none ∧ O a = some t ∧ t.1 ≠ 0) := by
  unfold newN at h
  split at h
  · rename_i p e; cases h; exact .inl ⟨e, rfl⟩
  · rename_i e
    split at h
    · rename_i k q e2
      by_cases c : k = 0
      · rw [if_pos c] at h; cases h
      · rw [if_neg c] at h; cases h; exact .inr ⟨e, e2, c⟩
    · cases h
theorem St.takeN (I : St S E σ F O H) (n : Nd S F O G m) (g : Fz G H) : St S E σ F (newN m O) H := by
  refine { fh := I.fh, bh := I.bh, vb := I.vb, f0 := I.f0, fn := I.fn, ob := fun a t e => ?_, un := fun a b t h1 h2 => ?_, len := I.len, sl := fun j y hj => ?_, pin := I.pin }
  · rcases newN_some e with ⟨h, _⟩ | ⟨_, h, _⟩
    · have d := n.dom a _ h
      obtain ⟨a1, _, a3, _⟩ := n.side a d
      refine ⟨a1, a3, fun z => ?_⟩
      cases q : G a with
      | none => exact d q
      | some o => rw [g _ _ q] at z; cases z
    · exact I.ob a t h
  · rcases newN_some h1 with ⟨a1, a2⟩ | ⟨a1, a2, a3⟩
    · rcases newN_some h2 with ⟨b1, _⟩ | ⟨_, _, b3⟩
      · exact n.un a b _ a1 b1
      · exact absurd a2 b3
    · rcases newN_some h2 with ⟨_, b2⟩ | ⟨_, b2, _⟩
      · exact absurd b2 a3
      · exact I.un a b t a2 b2
  · have z := I.sl j y hj
    cases y with
    | nil => trivial
    | fz d => exact z
    | vw d => exact z
    | ow x =>
      obtain ⟨w, e, r⟩ := z
      refine ⟨w, e, r.mono (.refl _) fun q a _ t => ⟨?_, rfl⟩⟩
      have t' : O a = some (j + 1, q) := t
      have hm : m a = none := by
        cases c : m a with
        | none => rfl
        | some p =>
          have := (n.side a (n.dom a p c)).2.2.2
          rw [t'] at this; cases this
      show newN m O a = some (j + 1, q)
      unfold newN
      rw [hm, t']; rfl
end
section
variable {c : Cls} {F F' H H' : Hp} {tg tg' : List Nat → Addr → Prop}
mutual
/-- the tree stands at another place -/
theorem Ro.move (h : Fz F F') : ∀ {p p' : List Nat} {o : OD} {v : V}, (∀ s a, tg (p ++ s) a → tg' (p' ++ s) a ∧ H' a = H a) → Ro c F H tg p o v → Ro c F' H' tg' p' o v
  | _, _, .fz _, _, _, r => by
    simp only [Ro] at r ⊢
    exact r.mono h
  | p, p', .fl _, _, k, r => by
    simp only [Ro] at r ⊢
    obtain ⟨a, vs, e, t, q, l⟩ := r
    obtain ⟨t', e'⟩ := k [] a (by simpa using t)
    exact ⟨a, vs, e, by simpa using t', e'.trans q, l.mono h⟩
  | p, p', .fd _, _, k, r => by
    simp only [Ro] at r ⊢
    obtain ⟨a, vs, e, t, q, l⟩ := r
    obtain ⟨t', e'⟩ := k [] a (by simpa using t)
    exact ⟨a, vs, e, by simpa using t', e'.trans q, l.mono h⟩
  | p, p', .ls _, _, k, r => by
    simp only [Ro] at r ⊢
    obtain ⟨a, vs, e, t, q, l⟩ := r
    obtain ⟨t', e'⟩ := k [] a (by simpa using t)
    exact ⟨a, vs, e, by simpa using t', e'.trans q, RoL.move h (m := 0) (fun j s a ht => by simpa using k (j :: s) a (by simpa using ht)) l⟩
  | p, p', .ins _ _, _, k, r => by
    simp only [Ro] at r ⊢
    obtain ⟨a, dx, us, e, t, q, n, l⟩ := r
    obtain ⟨t', e'⟩ := k [] a (by simpa using t)
    exact ⟨a, dx, us, e, by simpa using t', e'.trans q, n, RoL.move h (m := 0) (fun j s a ht => by simpa using k (j :: s) a (by simpa using ht)) l⟩
theorem RoL.move (h : Fz F F') {m : Nat} : ∀ {p p' : List Nat} {n : Nat} {os : List OD} {vs : List V}, (∀ j s a, tg (p ++ j :: s) a → tg' (p' ++ (j + m) :: s) a ∧ H' a = H a) → RoL c F H tg p n os vs → RoL c F' H' tg' p' (n + m) os vs
  | _, _, _, [], _, _, r => by simpa only [RoL] using r
  | p, p', n, _ :: _, _, k, r => by
    simp only [RoL] at r ⊢
    obtain ⟨v, s, e, q, l⟩ := r
    refine ⟨v, s, e, Ro.move h (p := p ++ [n]) (p' := p' ++ [n + m]) (fun s a ht => by simpa using k n s a (by simpa using ht)) q, ?_⟩
    have := RoL.move h (m := m) k l
    rw [show n + 1 + m = n + m + 1 by omega] at this
    exact this
end
end
abbrev TN := En → (OD → En → Prop) → Prop
abbrev TNs := En → (List OD → En → Prop) → Prop
class LfN (c : Cls) (P : List Nat) (W F0 : Hp) (pv : Nat → V) (te : TE) (T : outParam TN) : Prop where
  run : ∀ {B : Hp} {E : En} {σ : L2.St} {F : Hp} {O : Ow} {H : Hp} {K : OD → En → Prop} {Q : VK}, St ⟨c, W, B, F0, P, pv⟩ E σ F O H → T E K →
    (∀ o E' v F' O' H' G m, K o E' → Fz F F' → St ⟨c, W, B, F0, P, pv⟩ E' σ F' O' H' → Nd ⟨c, W, B, F0, P, pv⟩ F' O' G m → Fz G H' → Ro c F' G (mkT m) [] o v → Q v H') → te σ H Q
class LfNs (c : Cls) (P : List Nat) (W F0 : Hp) (pv : Nat → V) (ta : TA) (T : outParam TNs) : Prop where
  run : ∀ {B : Hp} {E : En} {σ : L2.St} {F : Hp} {O : Ow} {H : Hp} {K : List OD → En → Prop} {Q : List V → Hp → Prop}, St ⟨c, W, B, F0, P, pv⟩ E σ F O H → T E K →
    (∀ os E' vs F' O' H' G m, K os E' → Fz F F' → St ⟨c, W, B, F0, P, pv⟩ E' σ F' O' H' → Nd ⟨c, W, B, F0, P, pv⟩ F' O' G m → (∀ a, m a ≠ some []) → Fz G H' → RoL c F' G (mkT m) [] 0 os vs → Q vs H') → ta σ H Q
section
variable {c : Cls} {P vs : List Nat} {W F0 : Hp} {pv : Nat → V} {Kf : PySem.W.Frag}
def noG : Hp := fun _ => none
def noM : Mk := fun _ => none
theorem nd_no {S : Sx} {F : Hp} {O : Ow} : Nd S F O noG noM := ⟨fun a h => absurd rfl h, fun a b p h => (by cases h), fun a p h => (by cases h)⟩
/-- what will not be changed -/
def TNF (T : TX) : TN := fun E K => T E fun y E1 => Frz [y] E1 fun ds E2 => oneK ds fun d => K (.fz d) E2
instance (priority := low) lf_nF {te : TE} {T : TX} [a : LfE c P W F0 pv te T] : LfN c P W F0 pv te (TNF T) := ⟨fun {B E σ F O H K Q} I h q =>
  a.run I h fun y E1 v F1 O1 H1 h1 f1 I1 r1 => by
    have rr : RRs ⟨c, W, B, F0, P, pv⟩ E1 σ F1 O1 H1 [y] [v] := ⟨v, [], rfl, r1, rfl⟩
    obtain ⟨ds, E2, F2, O2, kk, f2, I2, l⟩ := Frz.ok I1 rr.frz.2 rr.frz.1 h1
    obtain ⟨d, rfl, kk⟩ := oneK_ok kk
    obtain ⟨w, e, rd⟩ := l.one_inv
    cases e
    exact q _ _ _ _ _ _ noG noM kk (f1.trans f2) I2 nd_no (fun a o e => by cases e) (by simpa only [Ro] using rd)⟩
/-- list(xs) -/
def TNL (T : TX) : TN := fun E K => T E fun x E1 => seqK x fun ds => K (.fl ds) E1
def oneG (y : Addr) (o : HO) : Hp := fun a => if a = y then some o else none
def oneM (y : Addr) : Mk := fun a => if a = y then some [] else none
theorem oneM_some {y a : Addr} {p : List Nat} (h : oneM y a = some p) : a = y ∧ p = [] := by
  unfold oneM at h
  by_cases c : a = y
  · rw [if_pos c] at h; cases h; exact ⟨c, rfl⟩
  · rw [if_neg c] at h; cases h
theorem nd_one {S : Sx} {F : Hp} {O : Ow} {y : Addr} {o : HO} (s : Side S F O y) : Nd S F O (oneG y o) (oneM y) where
  side := fun a h => by
    by_cases c : a = y
    · subst c; exact ⟨s.f, s.f0, s.b, s.ow⟩
    · exact absurd (by unfold oneG; rw [if_neg c]) h
  un := fun a b p h1 h2 => (oneM_some h1).1.trans (oneM_some h2).1.symm
  dom := fun a p h => by
    obtain ⟨rfl, _⟩ := oneM_some h
    unfold oneG; rw [if_pos rfl]; exact Option.some_ne_none _
instance lf_nL {te : TE} {T : TX} [ik : IsK c Kf] [a : LfE c P W F0 pv te T] : LfN c P W F0 pv (tCB (K01.rListOf Kf) (tCons te tNil)) (TNL T) := ⟨fun {B E σ F O H K Q} I h q =>
  a.run I h fun x E1 v F1 O1 H1 h1 f1 I1 r1 => by
    obtain ⟨p, vs, ds, rfl, e, l, k⟩ := seq_ok (Kf := Kf) (ik := ik) I1 r1 h1
    refine ⟨p, vs, rfl, e, fun y hy => ?_⟩
    obtain ⟨s, J⟩ := I1.fresh (o := .lst vs) hy
    refine q _ _ _ _ _ _ (oneG y (.lst vs)) (oneM y) k f1 J (nd_one s) (fun a o e => ?_) ?_
    · unfold oneG at e
      by_cases c : a = y
      · rw [if_pos c] at e; cases e; rw [c, upd_same]
      · rw [if_neg c] at e; cases e
    · simp only [Ro]
      exact ⟨y, vs, rfl, by unfold mkT oneM; rw [if_pos rfl], by unfold oneG; rw [if_pos rfl], l⟩⟩
/-! several -/
instance lf_nsNil : LfNs c P W F0 pv tNil (fun E K => K [] E) := ⟨fun {B E σ F O H K Q} I h q => q [] _ [] _ _ _ noG noM h (.refl _) I nd_no (fun a => by intro z; cases z) (fun a o e => by cases e) (by simp only [RoL])⟩
def consM (m1 m2 : Mk) : Mk := fun a => match m1 a with
  | some p => some (0 :: p)
  | none => match m2 a with
    | some (n :: p) => some ((n + 1) :: p)
    | _ => none
theorem consM_some {m1 m2 : Mk} {a : Addr} {p : List Nat} (h : consM m1 m2 a = some p) : (∃ q, m1 a = some q ∧ p = 0 :: q) ∨ (m1 a = none ∧ ∃ n q, m2 a = some (n :: q) ∧ p = (n + 1) :: q) := by
  unfold consM at h
  split at h
  · rename_i q e; cases h; exact .inl ⟨q, e, rfl⟩
  · rename_i e
    split at h
    · rename_i n q e2; cases h; exact .inr ⟨e, n, q, e2, rfl⟩
    · cases h
def TNCons (T : TN) (U : TNs) : TNs := fun E K => T E fun o E1 => U E1 fun os E2 => K (o :: os) E2
instance lf_nsCons {te : TE} {ta : TA} {T : TN} {U : TNs} [x : LfN c P W F0 pv te T] [y : LfNs c P W F0 pv ta U] : LfNs c P W F0 pv (tCons te ta) (TNCons T U) := ⟨fun {B E σ F O H K Q} I h q =>
  x.run I h fun o E1 v F1 O1 H1 G1 m1 h1 f1 I1 n1 g1 r1 => y.run (I1.shieldN n1.side g1) h1 fun os E2 vs F2 O2 H2 G2 m2 h2 f2 I2 n2 nn g2 r2 => by
    obtain ⟨J, s1, g1'⟩ := St.unshieldN (S := ⟨c, W, B, F0, P, pv⟩) I2 I1.vb fun a h => ⟨(n1.side a h).2.1, (n1.side a h).2.2.1⟩
    have apart : ∀ a, G2 a ≠ none → G1 a = none := fun a h => (uni_none (n2.side a h).2.2.1).1
    have mm : ∀ a p, m2 a = some p → m1 a = none := fun a p e => by
      cases z : m1 a with
      | none => rfl
      | some q => exact absurd (apart a (n2.dom a p e)) (n1.dom a q z)
    refine q (o :: os) _ (v :: vs) _ _ _ (uni G1 G2) (consM m1 m2) h2 (f1.trans f2) J ⟨fun a h => ?_, fun a b p e1 e2 => ?_, fun a p e => ?_⟩ (fun a e => ?_) (fun a o e => ?_) ?_
    · by_cases z : G1 a = none
      · have : G2 a ≠ none := fun y => h (by unfold uni; rw [z]; exact y)
        obtain ⟨b1, b2, b3, b4⟩ := n2.side a this
        exact ⟨b1, b2, (uni_none b3).2, b4⟩
      · exact s1 a z
    · rcases consM_some e1 with ⟨q1, a1, rfl⟩ | ⟨_, k1, q1, a1, rfl⟩
      · rcases consM_some e2 with ⟨q2, a2, e⟩ | ⟨_, k2, q2, a2, e⟩
        · cases e; exact n1.un a b _ a1 a2
        · cases e
      · rcases consM_some e2 with ⟨q2, a2, e⟩ | ⟨_, k2, q2, a2, e⟩
        · cases e
        · cases e; exact n2.un a b _ a1 a2
    · rcases consM_some e with ⟨q1, a1, rfl⟩ | ⟨_, k1, q1, a1, rfl⟩
      · have := n1.dom a _ a1
        unfold uni
        split
        · exact Option.some_ne_none _
        · rename_i z; exact absurd z this
      · have := n2.dom a _ a1
        unfold uni
        split
        · exact Option.some_ne_none _
        · exact this
    · rcases consM_some e with ⟨q1, _, e⟩ | ⟨_, k1, q1, _, e⟩ <;> cases e
    · unfold uni at e
      split at e
      · rename_i x hx; cases e; exact g1' _ _ hx
      · exact g2 _ _ e
    · simp only [RoL]
      refine ⟨v, vs, rfl, Ro.move f2 (p := []) (p' := [] ++ [0]) (fun s a ht => ?_) r1, ?_⟩
      · have ht : m1 a = some s := by simpa [mkT] using ht
        refine ⟨by show consM m1 m2 a = _; unfold consM; rw [ht]; rfl, ?_⟩
        unfold uni
        split
        · rename_i x hx; exact hx.symm
        · rename_i hx; exact absurd hx (n1.dom a _ ht)
      · refine RoL.move (.refl _) (m := 1) (fun j s a ht => ?_) r2
        have ht : m2 a = some (j :: s) := by simpa [mkT] using ht
        refine ⟨by show consM m1 m2 a = _; unfold consM; rw [mm a _ ht, ht]; rfl, ?_⟩
        unfold uni
        rw [apart a (n2.dom a _ ht)]⟩
/-- [a, b, ..] -/
def TNLst (T : TNs) : TN := fun E K => T E fun os E1 => os.length ≤ 100000 ∧ K (.ls os) E1
def topM (y : Addr) (m : Mk) : Mk := fun a => if a = y then some [] else m a
theorem topM_some {y a : Addr} {m : Mk} {p : List Nat} (h : topM y m a = some p) : (a = y ∧ p = []) ∨ (a ≠ y ∧ m a = some p) := by
  unfold topM at h
  by_cases c : a = y
  · rw [if_pos c] at h; cases h; exact .inl ⟨c, rfl⟩
  · rw [if_neg c] at h; exact .inr ⟨c, h⟩
theorem nd_top {S : Sx} {F : Hp} {O : Ow} {y : Addr} {o : HO} {G : Hp} {m : Mk} (s : Side S F O y) (n : Nd S F O G m) (nn : ∀ a, m a ≠ some []) : Nd S F O (upd G y o) (topM y m) where
  side := fun a h => by
    by_cases c : a = y
    · subst c; exact ⟨s.f, s.f0, s.b, s.ow⟩
    · rw [upd_ne c] at h; exact n.side a h
  un := fun a b p h1 h2 => by
    rcases topM_some h1 with ⟨rfl, rfl⟩ | ⟨_, a1⟩
    · rcases topM_some h2 with ⟨rfl, _⟩ | ⟨_, b1⟩
      · rfl
      · exact absurd b1 (nn b)
    · rcases topM_some h2 with ⟨rfl, rfl⟩ | ⟨_, b1⟩
      · exact absurd a1 (nn a)
      · exact n.un a b p a1 b1
  dom := fun a p h => by
    rcases topM_some h with ⟨rfl, _⟩ | ⟨c, a1⟩
    · rw [upd_same]; exact Option.some_ne_none _
    · rw [upd_ne c]; exact n.dom a p a1
instance lf_nLst {t : TA} {T : TNs} [a : LfNs c P W F0 pv t T] : LfN c P W F0 pv (tLst t) (TNLst T) := ⟨fun {B E σ F O H K Q} I h q =>
  a.run I h fun os E1 vs F1 O1 H1 G m h1 f1 I1 n nn g r => by
    refine ⟨szL (by rw [r.len]; exact h1.1), fun y hy => ?_⟩
    obtain ⟨s, J⟩ := I1.fresh (o := .lst vs) hy
    have gy : G y = none := by
      cases z : G y with
      | none => rfl
      | some o => rw [g _ _ z] at hy; cases hy
    refine q _ _ _ _ _ _ (upd G y (.lst vs)) (topM y m) h1.2 f1 J (nd_top s n nn) (fun a o e => ?_) ?_
    · by_cases c : a = y
      · subst c; rw [upd_same] at e ⊢; exact e
      · rw [upd_ne c] at e ⊢; exact g _ _ e
    · simp only [Ro]
      refine ⟨y, vs, rfl, by show topM y m y = _; unfold topM; rw [if_pos rfl], upd_same, RoL.move (.refl _) (m := 0) (fun j s a ht => ?_) r⟩
      have ht : m a = some (j :: s) := by simpa [mkT] using ht
      have ay : a ≠ y := fun z => by
        have := n.dom a _ ht
        rw [z] at this; exact this gy
      exact ⟨by show topM y m a = _; unfold topM; rw [if_neg ay]; simpa using ht, upd_ne ay⟩⟩
/-! ### a list of such things -/
def tNwN (t : TE) : TE := t
theorem pe_nwN {X : Cx} {e : Expr} {t : TE} (h : PE X e t) : PE X e (tNwN t) := h
theorem ps_nwN {X : Cx} {st : Stmt} {t : TE} {g : TG} (h : PS X st (tAsg t g)) : PS X st (tAsg (tNwN t) g) := h
def TNwN (T : TN) : TX := fun E K => T E fun o E1 => K (.nw o) E1
instance lf_nwN {te : TE} {T : TN} [a : LfN c P W F0 pv te T] : LfE c P W F0 pv (tNwN te) (TNwN T) := ⟨fun {B E σ F O H K Q} I h q =>
  a.run I h fun o E1 v F1 O1 H1 G m h1 f1 I1 n g r => q _ _ _ _ _ _ h1 f1 (I1.takeN n g) (by
    simp only [RR]
    refine Ro.mono (.refl _) (fun p a _ ht => ?_) r
    have ht : m a = some p := ht
    refine ⟨?_, ?_⟩
    · show newN m O1 a = some (0, p)
      unfold newN; rw [ht]
    · cases z : G a with
      | none => exact absurd z (n.dom a _ ht)
      | some o => exact g _ _ z)⟩
/-- one turn, then Nx -/
def TTurnN (vs : List Nat) (G : TXG) (Tt : TXT) (Te : TN) (r : Res) (E : En) (yes : OD → En → Prop) (no : En → Prop) : Prop :=
  G r (wipeE vs 0 E) fun E2 => Tt E2 fun b E3 => ifK b (Te E3 fun o E5 => yes o (restE vs 0 E E5)) (no (restE vs 0 E E3))
def TNLc (P vs : List Nat) (Ti : TXI) (G : TXG) (Tt : TXT) (Te : TN) : TN := fun E K => Ti E fun ds E1 => (∀ k ∈ vs, k ∉ P) ∧ ∃ I : Nat → List OD → En → Prop, I 0 [] E1 ∧
  (∀ i r acc E, ds[i]? = some r → I i acc E → TTurnN vs G Tt Te r E (fun o E' => acc.length < 100000 ∧ I (i + 1) (acc ++ [o]) E') (I (i + 1) acc)) ∧ ∀ acc E, I ds.length acc E → K (.ls acc) E
def snocM (n : Nat) (m1 m2 : Mk) : Mk := fun a => match m1 a with
  | some p => some p
  | none => (m2 a).map (n :: ·)
theorem snocM_some {n : Nat} {m1 m2 : Mk} {a : Addr} {p : List Nat} (h : snocM n m1 m2 a = some p) : m1 a = some p ∨ (m1 a = none ∧ ∃ q, m2 a = some q ∧ p = n :: q) := by
  unfold snocM at h
  split at h
  · rename_i q e; cases h; exact .inl e
  · rename_i e
    obtain ⟨q, h1, h2⟩ := Option.map_eq_some_iff.mp h
    exact .inr ⟨e, q, h1, h2.symm⟩
/-- the list under way: D, its items' nodes -/
structure Way (S : Sx) (F : Hp) (O : Ow) (H : Hp) (D : Addr) (acc : List OD) (us : List V) (G : Hp) (m : Mk) : Prop where
  nd : Nd S F O G m
  g : Fz G H
  l : RoL S.c F G (mkT m) [] 0 acc us
  d : G D = some (.lst us)
  nn : ∀ a, m a ≠ some []
  md : m D = none
  lt : ∀ a j s, m a = some (j :: s) → j < acc.length
theorem Way.next {S : Sx} {F F2 : Hp} {O O2 : Ow} {H H2 : Hp} {D : Addr} {acc : List OD} {us : List V} {G G2 : Hp} {m m2 : Mk} {o : OD} {v : V} (w : Way S F O H D acc us G m) (f : Fz F F2)
    (s : ∀ a, G a ≠ none → F2 a = none ∧ S.F0 a = none ∧ S.B a = none ∧ O2 a = none) (g : Fz G H2) (n2 : Nd { S with B := uni G S.B } F2 O2 G2 m2) (g2 : Fz G2 H2) (r : Ro S.c F2 G2 (mkT m2) [] o v) :
    Way S F2 O2 (upd H2 D (.lst (us ++ [v]))) D (acc ++ [o]) (us ++ [v]) (upd (uni G G2) D (.lst (us ++ [v]))) (snocM acc.length m m2) := by
  have apart : ∀ a, G2 a ≠ none → G a = none := fun a h => (uni_none (n2.side a h).2.2.1).1
  have mm : ∀ a p, m2 a = some p → m a = none := fun a p e => by
    cases z : m a with
    | none => rfl
    | some q => exact absurd (apart a (n2.dom a p e)) (w.nd.dom a q z)
  have gD : G D ≠ none := by rw [w.d]; exact Option.some_ne_none _
  have m2D : m2 D = none := by
    cases z : m2 D with
    | none => rfl
    | some p => exact absurd (apart D (n2.dom D p z)) gD
  refine { nd := ⟨fun a h => ?_, fun a b p e1 e2 => ?_, fun a p e => ?_⟩, g := fun a o e => ?_, l := ?_, d := upd_same, nn := fun a e => ?_, md := by unfold snocM; rw [w.md, m2D]; rfl, lt := fun a j s e => ?_ }
  · by_cases z : G a = none
    · have ad : a ≠ D := fun y => gD (y ▸ z)
      rw [upd_ne ad] at h
      have : G2 a ≠ none := fun y => h (by unfold uni; rw [z]; exact y)
      obtain ⟨b1, b2, b3, b4⟩ := n2.side a this
      exact ⟨b1, b2, (uni_none b3).2, b4⟩
    · exact s a z
  · rcases snocM_some e1 with a1 | ⟨_, q1, a1, rfl⟩
    · rcases snocM_some e2 with a2 | ⟨_, q2, a2, rfl⟩
      · exact w.nd.un a b p a1 a2
      · have := w.lt a _ _ a1; omega
    · rcases snocM_some e2 with a2 | ⟨_, q2, a2, e⟩
      · have := w.lt b _ _ a2; omega
      · cases e; exact n2.un a b _ a1 a2
  · by_cases ad : a = D
    · rw [ad, upd_same]; exact Option.some_ne_none _
    · rw [upd_ne ad]
      rcases snocM_some e with a1 | ⟨_, q1, a1, rfl⟩
      · have := w.nd.dom a _ a1
        unfold uni
        split
        · exact Option.some_ne_none _
        · rename_i z; exact absurd z this
      · have := n2.dom a _ a1
        unfold uni
        split
        · exact Option.some_ne_none _
        · exact this
  · by_cases ad : a = D
    · subst ad; rw [upd_same] at e ⊢; exact e
    · rw [upd_ne ad] at e ⊢
      unfold uni at e
      split at e
      · rename_i x hx; cases e; exact g _ _ hx
      · exact g2 _ _ e
  · refine RoL.app (RoL.move f (m := 0) (fun j s a ht => ?_) w.l) (Ro.move (.refl _) (p := []) (fun s a ht => ?_) r)
    · have ht : m a = some (j :: s) := by simpa [mkT] using ht
      have ad : a ≠ D := fun z => by rw [z, w.md] at ht; cases ht
      refine ⟨by show snocM _ m m2 a = _; unfold snocM; rw [ht]; rfl, ?_⟩
      rw [upd_ne ad]
      unfold uni
      split
      · rename_i x hx; exact hx.symm
      · rename_i hx; exact absurd hx (w.nd.dom a _ ht)
    · have ht : m2 a = some s := by simpa [mkT] using ht
      have ad : a ≠ D := fun z => by rw [z, m2D] at ht; cases ht
      refine ⟨by show snocM _ m m2 a = _; unfold snocM; rw [mm a _ ht, ht]; simp, ?_⟩
      rw [upd_ne ad]
      unfold uni
      rw [apart a (n2.dom a _ ht)]
  · rcases snocM_some e with a1 | ⟨_, q1, _, e⟩
    · exact w.nn a a1
    · cases e
  · rcases snocM_some e with a1 | ⟨_, q1, _, e⟩
    · have := w.lt a _ _ a1
      rw [List.length_append]; omega
    · cases e; rw [List.length_append]; exact Nat.lt_succ_self _
theorem Way.keep {S : Sx} {F F2 : Hp} {O O2 : Ow} {H H2 : Hp} {D : Addr} {acc : List OD} {us : List V} {G : Hp} {m : Mk} (w : Way S F O H D acc us G m) (f : Fz F F2)
    (s : ∀ a, G a ≠ none → F2 a = none ∧ S.F0 a = none ∧ S.B a = none ∧ O2 a = none) (g : Fz G H2) : Way S F2 O2 H2 D acc us G m :=
  ⟨⟨s, w.nd.un, w.nd.dom⟩, g, RoL.move f (m := 0) (fun j s a ht => ⟨by simpa using ht, rfl⟩) w.l, w.d, w.nn, w.md, w.lt⟩
theorem Way.side {S : Sx} {F : Hp} {O : Ow} {H : Hp} {D : Addr} {acc : List OD} {us : List V} {G : Hp} {m : Mk} (w : Way S F O H D acc us G m) : Side S F O D := by
  obtain ⟨a, b, c, d⟩ := w.nd.side D (by rw [w.d]; exact Option.some_ne_none _)
  exact ⟨a, b, c, d⟩
instance lf_nLc {w : TI} {g : TG} {tt : TT} {te : TE} {Ti : TXI} {G : TXG} {Tt : TXT} {Te : TN} [a : LfI c P W F0 pv w Ti] [b : LfGw c P W F0 pv vs g G] [z : LfT c P W F0 pv tt Tt] [e : LfN c P W F0 pv te Te] : LfN c P W F0 pv (tLc w g tt te vs) (TNLc P vs Ti G Tt Te) := ⟨fun {B E σ F O H K Q} I h q =>
  a.run I h fun ds E1 J F1 O1 H1 h1 f1 I1 ok D hD => by
    obtain ⟨hP, Iv, i0, turn, fin⟩ := h1
    obtain ⟨s0, J0⟩ := I1.fresh (o := .lst []) hD
    have g0 : Fz (oneG D (.lst [])) (upd H1 D (.lst [])) := fun a o e => by
      unfold oneG at e
      by_cases c : a = D
      · rw [if_pos c] at e; cases e; rw [c, upd_same]
      · rw [if_neg c] at e; cases e
    have w0 : Way ⟨c, W, B, F0, P, pv⟩ F1 O1 (upd H1 D (.lst [])) D [] [] (oneG D (.lst [])) noM :=
      { nd := ⟨(nd_one s0).side, fun a b p h => (by cases h), fun a p h => (by cases h)⟩, g := g0, l := (by simp only [RoL]), d := (by unfold oneG; rw [if_pos rfl]), nn := fun a h => (by cases h), md := rfl, lt := fun a j s h => (by cases h) }
    refine ⟨fun i m H' => m = ds.length - i ∧ i ≤ ds.length ∧ ∃ acc E' F' O' us Gn mn, Iv i acc E' ∧ Fz F1 F' ∧ St ⟨c, W, B, F0, P, pv⟩ E' σ F' O' H' ∧ Way ⟨c, W, B, F0, P, pv⟩ F' O' H' D acc us Gn mn,
      ⟨_, rfl, Nat.zero_le _, [], E1, F1, O1, [], _, _, i0, .refl _, J0, w0⟩, ?_⟩
    rintro i mm H2 ⟨rfl, hi, acc, E2, F2, O2, us, Gn, mn, iv, f2, I2, wy⟩
    have sh := I2.shieldN wy.nd.side wy.g
    obtain ⟨go, stop, yld⟩ := ok.2 _ E2 σ F2 O2 H2 sh f2
    have back : ∀ {E' : En} {F' O' H'}, St ⟨c, W, uni Gn B, F0, P, pv⟩ E' σ F' O' H' → St ⟨c, W, B, F0, P, pv⟩ E' σ F' O' H' ∧ (∀ a, Gn a ≠ none → F' a = none ∧ F0 a = none ∧ B a = none ∧ O' a = none) ∧ Fz Gn H' := fun J =>
      St.unshieldN (S := ⟨c, W, B, F0, P, pv⟩) J I1.vb fun a h => ⟨(wy.nd.side a h).2.1, (wy.nd.side a h).2.2.1⟩
    by_cases hlt : i < ds.length
    · refine .inr ⟨go i hlt, fun H' => ∃ acc E' F' O' us Gn mn, Iv (i + 1) acc E' ∧ Fz F1 F' ∧ St ⟨c, W, B, F0, P, pv⟩ E' σ F' O' H' ∧ Way ⟨c, W, B, F0, P, pv⟩ F' O' H' D acc us Gn mn, fun H' n => ⟨ds.length - (i + 1), by omega, rfl, hlt, n⟩, fun x H' y => ?_⟩
      obtain ⟨F3, f3, I3, rr⟩ := yld i x H' _ y (List.getElem?_eq_getElem hlt)
      have tu := turn i _ acc E2 (List.getElem?_eq_getElem hlt) iv
      refine b.run (I3.wipe hP) (RR.stl (ok.1 _ (List.getElem_mem hlt)) rr) tu fun E4 σ4 F4 O4 H4 h4 f4 I4 w4 => ?_
      have w4 : wipe σ4 vs = wipe σ vs := w4.trans wipe_wipe
      refine ⟨w4, z.run I4 h4 fun bb E5 F5 O5 H5 h5 f5 I5 => ?_⟩
      cases bb with
      | false =>
        rw [if_neg Bool.false_ne_true]
        have J5 := I3.rest I5 (f4.trans f5) hP w4
        obtain ⟨J1, s1, g1⟩ := back J5
        exact ⟨acc, _, F5, O5, us, Gn, mn, h5, f2.trans (f3.trans (f4.trans f5)), J1, wy.keep (f3.trans (f4.trans f5)) s1 g1⟩
      | true =>
        rw [if_pos rfl]
        refine e.run I5 h5 fun o E6 v F6 O6 H6 G6 m6 h6 f6 I6 n6 g6 r6 => ?_
        have J6 := I3.rest I6 (f4.trans (f5.trans f6)) hP w4
        obtain ⟨J1, s1, g1⟩ := back J6
        have wn := wy.next (f3.trans (f4.trans (f5.trans f6))) s1 g1 n6 g6 r6
        have hs := (wy.keep (f3.trans (f4.trans (f5.trans f6))) s1 g1).side
        exact ⟨us, g1 _ _ wy.d, szL2 (by rw [wy.l.len]; exact h6.1), acc ++ [o], _, F6, O6, us ++ [v], _, _, h6.2, f2.trans (f3.trans (f4.trans (f5.trans f6))), J1.junk hs, wn⟩
    · have e0 : i = ds.length := by omega
      subst e0
      refine .inl ⟨stop, ?_⟩
      have gD : Gn D = some (.lst us) := wy.d
      refine q _ _ _ _ _ _ Gn (topM D mn) (fin acc E2 iv) (f1.trans f2) I2 ?_ wy.g ?_
      · have n := nd_top (o := .lst us) wy.side wy.nd wy.nn
        have eG : upd Gn D (.lst us) = Gn := funext fun a => by
          by_cases c : a = D
          · rw [c, upd_same, gD]
          · rw [upd_ne c]
        rw [eG] at n
        exact n
      · simp only [Ro]
        refine ⟨D, us, rfl, by show topM D mn D = _; unfold topM; rw [if_pos rfl], gD, RoL.move (.refl _) (m := 0) (fun j s a ht => ?_) wy.l⟩
        have ht : mn a = some (j :: s) := by simpa [mkT] using ht
        have ay : a ≠ D := fun z => by rw [z, wy.md] at ht; cases ht
        exact ⟨by show topM D mn a = _; unfold topM; rw [if_neg ay]; simpa using ht, rfl⟩⟩
/-! ### places in such things -/
def tPl (t : TE) : TE := t
theorem pe_pl {X : Cx} {e : Expr} {t : TE} (h : PE X e t) : PE X e (tPl t) := h
def gPl (g : TG) : TG := g
theorem pg_pl {X : Cx} {e : Expr} {g : TG} (h : PG X e g) : PG X e (gPl g) := h
def plR (s : Nat) (p : List Nat) : OD → Res
  | .fz d => .fz d
  | o => .pl s p o
/-- xs[i], xs of one's own -/
def TPlIx (T U : TX) : TX := fun E K => T E fun x E1 => U E1 fun y E2 => nowK E2 x <| intK y fun i => match x with
  | .pl s p (.ls os) => ∃ j o, ixN os.length i = some j ∧ os[j]? = some o ∧ K (plR s (p ++ [j]) o) E2
  | _ => False
theorem od_at : ∀ {p q : List Nat} {o x : OD}, o.at p = some x → o.at (p ++ q) = x.at q
  | [], _, _, _, e => by simp only [OD.at] at e; cases e; rfl
  | k :: p, q, .ls os, x, e => by
    simp only [OD.at, List.cons_append] at e ⊢
    cases h : os[k]? with
    | none => rw [h] at e; cases e
    | some o => rw [h] at e; exact od_at (p := p) e
  | k :: p, q, .ins _ os, x, e => by
    simp only [OD.at, List.cons_append] at e ⊢
    cases h : os[k]? with
    | none => rw [h] at e; cases e
    | some o => rw [h] at e; exact od_at (p := p) e
  | _ :: _, _, .fz _, _, e => by simp only [OD.at] at e; cases e
  | _ :: _, _, .fl _, _, e => by simp only [OD.at] at e; cases e
  | _ :: _, _, .fd _, _, e => by simp only [OD.at] at e; cases e
theorem plR_rr {S : Sx} {E : En} {σ : L2.St} {F H : Hp} {O : Ow} {s : Nat} {p : List Nat} {os : List OD} {j : Nat} {o : OD} {v u : V} (h : RR S E σ F O H (.pl s p (.ls os)) v) (e : os[j]? = some o) (r : Ro S.c F H (tgO O (s + 1)) (p ++ [j]) o u) : RR S E σ F O H (plR s (p ++ [j]) o) u := by
  obtain ⟨⟨root, he, hr⟩, _, _⟩ := h
  have key : RR S E σ F O H (.pl s (p ++ [j]) o) u := ⟨⟨root, he, by rw [od_at hr]; simp only [OD.at]; rw [e]; rfl⟩, fun z => by simp at z, r⟩
  cases o with
  | fz d => simp only [plR, RR]; simpa only [Ro] using r
  | _ => exact key
instance lf_plIx {ta tb : TE} {T U : TX} [a : LfE c P W F0 pv ta T] [b : LfE c P W F0 pv tb U] : LfE c P W F0 pv (tPl (tOp (rIxL Kf) ta tb)) (TPlIx T U) := ⟨fun {B E σ F O H K Q} I h q =>
  a.run I h fun x E1 v F1 O1 H1 h1 f1 I1 r1 => b.run I1 h1 fun y E2 u F2 O2 H2 h2 f2 I2 r2 => by
    obtain ⟨hn, h2⟩ := nowK_ok h2
    obtain ⟨i, ei, fy, h2⟩ := intK_ok h2
    have q2 := r2.rf I2 fy
    rw [ei] at q2
    obtain rfl : u = .int i := by simpa only [Rf] using q2
    have r1 := r1.now f2 I2 hn
    split at h2
    rotate_left
    · exact h2.elim
    rename_i s p os
    obtain ⟨j, o, hj, ho, k⟩ := h2
    have ro := r1.2.2
    simp only [Ro] at ro
    obtain ⟨a', us, rfl, _, g, l⟩ := ro
    obtain ⟨w, hw, rw_⟩ := l.get ho
    rw [Nat.zero_add] at rw_
    refine ⟨a', us, i, w, rfl, rfl, SqL.of g, ?_, q _ _ _ _ _ _ k (f1.trans f2) I2 (plR_rr r1 ho rw_)⟩
    unfold L2.atI
    rw [l.len, hj]; exact hw⟩
/-- what stands at a place is another thing -/
theorem St.chgP {S : Sx} {E : En} {σ : L2.St} {F H : Hp} {O : Ow} (I : St S E σ F O H) {s : Nat} {p : List Nat} {root : OD} {x n : OD} {a : Addr} {us ws : List V} (he : E[s]? = some (.ow root)) (hx : root.at p = some x) (ta : tgO O (s + 1) p a) (hu : H a = some (.lst us))
    (new : ∀ w, Ro S.c F H (tgO O (s + 1)) p x w → Ro S.c F (upd H a (.lst ws)) (tgO O (s + 1)) p n w) : St S (E.set s (Ent.mk (OD.put n p root))) σ F O (upd H a (.lst ws)) := I.chg he hx ta new
/-- xs[2], xs of one's own -/
def TPlIxC (T : TX) (i : Int) : TX := fun E K => T E fun x E1 => match x with
  | .pl s p (.ls os) => ∃ j o, ixN os.length i = some j ∧ os[j]? = some o ∧ K (plR s (p ++ [j]) o) E1
  | .pl _ _ (.fl ds) => atIK ds i fun d => K (.fz d) E1
  | _ => False
instance (priority := high) lf_plIxC {ta : TE} {i : Int} {T : TX} [a : LfE c P W F0 pv ta T] : LfE c P W F0 pv (tPl (tOp (rIxL Kf) ta (tC (.int i)))) (TPlIxC T i) := ⟨fun {B E σ F O H K Q} I h q =>
  a.run I h fun x E1 v F1 O1 H1 h1 f1 I1 r1 => by
    split at h1
    · rename_i s p os
      obtain ⟨j, o, hj, ho, k⟩ := h1
      have ro := r1.2.2
      simp only [Ro] at ro
      obtain ⟨a', us, rfl, _, g, l⟩ := ro
      obtain ⟨w, hw, rw_⟩ := l.get ho
      rw [Nat.zero_add] at rw_
      refine ⟨a', us, i, w, rfl, rfl, SqL.of g, ?_, q _ _ _ _ _ _ k f1 I1 (plR_rr r1 ho rw_)⟩
      unfold L2.atI
      rw [l.len, hj]; exact hw
    · rename_i s p ds
      obtain ⟨d, e, k⟩ := atIK_ok h1
      have ro := r1.2.2
      simp only [Ro] at ro
      obtain ⟨a', us, rfl, _, g, l⟩ := ro
      obtain ⟨w, e2, rw_⟩ := l.atI e
      exact ⟨a', us, i, w, rfl, rfl, SqL.of g, e2, q _ _ _ _ _ _ k f1 I1 rw_⟩
    · exact h1.elim⟩
/-- xs[2] = e, xs at a place -/
def TPlSet (T : TX) (i : Int) : TXG := fun r E K => Frz [r] E fun es E1 => oneK es fun d => T E1 fun x E3 => match x with
  | .pl s p (.fl ds) => ∃ root j, E3[s]? = some (.ow root) ∧ root.at p = some (.fl ds) ∧ ixN ds.length i = some j ∧ K (E3.set s (Ent.mk (OD.put (.fl (ds.set j d)) p root)))
  | .pl s p (.ls os) => ∃ root j e, E3[s]? = some (.ow root) ∧ root.at p = some (.ls os) ∧ ixN os.length i = some j ∧ os[j]? = some (.fz e) ∧ K (E3.set s (Ent.mk (OD.put (.ls (os.set j (.fz d))) p root)))
  | _ => False
theorem RoL.setF {F H H' : Hp} {tg : List Nat → Addr → Prop} : ∀ {os : List OD} {p : List Nat} {n j : Nat} {us : List V} {e d : D} {v : V}, RoL c F H tg p n os us → os[j]? = some (.fz e) → Rf c F d v → (∀ i s a, tg (p ++ i :: s) a → H' a = H a) → RoL c F H' tg p n (os.set j (.fz d)) (us.set j v)
  | [], _, _, _, _, _, _, _, _, e, _, _ => by simp at e
  | o :: os, p, n, j, _, e, d, v, r, ho, rd, k => by
    simp only [RoL] at r
    obtain ⟨w, s, rfl, r0, l⟩ := r
    cases j with
    | zero =>
      simp only [List.set_cons_zero, RoL]
      refine ⟨v, s, rfl, by simpa only [Ro] using rd, ?_⟩
      simpa using RoL.move (.refl _) (m := 0) (p' := p) (fun j s a ht => ⟨by simpa using ht, k j s a ht⟩) l
    | succ j =>
      simp only [List.set_cons_succ, RoL]
      refine ⟨w, _, rfl, r0.move (.refl _) (fun s a ht => ⟨ht, k n s a (by simpa using ht)⟩), l.setF (by simpa using ho) rd k⟩
instance lf_plSet {to : TE} {i : Int} {T : TX} [a : LfE c P W F0 pv to T] : LfG c P W F0 pv (gPl (gSub to (tC (.int i)) rSetL)) (TPlSet T i) := ⟨fun {B E σ F O H r v K Q} I rr h q => by
  have r0 : RRs ⟨c, W, B, F0, P, pv⟩ E σ F O H [r] [v] := ⟨v, [], rfl, rr, rfl⟩
  obtain ⟨es, E1, F1, O1, h1, f1, I1, l⟩ := Frz.ok I r0.frz.2 r0.frz.1 h
  obtain ⟨d, rfl, h1⟩ := oneK_ok h1
  obtain ⟨v', e', rd⟩ := l.one_inv
  cases e'
  refine a.run I1 h1 fun x E3 w F3 O3 H3 h3 f3 I3 r2 => ?_
  have rd := rd.mono f3
  split at h3
  · rename_i s p ds
    obtain ⟨root, j, he, hr, hj, kk⟩ := h3
    have ro := r2.2.2
    simp only [Ro] at ro
    obtain ⟨a', us, rfl, tb, e, lu⟩ := ro
    refine ⟨a', us, i, j, rfl, rfl, e, by rw [lu.len]; exact hj, ?_⟩
    refine q _ _ _ _ _ kk (f1.trans f3) (I3.chgP (ws := us.set j v) he hr tb e fun w hw => ?_)
    simp only [Ro] at hw ⊢
    obtain ⟨b, _, rfl, tb2, _⟩ := hw
    rw [I3.un a' b _ tb tb2]
    exact ⟨b, _, rfl, tb2, upd_same, lu.set rd⟩
  · rename_i s p os
    obtain ⟨root, j, e0, he, hr, hj, ho, kk⟩ := h3
    have ro := r2.2.2
    simp only [Ro] at ro
    obtain ⟨a', us, rfl, tb, e, lu⟩ := ro
    refine ⟨a', us, i, j, rfl, rfl, e, by rw [lu.len]; exact hj, ?_⟩
    refine q _ _ _ _ _ kk (f1.trans f3) (I3.chgP (ws := us.set j v) he hr tb e fun w hw => ?_)
    simp only [Ro] at hw ⊢
    obtain ⟨b, _, rfl, tb2, _⟩ := hw
    have eb := I3.un a' b _ tb tb2
    subst eb
    refine ⟨a', _, rfl, tb, upd_same, lu.setF ho rd fun i t a ht => upd_ne fun z => ?_⟩
    subst z
    unfold tgO at ht tb
    rw [ht] at tb
    have := congrArg (fun x => x.map (fun y => y.2.length)) tb
    simp at this
  · exact h3.elim⟩
theorem RoL.out {F H H' : Hp} {tg : List Nat → Addr → Prop} {p : List Nat} {os : List OD} {us : List V} (l : RoL c F H tg p 0 os us) (k : ∀ i s a, tg (p ++ i :: s) a → H' a = H a) : RoL c F H' tg p 0 os us := by
  simpa using RoL.move (.refl _) (m := 0) (p' := p) (fun j s a ht => ⟨by simpa using ht, k j s a ht⟩) l
theorem tg_below {O : Ow} {s i : Nat} {p t : List Nat} {a a' : Addr} (tb : tgO O s p a') (ht : tgO O s (p ++ i :: t) a) : a ≠ a' := fun z => by
  subst z
  unfold tgO at ht tb
  rw [ht] at tb
  have := congrArg (fun x => x.map (fun y => y.2.length)) tb
  simp at this
/-- xs.append('a'), xs at a place -/
def TPlAppC (T : TX) (v : V) : TX := fun E K => T E fun x E1 => match x with
  | .pl s p (.fl ds) => ∃ root, E1[s]? = some (.ow root) ∧ root.at p = some (.fl ds) ∧ ds.length < 100000 ∧ K (.fz .non) (E1.set s (Ent.mk (OD.put (.fl (ds ++ [atomD v])) p root)))
  | _ => False
instance (priority := high) lf_plAppC {to : TE} {v : V} {T : TX} [a : LfE c P W F0 pv to T] : LfE c P W F0 pv (tPl (tBM Kf "list" rAppend to (tCons (tC v) tNil))) (TPlAppC T v) := ⟨fun {B E σ F O H K Q} I h q =>
  a.run I h fun x E1 w F1 O1 H1 h1 f1 I1 r1 => by
    split at h1
    rotate_left
    · exact h1.elim
    rename_i s p ds
    obtain ⟨root, he, hr, hl, kk⟩ := h1
    have ro := r1.2.2
    simp only [Ro] at ro
    obtain ⟨a', us, rfl, tb, e, lu⟩ := ro
    refine ⟨.inl ⟨rfl, us, SqL.of e⟩, a', us, v, rfl, rfl, e, szL2 (by rw [lu.len]; exact hl), ?_⟩
    refine q _ _ _ _ _ _ kk f1 (I1.chgP (ws := us ++ [v]) he hr tb e fun w hw => ?_) (by simp only [RR, Rf])
    simp only [Ro] at hw ⊢
    obtain ⟨b, _, rfl, tb2, _⟩ := hw
    rw [I1.un a' b _ tb tb2]
    exact ⟨b, _, rfl, tb2, upd_same, lu.app (.one atomD_rf)⟩⟩
/-- xs.append(e), xs a list of such things -/
def TPlApp (T : TX) (U : TXA) : TX := fun E K => T E fun x E1 => match x with
  | .pl s [] (.ls os) => U E1 fun rs E2 => E2[s]? = some (.ow (.ls os)) ∧ Frz rs E2 fun es E3 => oneK es fun d => E3[s]? = some (.ow (.ls os)) ∧ os.length < 100000 ∧ K (.fz .non) (E3.set s (.ow (.ls (os ++ [.fz d]))))
  | _ => False
instance lf_plApp {to : TE} {t : TA} {T : TX} {U : TXA} [a : LfE c P W F0 pv to T] [b : LfA c P W F0 pv t U] : LfE c P W F0 pv (tPl (tBM Kf "list" rAppend to t)) (TPlApp T U) := ⟨fun {B E σ F O H K Q} I h q =>
  a.run I h fun x E1 v F1 O1 H1 h1 f1 I1 r1 => by
    split at h1
    rotate_left
    · exact h1.elim
    rename_i s os
    have ro := r1.2.2
    simp only [Ro] at ro
    obtain ⟨a0, us0, e0, _, q0, _⟩ := ro
    refine ⟨by rw [e0]; exact .inl ⟨rfl, us0, SqL.of q0⟩, b.run I1 h1 fun rs E2 vs F2 O2 H2 h2 f2 I2 r2 => ?_⟩
    obtain ⟨hn, h2⟩ := h2
    have r1 := r1.now f2 I2 ⟨rfl, hn⟩
    obtain ⟨es, E3, F3, O3, k, f3, I3, l⟩ := Frz.ok I2 r2.frz.2 r2.frz.1 h2
    obtain ⟨d, rfl, he, hl, k⟩ := oneK_ok k
    have hs := r1.2.1 rfl
    obtain ⟨y, rfl, ry⟩ := l.one_inv
    obtain ⟨w, hw, ro⟩ := I3.sl s _ he
    rw [hs] at hw
    obtain rfl : v = w := by simpa using hw
    simp only [Ro] at ro
    obtain ⟨a', us, rfl, tb, e, lu⟩ := ro
    refine ⟨a', us, y, rfl, rfl, e, szL2 (by rw [lu.len]; exact hl), ?_⟩
    refine q _ _ _ _ _ _ k (f1.trans (f2.trans f3)) (I3.chgP (n := OD.ls (os ++ [OD.fz d])) (ws := us ++ [y]) he (p := []) rfl tb e fun w hw => ?_) (by simp only [RR, Rf])
    simp only [Ro] at hw ⊢
    obtain ⟨b, _, rfl, tb2, _⟩ := hw
    have eb := I3.un a' b _ tb tb2
    subst eb
    exact ⟨a', _, rfl, tb, upd_same, (lu.out fun i t a ht => upd_ne (tg_below tb ht)).app (by simpa only [Ro] using ry)⟩⟩
end
theorem erL_len : ∀ {os : List OD}, (OD.erL os).length = os.length
  | [] => rfl
  | _ :: os => by simp only [OD.erL, List.length_cons, erL_len]
theorem erL_map {α : Type} {f : α → OD} : ∀ {xs : List α}, OD.erL (xs.map f) = xs.map fun x => (f x).er
  | [] => rfl
  | x :: xs => by simp only [List.map_cons, OD.erL, erL_map]
theorem fullL_of : ∀ {os : List OD}, (∀ o ∈ os, o.full) → OD.fullL os
  | [], _ => trivial
  | o :: os, h => ⟨h o List.mem_cons_self, fullL_of fun x hx => h x (List.mem_cons_of_mem _ hx)⟩
end TL
namespace TL
open PySem PySem.Spec PyProof.Rows L2 R9
section
variable {c : Cls} {P vs : List Nat} {W F0 : Hp} {pv : Nat → V} {Kf : PySem.W.Frag}
/-! ### tuples: t + u, t[a:b] -/
def ftK : Res → (List D → Prop) → Prop
  | .fz (.tup ds), K => K ds
  | _, _ => False
theorem ft_ok {r : Res} {K : List D → Prop} (h : ftK r K) : ∃ ds, r = .fz (.tup ds) ∧ K ds := by
  unfold ftK at h
  split at h
  · exact ⟨_, rfl, h⟩
  · exact h.elim
def TCatA (T U : TX) : TX := fun E K => T E fun x E1 => U E1 fun y E2 => ftK x fun ds => ftK y fun es => ds.length + es.length ≤ 100000 ∧ K (.fz (.tup (ds ++ es))) E2
instance lf_catA {ta tb : TE} {T U : TX} [a : LfE c P W F0 pv ta T] [b : LfE c P W F0 pv tb U] : LfE c P W F0 pv (tOp (rCatA Kf) ta tb) (TCatA T U) := ⟨fun {B E σ F O H K Q} I h q =>
  a.run I h fun x E1 v F1 O1 H1 h1 f1 I1 r1 => b.run I1 h1 fun y E2 u F2 O2 H2 h2 f2 I2 r2 => by
    obtain ⟨ds, ex, h3⟩ := ft_ok h2
    obtain ⟨es, ey, hl, k⟩ := ft_ok h3
    subst ex ey
    have r1' : Rf c F2 (.tup ds) v := Rf.mono f2 r1
    have s1 := r1'
    have s2 := r2
    simp only [RR, Rf] at r1' r2
    obtain ⟨p, xs, rfl, e, l⟩ := r1'
    obtain ⟨p', ys, rfl, e', l'⟩ := r2
    refine ⟨p, p', xs, ys, rfl, rfl, SqT.of (I2.fh _ _ e), SqT.of (I2.fh _ _ e'), szL (by rw [l.len, l'.len]; exact hl), fun z => ?_, fun _ z => ?_, fun _ _ y hy => ?_⟩
    · subst z
      cases ds with
      | nil => exact q _ _ _ _ _ _ k (f1.trans f2) I2 s2
      | cons d ds => have := l.len; cases this
    · subst z
      cases es with
      | nil => exact q _ _ _ _ _ _ k (f1.trans f2) I2 (by rw [List.append_nil]; exact s1)
      | cons d es => have := l'.len; cases this
    · have f := fz_upd (o := .tup (xs ++ ys)) (I2.fh.none hy)
      exact q _ _ _ _ _ _ k (f1.trans (f2.trans f)) (I2.newF hy _) (by simp only [RR, Rf]; exact ⟨y, _, rfl, upd_same, (l.app l').mono f⟩)⟩
def TSlA (T : TX) (U Z : TXO) : TX := fun E K => T E fun x E1 => U E1 fun l E2 => Z E2 fun u E3 => ftK x fun ds => K (.fz (.tup (cutD ds l u))) E3
instance lf_slA {te : TE} {tl th : TO} {T : TX} {U Z : TXO} [a : LfE c P W F0 pv te T] [b : LfO c P W F0 pv tl U] [d : LfO c P W F0 pv th Z] : LfE c P W F0 pv (tSl (rSlA Kf) te tl th) (TSlA T U Z) := ⟨fun {B E σ F O H K Q} I h q =>
  a.run I h fun x E1 v F1 O1 H1 h1 f1 I1 r1 => b.run I1 h1 fun l E2 F2 O2 H2 h2 f2 I2 => d.run I2 h2 fun u E3 F3 O3 H3 h3 f3 I3 => by
    obtain ⟨ds, rfl, k⟩ := ft_ok h3
    have r1' : Rf c F3 (.tup ds) v := Rf.mono (f2.trans f3) r1
    have s1 := r1'
    simp only [Rf] at r1'
    obtain ⟨p, xs, rfl, e, lr⟩ := r1'
    refine ⟨p, xs, rfl, SqT.of (I3.fh _ _ e), fun hw => ?_, fun _ y hy => ?_⟩
    · have e2 : cutD ds l u = ds := by
        unfold cutD
        rw [lr.len] at hw
        rw [hw.1, hw.2]; simp
      rw [e2] at k
      exact q _ _ _ _ _ _ k (f1.trans (f2.trans f3)) I3 s1
    · have f := fz_upd (o := .tup (cutV xs l u)) (I3.fh.none hy)
      exact q _ _ _ _ _ _ k (f1.trans (f2.trans (f3.trans f))) (I3.newF hy _) (by simp only [RR, Rf]; exact ⟨y, _, rfl, upd_same, (cut_rf lr).mono f⟩)⟩
/-! ### len of a class of one's own -/
def TLenO (k : Nat) (md : List Md) (tsp : TSp) (T : TX) : TX := fun E K => T E fun x E1 => isK k x <| callK md tsp [x] E1 fun r E2 => ∃ z : Int, r = .fz (.int z) ∧ (0 ≤ z ∧ z < 2 ^ 63) ∧ K (.fz (.int z)) E2
instance lf_lenO {C : Addr} {k : Nat} {md : List Md} {tsp : TSp} {X : XK} {te : TE} {T : TX} [i : IsC c C k] [a : LfE c P W F0 pv te T] : LfE c P W F0 pv (tCB (R9S.rLenOwn C (lift c md tsp) X) (tCons te tNil)) (TLenO k md tsp T) := ⟨fun {B E σ F O H K Q} I h q =>
  a.run I h fun x E1 v F1 O1 H1 h1 f1 I1 r1 => by
    obtain ⟨⟨fs, hx, full⟩, h1⟩ := isK_ok h1
    have q1 := r1.rf I1 full
    rw [hx] at q1
    simp only [Rf] at q1
    obtain ⟨p, dx, us, rfl, e1, _⟩ := q1
    refine ⟨p, dx, us, rfl, by rw [← i.e]; exact e1, ?_⟩
    refine call_ok I1 (rs := [x]) ⟨_, _, rfl, r1, rfl⟩ h1 fun r E' v F' O' H' kk f J rr => ?_
    obtain ⟨z, rfl, hz, kk⟩ := kk
    simp only [RR, Rf] at rr
    exact ⟨z, rr, hz, q _ _ _ _ _ _ kk (f1.trans f) J (by simp only [RR, Rf])⟩⟩
/-! ### a class made, keywords -/
def TMakeW (P : List Nat) (k n : Nat) (md : List Md) (tsp : TSp) (T : TXA) : TX := fun E K => T E fun rs E1 => rs.length = n ∧ makeK P k md tsp rs E1 K
instance lf_makeW {C : Addr} {k n : Nat} {md : List Md} {tsp : TSp} {X : XK} {t : TA} {T : TXA} [ic : IsC c C k] [a : LfA c P W F0 pv t T] : LfE c P W F0 pv (tMakeK C 0 n (lift c (.l :: md) tsp) (fun vs zs => vs ++ zs) X tNil t) (TMakeW P k n md tsp T) := ⟨fun {B E σ F O H K Q} I h q =>
  a.run I h fun rs E1 vs F1 O1 H1 h1 f1 I1 r1 => ⟨rfl, by rw [← r1.len]; exact h1.1, fun x dx hx hdx hne =>
    make_ok I1 ic.e r1 h1.2 hx hdx hne fun r E' F' O' H' kk f J rr => q _ _ _ _ _ _ kk (f1.trans f) J rr⟩⟩
def TMakeXW (P : List Nat) (k n : Nat) (md : List Md) (tsp : TSpX) (T : TXA) : TX := fun E K => T E fun rs E1 => rs.length = n ∧ makeKX P k md tsp rs E1 K (fun _ _ => False)
instance lf_makeXW {C : Addr} {k n : Nat} {md : List Md} {tsp : TSpX} {X : XK} {t : TA} {T : TXA} [ic : IsC c C k] [a : LfA c P W F0 pv t T] : LfE c P W F0 pv (tMakeK C 0 n (liftX c (.l :: md) tsp) (fun vs zs => vs ++ zs) X tNil t) (TMakeXW P k n md tsp T) := ⟨fun {B E σ F O H K Q} I h q =>
  a.run I h fun rs E1 vs F1 O1 H1 h1 f1 I1 r1 => ⟨rfl, by rw [← r1.len]; exact h1.1, fun x dx hx hdx hne =>
    makeX_ok I1 ic.e r1 h1.2 hx hdx hne (fun r E' F' O' H' kk f J rr => q _ _ _ _ _ _ kk (f1.trans f) J rr) fun xn E' cls d F' O' H' k f J rx => k.elim⟩⟩
/-! ### targets: a, b = a list, or either -/
def TGUnl (n : Nat) (U : TXGs) : TXG := fun r E K => match r with
  | .fz (.lst ds) => ds.length = n ∧ U (ds.map .fz) E K
  | .vw (.lst ds) => ds.length = n ∧ U (ds.map mkVw) E K
  | _ => False
instance lf_gUnl {K : PySem.W.Frag} {n : Nat} {t : TGs} {U : TXGs} [a : LfGs c P W F0 pv t U] : LfG c P W F0 pv (gUnl K n t) (TGUnl n U) := ⟨fun {B E σ F O H r v K Q} I rr h q => by
  unfold TGUnl at h
  split at h
  rotate_left 2
  · exact h.elim
  · rename_i ds
    obtain ⟨hn, h⟩ := h
    simp only [RR, Rf] at rr
    obtain ⟨p, vs, rfl, e, l⟩ := rr
    exact ⟨p, vs, rfl, SqL.of (I.fh _ _ e), by rw [l.len]; exact hn, a.run I (rrs_fz l) h q⟩
  · rename_i ds
    obtain ⟨hn, h⟩ := h
    simp only [RR, Rf] at rr
    obtain ⟨p, vs, rfl, e, l⟩ := rr
    exact ⟨p, vs, rfl, SqL.of (uni_fz I.fh I.wh _ _ e), by rw [l.len]; exact hn, a.run I (rrs_vw l) h q⟩⟩
/-- a tuple or a list -/
def gOr (K : PySem.W.Frag) (n : Nat) (t : TGs) : TG := fun v σ H Q => gTup K n t v σ H Q ∨ gUnl K n t v σ H Q
def TGOr (n : Nat) (U : TXGs) : TXG := fun r E K => match r with
  | .fz (.lst ds) => ds.length = n ∧ U (ds.map .fz) E K
  | .vw (.lst ds) => ds.length = n ∧ U (ds.map mkVw) E K
  | .fz (.tup ds) => ds.length = n ∧ U (ds.map .fz) E K
  | .vw (.tup ds) => ds.length = n ∧ U (ds.map mkVw) E K
  | _ => False
instance lf_gOr {K : PySem.W.Frag} {n : Nat} {t : TGs} {U : TXGs} [a : LfGs c P W F0 pv t U] : LfG c P W F0 pv (gOr K n t) (TGOr n U) := ⟨fun {B E σ F O H r v Ke Q} I rr h q => by
  have l := lf_gUnl (c := c) (P := P) (W := W) (F0 := F0) (pv := pv) (K := K) (n := n) (t := t) (U := U)
  have u := lf_gTup (c := c) (P := P) (W := W) (F0 := F0) (pv := pv) (K := K) (n := n) (t := t) (U := U)
  unfold TGOr at h
  split at h
  · exact .inr (l.run I rr h q)
  · exact .inr (l.run I rr h q)
  · exact .inl (u.run I rr h q)
  · exact .inl (u.run I rr h q)
  · exact h.elim⟩
/-! ### == and != of data of any depth -/
mutual
def dat : D → Option PyData
  | .non => some .none
  | .bl b => some (.bool b)
  | .int i => some (.int i)
  | .str x => some (.str x)
  | .lst ds => (datL ds).map .list
  | .tup ds => (datL ds).map .tuple
  | _ => none
def datL : List D → Option (List PyData)
  | [] => some []
  | d :: ds => match dat d, datL ds with
    | some x, some xs => some (x :: xs)
    | _, _ => none
end
mutual
theorem dat_dp {H : Hp} : ∀ {d : D} {v : V} {p : PyData}, dat d = some p → Rf c H d v → Dp Kf H v p
  | .non, _, _, e, r => by simp only [dat] at e; cases e; simp only [Rf] at r; subst r; exact .non
  | .bl b, _, _, e, r => by simp only [dat] at e; cases e; simp only [Rf] at r; subst r; exact .bl b
  | .int b, _, _, e, r => by simp only [dat] at e; cases e; simp only [Rf] at r; subst r; exact .int b
  | .str b, _, _, e, r => by simp only [dat] at e; cases e; simp only [Rf] at r; subst r; exact .str b
  | .lst ds, _, _, e, r => by
    simp only [dat] at e
    obtain ⟨xs, h, rfl⟩ := Option.map_eq_some_iff.mp e
    simp only [Rf] at r
    obtain ⟨a, vs, rfl, q, l⟩ := r
    exact .lst (SqL.of q) (datL_dp h l)
  | .tup ds, _, _, e, r => by
    simp only [dat] at e
    obtain ⟨xs, h, rfl⟩ := Option.map_eq_some_iff.mp e
    simp only [Rf] at r
    obtain ⟨a, vs, rfl, q, l⟩ := r
    exact .tup (SqT.of q) (datL_dp h l)
  | .dk _, _, _, e, _ => by simp only [dat] at e; cases e
  | .dl _, _, _, e, _ => by simp only [dat] at e; cases e
  | .ins _ _, _, _, e, _ => by simp only [dat] at e; cases e
  | .cst _, _, _, e, _ => by simp only [dat] at e; cases e
  | .set _, _, _, e, _ => by simp only [dat] at e; cases e
  | .scr _, _, _, e, _ => by simp only [dat] at e; cases e
  | .exc _ _ _ _, _, _, e, _ => by simp only [dat] at e; cases e
theorem datL_dp {H : Hp} : ∀ {ds : List D} {vs : List V} {ps : List PyData}, datL ds = some ps → RfL c H ds vs → DpAll Kf H vs ps
  | [], _, _, e, r => by simp only [datL] at e; cases e; simp only [RfL] at r; subst r; exact .nil
  | d :: ds, _, _, e, r => by
    simp only [datL] at e
    split at e
    · rename_i x xs h1 h2
      cases e
      simp only [RfL] at r
      obtain ⟨v, s, rfl, q, l⟩ := r
      exact .cons (dat_dp h1 q) (datL_dp h2 l)
    · cases e
end
def REqD (f : Bool → Bool) : RX := fun x y K => ∃ p q, dat x = some p ∧ dat y = some q ∧ SeqAt.shaped p = true ∧ SeqAt.shaped q = true ∧ K (.bl (f (PyData.eqv p q)))
instance lf_eqD : LfR c (rEqD Kf) (REqD id) := ⟨fun {H x y dx dy Q K} hx hy h q => by
  obtain ⟨p, r, e1, e2, s1, s2, k⟩ := h
  exact ⟨p, r, dat_dp e1 hx, dat_dp e2 hy, s1, s2, q _ _ k fun _ => by simp only [Rf]; rfl⟩⟩
instance lf_neD : LfR c (rNeD Kf) (REqD not) := ⟨fun {H x y dx dy Q K} hx hy h q => by
  obtain ⟨p, r, e1, e2, s1, s2, k⟩ := h
  exact ⟨p, r, dat_dp e1 hx, dat_dp e2 hy, s1, s2, q _ _ k fun _ => by simp only [Rf]⟩⟩
end
/-! data -/
mutual
def noBl : PyData → Bool
  | .bool _ => false
  | .dict _ => false
  | .list xs => noBlL xs
  | .tuple xs => noBlL xs
  | _ => true
def noBlL : List PyData → Bool
  | [] => true
  | x :: xs => noBl x && noBlL xs
end
mutual
theorem eqv_iff : ∀ {p q : PyData}, noBl p = true → noBl q = true → (PyData.eqv p q = true ↔ p = q)
  | .none, q, _, h => by cases q <;> simp [PyData.eqv]
  | .int i, q, _, h => by cases q <;> simp [PyData.eqv] <;> simp [noBl] at h
  | .str i, q, _, h => by cases q <;> simp [PyData.eqv]
  | .list xs, q, hp, h => by
    cases q with
    | list ys =>
      simp only [noBl] at hp h
      simp only [PyData.eqv, PyData.list.injEq]
      exact eqvL_iff hp h
    | _ => simp [PyData.eqv]
  | .tuple xs, q, hp, h => by
    cases q with
    | tuple ys =>
      simp only [noBl] at hp h
      simp only [PyData.eqv, PyData.tuple.injEq]
      exact eqvL_iff hp h
    | _ => simp [PyData.eqv]
  | .bool _, q, hp, _ => by simp [noBl] at hp
  | .dict _, q, hp, _ => by simp [noBl] at hp
theorem eqvL_iff : ∀ {p q : List PyData}, noBlL p = true → noBlL q = true → (PyData.eqvAll p q = true ↔ p = q)
  | [], [], _, _ => by simp [PyData.eqvAll]
  | [], _ :: _, _, _ => by simp [PyData.eqvAll]
  | _ :: _, [], _, _ => by simp [PyData.eqvAll]
  | x :: xs, y :: ys, hp, hq => by
    simp only [noBlL, Bool.and_eq_true] at hp hq
    simp only [PyData.eqvAll, Bool.and_eq_true, List.cons.injEq, eqv_iff hp.1 hq.1, eqvL_iff hp.2 hq.2]
end
/-- data that a == may ask of -/
structure Dt (d : D) (p : PyData) (n : Nat) : Prop where
  e : dat d = some p
  b : noBl p = true
  l : PyData.canLay0 p = true
  d : PyData.depth p ≤ n
theorem Dt.sh {d : D} {p : PyData} {n : Nat} (h : Dt d p n) (hn : n ≤ 64) : SeqAt.shaped p = true := Bool.and_eq_true_iff.mpr ⟨h.l, decide_eq_true (Nat.le_trans h.d hn)⟩
theorem Dt.str {x : Str} (h : PyData.strOk x = true) : Dt (.str x) (.str x) 0 := ⟨by simp only [dat], by simp [noBl], by simp only [PyData.canLay0]; exact h, by simp [PyData.depth]⟩
theorem Dt.int {x : Int} : Dt (.int x) (.int x) 0 := ⟨by simp only [dat], by simp [noBl], by simp [PyData.canLay0], by simp [PyData.depth]⟩
structure DtL (ds : List D) (ps : List PyData) (n : Nat) : Prop where
  e : datL ds = some ps
  b : noBlL ps = true
  l : PyData.canLayAll0 ps = true
  d : PyData.depthAll ps ≤ n
theorem DtL.nil {n : Nat} : DtL [] [] n := ⟨by simp only [datL], by simp [noBlL], by simp [PyData.canLayAll0], by simp [PyData.depthAll]⟩
theorem DtL.cons {d : D} {p : PyData} {ds : List D} {ps : List PyData} {n : Nat} (h : Dt d p n) (t : DtL ds ps n) : DtL (d :: ds) (p :: ps) n := ⟨by simp only [datL, h.e, t.e], by simp [noBlL, h.b, t.b], by simp [PyData.canLayAll0, h.l, t.l], by
  have := h.d
  have := t.d
  simp only [PyData.depthAll]; omega⟩
theorem DtL.map {α : Type} {f : α → D} {g : α → PyData} {n : Nat} : ∀ {xs : List α}, (∀ x ∈ xs, Dt (f x) (g x) n) → DtL (xs.map f) (xs.map g) n
  | [], _ => .nil
  | x :: xs, h => .cons (h x List.mem_cons_self) (DtL.map fun y hy => h y (List.mem_cons_of_mem _ hy))
theorem Dt.lst {ds : List D} {ps : List PyData} {n : Nat} (h : DtL ds ps n) : Dt (.lst ds) (.list ps) (n + 1) := ⟨by simp only [dat, h.e, Option.map_some], by simp [noBl, h.b], by simp only [PyData.canLay0]; exact h.l, by
  have := h.d
  simp only [PyData.depth]; omega⟩
theorem Dt.tup {ds : List D} {ps : List PyData} {n : Nat} (h : DtL ds ps n) : Dt (.tup ds) (.tuple ps) (n + 1) := ⟨by simp only [dat, h.e, Option.map_some], by simp [noBl, h.b], by simp only [PyData.canLay0]; exact h.l, by
  have := h.d
  simp only [PyData.depth]; omega⟩
theorem Dt.up {d : D} {p : PyData} {m n : Nat} (h : Dt d p m) (l : m ≤ n) : Dt d p n := ⟨h.e, h.b, h.l, Nat.le_trans h.d l⟩
theorem Dt.strs {xs : List Str} (h : ∀ x ∈ xs, PyData.strOk x = true) : DtL (xs.map .str) (xs.map PyData.str) 0 := .map fun x hx => .str (h x hx)
theorem strs_inj : ∀ {xs ys : List Str}, xs.map PyData.str = ys.map PyData.str → xs = ys
  | [], [], _ => rfl
  | [], _ :: _, h => by cases h
  | _ :: _, [], h => by cases h
  | x :: xs, y :: ys, h => by
    simp only [List.map_cons, List.cons.injEq, PyData.str.injEq] at h
    rw [h.1, strs_inj h.2]
/-- d == e -/
theorem eqv_is {x y : D} {p q : PyData} {m n : Nat} (hx : Dt x p m) (hy : Dt y q n) {b : Bool} (hb : b = true ↔ p = q) : PyData.eqv p q = b := by
  cases e : PyData.eqv p q with
  | true => exact (hb.mpr ((eqv_iff hx.b hy.b).mp e)).symm
  | false =>
    cases b with
    | false => rfl
    | true =>
      have := (eqv_iff hx.b hy.b).mpr (hb.mp rfl)
      rw [e] at this; cases this
theorem pg_orT {X : Cx} {es : List Expr} {k : Nat} {pos : Pos} {t : TGs} {n : Nat} (hc : X.calm = true) (h : PGs X es t) (hn : (assignEach es X.env).length = n := by rfl) (hst : (assignEach es X.env).findIdx? (·.1) = none := by rfl) : PG X (.Tuple es k pos) (gOr X.K n t) := pg_or (pg_tup hc h hn hst) (pg_unl hc h hn hst)
/-! ### calls where an exception is handled -/
def tHotC (sp : Sp) (t : TA) : TE := fun σ H Q => t σ H fun vs H1 => sp vs H1 Q E0
theorem pe_eT {X : Cx} {j k : Nat} {x : Str} {ps : List Str} {sp : Sp} {cls : Value} {d : Option Addr} {q pos : Pos} {e : Expr} {es : List Expr} {t : TA} {a : Addr} {oe : Obj} (D : De X.prog X.w X.K X.mg X.base k x ps (fun _ _ _ => sp)) (hot : HotX X (a, oe) cls d) (hr : L2H.RoomH j X.A) (hk : k ≤ j) (hg : Gl X x) (ha : PA X (e :: es) t) (hdb : (x == ("__debug__" : Str)) = false := by decide)
    (he : starEach (e :: es) X.env = (false, eval e X.env) :: starEach es X.env := by rfl) (hpl : (backTo pos (starEach es X.env)).any (·.1) = false := by rfl) :
    PE X (.Call (.Name x q) (e :: es) [] pos) (tHotC sp t) := pe_e D hot hr hk hg ha hdb he hpl
section
variable {c : Cls} {P vs : List Nat} {W F0 : Hp} {pv : Nat → V}
def THotC (md : List Md) (tsp : TSp) (T : TXA) : TX := fun E K => T E fun rs E1 => callK md tsp rs E1 K
instance lf_hotC {md : List Md} {tsp : TSp} {t : TA} {T : TXA} [a : LfA c P W F0 pv t T] : LfE c P W F0 pv (tHotC (lift c md tsp) t) (THotC md tsp T) := ⟨fun {B E σ F O H K Q} I h q =>
  a.run I h fun rs E1 vs F1 O1 H1 h1 f1 I1 r1 => call_ok I1 r1 h1 fun r E' v F' O' H' k f J rr => q _ _ _ _ _ _ k (f1.trans f) J rr⟩
end
end TL
namespace TL
open PySem PySem.Spec PyProof.Rows L2 R9
section
variable {c : Cls} {P vs : List Nat} {W F0 : Hp} {pv : Nat → V} {Kf : PySem.W.Frag}
/-! ### sorted of a list of tuples whose first items are distinct texts -/
theorem rfl_perm {α : Type} {g : α → D} {F : Hp} {ys us : List V} (p : ys.Perm us) : ∀ {rs : List α}, RfL c F (rs.map g) us → ∃ rs' : List α, rs'.Perm rs ∧ RfL c F (rs'.map g) ys := by
  induction p with
  | nil =>
    intro rs h
    cases rs with
    | nil => exact ⟨[], .nil, h⟩
    | cons r rs =>
      simp only [List.map_cons, RfL] at h
      obtain ⟨_, _, e, _⟩ := h
      cases e
  | cons x _ ih =>
    intro rs h
    cases rs with
    | nil => simp only [List.map_nil, RfL] at h; cases h
    | cons r rs =>
      simp only [List.map_cons, RfL] at h
      obtain ⟨_, _, e, a, l⟩ := h
      cases e
      obtain ⟨rs', q, l'⟩ := ih l
      exact ⟨r :: rs', q.cons r, .cons a l'⟩
  | swap x y l =>
    intro rs h
    cases rs with
    | nil => simp only [List.map_nil, RfL] at h; cases h
    | cons r rs =>
      simp only [List.map_cons, RfL] at h
      obtain ⟨_, _, e, a, l1⟩ := h
      cases e
      cases rs with
      | nil => simp only [List.map_nil, RfL] at l1; cases l1
      | cons r2 rs =>
        simp only [List.map_cons, RfL] at l1
        obtain ⟨_, _, e, b, l2⟩ := l1
        cases e
        exact ⟨r2 :: r :: rs, .swap r r2 rs, .cons b (.cons a l2)⟩
  | trans _ _ ih1 ih2 =>
    intro rs h
    obtain ⟨rs1, q1, l1⟩ := ih2 h
    obtain ⟨rs2, q2, l2⟩ := ih1 l1
    exact ⟨rs2, q2.trans q1, l2⟩
def fstT (H : Hp) : V → Str
  | .ref b => match H b with
    | some (.tup (.str t :: _)) => t
    | _ => ""
  | _ => ""
theorem fstT_of {H : Hp} {d : List D} {t : Str} {v : V} (r : Rf c H (.tup (.str t :: d)) v) : fstT H v = t ∧ ∃ b us, v = .ref b ∧ H b = some (.tup (.str t :: us)) := by
  simp only [Rf, RfL] at r
  obtain ⟨a, vs, rfl, e, v, s, rfl, rfl, _⟩ := r
  exact ⟨by unfold fstT; simp only [e], a, s, rfl, e⟩
theorem fsts_of {α : Type} {g : α → D} {t : α → Str} {d : α → List D} {H : Hp} (hg : ∀ a, g a = .tup (.str (t a) :: d a)) : ∀ {rs : List α} {us : List V}, RfL c H (rs.map g) us → us.map (fstT H) = rs.map t ∧ ∀ v ∈ us, ∃ b r, v = .ref b ∧ H b = some (.tup (.str (fstT H v) :: r))
  | [], us, h => by simp only [List.map_nil, RfL] at h; subst h; exact ⟨rfl, fun v hv => by cases hv⟩
  | a :: rs, us, h => by
    simp only [List.map_cons, RfL] at h
    obtain ⟨v, s, rfl, h1, h2⟩ := h
    obtain ⟨i1, i2⟩ := fsts_of hg h2
    rw [hg] at h1
    obtain ⟨e1, b, us, e2, e3⟩ := fstT_of h1
    refine ⟨by rw [List.map_cons, List.map_cons, i1, e1], fun x hx => ?_⟩
    rcases List.mem_cons.mp hx with ex | hx
    · rw [ex]; exact ⟨b, us, e2, by rw [e1]; exact e3⟩
    · exact i2 x hx
def TSortT (T : TX) : TX := fun E K => T E fun x E1 => lstK x fun ds => ∃ (α : Type) (g : α → D) (t : α → Str) (d : α → List D) (rs : List α), ds = rs.map g ∧ (∀ a, g a = .tup (.str (t a) :: d a)) ∧ (rs.map t).Nodup ∧ rs.length ≤ 1000 ∧
  ∀ ys : List α, ys.Perm rs → sortedS (ys.map t) = true → K (.fz (.lst (ys.map g))) E1
instance lf_sortT {te : TE} {T : TX} [a : LfE c P W F0 pv te T] : LfE c P W F0 pv (tCB (R9S.rSortTx Kf) (tCons te tNil)) (TSortT T) := ⟨fun {B E σ F O H K Q} I h q =>
  a.run I h fun x E1 v F1 O1 H1 h1 f1 I1 r1 => by
    obtain ⟨p, us, ds, rfl, e, l, α, g, t, d, rs, rfl, hg, nd, hl, k⟩ := lst_ok I1 r1 h1
    obtain ⟨i1, i2⟩ := fsts_of (t := t) (d := d) hg (RfL.mono I1.fh l)
    refine ⟨p, us, fstT H1, rfl, SqL.of e, fun x hx => ?_, by rw [i1]; exact nd, by rw [l.len, List.length_map]; exact hl, fun ys y pm so hy => ?_⟩
    · obtain ⟨b, r, e1, e2⟩ := i2 x hx
      exact ⟨b, r, e1, SqT.of e2⟩
    · obtain ⟨rs', p', l'⟩ := rfl_perm pm l
      have f := fz_upd (o := .lst ys) (I1.fh.none hy)
      have i3 := (fsts_of (t := t) (d := d) hg (RfL.mono I1.fh l')).1
      rw [i3] at so
      exact q _ _ _ _ _ _ (k rs' p' so) (f1.trans f) (I1.newF hy _) (by simp only [RR, Rf]; exact ⟨y, _, rfl, upd_same, l'.mono f⟩)⟩
end
end TL
namespace TL
open PySem PySem.Spec PyProof.Rows L2 R9
section
variable {c : Cls} {P vs : List Nat} {W F0 : Hp} {pv : Nat → V} {Kf : PySem.W.Frag}
/-! ### == of dicts whose values are data -/
inductive DDk : List (Key × D) → List (Key × PyData) → Prop
  | nil : DDk [] []
  | cons {k : Key} {d : D} {p : PyData} {ks : List (Key × D)} {ps : List (Key × PyData)} : dat d = some p → DDk ks ps → DDk ((k, d) :: ks) ((k, p) :: ps)
theorem DDk.dks {H : Hp} {ks : List (Key × D)} {ps : List (Key × PyData)} (h : DDk ks ps) : ∀ {us : List (Key × V)}, RfK c H ks us → DKs Kf H us ps := by
  induction h with
  | nil => intro us r; simp only [RfK] at r; subst r; exact .nil
  | cons e _ ih =>
    intro us r
    simp only [RfK] at r
    obtain ⟨v, s, rfl, a, l⟩ := r
    exact .cons (dat_dp e a) (ih l)
def REqK : RX := fun x y K => match x, y with
  | .dl ds, .dl es => ∃ da db, DDk ds da ∧ DDk es db ∧ ShK da ∧ ShK db ∧ K (.bl (da.length == db.length && da.all (eqKD db)))
  | _, _ => False
instance lf_eqKD : LfR c (rEqKD Kf) REqK := ⟨fun {H x y dx dy Q K} hx hy h q => by
  unfold REqK at h
  split at h
  rotate_left
  · exact h.elim
  rename_i ds es
  obtain ⟨da, db, h1, h2, s1, s2, k⟩ := h
  simp only [Rf] at hx hy
  obtain ⟨a, o, us, rfl, e, l⟩ := hx
  obtain ⟨b, o', ws, rfl, e', l'⟩ := hy
  exact ⟨a, b, us, ws, da, db, rfl, rfl, .inr ⟨o, e⟩, .inr ⟨o', e'⟩, h1.dks l, h2.dks l', s1, s2, q _ _ k fun _ => by simp only [Rf]⟩⟩
end
end TL
namespace TL
open PySem PySem.Spec PyProof.Rows L2 R9
/-! ### a class's own == and != of one of it and anything plain -/
class TxW (K : PySem.W.Frag) (c : Cls) (k : Nat) (N : outParam (List Nat)) : Prop where
  same : PySem.W.notFirst K (c.at_ k) (.ref (c.at_ k)) = true
  ins : L2.Cls K (c.at_ k) ∧ PySem.W.findIn K (.ref (c.at_ k)) "__class__" = some (some (.builtin "object.__class__")) ∧ PySem.W.specialIn K (.builtin "object.__class__") "__get__" = some (some (.builtin "getset_descriptor.__get__")) ∧
    PySem.W.takesIn K (.builtin "object.__class__") = some true ∧ PySem.W.mroIn K (c.at_ k) (.type "object") = some true
  ty : ∀ n ∈ N, PySem.W.notFirst K (c.at_ k) (.type (tyS n)) = true
def othK (k : Nat) (N : List Nat) (d : D) (p : Prop) : Prop := match d with
  | .ins j _ => j = k ∧ p
  | d => match tyN d with
    | some n => memK n N p
    | none => False
section
variable {c : Cls} {P vs : List Nat} {W F0 : Hp} {pv : Nat → V} {Kf : PySem.W.Frag}
theorem oth_ok {k : Nat} {N : List Nat} [t : TxW Kf c k N] {H : Hp} {d : D} {v : V} {p : Prop} (r : Rf c H d v) (h : othK k N d p) : (∃ ty, TyX Kf H v ty ∧ PySem.W.notFirst Kf (c.at_ k) ty = true) ∧ p := by
  unfold othK at h
  split at h
  · rename_i j fs
    obtain ⟨rfl, h⟩ := h
    simp only [Rf] at r
    obtain ⟨a, dx, us, rfl, e, _⟩ := r
    exact ⟨⟨_, .base (.ins e t.ins.1 t.ins.2.1 t.ins.2.2.1 t.ins.2.2.2.1 t.ins.2.2.2.2), t.same⟩, h⟩
  · split at h
    · rename_i n hn
      obtain ⟨m, h⟩ := memK_ok h
      exact ⟨⟨_, ty_rf hn r, t.ty n m⟩, h⟩
    · exact h.elim
def TOwnEqA (k : Nat) (N : List Nat) (md : List Md) (tsp : TSp) (T U : TX) : TX := fun E K => T E fun x E1 => U E1 fun y E2 => nowK E2 x <| isK k x <| fullK y <| othK k N y.d <| callK md tsp [x, y] E2 K
instance (priority := high) lf_ownEqA {C : Addr} {k : Nat} {N : List Nat} {md : List Md} {tsp : TSp} {X : XK} {ta tb : TE} {T U : TX} [i : IsC c C k] [tq : TxW Kf c k N] [a : LfE c P W F0 pv ta T] [b : LfE c P W F0 pv tb U] : LfE c P W F0 pv (tOp (R9.rOwnEq Kf C (lift c md tsp) X) ta tb) (TOwnEqA k N md tsp T U) := ⟨fun {B E σ F O H K Q} I h q =>
  a.run I h fun x E1 v F1 O1 H1 h1 f1 I1 r1 => b.run I1 h1 fun y E2 u F2 O2 H2 h2 f2 I2 r2 => by
    obtain ⟨n, h2⟩ := nowK_ok h2
    have r1 := r1.now f2 I2 n
    obtain ⟨⟨fs, hx, fx⟩, h2⟩ := isK_ok h2
    obtain ⟨fy, h2⟩ := fullK_ok h2
    obtain ⟨⟨ty, e2, nf⟩, h2⟩ := oth_ok (Kf := Kf) (r2.rf I2 fy) h2
    have q1 := r1.rf I2 fx
    rw [hx] at q1
    simp only [Rf] at q1
    obtain ⟨p, dx, us, rfl, e1, _⟩ := q1
    refine ⟨p, dx, us, ty, rfl, by rw [← i.e]; exact e1, e2, by rw [← i.e]; exact nf, ?_⟩
    exact call_ok I2 (rs := [x, y]) ⟨_, _, rfl, r1, _, _, rfl, r2, rfl⟩ h2 fun r E' v F' O' H' kk f J rr => q _ _ _ _ _ _ kk (f1.trans (f2.trans f)) J rr⟩
def TOwnNeA (k : Nat) (N : List Nat) (md : List Md) (tsp : TSp) (T U : TX) : TX := fun E K => T E fun x E1 => U E1 fun y E2 => nowK E2 x <| isK k x <| fullK y <| othK k N y.d <| callK md tsp [x, y] E2 fun r E3 => match r with
  | .fz (.bl b) => K (.fz (.bl (!b))) E3
  | _ => False
instance (priority := high) lf_ownNeA {C : Addr} {k : Nat} {N : List Nat} {md : List Md} {tsp : TSp} {X : XK} {ta tb : TE} {T U : TX} [i : IsC c C k] [tq : TxW Kf c k N] [a : LfE c P W F0 pv ta T] [b : LfE c P W F0 pv tb U] : LfE c P W F0 pv (tOp (R9.rOwnNe Kf C (lift c md tsp) X) ta tb) (TOwnNeA k N md tsp T U) := ⟨fun {B E σ F O H K Q} I h q =>
  a.run I h fun x E1 v F1 O1 H1 h1 f1 I1 r1 => b.run I1 h1 fun y E2 u F2 O2 H2 h2 f2 I2 r2 => by
    obtain ⟨n, h2⟩ := nowK_ok h2
    have r1 := r1.now f2 I2 n
    obtain ⟨⟨fs, hx, fx⟩, h2⟩ := isK_ok h2
    obtain ⟨fy, h2⟩ := fullK_ok h2
    obtain ⟨⟨ty, e2, nf⟩, h2⟩ := oth_ok (Kf := Kf) (r2.rf I2 fy) h2
    have q1 := r1.rf I2 fx
    rw [hx] at q1
    simp only [Rf] at q1
    obtain ⟨p, dx, us, rfl, e1, _⟩ := q1
    refine ⟨p, dx, us, ty, rfl, by rw [← i.e]; exact e1, e2, by rw [← i.e]; exact nf, ?_⟩
    exact call_ok I2 (rs := [x, y]) ⟨_, _, rfl, r1, _, _, rfl, r2, rfl⟩ h2 fun r E' v F' O' H' kk f J rr => by
      split at kk
      rotate_left
      · exact kk.elim
      rename_i bb
      simp only [RR, Rf] at rr
      exact ⟨bb, rr, q _ _ _ _ _ _ kk (f1.trans (f2.trans f)) J (by simp only [RR, Rf])⟩⟩
end
end TL
namespace TL
open PySem PySem.Spec PyProof.Rows L2 R9
/-! ### calls with keywords -/
section
variable {c : Cls} {P : List Nat} {W F0 : Hp} {pv : Nat → V} {KX : Xn → En → Prop} {Wx : WX}
theorem RRs.appd {S : Sx} {E : En} {σ : L2.St} {F : Hp} {O : Ow} {H : Hp} : ∀ {rs qs : List Res} {vs us : List V}, RRs S E σ F O H rs vs → RRs S E σ F O H qs us → RRs S E σ F O H (rs ++ qs) (vs ++ us)
  | [], _, _, _, h, g => by simp only [RRs] at h; subst h; exact g
  | r :: rs, _, _, _, h, g => by
    simp only [RRs] at h
    obtain ⟨v, s, rfl, a, b⟩ := h
    simp only [List.cons_append, RRs]
    exact ⟨v, _, rfl, a, RRs.appd b g⟩
/-- what slots hold behind what came between -/
def refKs (E : En) : List Res → (List Res → Prop) → Prop
  | [], K => K []
  | r :: rs, K => refK E r fun x => refKs E rs fun xs => K (x :: xs)
theorem refKs_ok {S : Sx} {E E' : En} {σ : L2.St} {F F' H H' : Hp} {O O' : Ow} : ∀ {rs : List Res} {vs : List V} {K : List Res → Prop}, RRs S E σ F O H rs vs → Fz F F' → St S E' σ F' O' H' → refKs E' rs K → ∃ rs', RRs S E' σ F' O' H' rs' vs ∧ K rs'
  | [], vs, K, h, f, I, k => ⟨[], h, k⟩
  | r :: rs, vs, K, h, f, I, k => by
    simp only [RRs] at h
    obtain ⟨v, s, rfl, a, b⟩ := h
    obtain ⟨r', ra, k⟩ := refK_ok a f I k
    obtain ⟨rs', rb, k⟩ := refKs_ok b f I k
    exact ⟨r' :: rs', ⟨v, s, rfl, ra, rb⟩, k⟩
def TCallN (n m : Nat) (md : List Md) (tsp : TSp) (T U : TXA) : TX := fun E K => T E fun rs E1 => U E1 fun qs E2 => refKs E2 rs fun rs => (rs.length = n ∧ qs.length = m) ∧ callK md tsp (rs ++ qs) E2 K
instance lf_callN {n m : Nat} {md : List Md} {tsp : TSp} {X : XK} {t tk : TA} {T U : TXA} [a : LfA c P W F0 pv t T] [b : LfA c P W F0 pv tk U] : LfE c P W F0 pv (tCallN n m (lift c md tsp) (fun vs zs => vs ++ zs) X t tk) (TCallN n m md tsp T U) := ⟨fun {B E σ F O H K Q} I h q =>
  a.run I h fun rs E1 vs F1 O1 H1 h1 f1 I1 r1 => b.run I1 h1 fun qs E2 us F2 O2 H2 h2 f2 I2 r2 => by
    obtain ⟨rs', r1', l, h2⟩ := refKs_ok r1 f2 I2 h2
    exact ⟨by rw [← r1'.len]; exact l.1, by rw [← r2.len]; exact l.2, call_ok I2 (r1'.appd r2) h2 fun r E' v F' O' H' k f J rr => q _ _ _ _ _ _ k (f1.trans (f2.trans f)) J rr⟩⟩
def TCallNX (n m : Nat) (md : List Md) (tsp : TSpX) (KX : Xn → En → Prop) (T U : TXA) : TX := fun E K => T E fun rs E1 => U E1 fun qs E2 => refKs E2 rs fun rs => (rs.length = n ∧ qs.length = m) ∧ callXK md tsp (rs ++ qs) E2 K KX
instance lf_callN0 {n m : Nat} {md : List Md} {tsp : TSpX} {X : XK} {t tk : TA} {T U : TXA} [a : LfA c P W F0 pv t T] [b : LfA c P W F0 pv tk U] : LfE c P W F0 pv (tCallN n m (liftX c md tsp) (fun vs zs => vs ++ zs) X t tk) (TCallNX n m md tsp (fun _ _ => False) T U) := ⟨fun {B E σ F O H K Q} I h q =>
  a.run I h fun rs E1 vs F1 O1 H1 h1 f1 I1 r1 => b.run I1 h1 fun qs E2 us F2 O2 H2 h2 f2 I2 r2 => by
    obtain ⟨rs', r1', l, h2⟩ := refKs_ok r1 f2 I2 h2
    exact ⟨by rw [← r1'.len]; exact l.1, by rw [← r2.len]; exact l.2, callX_ok I2 (r1'.appd r2) h2 (fun r E' v F' O' H' k f J rr => q _ _ _ _ _ _ k (f1.trans (f2.trans f)) J rr) fun _ _ _ _ _ _ _ k _ _ _ => k.elim⟩⟩
instance lf_callNX {n m : Nat} {md : List Md} {tsp : TSpX} {t tk : TA} {T U : TXA} [x : LfX c P W F0 pv Wx KX] [a : LfA c P W F0 pv t T] [b : LfA c P W F0 pv tk U] : LfE c P W F0 pv (tCallNS n m (liftX c md tsp) (fun vs zs => vs ++ zs) (WE Wx) t tk) (TCallNX n m md tsp KX T U) := ⟨fun {B E σ F O H K Q} I h q =>
  a.run I h fun rs E1 vs F1 O1 H1 h1 f1 I1 r1 => b.run I1 h1 fun qs E2 us F2 O2 H2 h2 f2 I2 r2 => by
    obtain ⟨rs', r1', l, h2⟩ := refKs_ok r1 f2 I2 h2
    exact ⟨by rw [← r1'.len]; exact l.1, by rw [← r2.len]; exact l.2, callX_ok I2 (r1'.appd r2) h2 (fun r E' v F' O' H' k f J rr => q _ _ _ _ _ _ k (f1.trans (f2.trans f)) J rr) fun x E' cls d F' O' H' k f J rx => ‹LfX c P W F0 pv Wx KX›.run J k rx⟩⟩
def TMethW (k n : Nat) (md : List Md) (tsp : TSp) (T : TX) (U : TXA) : TX := fun E K => T E fun x E1 => isK k x <| U E1 fun rs E2 => nowK E2 x <| rs.length = n ∧ callK md tsp (x :: rs) E2 K
instance lf_methW {C : Addr} {k n : Nat} {m : Str} {md : List Md} {tsp : TSp} {X : XK} {ta : TE} {t : TA} {T : TX} {U : TXA} [i : IsC c C k] [nf : NoF k m] [a : LfE c P W F0 pv ta T] [b : LfA c P W F0 pv t U] : LfE c P W F0 pv (tMethK C m n (lift c md tsp) (fun vs zs => vs ++ zs) X ta t) (TMethW k n md tsp T U) := ⟨fun {B E σ F O H K Q} I h q =>
  a.run I h fun x E1 v F1 O1 H1 h1 f1 I1 r1 => by
    obtain ⟨⟨fs, hx, full⟩, h1⟩ := isK_ok h1
    obtain ⟨a', dx, us, rfl, e, l⟩ := ins_at I1 r1 hx full nf.no
    refine ⟨a', dx, us, rfl, by rw [e, i.e], l, b.run I1 h1 fun rs E2 vs F2 O2 H2 h2 f2 I2 r2 => ?_⟩
    obtain ⟨n1, l2, h2⟩ := nowK_ok h2
    exact ⟨by rw [← r2.len]; exact l2, call_ok I2 (rs := x :: rs) ⟨_, vs, rfl, r1.now f2 I2 n1, r2⟩ h2 fun r E' v F' O' H' kk f J rr => q _ _ _ _ _ _ kk (f1.trans (f2.trans f)) J rr⟩⟩
def TMethWX (k n : Nat) (md : List Md) (tsp : TSpX) (KX : Xn → En → Prop) (T : TX) (U : TXA) : TX := fun E K => T E fun x E1 => isK k x <| U E1 fun rs E2 => nowK E2 x <| rs.length = n ∧ callXK md tsp (x :: rs) E2 K KX
instance lf_methWX {C : Addr} {k n : Nat} {m : Str} {md : List Md} {tsp : TSpX} {ta : TE} {t : TA} {T : TX} {U : TXA} [x : LfX c P W F0 pv Wx KX] [i : IsC c C k] [nf : NoF k m] [a : LfE c P W F0 pv ta T] [b : LfA c P W F0 pv t U] : LfE c P W F0 pv (tMethKX C m n (liftX c md tsp) (fun vs zs => vs ++ zs) (WE Wx) ta t) (TMethWX k n md tsp KX T U) := ⟨fun {B E σ F O H K Q} I h q =>
  a.run I h fun x E1 v F1 O1 H1 h1 f1 I1 r1 => by
    obtain ⟨⟨fs, hx, full⟩, h1⟩ := isK_ok h1
    obtain ⟨a', dx, us, rfl, e, l⟩ := ins_at I1 r1 hx full nf.no
    refine ⟨a', dx, us, rfl, by rw [e, i.e], l, b.run I1 h1 fun rs E2 vs F2 O2 H2 h2 f2 I2 r2 => ?_⟩
    obtain ⟨n1, l2, h2⟩ := nowK_ok h2
    exact ⟨by rw [← r2.len]; exact l2, callX_ok I2 (rs := x :: rs) ⟨_, vs, rfl, r1.now f2 I2 n1, r2⟩ h2 (fun r E' v F' O' H' kk f J rr => q _ _ _ _ _ _ kk (f1.trans (f2.trans f)) J rr) fun x E' cls d F' O' H' k f J rx => ‹LfX c P W F0 pv Wx KX›.run J k rx⟩⟩
end
end TL
namespace TL
open PySem PySem.Spec PyProof.Rows L2 R9
/-! ### isinstance of a handled exception against a class of the text -/
/-- the second may be a class of the text: its relation is given by hand -/
def RIsXC (Kf : PySem.W.Frag) (L : List Nat) (k0 : Nat) (C a : Addr) (cls : Value) (d : Option Addr) : List D → (D → Prop) → Prop := fun ds K => match ds with
  | [.exc a' dd k _, .cst (.ty s)] => (a' = a) ∧ (cls = .ref C) ∧ (d = some dd) ∧ (k = k0) ∧ (s = "ValueError") ∧ memK k L (K (.bl true))
  | [.exc a' dd k _, .cst (.ref D)] => (a' = a) ∧ (cls = .ref C) ∧ (d = some dd) ∧ (k = k0) ∧ ∃ b, PySem.W.kitOne Kf (.ref C) (.ref D) = some b ∧ K (.bl b)
  | _ => False
instance (priority := high) lf_isXC {c : Cls} {Kf : PySem.W.Frag} {L : List Nat} {C a : Addr} {k0 : Nat} {cls : Value} {d : Option Addr} [ic : IsC c C k0] [tx : TxE Kf c L] : LfC c (rIsP Kf C a cls d) (RIsXC Kf L k0 C a cls d) := ⟨fun {H xs ds Q K} r h q => by
  unfold RIsXC at h
  split at h
  · obtain ⟨rfl, rfl, rfl, rfl, rfl, h⟩ := h
    obtain ⟨hk, h⟩ := memK_ok h
    simp only [RfL, Rf] at r
    obtain ⟨v, us, rfl, ⟨rfl, ls, eu, _⟩, w, us', rfl, rfl, rfl⟩ := r
    have := tx.ve _ hk
    rw [ic.e] at this
    exact ⟨_, .type "ValueError", true, rfl, rfl, .ty _, this, fun dd' e => by cases e; exact ⟨_, eu⟩, q _ _ h fun _ => by simp only [Rf]⟩
  · obtain ⟨rfl, rfl, rfl, rfl, b, hb, h⟩ := h
    simp only [RfL, Rf] at r
    obtain ⟨v, us, rfl, ⟨rfl, ls, eu, _⟩, w, us', rfl, rfl, rfl⟩ := r
    exact ⟨_, _, b, rfl, rfl, .own _, hb, fun dd' e => by cases e; exact ⟨_, eu⟩, q _ _ h fun _ => by simp only [Rf]⟩
  · exact h.elim⟩
end TL
namespace TL
open PySem PySem.Spec PyProof.Rows L2 R9
/-! ### texts: walked, cut at a sign, read and written as numbers -/
def stK : Res → (Str → Prop) → Prop
  | .fz (.str a), K => K a
  | _, _ => False
theorem stK_ok {S : Sx} {E : En} {σ : L2.St} {F H : Hp} {O : Ow} {r : Res} {v : V} {K : Str → Prop} (rr : RR S E σ F O H r v) (h : stK r K) : ∃ a, r = .fz (.str a) ∧ v = .str a ∧ K a := by
  cases r with
  | fz d =>
    cases d with
    | str a => exact ⟨a, rfl, by simpa only [RR, Rf] using rr, h⟩
    | _ => exact h.elim
  | _ => exact h.elim
section
variable {c : Cls} {P : List Nat} {W F0 : Hp} {pv : Nat → V} {Kf : PySem.W.Frag}
def rIntS : List V → Hp → VK → Prop := fun xs H Q => ∃ a n, xs = [.str a] ∧ PySem.intText? a = some n ∧ a.length ≤ 640 ∧ Q (.int n) H
theorem n_int_str {X : Cx} : CallR X (.type "int") rIntS := call_int_str
instance lf_intS : LfC c rIntS (fun ds K => match ds with
  | [.str a] => ∃ n, PySem.intText? a = some n ∧ a.length ≤ 640 ∧ K (.int n)
  | _ => False) := ⟨fun {H xs ds Q K} hx h q => by
  split at h
  rotate_left
  · exact h.elim
  rename_i a
  obtain ⟨n, e, hl, k⟩ := h
  obtain ⟨v, rfl, rv⟩ := hx.one_inv
  exact ⟨a, n, by rw [show v = V.str a by simpa only [Rf] using rv], e, hl, q _ _ k fun _ => by simp only [Rf]⟩⟩
instance lf_notInS : LfR c rNotInS (fun x y K => match x, y with
  | .str s, .str z => ∃ k : Nat, s = ⟨#[k]⟩ ∧ K (.bl (!decide (k ∈ z.cps.toList)))
  | _, _ => False) := ⟨fun {H x y dx dy Q K} hx hy h q => by
  split at h
  rotate_left
  · exact h.elim
  rename_i s z
  obtain ⟨k, rfl, kk⟩ := h
  exact ⟨k, z, by simpa only [Rf] using hx, by simpa only [Rf] using hy, q _ _ kk fun _ => by simp only [Rf]⟩⟩
/-! for c in text -/
def sgs (a : Str) : List D := a.cps.toList.map fun k => D.str ⟨#[k]⟩
def TItS (T : TX) : TXI := fun E K => T E fun r E1 => stK r fun a => K ((sgs a).map .fz) E1
theorem its_ok {S : Sx} {F1 : Hp} {a : Str} : IOk S F1 (Its a) ((sgs a).map .fz) := ⟨stl_map (.inl rfl), fun B E σ F O H I g => by
  have hl : (sgs a).length = a.cps.size := by unfold sgs; rw [List.length_map, Array.length_toList]
  refine ⟨fun i hi => ?_, ?_, fun i x H' r y e => ?_⟩
  · rw [List.length_map, hl] at hi; exact hi
  · show a.cps.size ≤ _
    rw [List.length_map, hl]; exact Nat.le_refl _
  · obtain ⟨rfl, k, hk, rfl⟩ := y
    have e2 : ((sgs a).map Res.fz)[i]? = some (.fz (.str ⟨#[k]⟩)) := by
      unfold sgs
      rw [List.getElem?_map, List.getElem?_map, Array.getElem?_toList, hk]; rfl
    rw [e2] at e
    cases e
    exact ⟨F, .refl _, I, by simp only [RR, Rf]⟩⟩
instance lf_iStr {te : TE} {T : TX} [a : LfE c P W F0 pv te T] : LfI c P W F0 pv (iStr te) (TItS T) := ⟨fun {B E σ F O H K R} I h q =>
  a.run I h fun r E1 v F1 O1 H1 h1 f1 I1 r1 => by
    obtain ⟨s, rfl, rfl, k⟩ := stK_ok r1 h1
    exact ⟨s, rfl, q _ _ _ _ _ _ k f1 I1 its_ok⟩⟩
/-! methods -/
def rAscii : V → List V → Hp → VK → Prop := fun x xs H Q => ∃ a, x = .str a ∧ xs = [] ∧ True ∧ Q (.bl (Txt.isascii a)) H
def rDigit : V → List V → Hp → VK → Prop := fun x xs H Q => ∃ a, x = .str a ∧ xs = [] ∧ True ∧ Q (.bl (Txt.isdigit a)) H
def rRmPre : V → List V → Hp → VK → Prop := fun x xs H Q => ∃ a b, x = .str a ∧ xs = [.str b] ∧ a.length ≤ sizeLine ∧ Q (.str (Txt.removeprefix a b)) H
def rPart : V → List V → Hp → VK → Prop := fun x xs H Q => ∃ a b, x = .str a ∧ xs = [.str b] ∧ (b.length == 0) = false ∧ a.length ≤ sizeLine ∧ ∀ p, H p = none → Q (.ref p) (upd H p (.tup [.str (Txt.partition a b).1, .str (Txt.partition a b).2.1, .str (Txt.partition a b).2.2]))
def rSplit : V → List V → Hp → VK → Prop := fun x xs H Q => ∃ a b, x = .str a ∧ xs = [.str b] ∧ (b.length == 0) = false ∧ a.length + 2 ≤ sizeLine ∧ rNewStrs (Txt.split a b) H Q
end
section
variable {X : Cx} {o e : Expr} {to te : TE} {apos pos : Pos}
theorem pe_ascii (ho : PE X o to) (hbase : attributeBase o "isascii" X.env (eval o X.env) = eval o X.env := by rfl) (hline : (apos.endLine == pos.line) = true := by rfl) : PE X (.Call (.Attribute o "isascii" apos) [] [] pos) (tM0 rAscii to) :=
  L2.pe_m0 F.slot_str_isascii F.type_str_isascii mt_isascii ho hbase hline
theorem pe_digit (ho : PE X o to) (hbase : attributeBase o "isdigit" X.env (eval o X.env) = eval o X.env := by rfl) (hline : (apos.endLine == pos.line) = true := by rfl) : PE X (.Call (.Attribute o "isdigit" apos) [] [] pos) (tM0 rDigit to) :=
  L2.pe_m0 F.slot_str_isdigit F.type_str_isdigit mt_isdigit ho hbase hline
theorem pe_rmPre (ho : PE X o to) (he : PE X e te) (hs : starEach [e] X.env = [(false, eval e X.env)] := by rfl) (hbase : attributeBase o "removeprefix" X.env (eval o X.env) = eval o X.env := by rfl) (hline : (apos.endLine == pos.line) = true := by rfl) :
    PE X (.Call (.Attribute o "removeprefix" apos) [e] [] pos) (tM1 rRmPre to te) := L2.pe_m1 F.slot_str_removeprefix F.type_str_removeprefix mt_removeprefix ho he hs hbase hline
theorem pe_part (ho : PE X o to) (he : PE X e te) (hs : starEach [e] X.env = [(false, eval e X.env)] := by rfl) (hbase : attributeBase o "partition" X.env (eval o X.env) = eval o X.env := by rfl) (hline : (apos.endLine == pos.line) = true := by rfl) :
    PE X (.Call (.Attribute o "partition" apos) [e] [] pos) (tM1 rPart to te) := L2.pe_m1 F.slot_str_partition F.type_str_partition mt_partition ho he hs hbase hline
theorem pe_splitS (ho : PE X o to) (he : PE X e te) (hs : starEach [e] X.env = [(false, eval e X.env)] := by rfl) (hbase : attributeBase o "split" X.env (eval o X.env) = eval o X.env := by rfl) (hline : (apos.endLine == pos.line) = true := by rfl) :
    PE X (.Call (.Attribute o "split" apos) [e] [] pos) (tM1 rSplit to te) := L2.pe_m1 F.slot_str_split F.type_str_split mt_split ho he hs hbase hline
/-- f'..' of three parts -/
def tJoin3 (t1 t2 t3 : TE) : TE := fun σ H Q => tJs [t1, t2, t3] Str.empty σ H fun out H1 => Q (.str out) H1
theorem pe_join3 {v1 v2 v3 : Expr} {t1 t2 t3 : TE} (h1 : PE X v1 t1) (h2 : PE X v2 t2) (h3 : PE X v3 t3) : PE X (.JoinedStr [v1, v2, v3] pos) (tJoin3 t1 t2 t3) := pe_joined (.cons h1 (.cons h2 (.cons h3 .nil)))
end
section
variable {c : Cls} {P : List Nat} {W F0 : Hp} {pv : Nat → V} {Kf : PySem.W.Frag}
def TM0 (R : Str → (D → Prop) → Prop) (T : TX) : TX := fun E K => T E fun x E1 => stK x fun a => R a fun d => K (.fz d) E1
def TM1 (R : Str → Str → (D → Prop) → Prop) (T U : TX) : TX := fun E K => T E fun x E1 => stK x fun a => U E1 fun y E2 => stK y fun b => R a b fun d => K (.fz d) E2
instance lf_ascii {to : TE} {T : TX} [a : LfE c P W F0 pv to T] : LfE c P W F0 pv (tM0 rAscii to) (TM0 (fun a K => K (.bl (Txt.isascii a))) T) := ⟨fun {B E σ F O H K Q} I h q =>
  a.run I h fun x E1 v F1 O1 H1 h1 f1 I1 r1 => by
    obtain ⟨s, rfl, rfl, k⟩ := stK_ok r1 h1
    exact ⟨⟨s, rfl⟩, s, rfl, rfl, trivial, q _ _ _ _ _ _ k f1 I1 (by simp only [RR, Rf])⟩⟩
instance lf_digit {to : TE} {T : TX} [a : LfE c P W F0 pv to T] : LfE c P W F0 pv (tM0 rDigit to) (TM0 (fun a K => K (.bl (Txt.isdigit a))) T) := ⟨fun {B E σ F O H K Q} I h q =>
  a.run I h fun x E1 v F1 O1 H1 h1 f1 I1 r1 => by
    obtain ⟨s, rfl, rfl, k⟩ := stK_ok r1 h1
    exact ⟨⟨s, rfl⟩, s, rfl, rfl, trivial, q _ _ _ _ _ _ k f1 I1 (by simp only [RR, Rf])⟩⟩
instance lf_rmPre {to te : TE} {T U : TX} [a : LfE c P W F0 pv to T] [b : LfE c P W F0 pv te U] : LfE c P W F0 pv (tM1 rRmPre to te) (TM1 (fun a b K => a.length ≤ 100000 ∧ K (.str (Txt.removeprefix a b))) T U) := ⟨fun {B E σ F O H K Q} I h q =>
  a.run I h fun x E1 v F1 O1 H1 h1 f1 I1 r1 => by
    obtain ⟨s, rfl, rfl, k⟩ := stK_ok r1 h1
    refine ⟨⟨s, rfl⟩, b.run I1 k fun y E2 u F2 O2 H2 h2 f2 I2 r2 => ?_⟩
    obtain ⟨z, rfl, rfl, hl, k⟩ := stK_ok r2 h2
    exact ⟨s, z, rfl, rfl, szL hl, q _ _ _ _ _ _ k (f1.trans f2) I2 (by simp only [RR, Rf])⟩⟩
instance lf_partS {to te : TE} {T U : TX} [a : LfE c P W F0 pv to T] [b : LfE c P W F0 pv te U] : LfE c P W F0 pv (tM1 rPart to te) (TM1 (fun a b K => (b.length == 0) = false ∧ a.length ≤ 100000 ∧ K (.tup [.str (Txt.partition a b).1, .str (Txt.partition a b).2.1, .str (Txt.partition a b).2.2])) T U) := ⟨fun {B E σ F O H K Q} I h q =>
  a.run I h fun x E1 v F1 O1 H1 h1 f1 I1 r1 => by
    obtain ⟨s, rfl, rfl, k⟩ := stK_ok r1 h1
    refine ⟨⟨s, rfl⟩, b.run I1 k fun y E2 u F2 O2 H2 h2 f2 I2 r2 => ?_⟩
    obtain ⟨z, rfl, rfl, hb, hl, k⟩ := stK_ok r2 h2
    refine ⟨s, z, rfl, rfl, hb, szL hl, fun p hp => ?_⟩
    refine q _ _ _ _ _ _ k (f1.trans (f2.trans (fz_upd (I2.fh.none hp)))) (I2.newF hp _) ?_
    simp only [RR, Rf]
    exact ⟨p, _, rfl, upd_same, .cons (by simp only [Rf]) (.cons (by simp only [Rf]) (.cons (by simp only [Rf]) .nil))⟩⟩
instance lf_splitS {to te : TE} {T U : TX} [a : LfE c P W F0 pv to T] [b : LfE c P W F0 pv te U] : LfE c P W F0 pv (tM1 rSplit to te) (TM1 (fun a b K => (b.length == 0) = false ∧ a.length + 2 ≤ 100000 ∧ K (.lst ((Txt.split a b).map .str))) T U) := ⟨fun {B E σ F O H K Q} I h q =>
  a.run I h fun x E1 v F1 O1 H1 h1 f1 I1 r1 => by
    obtain ⟨s, rfl, rfl, k⟩ := stK_ok r1 h1
    refine ⟨⟨s, rfl⟩, b.run I1 k fun y E2 u F2 O2 H2 h2 f2 I2 r2 => ?_⟩
    obtain ⟨z, rfl, rfl, hb, hl, k⟩ := stK_ok r2 h2
    refine ⟨s, z, rfl, rfl, hb, szL hl, fun p hp => ?_⟩
    refine q _ _ _ _ _ _ k (f1.trans (f2.trans (fz_upd (I2.fh.none hp)))) (I2.newF hp _) ?_
    simp only [RR, Rf]
    exact ⟨p, _, rfl, upd_same, strs_rf⟩⟩
/-! f'..' -/
def TFmt (T : TX) : TX := fun E K => T E fun x E1 => match x with
  | .fz (.str a) => a.length ≤ 100000 ∧ K (.fz (.str a)) E1
  | .fz (.int i) => i.natAbs.log2 < 1920 ∧ K (.fz (.str (toString i))) E1
  | _ => False
instance lf_fmt {te : TE} {T : TX} [a : LfE c P W F0 pv te T] : LfE c P W F0 pv (tFmt te) (TFmt T) := ⟨fun {B E σ F O H K Q} I h q =>
  a.run I h fun x E1 v F1 O1 H1 h1 f1 I1 r1 => by
    split at h1
    · obtain ⟨hl, k⟩ := h1
      simp only [RR, Rf] at r1
      subst r1
      exact .inl ⟨_, rfl, szL hl, q _ _ _ _ _ _ k f1 I1 (by simp only [RR, Rf])⟩
    · obtain ⟨hl, k⟩ := h1
      simp only [RR, Rf] at r1
      subst r1
      exact .inr ⟨_, rfl, hl, q _ _ _ _ _ _ k f1 I1 (by simp only [RR, Rf])⟩
    · exact h1.elim⟩
def TJoin3 (T1 T2 T3 : TX) : TX := fun E K => T1 E fun x E1 => stK x fun a => a.length ≤ 30000 ∧ T2 E1 fun y E2 => stK y fun b => b.length ≤ 30000 ∧ T3 E2 fun z E3 => stK z fun d => d.length ≤ 30000 ∧ K (.fz (.str (a ++ b ++ d))) E3
theorem empty_app (a : Str) : Str.empty ++ a = a := by
  show Str.mk (#[] ++ a.cps) = a
  rw [Array.empty_append]
theorem len_app (a b : Str) : (a ++ b).length = a.length + b.length := by
  show (a.cps ++ b.cps).size = a.cps.size + b.cps.size
  exact Array.size_append
instance lf_join3 {t1 t2 t3 : TE} {T1 T2 T3 : TX} [a : LfE c P W F0 pv t1 T1] [b : LfE c P W F0 pv t2 T2] [d : LfE c P W F0 pv t3 T3] : LfE c P W F0 pv (tJoin3 t1 t2 t3) (TJoin3 T1 T2 T3) := ⟨fun {B E σ F O H K Q} I h q => by
  show tJs [t1, t2, t3] Str.empty σ H fun out H1 => Q (.str out) H1
  unfold tJs
  refine a.run I h fun x E1 v F1 O1 H1 h1 f1 I1 r1 => ?_
  obtain ⟨s, rfl, rfl, l1, k1⟩ := stK_ok r1 h1
  refine ⟨s, rfl, by rw [empty_app]; exact szL (by omega), ?_⟩
  unfold tJs
  refine b.run I1 k1 fun y E2 u F2 O2 H2 h2 f2 I2 r2 => ?_
  obtain ⟨z, rfl, rfl, l2, k2⟩ := stK_ok r2 h2
  refine ⟨z, rfl, by rw [empty_app, len_app]; exact szL (by omega), ?_⟩
  unfold tJs
  refine d.run I2 k2 fun y3 E3 u3 F3 O3 H3 h3 f3 I3 r3 => ?_
  obtain ⟨z3, rfl, rfl, l3, k3⟩ := stK_ok r3 h3
  refine ⟨z3, rfl, by rw [empty_app, len_app, len_app]; exact szL (by omega), ?_⟩
  unfold tJs
  rw [empty_app]
  exact q _ _ _ _ _ _ k3 (f1.trans (f2.trans f3)) I3 (by simp only [RR, Rf])⟩
end
end TL
namespace Q1
open PySem PySem.Spec PyProof.Rows L2 R9 R9M TL
open L2H (RoomH)
open K01 (Sm)
def topS (i : Nat) : Stmt := PySem.Challenge.pw_marktruly_k06_shares_written.main.body.getD i (.Pass ⟨0, 0, 0, 0⟩)
abbrev s_wall : Stmt := topS 1
abbrev s_kept : Stmt := topS 3
abbrev s_InvalidNumber_init : Stmt := inClass (topS 5) 0
abbrev s_InvalidText_init : Stmt := inClass (topS 6) 0
abbrev s_Share_init : Stmt := inClass (topS 8) 0
abbrev s_Share_add : Stmt := inClass (topS 8) 1
abbrev s_Share_sub : Stmt := inClass (topS 8) 2
abbrev s_Share_mul : Stmt := inClass (topS 8) 3
abbrev s_Share_eq : Stmt := inClass (topS 8) 4
abbrev s_Share_by : Stmt := inClass (topS 8) 5
abbrev s_Share_is_below : Stmt := inClass (topS 8) 6
abbrev s_Share_written : Stmt := inClass (topS 8) 7
abbrev s_is_digits : Stmt := topS 9
abbrev s_told : Stmt := topS 10
abbrev s_read_share : Stmt := topS 11
abbrev s_law_integer : Stmt := topS 13
abbrev s_law_gcd : Stmt := topS 14
abbrev s_law_start : Stmt := topS 15
abbrev s_law_draw : Stmt := topS 16
abbrev s_law_wide : Stmt := topS 17
abbrev s_law_is : Stmt := topS 18
abbrev s_law_signs : Stmt := topS 19
abbrev s_law_text : Stmt := topS 20
abbrev s_law_digits : Stmt := topS 21
abbrev s_law_read : Stmt := topS 22
abbrev s_law_number : Stmt := topS 23
abbrev s_law_long : Stmt := topS 24
abbrev s_law_written : Stmt := topS 25
abbrev s_law_string : Stmt := topS 26
abbrev s_law_told : Stmt := topS 27
abbrev s_law_body : Stmt := topS 28
abbrev s_law : Stmt := topS 29
theorem sc_wall : FnScope ["k"] ["k"] (defScope s_wall) := ⟨rfl, rfl, rfl, by decide +kernel, rfl, by decide +kernel, by decide +kernel⟩
theorem sc_kept : FnScope ["value", "part"] ["value"] (defScope s_kept) := ⟨rfl, rfl, rfl, by decide +kernel, rfl, by decide +kernel, by decide +kernel⟩
theorem sc_InvalidNumber_init : FnScope ["self", "number"] ["self", "number"] (defScope s_InvalidNumber_init) := ⟨rfl, rfl, rfl, by decide +kernel, rfl, by decide +kernel, by decide +kernel⟩
theorem sc_InvalidText_init : FnScope ["self", "text", "at"] ["self", "text", "at"] (defScope s_InvalidText_init) := ⟨rfl, rfl, rfl, by decide +kernel, rfl, by decide +kernel, by decide +kernel⟩
theorem sc_Share_init : FnScope ["self", "over", "under", "divisor"] ["self", "over", "under"] (defScope s_Share_init) := ⟨rfl, rfl, rfl, by decide +kernel, rfl, by decide +kernel, by decide +kernel⟩
theorem sc_Share_add : FnScope ["self", "other"] ["self", "other"] (defScope s_Share_add) := ⟨rfl, rfl, rfl, by decide +kernel, rfl, by decide +kernel, by decide +kernel⟩
theorem sc_Share_sub : FnScope ["self", "other"] ["self", "other"] (defScope s_Share_sub) := ⟨rfl, rfl, rfl, by decide +kernel, rfl, by decide +kernel, by decide +kernel⟩
theorem sc_Share_mul : FnScope ["self", "other"] ["self", "other"] (defScope s_Share_mul) := ⟨rfl, rfl, rfl, by decide +kernel, rfl, by decide +kernel, by decide +kernel⟩
theorem sc_Share_eq : FnScope ["self", "other"] ["self", "other"] (defScope s_Share_eq) := ⟨rfl, rfl, rfl, by decide +kernel, rfl, by decide +kernel, by decide +kernel⟩
theorem sc_Share_by : FnScope ["self", "other"] ["self", "other"] (defScope s_Share_by) := ⟨rfl, rfl, rfl, by decide +kernel, rfl, by decide +kernel, by decide +kernel⟩
theorem sc_Share_is_below : FnScope ["self", "other"] ["self", "other"] (defScope s_Share_is_below) := ⟨rfl, rfl, rfl, by decide +kernel, rfl, by decide +kernel, by decide +kernel⟩
theorem sc_Share_written : FnScope ["self"] ["self"] (defScope s_Share_written) := ⟨rfl, rfl, rfl, by decide +kernel, rfl, by decide +kernel, by decide +kernel⟩
theorem sc_is_digits : FnScope ["word"] ["word"] (defScope s_is_digits) := ⟨rfl, rfl, rfl, by decide +kernel, rfl, by decide +kernel, by decide +kernel⟩
theorem sc_told : FnScope ["text", "over", "stroke", "under"] ["text"] (defScope s_told) := ⟨rfl, rfl, rfl, by decide +kernel, rfl, by decide +kernel, by decide +kernel⟩
theorem sc_read_share : FnScope ["text", "share"] ["text"] (defScope s_read_share) := ⟨rfl, rfl, rfl, by decide +kernel, rfl, by decide +kernel, by decide +kernel⟩
theorem sc_law_integer : FnScope ["value"] ["value"] (defScope s_law_integer) := ⟨rfl, rfl, rfl, by decide +kernel, rfl, by decide +kernel, by decide +kernel⟩
theorem sc_law_gcd : FnScope ["one", "other", "k"] ["one", "other"] (defScope s_law_gcd) := ⟨rfl, rfl, rfl, by decide +kernel, rfl, by decide +kernel, by decide +kernel⟩
theorem sc_law_start : FnScope ["script"] ["script"] (defScope s_law_start) := ⟨rfl, rfl, rfl, by decide +kernel, rfl, by decide +kernel, by decide +kernel⟩
theorem sc_law_draw : FnScope ["state", "limit", "cell", "got"] ["state", "limit"] (defScope s_law_draw) := ⟨rfl, rfl, rfl, by decide +kernel, rfl, by decide +kernel, by decide +kernel⟩
theorem sc_law_wide : FnScope ["state", "number", "k", "limit"] ["state"] (defScope s_law_wide) := ⟨rfl, rfl, rfl, by decide +kernel, rfl, by decide +kernel, by decide +kernel⟩
theorem sc_law_is : FnScope ["got", "over", "under", "common"] ["got", "over", "under"] (defScope s_law_is) := ⟨rfl, rfl, rfl, by decide +kernel, rfl, by decide +kernel, by decide +kernel⟩
theorem sc_law_signs : FnScope [] [] (defScope s_law_signs) := ⟨rfl, rfl, rfl, by decide +kernel, rfl, by decide +kernel, by decide +kernel⟩
theorem sc_law_text : FnScope ["state", "most", "kind", "size", "signs", "text", "k"] ["state", "most"] (defScope s_law_text) := ⟨rfl, rfl, rfl, by decide +kernel, rfl, by decide +kernel, by decide +kernel⟩
theorem sc_law_digits : FnScope ["text", "sign"] ["text"] (defScope s_law_digits) := ⟨rfl, rfl, rfl, by decide +kernel, rfl, by decide +kernel, by decide +kernel⟩
theorem sc_law_read : FnScope ["text", "body", "parts", "over", "under"] ["text"] (defScope s_law_read) := ⟨rfl, rfl, rfl, by decide +kernel, rfl, by decide +kernel, by decide +kernel⟩
theorem sc_law_number : FnScope ["state", "kind"] ["state"] (defScope s_law_number) := ⟨rfl, rfl, rfl, by decide +kernel, rfl, by decide +kernel, by decide +kernel⟩
theorem sc_law_long : FnScope ["state", "digits", "longer", "k"] ["state"] (defScope s_law_long) := ⟨rfl, rfl, rfl, by decide +kernel, rfl, by decide +kernel, by decide +kernel⟩
theorem sc_law_written : FnScope ["over", "under", "common", "text"] ["over", "under"] (defScope s_law_written) := ⟨rfl, rfl, rfl, by decide +kernel, rfl, by decide +kernel, by decide +kernel⟩
theorem sc_law_string : FnScope ["state", "text", "kind", "at", "sign", "made", "k"] ["state", "text"] (defScope s_law_string) := ⟨rfl, rfl, rfl, by decide +kernel, rfl, by decide +kernel, by decide +kernel⟩
theorem sc_law_told : FnScope ["text", "due", "share", "e", "again"] ["text"] (defScope s_law_told) := ⟨rfl, rfl, rfl, by decide +kernel, rfl, by decide +kernel, by decide +kernel⟩
theorem sc_law_body : FnScope ["script", "state", "over", "under", "share", "due", "text", "string"] ["script"] (defScope s_law_body) := ⟨rfl, rfl, rfl, by decide +kernel, rfl, by decide +kernel, by decide +kernel⟩
theorem sc_law : FnScope ["script"] ["script"] (defScope s_law) := ⟨rfl, rfl, rfl, by decide +kernel, rfl, by decide +kernel, by decide +kernel⟩
/-! ### what the text's top has made, as far as the bodies ask -/
structure Txt (K : PySem.W.Frag) (mg : Str → Option Value) (CS CI CT CP CM CK CU CC CN CE CA CH CB CRM CR CX_ : Addr) : Prop where
  len : mg "len" = none
  abs : mg "abs" = none
  int : mg "int" = none
  bool : mg "bool" = none
  str : mg "str" = none
  list : mg "list" = none
  tuple : mg "tuple" = none
  ValueError : mg "ValueError" = none
  max : mg "max" = none
  min : mg "min" = none
  isinstance : mg "isinstance" = none
  range : mg "range" = none
  zip : mg "zip" = none
  sum : mg "sum" = none
  sorted : mg "sorted" = none
  enumerate : mg "enumerate" = none
  set : mg "set" = none
  dict : mg "dict" = none
  any : mg "any" = none
  all : mg "all" = none
  gcd : mg "gcd" = some (.builtin "math.gcd")
  mgShare : mg "Share" = some (.ref CS)
  cl : Cls K CS
  nO : NoAttr K CS "over"
  nU : NoAttr K CS "under"
  mgInvalidNumber : mg "InvalidNumber" = some (.ref CI)
  oex : OexC K CI
  xf_CI : XfC K CI
  excC_CI : ExcC K CI
  no_number : PySem.W.findIn K (.ref CI) "number" = some none
  mgInvalidText : mg "InvalidText" = some (.ref CX_)
  oexX_ : OexC K CX_
  xf_CX_ : XfC K CX_
  excC_CX_ : ExcC K CX_
  noX__text : PySem.W.findIn K (.ref CX_) "text" = some none
  noX__at : PySem.W.findIn K (.ref CX_) "at" = some none
  sf : PySem.W.selfFirst K CS = true
  iCls : PySem.W.findIn K (.ref CS) "__class__" = some (some (.builtin "object.__class__"))
  iGet : PySem.W.specialIn K (.builtin "object.__class__") "__get__" = some (some (.builtin "getset_descriptor.__get__"))
  iTak : PySem.W.takesIn K (.builtin "object.__class__") = some true
  iObj : PySem.W.mroIn K CS (.type "object") = some true
  kSS : PySem.W.kitOne K (.ref CS) (.ref CS) = some true
  kI : PySem.W.kitOne K (.type "int") (.ref CS) = some false
  kT : PySem.W.kitOne K (.type "tuple") (.ref CS) = some false
  kL : PySem.W.kitOne K (.type "list") (.ref CS) = some false
  kX : PySem.W.kitOne K (.type "str") (.ref CS) = some false
  nfS : PySem.W.notFirst K CS (.ref CS) = true
  nfI : PySem.W.notFirst K CS (.type "int") = true
  nfT : PySem.W.notFirst K CS (.type "tuple") = true
  nfL : PySem.W.notFirst K CS (.type "list") = true
  nfX : PySem.W.notFirst K CS (.type "str") = true
  ne : PySem.W.findIn K (.ref CS) "__ne__" = some (some (.builtin "object.__ne__"))
  ob : PySem.W.subIn K (.ref CS) (.type "object") = some true
  xf : XfC K CI
  excC : ExcC K CI
  kVE : PySem.W.kitOne K (.ref CI) (.type "ValueError") = some true
  exm : PySem.W.exmOne K (.ref CI) (.ref CI) = some true
section
variable {P : Program} {w : World} {K : PySem.W.Frag} {mg : Str → Option Value} {base : Heap} {CS CI CT CP CM CK CU CC CN CE CA CH CB CRM CR CX_ : Addr}
section
variable {X : Cx} {j k : Nat} {sp : Sp} {ps : List Str} {st : Stmt} {qual : Str}
theorem op_dAdd (D : Dm X.prog X.w X.K X.mg X.base k CS "__add__" qual st ps sp) (hr : Room j X.A) (hk : k ≤ j) (T : Txt X.K X.mg CS CI CT CP CM CK CU CC CN CE CA CH CB CRM CR CX_) : OpR X (binaryOp .Add) (rOwn CS sp E0) := op_d D hr hk T.sf rfl
theorem op_dSub (D : Dm X.prog X.w X.K X.mg X.base k CS "__sub__" qual st ps sp) (hr : Room j X.A) (hk : k ≤ j) (T : Txt X.K X.mg CS CI CT CP CM CK CU CC CN CE CA CH CB CRM CR CX_) : OpR X (binaryOp .Sub) (rOwn CS sp E0) := op_d D hr hk T.sf rfl
theorem op_dMul (D : Dm X.prog X.w X.K X.mg X.base k CS "__mul__" qual st ps sp) (hr : Room j X.A) (hk : k ≤ j) (T : Txt X.K X.mg CS CI CT CP CM CK CU CC CN CE CA CH CB CRM CR CX_) : OpR X (binaryOp .Mult) (rOwn CS sp E0) := op_d D hr hk T.sf rfl
theorem op_dEq (D : Dm X.prog X.w X.K X.mg X.base k CS "__eq__" qual st ps sp) (hr : Room j X.A) (hk : k ≤ j) (T : Txt X.K X.mg CS CI CT CP CM CK CU CC CN CE CA CH CB CRM CR CX_) : OpR X (compareOp .Eq) (rOwnEq X.K CS sp E0) := op_dE D hr hk
theorem op_dNe (D : Dm X.prog X.w X.K X.mg X.base k CS "__eq__" qual st ps sp) (hr : Room j X.A) (hk : k + 1 ≤ j) (T : Txt X.K X.mg CS CI CT CP CM CK CU CC CN CE CA CH CB CRM CR CX_) : OpR X (compareOp .NotEq) (rOwnNe X.K CS sp E0) := op_dN D hr hk T.ne T.ob
end
end

end Q1
namespace Q1
open PySem PySem.Spec PyProof.Rows L2 R9 R9M TL
open L2H (RoomH)
open K01 (Sm)
local macro_rules | `(tactic| k_extra "sm") => `(tactic| first
  | assumption
  | exact K01.Sm.lit (k := 200) (by decide)
  | exact K01.Sm.mul (by k_extra "sm") (by k_extra "sm")
  | exact K01.Sm.add (by k_extra "sm") (by k_extra "sm")
  | exact K01.Sm.sub (by k_extra "sm") (by k_extra "sm"))
local macro_rules | `(tactic| k_extra "sd") => `(tactic| first
  | exact rfl
  | exact trivial
  | exact allJ rfl
  | (simp only [OD.full, OD.fullL, and_true]; exact rfl)
  | exact ⟨rfl, rfl⟩
  | assumption
  | (with_reducible show CMulW _ _; exact K01.Sm.m (by k_extra "sm") (by k_extra "sm") (by decide) (by decide) (by decide))
  | exact Nat.le_of_ble_eq_true rfl
  | exact ⟨by decide, by decide, by decide⟩
  | (with_reducible show R9.CDivX _ _; exact K01.Sm.d (by k_extra "sm") (by omega))
  | exact ⟨by omega, by omega⟩
  | (dsimp only; omega)
  | (show (_ : Nat) ≤ (_ : Nat); omega)
  | decide)
local macro_rules | `(tactic| k_extra "ts") => `(tactic| ((try (conv => whnf)); repeat (refine And.intro (by k_extra "sd") ?_; (try (conv => whnf)))))
local macro_rules | `(tactic| k_extra "td") => `(tactic| dsimp only [atomD, List.map_cons, List.map_nil, Res.d, List.set_cons_zero, List.set_cons_succ, outs, List.getElem?_cons_zero, List.getElem?_cons_succ, Option.getD_some, Ent.mk, List.length_cons, List.length_nil])
local macro_rules | `(tactic| k_extra "i2") => `(tactic| refine ifK_d (fun hb => ?_) (fun hb => ?_))
section
variable {P : Program} {w : World} {K : PySem.W.Frag} {mg : Str → Option Value} {base : Heap} {CS CI CT CP CM CK CU CC CN CE CA CH CB CRM CR CX_ : Addr} {c : Cls} [ik : IsK c K] [ip : IsP c P w] [ic0 : IsC c CS 0] [ic20 : IsC c CI 20] [ic27 : IsC c CX_ 27] [te : TxE K c [20, 27]] [tf : TxF K c [0]] [ti : TxI K c [0] [2, 3, 4, 5] []]
def stO (ns : List Int) (i b d e : Int) : OD := .fl [.lst (ns.map .int), .int i, .int b, .int d, .int e]
/-- the state of the script's draws -/
def StOk (o : OD) : Prop := ∃ (ns : List Int) (i b d e : Int), o = stO ns i b d e ∧ ns.length ≤ 63 ∧ 0 ≤ i ∧ i ≤ 63 ∧ 0 ≤ b ∧ d ≤ 60 ∧ 0 ≤ e ∧ e < 2147483647
theorem atI_map {α β : Type} {f : α → β} {xs : List α} {i : Int} {x : α} (h : atI xs i = some x) : atI (xs.map f) i = some (f x) := by
  unfold atI at h ⊢
  rw [List.length_map]
  cases e : ixN xs.length i with
  | none => rw [e] at h; cases h
  | some j => rw [e] at h; simp only [Option.bind_some] at h ⊢; rw [List.getElem?_map, h]; rfl
theorem atI_lt {α : Type} {xs : List α} {i : Int} (h0 : 0 ≤ i) (h : i < xs.length) : ∃ x, atI xs i = some x ∧ x ∈ xs := by
  have hj : i.toNat < xs.length := by omega
  refine ⟨xs[i.toNat], ?_, List.getElem_mem hj⟩
  have := atI_nat (xs := xs) (j := i.toNat) (List.getElem?_eq_getElem hj)
  rwa [Int.toNat_of_nonneg h0] at this
def sp_law_start : TSp := t1 fun s KK => ∃ ns, s = .fz (.scr ns) ∧ ns.length ≤ 63 ∧ ∀ st, StOk st → KK (.ow st) [.nil]
theorem ok_law_start {f : Addr} {fd : FuncData} (F : Fun K "_law_start" "_law_start" s_law_start f fd) (T : Txt K mg CS CI CT CP CM CK CU CC CN CE CA CH CB CRM CR CX_)  : FnOk P w K mg base (L2.CX P w) 1 f fd ["script"] (lift c [.f] sp_law_start) := by
  have nd := sc_law_start.nd
  refine F.okX sc_law_start (fun vs H Q E h => ?_) (fun cdv A outer s H vs Q E hr h => ?_)
  · exact lift_len h (by rintro as KK ⟨_, rfl, _⟩; rfl)
  · refine ⟨_, (pss_one (ps_ret (pe_nw (pe_lst (pa_cons (pe_callTy (K01.list_ofK : CallR _ (.type "list") (K01.rListOf K)) (by rfl) T.list (by decide +kernel) (pa_cons (pv 0) pa_nil)) (pa_cons pe_int (pa_cons pe_int (pa_cons pe_int (pa_cons pe_int pa_nil))))))))), ?_⟩
    refine bodyN (c := c) (P := []) (n := 1) [] h rfl rfl ?_
    rintro as KK ⟨_, rfl, ⟨ns, rfl, hl, h⟩⟩
    refine ⟨rfl, by simp [ownsIn], by simp, ?_⟩
    simp only [List.cons_append, List.nil_append]
    k_extra "ts"
    exact h _ ⟨ns, 0, 0, 0, 7, rfl, hl, by omega⟩
def sp_law_draw : TSp := t2 fun s n KK => ∃ st k, s = .ow st ∧ StOk st ∧ n = .fz (.int k) ∧ Sm 200 k ∧ ∀ st' r, StOk st' → 0 ≤ r → r < max 1 k → KK (.fz (.int r)) [.ow st', .nil]
theorem ok_law_draw {f : Addr} {fd : FuncData} (F : Fun K "_law_draw" "_law_draw" s_law_draw f fd) (T : Txt K mg CS CI CT CP CM CK CU CC CN CE CA CH CB CRM CR CX_)  : FnOk P w K mg base (L2.CX P w) 1 f fd ["state", "limit"] (lift c [.l, .f] sp_law_draw) := by
  have nd := sc_law_draw.nd
  refine F.okX sc_law_draw (fun vs H Q E h => ?_) (fun cdv A outer s H vs Q E hr h => ?_)
  · exact lift_len h (by rintro as KK ⟨_, _, rfl, _⟩; rfl)
  · refine ⟨_, (pss_mid (ps_if (pt_cmpR op_lt (pv 1) pe_int (nomark _))
(pss_one (ps_set (i := 1) nd rfl (Or.inl rfl) pe_int))
pss_nil)
(pss_mid (ps_if (PW.pt (pw_and (pt_cmpR op_eq (pe_ix (ix_list : IxR _ (rIxL K)) (pv 0) pe_int (fun _ _ => rfl)) pe_int (nomark _)) (pw_and1 (pt_cmpR op_lt (pe_ix (ix_list : IxR _ (rIxL K)) (pv 0) pe_int (fun _ _ => rfl)) (pe_callB (K01.len_seqK : CallR _ (.builtin "len") (K01.rLenSeq K)) (by rfl) T.len (by decide +kernel) (pa_cons (pe_ix (ix_list : IxR _ (rIxL K)) (pv 0) pe_int (fun _ _ => rfl)) pa_nil)) (nomark _)))))
(pss_cons (ps_set (i := 2) nd rfl (Or.inl rfl) (pe_callB n_abs (by rfl) T.abs (by decide +kernel) (pa_cons (pe_callTy n_int1 (by rfl) T.int (by decide +kernel) (pa_cons (pe_ix (ix_list : IxR _ (rIxL K)) (pe_ix (ix_list : IxR _ (rIxL K)) (pv 0) pe_int (fun _ _ => rfl)) (pe_ix (ix_list : IxR _ (rIxL K)) (pv 0) pe_int (fun _ _ => rfl)) (fun _ _ => rfl)) pa_nil)) pa_nil)))
(pss_cons (ps_asg (pe_op op_add (pe_ix (ix_list : IxR _ (rIxL K)) (pv 0) pe_int (fun _ _ => rfl)) pe_int) (pg_sub (pv 0) pe_int set_list))
(pss_cons (ps_asg pe_int (pg_sub (pv 0) pe_int set_list))
(pss_one (ps_if (pt_cmpR op_ge (pv 2) (pe_op op_pow pe_int pe_int) (nomark _))
(pss_cons (ps_asg (pv 2) (pg_sub (pv 0) pe_int set_list))
(pss_one (ps_asg pe_int (pg_sub (pv 0) pe_int set_list))))
(pss_one (ps_asg (pe_op op_modN (pe_callTy n_int1 (by rfl) T.int (by decide +kernel) (pa_cons (pe_op op_add (pe_op op_add (pe_op op_mulW (pe_ix (ix_list : IxR _ (rIxL K)) (pv 0) pe_int (fun _ _ => rfl)) pe_int) (pv 2)) (pe_ix (ix_list : IxR _ (rIxL K)) (pv 0) pe_int (fun _ _ => rfl))) pa_nil)) pe_int) (pg_sub (pv 0) pe_int set_list))))))))
pss_nil)
(pss_cons (ps_if (pt_cmpR op_gt (pe_ix (ix_list : IxR _ (rIxL K)) (pv 0) pe_int (fun _ _ => rfl)) pe_int (nomark _))
(pss_cons (ps_set (i := 3) nd rfl (Or.inl rfl) (pe_op op_modN (pe_callTy n_int1 (by rfl) T.int (by decide +kernel) (pa_cons (pe_ix (ix_list : IxR _ (rIxL K)) (pv 0) pe_int (fun _ _ => rfl)) pa_nil)) (pv 1)))
(pss_cons (ps_asg (pe_op op_fdivX (pe_ix (ix_list : IxR _ (rIxL K)) (pv 0) pe_int (fun _ _ => rfl)) (pv 1)) (pg_sub (pv 0) pe_int set_list))
(pss_cons (ps_asg (pe_op op_sub (pe_ix (ix_list : IxR _ (rIxL K)) (pv 0) pe_int (fun _ _ => rfl)) pe_int) (pg_sub (pv 0) pe_int set_list))
(pss_cons (ps_if (PW.pt (pw_or (pt_cmpR op_eq (pe_ix (ix_list : IxR _ (rIxL K)) (pv 0) pe_int (fun _ _ => rfl)) pe_int (nomark _)) (pw_or1 (pt_cmpR op_eq (pe_ix (ix_list : IxR _ (rIxL K)) (pv 0) pe_int (fun _ _ => rfl)) pe_int (nomark _)))))
(pss_cons (ps_asg pe_int (pg_sub (pv 0) pe_int set_list))
(pss_one (ps_asg pe_int (pg_sub (pv 0) pe_int set_list))))
pss_nil)
(pss_one (ps_ret (pv 3)))))))
pss_nil)
(pss_cons (ps_asg (pe_callB (n_max2 rfl) (by rfl) T.max (by decide +kernel) (pa_cons pe_int (pa_cons (pe_op op_sub (pe_ix (ix_list : IxR _ (rIxL K)) (pv 0) pe_int (fun _ _ => rfl)) pe_int) pa_nil))) (pg_sub (pv 0) pe_int set_list))
(pss_cons (ps_asg (pe_op op_modN (pe_callTy n_int1 (by rfl) T.int (by decide +kernel) (pa_cons (pe_op op_add (pe_op op_mulW (pe_ix (ix_list : IxR _ (rIxL K)) (pv 0) pe_int (fun _ _ => rfl)) pe_int) pe_int) pa_nil)) pe_int) (pg_sub (pv 0) pe_int set_list))
(pss_one (ps_ret (pe_op op_modN (pe_callTy n_int1 (by rfl) T.int (by decide +kernel) (pa_cons (pe_op op_modN (pe_callTy n_int1 (by rfl) T.int (by decide +kernel) (pa_cons (pe_op op_add (pe_op op_mulW (pe_ix (ix_list : IxR _ (rIxL K)) (pv 0) pe_int (fun _ _ => rfl)) pe_int) pe_int) pa_nil)) pe_int) pa_nil)) (pv 1))))))))), ?_⟩
    refine bodyN (c := c) (P := [0]) (n := 2) [.nil, .nil] h rfl rfl ?_
    rintro as KK ⟨_, _, rfl, ⟨st, k, rfl, ⟨ns, i, b, d, e, rfl, hl, hi0, hi, hb0, hd, he0, he⟩, rfl, hk, h⟩⟩
    refine ⟨rfl, by simp [ownsIn], by simp, ?_⟩
    simp only [List.cons_append, List.nil_append]
    have hse : Sm 200 e := by unfold K01.Sm; omega
    k_extra "ts"
    refine ⟨fun E => ∃ k', E = [.ow (stO ns i b d e), .fz (.int k'), .nil, .nil] ∧ 1 ≤ k' ∧ k' ≤ max 1 k ∧ Sm 200 k', ?_, ?_⟩
    · k_extra "ts"
      refine ifK_d (fun hb => ?_) (fun hb => ?_)
      · k_extra "ts"
        exact ⟨1, rfl, by omega, by omega, K01.Sm.lit (by decide)⟩
      · have := of_decide_eq_false hb
        exact ⟨k, rfl, by omega, by omega, hk⟩
    rintro _ ⟨k', rfl, hk1, hk2, hk3⟩
    refine ⟨fun E => ∃ i' b' d' e' x, E = [.ow (stO ns i' b' d' e'), .fz (.int k'), x, .nil] ∧ 0 ≤ i' ∧ i' ≤ 63 ∧ 0 ≤ b' ∧ d' ≤ 60 ∧ 0 ≤ e' ∧ e' < 2147483647, ?_, ?_⟩
    · k_extra "ts"
      refine ifK_d (fun h1 => ?_) (fun h1 => ?_)
      · k_extra "ts"
        refine ifK_d (fun h2 => ?_) (fun h2 => ?_)
        · have h2' := of_decide_eq_true h2
          rw [List.length_map] at h2'
          obtain ⟨n, hn, _⟩ := atI_lt hi0 h2'
          k_extra "ts"
          refine atIK_of (atI_map hn) ?_
          k_extra "ts"
          refine ifK_d (fun h3 => ?_) (fun h3 => ?_)
          · k_extra "ts"
            refine ⟨_, _, _, _, _, rfl, by omega, by omega, ?_, by omega, by omega, by omega⟩
            split <;> omega
          · k_extra "ts"
            refine ⟨_, _, _, _, _, rfl, by omega, by omega, by omega, by omega, ?_, ?_⟩
            · rw [Int.fmod_eq_emod_of_nonneg _ (by decide)]; omega
            · rw [Int.fmod_eq_emod_of_nonneg _ (by decide)]; omega
        · exact ⟨i, b, d, e, _, rfl, by omega⟩
      · exact ⟨i, b, d, e, _, rfl, by omega⟩
    rintro _ ⟨i', b', d', e', x, rfl, p1, p2, p3, p4, p5, p6⟩
    have hse' : Sm 200 e' := by unfold K01.Sm; omega
    k_extra "ts"
    have hm : ∀ z : Int, (z.fmod 2147483647 = z % 2147483647) ∧ (z.fmod 2147483399 = z % 2147483399) := fun z => ⟨Int.fmod_eq_emod_of_nonneg _ (by decide), Int.fmod_eq_emod_of_nonneg _ (by decide)⟩
    have hmk : ∀ z : Int, z.fmod k' = z % k' := fun z => Int.fmod_eq_emod_of_nonneg _ (by omega)
    have hmb : ∀ z : Int, 0 ≤ z % k' ∧ z % k' < max 1 k := fun z => by
      have := Int.emod_nonneg z (b := k') (by omega)
      have := Int.emod_lt_of_pos z (b := k') (by omega)
      omega
    have hdb : 0 ≤ b'.fdiv k' := by rw [Int.fdiv_eq_ediv_of_nonneg _ (by omega)]; exact Int.ediv_nonneg p3 (by omega)
    refine ifK_d (fun h1 => ?_) (fun h1 => ?_)
    · k_extra "ts"
      refine ifK_d (fun h2 => ?_) (fun h2 => ?_)
      · k_extra "ts"
        refine h _ _ ⟨ns, i', 0, 0, e', rfl, hl, p1, p2, by omega, by omega, p5, p6⟩ ?_ ?_
        · rw [hmk]; exact (hmb _).1
        · rw [hmk]; exact (hmb _).2
      · k_extra "ts"
        refine ifK_d (fun h3 => ?_) (fun h3 => ?_)
        · k_extra "ts"
          refine h _ _ ⟨ns, i', 0, 0, e', rfl, hl, p1, p2, by omega, by omega, p5, p6⟩ ?_ ?_
          · rw [hmk]; exact (hmb _).1
          · rw [hmk]; exact (hmb _).2
        · k_extra "ts"
          refine h _ _ ⟨ns, i', _, d' - 1, e', rfl, hl, p1, p2, hdb, by omega, p5, p6⟩ ?_ ?_
          · rw [hmk]; exact (hmb _).1
          · rw [hmk]; exact (hmb _).2
    · have hs2 : Sm 200 ((e' * 48271 + 12345).fmod 2147483647) := by rw [(hm _).1]; unfold K01.Sm; omega
      k_extra "ts"
      refine h _ _ ⟨ns, i', b', _, _, rfl, hl, p1, p2, p3, ?_, ?_, ?_⟩ ?_ ?_
      · split <;> omega
      · rw [(hm _).1]; omega
      · rw [(hm _).1]; omega
      · rw [hmk]; exact (hmb _).1
      · rw [hmk]; exact (hmb _).2
open R9M
theorem bits_eq (a : Nat) : Builtin.Int.intBits (a : Int) = bits a := by
  unfold Builtin.Int.intBits bits
  by_cases h : a = 0
  · subst h; rfl
  · rw [if_neg h, if_neg (by simpa using h), Int.natAbs_natCast]
theorem bits_le {a k : Nat} (h : a < 2 ^ k) : bits a ≤ k := by
  unfold bits
  split
  · omega
  · rename_i z
    have := (Nat.log2_lt z).mpr h
    omega
def sp_law_integer : TSp := t1 fun a KK => ∃ n, a = .fz (.int n) ∧ KK (.fz (.bl true)) [.nil]
theorem ok_law_integer {f : Addr} {fd : FuncData} (F : Fun K "_law_integer" "_law_integer" s_law_integer f fd) (T : Txt K mg CS CI CT CP CM CK CU CC CN CE CA CH CB CRM CR CX_)  : FnOk P w K mg base (L2.CX P w) 1 f fd ["value"] (lift c [.f] sp_law_integer) := by
  have nd := sc_law_integer.nd
  refine F.okX sc_law_integer (fun vs H Q E h => ?_) (fun cdv A outer s H vs Q E hr h => ?_)
  · exact lift_len h (by rintro as KK ⟨_, rfl, _⟩; rfl)
  · refine ⟨_, (pss_one (ps_ret (pe_and (pe_callB (call_isi : CallR _ (.builtin "isinstance") (rIsi K)) (by rfl) T.isinstance (by decide +kernel) (pa_cons (pv 0) (pa_cons (pe_bltn (v := .ty "int") (by rfl) T.int (by decide +kernel) rfl) pa_nil))) (pe_one (pe_not (pe_callB (call_isi : CallR _ (.builtin "isinstance") (rIsi K)) (by rfl) T.isinstance (by decide +kernel) (pa_cons (pv 0) (pa_cons (pe_bltn (v := .ty "bool") (by rfl) T.bool (by decide +kernel) rfl) pa_nil)))))))), ?_⟩
    refine bodyN (c := c) (P := []) (n := 1) [] h rfl rfl ?_
    rintro as KK ⟨_, rfl, ⟨n, rfl, h⟩⟩
    refine ⟨rfl, by simp [ownsIn], by simp, ?_⟩
    simp only [List.cons_append, List.nil_append]
    k_extra "ts"
    exact h
theorem okE_law_integer {f : Addr} {fd : FuncData} (F : Fun K "_law_integer" "_law_integer" s_law_integer f fd) (T : Txt K mg CS CI CT CP CM CK CU CC CN CE CA CH CB CRM CR CX_)  : FnE P w K mg base 1 f fd ["value"] (fun _ _ _ => (lift c [.f] sp_law_integer)) := by
  have nd := sc_law_integer.nd
  refine okE F sc_law_integer (fun a cls d vs H Q E h => ?_) (fun cdv A outer s H vs Q E p cls d exo hr h => ?_)
  · exact lift_len h (by rintro as KK ⟨_, rfl, _⟩; rfl)
  · refine ⟨_, (pss_one (ps_ret (pe_and (pe_callB (call_isi : CallR _ (.builtin "isinstance") (rIsi K)) (by rfl) T.isinstance (by decide +kernel) (pa_cons (pv 0) (pa_cons (pe_bltn (v := .ty "int") (by rfl) T.int (by decide +kernel) rfl) pa_nil))) (pe_one (pe_not (pe_callB (call_isi : CallR _ (.builtin "isinstance") (rIsi K)) (by rfl) T.isinstance (by decide +kernel) (pa_cons (pv 0) (pa_cons (pe_bltn (v := .ty "bool") (by rfl) T.bool (by decide +kernel) rfl) pa_nil)))))))), ?_⟩
    refine bodyN (c := c) (P := []) (n := 1) [] h rfl rfl ?_
    rintro as KK ⟨_, rfl, ⟨n, rfl, h⟩⟩
    refine ⟨rfl, by simp [ownsIn], by simp, ?_⟩
    simp only [List.cons_append, List.nil_append]
    k_extra "ts"
    exact h
def sp_law_gcd : TSp := t2 fun x y KK => ∃ a b : Nat, x = .fz (.int a) ∧ y = .fz (.int b) ∧ a < 2 ^ 4000 ∧ b < 2 ^ 4000 ∧ KK (.fz (.int (Nat.gcd a b : Nat))) [.nil, .nil]
theorem ok_law_gcd {f : Addr} {fd : FuncData} (F : Fun K "_law_gcd" "_law_gcd" s_law_gcd f fd) (T : Txt K mg CS CI CT CP CM CK CU CC CN CE CA CH CB CRM CR CX_)  : FnOk P w K mg base (L2.CX P w) 1 f fd ["one", "other"] (lift c [.f, .f] sp_law_gcd) := by
  have nd := sc_law_gcd.nd
  refine F.okX sc_law_gcd (fun vs H Q E h => ?_) (fun cdv A outer s H vs Q E hr h => ?_)
  · exact lift_len h (by rintro as KK ⟨_, _, rfl, _⟩; rfl)
  · refine ⟨_, (pss_cons (ps_for (passes_of rfl) rfl (pi_range1 (by rfl) T.range (pa_cons (pe_op op_add (pe_op op_mulW pe_int (pe_op op_add (pe_bits (pv 0)) (pe_bits (pv 1)))) pe_int) pa_nil)) (pg_name (i := 2) nd rfl (Or.inl rfl))
(pss_cons (ps_if (pt_cmpR op_eq (pv 1) pe_int (nomark _))
(pss_one (ps_ret (pv 0)))
pss_nil)
(pss_one (ps_par (i := 0) (j := 1) (by rfl) nd rfl rfl (by decide) rfl rfl (pa_cons (pv 1) (pa_cons (pe_op op_modN (pe_callTy n_int1 (by rfl) T.int (by decide +kernel) (pa_cons (pv 0) pa_nil)) (pv 1)) pa_nil)) (by rfl)))))
(pss_one (ps_ret (pv 0)))), ?_⟩
    refine bodyN (c := c) (P := []) (n := 2) [.nil] h rfl rfl ?_
    rintro as KK ⟨_, _, rfl, ⟨a, b, rfl, rfl, ha, hb, h⟩⟩
    refine ⟨rfl, by simp [ownsIn], by simp, ?_⟩
    simp only [List.cons_append, List.nil_append]
    have la := bits_le ha
    have lb := bits_le hb
    clear ha hb
    have e1 := bits_eq a
    have e2 := bits_eq b
    have sa : Sm 60 (Builtin.Int.intBits (a : Int) : Nat) := by rw [bits_eq]; unfold K01.Sm; omega
    have sb : Sm 60 (Builtin.Int.intBits (b : Int) : Nat) := by rw [bits_eq]; unfold K01.Sm; omega
    k_extra "ts"
    refine forI (fun i E => ∃ (x y : Nat) (e : Ent), E = [.fz (.int x), .fz (.int y), e] ∧ Nat.gcd x y = Nat.gcd a b ∧ i + euc x y = euc a b) ⟨a, b, _, rfl, rfl, Nat.zero_add _⟩ ?_ ?_
    · rintro i _ hi ⟨x, y, _, rfl, g, e⟩
      k_extra "ts"
      refine ifK_d (fun z => ?_) (fun z => ?_)
      · have d0 : y = 0 := by have := of_decide_eq_true z; omega
        k_extra "ts"
        rw [d0, Nat.gcd_zero_right] at g
        rw [← g] at h
        exact h
      · have d0 : y ≠ 0 := by have := of_decide_eq_false z; omega
        k_extra "ts"
        refine ⟨y, x % y, .fz (.int (0 + (i : Int))), ?_, ?_, ?_⟩
        · k_extra "td"
          have em : Int.fmod (x : Int) (y : Int) = ((x % y : Nat) : Int) := by
            rw [Int.fmod_eq_emod_of_nonneg _ (by omega)]
            exact (Int.natCast_emod x y).symm
          rw [em]
        · rw [gcd_step, g]
        · rw [euc_step d0] at e
          omega
    · rintro _ ⟨x, y, _, rfl, g, e⟩
      exfalso
      have := euc_turns a b
      omega
/-- a share that is worth o / u -/
def Sh (d : D) (o u : Int) : Prop := 0 < u ∧ ∃ n m : Int, d = .ins 0 [.int n, .int m] ∧ Low n m ∧ n * u = o * m
theorem Sh.sm {k : Nat} {n d o u : Int} (l : Low n d) (hu : 0 < u) (h : n * u = o * d) (ho : Sm k o) (hs : Sm k u) : Sm k n ∧ Sm k d := ⟨ho.le (low_le l hu h).1, hs.le (low_le l hu h).2⟩
def sp_Share_init : TSp := t3 fun a o u KK => ∃ x y, a = .ow (.ins 0 []) ∧ o = .fz (.int x) ∧ u = .fz (.int y) ∧ y ≠ 0 ∧ Sm 8000 x ∧ Sm 8000 y ∧ KK (.fz .non) [.ow (.ins 0 [.fz (.int (red x y).1), .fz (.int (red x y).2)]), .nil, .nil]
theorem ok_Share_init {f : Addr} {fd : FuncData} (F : Fun K "__init__" "Share.__init__" s_Share_init f fd) (T : Txt K mg CS CI CT CP CM CK CU CC CN CE CA CH CB CRM CR CX_)  : FnOk P w K mg base (L2.CX P w) 1 f fd ["self", "over", "under"] (lift c [.l, .f, .f] sp_Share_init) := by
  have nd := sc_Share_init.nd
  refine F.okX sc_Share_init (fun vs H Q E h => ?_) (fun cdv A outer s H vs Q E hr h => ?_)
  · exact lift_len h (by rintro as KK ⟨_, _, _, rfl, _⟩; rfl)
  · refine ⟨_, (pss_cons (ps_if (pt_cmpR op_eq (pv 2) pe_int (nomark _))
(pss_one (ps_never))
pss_nil)
(pss_cons (ps_set (i := 3) nd rfl (Or.inl rfl) (pe_callBfun cr_gcd (by rfl) T.gcd (pa_cons (pv 1) (pa_cons (pv 2) pa_nil))))
(pss_mid (ps_if (pt_cmpR op_lt (pv 2) pe_int (nomark _))
(pss_one (ps_set (i := 3) nd rfl (Or.inl rfl) (pe_un un_neg (pv 3))))
pss_nil)
(pss_cons ((ps_fld (pv 0) (pe_op op_fdivX (pv 1) (pv 3)) rfl : PS _ _ (sFld K _ _ _)))
(pss_one ((ps_fld (pv 0) (pe_op op_fdivX (pv 2) (pv 3)) rfl : PS _ _ (sFld K _ _ _)))))))), ?_⟩
    refine bodyN (c := c) (P := [0]) (n := 3) [.nil] h rfl rfl ?_
    rintro as KK ⟨_, _, _, rfl, ⟨x, y, rfl, rfl, rfl, y0, hx, hy, h⟩⟩
    refine ⟨rfl, by simp [ownsIn], by simp, ?_⟩
    simp only [List.cons_append, List.nil_append]
    have gp : 0 < Nat.gcd x.natAbs y.natAbs := Nat.gcd_pos_of_pos_right _ (by omega)
    have gl : Nat.gcd x.natAbs y.natAbs ≤ y.natAbs := Nat.gcd_le_right _ (by omega)
    obtain ⟨d, hd⟩ : ∃ d : Int, d = if y < 0 then -(Nat.gcd x.natAbs y.natAbs : Int) else (Nat.gcd x.natAbs y.natAbs : Int) := ⟨_, rfl⟩
    have d0 : d ≠ 0 := by rw [hd]; split <;> omega
    have dS : Sm 8000 d := hy.le (by rw [hd]; split <;> omega)
    have e1 : (red x y).1 = x.fdiv d := by rw [hd]; rfl
    have e2 : (red x y).2 = y.fdiv d := by rw [hd]; rfl
    k_extra "ts"
    refine ifK_d (fun c => ?_) (fun c => ?_)
    · exact absurd (of_decide_eq_true c) y0
    · k_extra "ts"
      refine ⟨fun E => E = [.ow (.ins 0 []), .fz (.int x), .fz (.int y), .fz (.int d)], ?_, ?_⟩
      · k_extra "ts"
        refine ifK_d (fun c => ?_) (fun c => ?_)
        · k_extra "ts"
          k_extra "td"
          rw [hd, if_pos (of_decide_eq_true c)]
        · k_extra "ts"
          k_extra "td"
          rw [hd, if_neg (of_decide_eq_false c)]
      · rintro _ rfl
        have hD : R9.CDivX x d := K01.Sm.d dS d0
        have hD2 : R9.CDivX y d := K01.Sm.d dS d0
        k_extra "ts"
        rw [e1, e2] at h
        exact h
open K01 (Tx at_str)
theorem fmod_bd {a b : Int} (h : 0 < b) : 0 ≤ a.fmod b ∧ a.fmod b < b := by
  rw [Int.fmod_eq_emod_of_nonneg _ (by omega)]
  exact ⟨Int.emod_nonneg _ (by omega), Int.emod_lt_of_pos _ h⟩
def sp_law_wide : TSp := t1 fun s KK => ∃ st, s = .ow st ∧ StOk st ∧ ∀ st' r, StOk st' → 0 ≤ r → r < 10 ^ 40 → KK (.fz (.int r)) [.ow st']
theorem ok_law_wide {f : Addr} {fd : FuncData} (F : Fun K "_law_wide" "_law_wide" s_law_wide f fd) (T : Txt K mg CS CI CT CP CM CK CU CC CN CE CA CH CB CRM CR CX_) (D_law_draw : Df P w K mg base 1 "_law_draw" s_law_draw ["state", "limit"] (lift c [.l, .f] sp_law_draw)) : FnOk P w K mg base (L2.CX P w) 2 f fd ["state"] (lift c [.l] sp_law_wide) := by
  have nd := sc_law_wide.nd
  refine F.okX sc_law_wide (fun vs H Q E h => ?_) (fun cdv A outer s H vs Q E hr h => ?_)
  · exact lift_len h (by rintro as KK ⟨_, rfl, _⟩; rfl)
  · refine ⟨_, (pss_cons (ps_set (i := 1) nd rfl (Or.inl rfl) pe_int)
(pss_cons (ps_for (passes_of rfl) rfl (pi_range1 (by rfl) T.range (pa_cons pe_int pa_nil)) (pg_name (i := 2) nd rfl (Or.inl rfl))
(pss_one (ps_set (i := 1) nd rfl (Or.inl rfl) (pe_op op_add (pe_op op_mulW (pv 1) (pe_op op_pow pe_int pe_int)) (pe_d D_law_draw hr (by decide) (by rfl) passL (pa_cons (pv 0) (pa_cons (pe_op op_pow pe_int pe_int) pa_nil)))))))
(pss_cons (ps_set (i := 3) nd rfl (Or.inl rfl) pe_int)
(pss_cons (ps_for (passes_of rfl) rfl (pi_range1 (by rfl) T.range (pa_cons (pe_d D_law_draw hr (by decide) (by rfl) passL (pa_cons (pv 0) (pa_cons pe_int pa_nil))) pa_nil)) (pg_name (i := 2) nd rfl (Or.inl rfl))
(pss_one (ps_set (i := 3) nd rfl (Or.inl rfl) (pe_op op_mulW (pv 3) pe_int))))
(pss_one (ps_ret (pe_op op_modN (pe_callTy n_int1 (by rfl) T.int (by decide +kernel) (pa_cons (pv 1) pa_nil)) (pv 3)))))))), ?_⟩
    refine bodyN (c := c) (P := [0]) (n := 1) [.nil, .nil, .nil] h rfl rfl ?_
    rintro as KK ⟨_, rfl, ⟨st, rfl, hS, h⟩⟩
    refine ⟨rfl, by simp [ownsIn], by simp, ?_⟩
    simp only [List.cons_append, List.nil_append]
    have e9 : (10 : Int) ^ Int.toNat 9 = 1000000000 := by decide
    k_extra "ts"
    refine forI (fun i E => ∃ (st : OD) (n : Int) (y : Ent), E = [.ow st, .fz (.int n), y, .nil] ∧ 0 ≤ n ∧ n < (10 ^ 9) ^ i ∧ StOk st) ⟨st, 0, _, rfl, by omega, by decide, hS⟩ ?_ ?_
    · rintro i _ hi ⟨st1, n, y, rfl, n0, n1, S1⟩
      have nS : Sm 200 n := by
        have e5 : (10 ^ 9 : Int) ^ i ≤ 10 ^ 36 := by
          match i, hi with
          | 0, _ | 1, _ | 2, _ | 3, _ | 4, _ => decide
        unfold K01.Sm
        omega
      have s9 : Sm 200 ((10 : Int) ^ Int.toNat 9) := by unfold K01.Sm; decide
      k_extra "ts"
      refine ⟨_, _, rfl, _, _, rfl, S1, rfl, s9, fun st2 r S2 r0 r1 => ?_⟩
      k_extra "ts"
      have r2 : r < 1000000000 := by rw [e9] at r1; omega
      refine ⟨st2, _, _, rfl, ?_, ?_, S2⟩
      · rw [e9]; omega
      · rw [e9, Int.pow_succ]
        have e10 : (10 : Int) ^ 9 = 1000000000 := by decide
        rw [e10] at n1 ⊢
        generalize (1000000000 : Int) ^ i = P at *
        omega
    · rintro _ ⟨st1, n, y, rfl, n0, n1, S1⟩
      k_extra "ts"
      refine ⟨_, _, rfl, _, 41, rfl, S1, rfl, K01.Sm.lit (by decide), fun st2 r S2 r0 r1 => ?_⟩
      have r2 : r ≤ 40 := by omega
      k_extra "ts"
      refine forI (fun i E => ∃ (y : Ent), E = [.ow st2, .fz (.int n), y, .fz (.int (10 ^ i))]) ⟨_, rfl⟩ ?_ ?_
      · rintro i _ hi ⟨y, rfl⟩
        have sp : Sm 200 ((10 : Int) ^ i) := by
          unfold K01.Sm
          rw [Int.natAbs_pow]
          refine Nat.lt_of_le_of_lt (Nat.pow_le_pow_right (by decide) (show i ≤ 40 by omega)) (by decide)
        k_extra "ts"
        exact ⟨_, rfl⟩
      · rintro _ ⟨y, rfl⟩
        have pp : (0 : Int) < 10 ^ r.toNat := Int.pow_pos (by decide)
        have pl : (10 : Int) ^ r.toNat ≤ 10 ^ 40 := by
          have : (10 : Nat) ^ r.toNat ≤ 10 ^ 40 := Nat.pow_le_pow_right (by decide) (by omega)
          exact_mod_cast this
        have p0 : (10 : Int) ^ r.toNat ≠ 0 := by omega
        k_extra "ts"
        exact h _ _ S2 (fmod_bd pp).1 (Int.lt_of_lt_of_le (fmod_bd pp).2 pl)
def sp_law_signs : TSp := t0 fun KK => ∀ s : Str, s.length = 94 → PyData.strOk s = true → KK (.fz (.str s)) []
theorem ok_law_signs {f : Addr} {fd : FuncData} (F : Fun K "_law_signs" "_law_signs" s_law_signs f fd) (T : Txt K mg CS CI CT CP CM CK CU CC CN CE CA CH CB CRM CR CX_)  : FnOk P w K mg base (L2.CX P w) 1 f fd [] (lift c [] sp_law_signs) := by
  have nd := sc_law_signs.nd
  refine F.okX sc_law_signs (fun vs H Q E h => ?_) (fun cdv A outer s H vs Q E hr h => ?_)
  · exact lift_len h (by rintro as KK ⟨rfl, _⟩; rfl)
  · refine ⟨_, (pss_one (ps_ret pe_str)), ?_⟩
    refine bodyN (c := c) (P := []) (n := 0) [] h rfl rfl ?_
    rintro as KK ⟨rfl, h⟩
    refine ⟨rfl, by simp [ownsIn], by simp, ?_⟩
    simp only [List.cons_append, List.nil_append]
    k_extra "ts"
    exact h _ (by decide +kernel) (by decide +kernel)
def sp_law_text : TSp := t2 fun s n KK => ∃ st k, s = .ow st ∧ StOk st ∧ n = .fz (.int k) ∧ 0 ≤ k ∧ k ≤ 10 ∧ ∀ st' t, StOk st' → Tx 10 t → KK (.fz (.str t)) [.ow st', .nil]
theorem ok_law_text {f : Addr} {fd : FuncData} (F : Fun K "_law_text" "_law_text" s_law_text f fd) (T : Txt K mg CS CI CT CP CM CK CU CC CN CE CA CH CB CRM CR CX_) (D_law_draw : Df P w K mg base 1 "_law_draw" s_law_draw ["state", "limit"] (lift c [.l, .f] sp_law_draw)) (D_law_signs : Df P w K mg base 1 "_law_signs" s_law_signs [] (lift c [] sp_law_signs)) : FnOk P w K mg base (L2.CX P w) 2 f fd ["state", "most"] (lift c [.l, .f] sp_law_text) := by
  have nd := sc_law_text.nd
  refine F.okX sc_law_text (fun vs H Q E h => ?_) (fun cdv A outer s H vs Q E hr h => ?_)
  · exact lift_len h (by rintro as KK ⟨_, _, rfl, _⟩; rfl)
  · refine ⟨_, (pss_cons (ps_set (i := 2) nd rfl (Or.inl rfl) (pe_d D_law_draw hr (by decide) (by rfl) passL (pa_cons (pv 0) (pa_cons pe_int pa_nil))))
(pss_cons (ps_set (i := 3) nd rfl (Or.inl rfl) (pe_d D_law_draw hr (by decide) (by rfl) passL (pa_cons (pv 0) (pa_cons pe_int pa_nil))))
(pss_cons (ps_set (i := 4) nd rfl (Or.inl rfl) pe_str)
(pss_mid (ps_if (pt_cmpR op_eq (pv 2) pe_int (nomark _))
(pss_one (ps_set (i := 4) nd rfl (Or.inl rfl) pe_str))
pss_nil)
(pss_mid (ps_if (pt_cmpR op_eq (pv 2) pe_int (nomark _))
(pss_cons (ps_set (i := 4) nd rfl (Or.inl rfl) (pe_d0 D_law_signs hr (by decide) (by rfl) passL))
(pss_one (ps_set (i := 3) nd rfl (Or.inl rfl) (pe_d D_law_draw hr (by decide) (by rfl) passL (pa_cons (pv 0) (pa_cons (pe_op op_add (pv 1) pe_int) pa_nil))))))
pss_nil)
(pss_cons (ps_set (i := 5) nd rfl (Or.inl rfl) pe_str)
(pss_cons (ps_for (passes_of rfl) rfl (pi_range1 (by rfl) T.range (pa_cons (pe_callB (n_min2 rfl) (by rfl) T.min (by decide +kernel) (pa_cons (pv 3) (pa_cons (pv 1) pa_nil))) pa_nil)) (pg_name (i := 6) nd rfl (Or.inl rfl))
(pss_one (ps_set (i := 5) nd rfl (Or.inl rfl) (pe_op n_add_str (pv 5) (pe_ix ix_str (pv 4) (pe_d D_law_draw hr (by decide) (by rfl) passL (pa_cons (pv 0) (pa_cons (pe_callB n_len_str (by rfl) T.len (by decide +kernel) (pa_cons (pv 4) pa_nil)) pa_nil))) (fun _ _ => rfl))))))
(pss_one (ps_ret (pv 5)))))))))), ?_⟩
    refine bodyN (c := c) (P := [0]) (n := 2) [.nil, .nil, .nil, .nil, .nil] h rfl rfl ?_
    rintro as KK ⟨_, _, rfl, ⟨st, k, rfl, hS, rfl, k0, k1, h⟩⟩
    refine ⟨rfl, by simp [ownsIn], by simp, ?_⟩
    simp only [List.cons_append, List.nil_append]
    k_extra "ts"
    refine ⟨_, _, rfl, _, _, rfl, hS, rfl, K01.Sm.lit (by decide), fun st1 r1 S1 a0 a1 => ?_⟩
    k_extra "ts"
    refine ⟨_, _, rfl, _, _, rfl, S1, rfl, K01.Sm.lit (by decide), fun st2 r2 S2 b0 b1 => ?_⟩
    k_extra "ts"
    refine ⟨fun E => ∃ sg : Str, E = [.ow st2, .fz (.int k), .fz (.int r1), .fz (.int r2), .fz (.str sg), .nil, .nil] ∧ 1 ≤ sg.length ∧ Tx 100 sg, ?_, ?_⟩
    · k_extra "ts"
      refine ifK_d (fun c => ?_) (fun c => ?_)
      · k_extra "ts"
        exact ⟨_, rfl, by decide +kernel, Tx.lit (by decide +kernel)⟩
      · exact ⟨_, rfl, by decide +kernel, Tx.lit (by decide +kernel)⟩
    rintro _ ⟨sg, rfl, l1, l2⟩
    refine ⟨fun E => ∃ (sg : Str) (st3 : OD) (r3 : Int), E = [.ow st3, .fz (.int k), .fz (.int r1), .fz (.int r3), .fz (.str sg), .nil, .nil] ∧ 0 ≤ r3 ∧ r3 ≤ 20 ∧ StOk st3 ∧ 1 ≤ sg.length ∧ Tx 100 sg, ?_, ?_⟩
    · k_extra "ts"
      refine ifK_d (fun c => ?_) (fun c => ?_)
      · k_extra "ts"
        intro s hs hso
        k_extra "ts"
        refine ⟨_, _, rfl, _, _, rfl, S2, rfl, K01.Sm.small (by omega) (by omega), fun st3 r3 S3 c0 c1 => ?_⟩
        k_extra "ts"
        exact ⟨s, st3, r3, rfl, c0, by omega, S3, by omega, by omega, hso⟩
      · exact ⟨sg, st2, r2, rfl, b0, by omega, S2, l1, l2⟩
    clear l1 l2 b0 b1 S2
    rintro _ ⟨sg, st3, r3, rfl, c0, c1, S3, l1, l2⟩
    have mb : (0 : Int) ≤ (if k < r3 then k else r3) ∧ (if k < r3 then k else r3) ≤ 10 := by split <;> omega
    k_extra "ts"
    refine forI (fun i E => ∃ (st : OD) (t : Str) (y : Ent), E = [.ow st, .fz (.int k), .fz (.int r1), .fz (.int r3), .fz (.str sg), .fz (.str t), y] ∧ Tx i t ∧ StOk st) ⟨_, _, _, rfl, Tx.lit (by decide +kernel), S3⟩ ?_ ?_
    · rintro i _ hi ⟨st4, t, y, rfl, ht, S4⟩
      have h10 : Tx 10 t := ht.mono (by omega)
      have hl2 := l2.1
      k_extra "ts"
      refine ⟨_, _, rfl, _, _, rfl, S4, rfl, K01.Sm.small (by omega) (by omega), fun st5 r5 S5 d0 d1 => ?_⟩
      obtain ⟨c, hc, hco⟩ := at_str (z := sg) (r := r5) d0 (by omega)
      have hco := hco l2.2
      have o1 : (⟨#[c]⟩ : Str).length = 1 := rfl
      have h11 := ht.1
      k_extra "ts"
      refine atIK_of hc ?_
      k_extra "ts"
      exact ⟨_, _, _, rfl, ht.app (Tx.one hco), S5⟩
    · rintro _ ⟨st4, t, y, rfl, ht, S4⟩
      k_extra "ts"
      exact h _ _ S4 (ht.mono (by omega))
/-- distinct short texts -/
def TxsOk (ts : List Str) (n : Nat) : Prop := ts.Nodup ∧ ts.length ≤ n ∧ ∀ t ∈ ts, Tx 30 t
theorem TxsOk.snoc {ts : List Str} {n : Nat} {t : Str} (h : TxsOk ts n) (c : t ∉ ts) (k : Tx 30 t) : TxsOk (ts ++ [t]) (n + 1) := by
  refine ⟨List.nodup_append.mpr ⟨h.1, List.pairwise_singleton _ _, fun a ha b hb => by (rw [List.mem_singleton] at hb; exact fun z => c (by rw [← hb, ← z]; exact ha))⟩, by (rw [List.length_append]; exact Nat.succ_le_succ h.2.1), fun u hu => ?_⟩
  rcases List.mem_append.mp hu with hh | hh
  · exact h.2.2 u hh
  · rw [List.mem_singleton.mp hh]; exact k
theorem TxsOk.le {ts : List Str} {m n : Nat} (h : TxsOk ts m) (l : m ≤ n) : TxsOk ts n := ⟨h.1, Nat.le_trans h.2.1 l, h.2.2⟩
/-- some of a list of texts -/
def Sub (us ts : List Str) : Prop := us.Nodup ∧ ∀ u ∈ us, u ∈ ts
open SX (S)
open NumText (AllDigits digitsVal)
theorem val_snoc (l : List Nat) (c : Nat) : digitsVal (l ++ [c]) = digitsVal l * 10 + (c - 48) := by
  unfold digitsVal
  rw [List.foldl_append]; rfl
theorem dig_app {l m : List Nat} : AllDigits (l ++ m) ↔ AllDigits l ∧ AllDigits m := by
  unfold AllDigits
  constructor
  · exact fun h => ⟨fun c hc => h c (List.mem_append_left _ hc), fun c hc => h c (List.mem_append_right _ hc)⟩
  · rintro ⟨a, b⟩ c hc
    rcases List.mem_append.mp hc with h | h
    · exact a c h
    · exact b c h
/-- digits as a number is written -/
def cano (l : List Nat) : Prop := AllDigits l ∧ l ≠ [] ∧ (l = [48] ∨ l.head? ≠ some 48)
theorem cano_num : ∀ (n : Nat) (l : List Nat), l.length = n → cano l → numL (digitsVal l) = l
  | 0, l, e, h => absurd (List.length_eq_zero_iff.mp e) h.2.1
  | n + 1, l, e, h => by
    obtain ⟨l', c, rfl⟩ : ∃ l' c, l = l' ++ [c] := ⟨l.dropLast, l.getLast h.2.1, (List.dropLast_concat_getLast h.2.1).symm⟩
    obtain ⟨hd, _, hh⟩ := h
    obtain ⟨d1, d2⟩ := dig_app.mp hd
    have hc := d2 c (List.mem_singleton.mpr rfl)
    rw [List.length_append, List.length_singleton] at e
    by_cases z : l' = []
    · subst z
      rw [List.nil_append]
      show numL (digitsVal ([] ++ [c])) = [c]
      rw [val_snoc]
      have : digitsVal [] = 0 := rfl
      rw [this, Nat.zero_mul, Nat.zero_add, numL_lt (n := c - 48) (by omega), show 48 + (c - 48) = c by omega]
    · have hh' : l'.head? ≠ some 48 := by
        rcases hh with hh | hh
        · have h9 := congrArg List.length hh
          rw [List.length_append, List.length_singleton, List.length_singleton] at h9
          have h8 := List.length_pos_iff.mpr z
          omega
        · intro q
          refine hh ?_
          cases l' with
          | nil => exact absurd rfl z
          | cons x l' => exact q
      have ih := cano_num n l' (by omega) ⟨d1, z, .inr hh'⟩
      have pos : 0 < digitsVal l' := by
        rcases Nat.eq_zero_or_pos (digitsVal l') with q | q
        · rw [q, numL_lt (by decide)] at ih
          rw [← ih] at hh'
          exact absurd rfl hh'
        · exact q
      rw [val_snoc, numL_step (by omega), show (digitsVal l' * 10 + (c - 48)) / 10 = digitsVal l' by omega, ih]
      congr 2; omega
theorem num_head : ∀ (n : Nat), 0 < n → (numL n).head? ≠ some 48 := fun n => by
  induction n using Nat.strongRecOn with
  | _ n ih =>
    intro h0
    by_cases c : n < 10
    · rw [numL_lt c]
      intro q
      have := Option.some.inj q
      omega
    · rw [numL_step (by omega)]
      have := ih (n / 10) (by omega) (by omega)
      intro q
      refine this ?_
      cases h : numL (n / 10) with
      | nil => exact absurd h (numL_ne _)
      | cons x l => rw [h] at q; exact q
theorem num_cano (n : Nat) : cano (numL n) := ⟨numL_digits n, numL_ne n, by
  rcases Nat.eq_zero_or_pos n with h | h
  · left; rw [h, numL_lt (by decide)]
  · exact .inr (num_head n h)⟩
/-- a whole number's signs -/
def numI (n : Int) : List Nat := if n < 0 then 45 :: numL n.natAbs else numL n.natAbs
theorem ofStr_app (a b : String) : Str.ofString (a ++ b) = Str.ofString a ++ Str.ofString b := by
  rw [Str.ofString_eq_toList, Str.ofString_eq_toList, Str.ofString_eq_toList, String.toList_append, List.map_append]
  exact (SX.S_cat _ _).symm
theorem str_int (n : Int) : Str.ofString (toString n) = S (numI n) := by
  unfold numI
  split
  · rename_i h
    obtain ⟨k, rfl⟩ : ∃ k : Nat, n = Int.negSucc k := by
      cases n with
      | ofNat k => exact absurd h (by rw [Int.ofNat_eq_natCast]; omega)
      | negSucc k => exact ⟨k, rfl⟩
    have : toString (Int.negSucc k) = "-" ++ toString ((k + 1 : Nat) : Int) := rfl
    rw [this, ofStr_app, SX.num_S]
    show Str.ofString "-" ++ S (numL (k + 1)) = S (45 :: numL (k + 1))
    rw [show Str.ofString "-" = S [45] from rfl, SX.S_cat]; rfl
  · rename_i h
    obtain ⟨k, rfl⟩ : ∃ k : Nat, n = (k : Int) := ⟨n.toNat, by omega⟩
    rw [SX.num_S]; rfl
theorem numI_val (n : Int) : (numI n = numL n.natAbs ∧ 0 ≤ n) ∨ (numI n = 45 :: numL n.natAbs ∧ n < 0) := by
  unfold numI
  split
  · exact .inr ⟨rfl, by assumption⟩
  · exact .inl ⟨rfl, by omega⟩
/-- a share as it is written -/
def wr (n d : Int) : List Nat := if d = 1 then numI n else numI n ++ 47 :: numI d
def Can (l : List Nat) (a b : Int) : Prop := 0 < b ∧ Nat.gcd a.natAbs b.natAbs = 1 ∧ l = wr a b
def isDg (l : List Nat) : Bool := decide (0 < l.length) && l.all fun c => decide (48 ≤ c) && decide (c ≤ 57)
theorem isDg_iff {l : List Nat} : isDg l = true ↔ AllDigits l ∧ l ≠ [] := by
  unfold isDg AllDigits
  rw [Bool.and_eq_true, decide_eq_true_iff, List.all_eq_true, List.length_pos_iff]
  constructor
  · rintro ⟨a, b⟩
    exact ⟨fun c hc => by simpa using b c hc, a⟩
  · rintro ⟨a, b⟩
    exact ⟨b, fun c hc => by simpa using a c hc⟩
/-- without a minus -/
def rmS (l : List Nat) : List Nat := if l.take 1 = [45] then l.drop 1 else l
theorem rmS_cons (t : List Nat) : rmS (45 :: t) = t := by unfold rmS; simp
theorem rmS_not {l : List Nat} (h : l.take 1 ≠ [45]) : rmS l = l := if_neg h
theorem take1 {l : List Nat} (h : l.take 1 = [45]) : l = 45 :: l.drop 1 := by
  cases l with
  | nil => cases h
  | cons c t =>
    simp only [List.take_succ_cons, List.take_zero, List.cons.injEq, and_true] at h
    rw [h]; rfl
theorem numL_take (n : Nat) : (numL n).take 1 ≠ [45] := fun h => by
  have e := take1 h
  have := numL_digits n 45 (by rw [e]; exact List.mem_cons_self)
  omega
theorem rmS_num (n : Int) : rmS (numI n) = numL n.natAbs := by
  rcases numI_val n with ⟨e, _⟩ | ⟨e, _⟩
  · rw [e]; exact rmS_not (numL_take _)
  · rw [e]; exact rmS_cons _
/-- the number of such a text -/
def ival (l : List Nat) : Int := if l.take 1 = [45] then -((digitsVal (l.drop 1) : Nat) : Int) else ((digitsVal l : Nat) : Int)
theorem ival_num (n : Int) : ival (numI n) = n := by
  unfold ival
  rcases numI_val n with ⟨e, h⟩ | ⟨e, h⟩
  · rw [e, if_neg (numL_take _), numL_val]; omega
  · rw [e, if_pos (by simp), List.drop_succ_cons, List.drop_zero, numL_val]; omega
theorem num_no {n : Int} : 47 ∉ numI n := by
  rcases numI_val n with ⟨e, _⟩ | ⟨e, _⟩ <;> rw [e]
  · exact numL_free (by omega)
  · intro h
    rcases List.mem_cons.mp h with h | h
    · omega
    · exact numL_free (by omega) h
/-- what stands before and behind the first stroke -/
def pu (l : List Nat) : List Nat × List Nat := match TL.par [47] [] l with
  | some (p, q) => (p, q)
  | none => (l, [49])
def told (l : List Nat) : Option (Int × Int) := if isDg (rmS (pu l).1) = true ∧ isDg (pu l).2 = true ∧ digitsVal (pu l).2 ≠ 0 then some (ival (pu l).1, ((digitsVal (pu l).2 : Nat) : Int)) else none
theorem isDg_num (n : Nat) : isDg (numL n) = true := isDg_iff.mpr ⟨numL_digits n, numL_ne n⟩
theorem told_wr {n d : Int} (h : 0 < d) : told (wr n d) = some (n, d) := by
  by_cases c : d = 1
  · have e : pu (wr n d) = (numI n, [49]) := by
      unfold pu wr
      rw [if_pos c, SX.par_head_none num_no]
    unfold told
    rw [e, if_pos ⟨by rw [rmS_num]; exact isDg_num _, (show isDg [49] = true by decide), (show digitsVal [49] ≠ 0 by decide)⟩, ival_num, c]; rfl
  · have e : pu (wr n d) = (numI n, numI d) := by
      unfold pu wr
      rw [if_neg c, show numI n ++ 47 :: numI d = numI n ++ ([47] ++ numI d) from rfl, SX.par_head _ num_no]
    have ed : numI d = numL d.natAbs := by
      rcases numI_val d with ⟨e, _⟩ | ⟨_, z⟩
      · exact e
      · omega
    unfold told
    rw [e, ed, if_pos ⟨by rw [rmS_num]; exact isDg_num _, isDg_num _, by rw [numL_val]; omega⟩, ival_num, numL_val]
    congr 2; omega
theorem pre_47 (c : Nat) (r : List Nat) : TL.pre [47] (c :: r) = decide (c = 47) := by
  unfold TL.pre
  show ((c :: r).take 1 == [47]) = _
  rw [List.take_succ_cons, List.take_zero]
  by_cases h : c = 47
  · subst h; rfl
  · rw [decide_eq_false h]
    simp [h]
theorem spl_ne (l acc : List Nat) : TL.spl [47] 0 acc l ≠ [] := by
  induction l generalizing acc with
  | nil => rw [TL.spl_nil]; simp
  | cons c r ih =>
    cases h : TL.pre [47] (c :: r) with
    | true => rw [TL.spl_hit h]; simp
    | false => rw [TL.spl_miss h]; exact ih _
theorem join_cons (p : List Nat) {ps : List (List Nat)} (h : ps ≠ []) : TL.joinL [47] (p :: ps) = p ++ 47 :: TL.joinL [47] ps := by
  cases ps with
  | nil => exact absurd rfl h
  | cons q r => rfl
theorem spl_back : ∀ (l acc : List Nat), TL.joinL [47] (TL.spl [47] 0 acc l) = acc ++ l
  | [], acc => by rw [TL.spl_nil]; simp [TL.joinL]
  | c :: r, acc => by
    cases h : decide (c = 47) with
    | true =>
      have hc := of_decide_eq_true h
      subst hc
      rw [TL.spl_hit (by rw [pre_47]; rfl), show [47].length - 1 = 0 from rfl, join_cons _ (spl_ne _ _), spl_back r []]; rfl
    | false =>
      rw [TL.spl_miss (by rw [pre_47]; exact h), spl_back r (acc ++ [c]), List.append_assoc]; rfl
theorem spl_one {l p : List Nat} (h : TL.spl [47] 0 [] l = [p]) : l = p := by
  have := spl_back l []
  rw [h] at this
  exact this.symm
theorem spl_two {l p u : List Nat} (h : TL.spl [47] 0 [] l = [p, u]) : l = p ++ 47 :: u := by
  have := spl_back l []
  rw [h] at this
  exact this.symm
theorem spl_hd {l p : List Nat} {ps : List (List Nat)} (h : TL.spl [47] 0 [] l = p :: ps) : ∃ r, l = p ++ r := by
  have := spl_back l []
  rw [h] at this
  cases ps with
  | nil => exact ⟨[], by rw [List.append_nil]; exact this.symm⟩
  | cons q r => exact ⟨_, this.symm⟩
theorem spl_num {p : List Nat} (h : 47 ∉ p) : TL.spl [47] 0 [] p = [p] := SX.spl_join (parts := [p]) (by simp) (by simpa using h)
theorem spl_nums {p u : List Nat} (h : 47 ∉ p) (h2 : 47 ∉ u) : TL.spl [47] 0 [] (p ++ 47 :: u) = [p, u] := SX.spl_join (parts := [p, u]) (by simp) (by
  intro q hq
  simp only [List.mem_cons, List.not_mem_nil, or_false] at hq
  rcases hq with rfl | rfl
  · exact h
  · exact h2)
theorem rmS_app {n : Int} (r : List Nat) : rmS (numI n ++ r) = numL n.natAbs ++ r := by
  rcases numI_val n with ⟨e, _⟩ | ⟨e, _⟩
  · rw [e]
    refine rmS_not fun h => ?_
    have hne := numL_ne n.natAbs
    have := numL_take n.natAbs
    cases hl : numL n.natAbs with
    | nil => exact hne hl
    | cons c t =>
      rw [hl] at h this
      exact this (by simpa using h)
  · rw [e]; exact rmS_cons _
/-- what the parts of such a text are -/
theorem Can.parts {l : List Nat} {a b : Int} (h : Can l a b) : (TL.spl [47] 0 [] (rmS l) = [numL a.natAbs] ∧ b = 1) ∨ (TL.spl [47] 0 [] (rmS l) = [numL a.natAbs, numL b.natAbs] ∧ b ≠ 1) := by
  obtain ⟨hb, g, rfl⟩ := h
  have n1 : ∀ n, 47 ∉ numL n := fun n => numL_free (by omega)
  by_cases c : b = 1
  · left
    unfold wr
    rw [if_pos c, rmS_num, spl_num (n1 _)]
    exact ⟨rfl, c⟩
  · right
    have ed : numI b = numL b.natAbs := by
      rcases numI_val b with ⟨e, _⟩ | ⟨_, z⟩
      · exact e
      · omega
    unfold wr
    rw [if_neg c, ed, rmS_app, spl_nums (n1 _) (n1 _)]
    exact ⟨rfl, c⟩
/-- a = 0 is written so, and only so -/
theorem Can.zero {l : List Nat} {b : Int} (h : Can l 0 b) : l = [48] := by
  obtain ⟨hb, g, rfl⟩ := h
  have : b = 1 := by
    simp at g; omega
  unfold wr
  rw [if_pos this]
  decide
theorem rmS_eq (l : List Nat) : (rmS l = l ∧ l.take 1 ≠ [45]) ∨ (l = 45 :: rmS l ∧ l.take 1 = [45]) := by
  by_cases h : l.take 1 = [45]
  · right
    refine ⟨?_, h⟩
    unfold rmS
    rw [if_pos h]
    exact take1 h
  · exact .inl ⟨rmS_not h, h⟩
theorem numI_of {p : List Nat} (h : cano p) {v : Int} (hv : v.natAbs = digitsVal p) : (0 ≤ v → numI v = p) ∧ (v < 0 → numI v = 45 :: p) := by
  have e : numL v.natAbs = p := by rw [hv]; exact cano_num _ p rfl h
  rcases numI_val v with ⟨e1, h1⟩ | ⟨e1, h1⟩
  · exact ⟨fun _ => by rw [e1, e], fun z => by omega⟩
  · exact ⟨fun z => by omega, fun _ => by rw [e1, e]⟩
/-- what law reads: a text of one part -/
theorem can_one {l p : List Nat} (hp : TL.spl [47] 0 [] (rmS l) = [p]) (c : cano p) (hz : ¬ (digitsVal p = 0 ∧ l ≠ [48])) : Can l (if rmS l = l then (digitsVal p : Int) else 0 - (digitsVal p : Int)) 1 := by
  refine ⟨by omega, by rw [show ((1 : Int).natAbs) = 1 from rfl, Nat.gcd_one_right], ?_⟩
  have e := spl_one hp
  unfold wr
  rw [if_pos rfl]
  rcases rmS_eq l with ⟨h, t⟩ | ⟨h, t⟩
  · rw [if_pos h, (numI_of c (v := (digitsVal p : Int)) (by omega)).1 (by omega), ← e, h]
  · have ne : rmS l ≠ l := fun z => by
      have := congrArg List.length h
      rw [z, List.length_cons] at this
      omega
    have nz : digitsVal p ≠ 0 := fun z => hz ⟨z, fun q => by rw [q] at t; cases t⟩
    rw [if_neg ne, (numI_of c (v := 0 - (digitsVal p : Int)) (by omega)).2 (by omega), ← e]
    exact h
theorem can_two {l p u : List Nat} (hp : TL.spl [47] 0 [] (rmS l) = [p, u]) (c : cano p) (cu : cano u) (hz : ¬ (digitsVal p = 0 ∧ l ≠ [48])) (h2 : 2 ≤ digitsVal u) (g : Nat.gcd (digitsVal p) (digitsVal u) = 1) :
    Can l (if rmS l = l then (digitsVal p : Int) else 0 - (digitsVal p : Int)) (digitsVal u) := by
  have e := spl_two hp
  have ns : l ≠ [48] := fun q => by
    rw [q, show rmS [48] = [48] by decide] at e
    have := congrArg List.length e
    simp at this
    have h1 := List.length_pos_iff.mpr c.2.1
    omega
  have nz : digitsVal p ≠ 0 := fun z => hz ⟨z, ns⟩
  have eu : numI (digitsVal u : Int) = u := (numI_of cu (v := (digitsVal u : Int)) (by omega)).1 (by omega)
  refine ⟨by omega, ?_, ?_⟩
  · have : (if rmS l = l then (digitsVal p : Int) else 0 - (digitsVal p : Int)).natAbs = digitsVal p := by split <;> omega
    rw [this]
    exact g
  · unfold wr
    rw [if_neg (by omega), eu]
    rcases rmS_eq l with ⟨h, t⟩ | ⟨h, t⟩
    · rw [if_pos h, (numI_of c (v := (digitsVal p : Int)) (by omega)).1 (by omega), ← e, h]
    · have ne : rmS l ≠ l := fun z => by
        have := congrArg List.length h
        rw [z, List.length_cons] at this
        omega
      rw [if_neg ne, (numI_of c (v := 0 - (digitsVal p : Int)) (by omega)).2 (by omega), List.cons_append, ← e]
      exact h
open SX (S)
open NumText (AllDigits digitsVal)
theorem ok_InvalidText_init {f : Addr} {fd : FuncData} (F : Fun K "__init__" "InvalidText.__init__" s_InvalidText_init f fd) (T : Txt K mg CS CI CT CP CM CK CU CC CN CE CA CH CB CRM CR CX_)  : FnOk P w K mg base (L2.CX P w) 1 f fd ["self", "text", "at"] (spX2 CX_ "text" "at") := by
  have nd := sc_InvalidText_init.nd
  refine F.okX sc_InvalidText_init (fun vs H Q E h => ?_) (fun cdv A outer s H vs Q E hr h => ?_)
  · obtain ⟨_, _, _, rfl, _⟩ := h
    rfl
  · obtain ⟨e, u, v, rfl, he, k⟩ := h
    refine ⟨_, (pss_cons (ps_ost (pv 0) (pv 1))
(pss_one (ps_ost (pv 0) (pv 2)))), ?_⟩
    exact ⟨_, rfl, _, rfl, e, CX_, rfl, T.oexX_, T.noX__text, .inl ⟨he, fun dx hd hne => ⟨_, rfl, _, rfl, e, CX_, rfl, T.oexX_, T.noX__at, .inr ⟨dx, [("text", u)], upd_same, by rw [upd_ne hne]; exact upd_same, (show 1 ≤ 900 by decide), k dx hd hne⟩⟩⟩⟩
theorem nd_f {p : Prop} [Decidable p] (h : (!decide p) = false) : p := by
  cases q : decide p with
  | true => exact of_decide_eq_true q
  | false => rw [q] at h; cases h
theorem nd_t {p : Prop} [Decidable p] (h : (!decide p) = true) : ¬ p := by
  cases q : decide p with
  | true => rw [q] at h; cases h
  | false => exact of_decide_eq_false q
theorem numI_len {n : Int} (h : n.natAbs.log2 < 1920) : (S (numI n)).length ≤ 1921 := by
  rw [← str_int]; exact PyProof.Rows.int_text_len_1921 h
def sp_Share_written : TSp := t1 fun a KK => ∃ n d : Int, a = .fz (.ins 0 [.int n, .int d]) ∧ n.natAbs.log2 < 1920 ∧ d.natAbs.log2 < 1920 ∧ KK (.fz (.str (S (wr n d)))) [.nil]
theorem ok_Share_written {f : Addr} {fd : FuncData} (F : Fun K "written" "Share.written" s_Share_written f fd) (T : Txt K mg CS CI CT CP CM CK CU CC CN CE CA CH CB CRM CR CX_)  : FnOk P w K mg base (L2.CX P w) 1 f fd ["self"] (lift c [.f] sp_Share_written) := by
  have nd := sc_Share_written.nd
  refine F.okX sc_Share_written (fun vs H Q E h => ?_) (fun cdv A outer s H vs Q E hr h => ?_)
  · exact lift_len h (by rintro as KK ⟨_, rfl, _⟩; rfl)
  · refine ⟨_, (pss_cons (ps_if (pt_cmpR op_eq (pe_fld (pv 0) rfl : PE _ _ (tFld K _ _)) pe_int (nomark _))
(pss_one (ps_ret (pe_callTy n_str_int (by rfl) T.str (by decide +kernel) (pa_cons (pe_fld (pv 0) rfl : PE _ _ (tFld K _ _)) pa_nil))))
pss_nil)
(pss_one (ps_ret (pe_join3 (pe_fmt (pe_fld (pv 0) rfl : PE _ _ (tFld K _ _))) pe_str (pe_fmt (pe_fld (pv 0) rfl : PE _ _ (tFld K _ _))))))), ?_⟩
    refine bodyN (c := c) (P := []) (n := 1) [] h rfl rfl ?_
    rintro as KK ⟨_, rfl, ⟨n, d, rfl, hn, hd, h⟩⟩
    refine ⟨rfl, by simp [ownsIn], by simp, ?_⟩
    simp only [List.cons_append, List.nil_append]
    have ln := numI_len hn
    have ld := numI_len hd
    k_extra "ts"
    refine ifK_d (fun c => ?_) (fun c => ?_)
    · have c' := of_decide_eq_true c
      k_extra "ts"
      unfold wr at h
      rw [if_pos c'] at h
      rw [str_int]
      exact h
    · have c' := of_decide_eq_false c
      unfold wr at h
      rw [if_neg c'] at h
      k_extra "ts"
      rw [str_int]
      refine ⟨by omega, ?_⟩
      k_extra "ts"
      rw [str_int]
      refine ⟨by omega, ?_⟩
      k_extra "ts"
      rw [show Str.ofString "/" = S [47] from rfl, SX.S_cat, SX.S_cat, List.append_assoc]
      exact h
theorem asc_dig {l : List Nat} : (Txt.isascii (S l) = true → Txt.isdigit (S l) = isDg l) ∧ (Txt.isascii (S l) = false → isDg l = false) := by
  have small : ∀ c, c < 128 → Unicode.isDigit c = (decide (48 ≤ c) && decide (c ≤ 57)) := by
    have : ∀ c ∈ List.range 128, Unicode.isDigit c = (decide (48 ≤ c) && decide (c ≤ 57)) := by decide +kernel
    exact fun c h => this c (List.mem_range.mpr h)
  have all : ∀ p : Nat → Bool, (S l).cps.all p = l.all p := fun p => by rw [← Array.all_toList]
  unfold Txt.isascii Txt.isdigit isDg
  rw [all, all, SX.S_len]
  constructor
  · intro h
    congr 1
    rw [Bool.eq_iff_iff, List.all_eq_true, List.all_eq_true]
    rw [List.all_eq_true] at h
    exact forall_congr' fun c => forall_congr' fun hc => by rw [small c (by simpa using h c hc)]
  · intro h
    rw [Bool.eq_false_iff] at h ⊢
    intro z
    refine h ?_
    rw [Bool.and_eq_true, List.all_eq_true] at z
    rw [List.all_eq_true]
    intro c hc
    have := z.2 c hc
    rw [Bool.and_eq_true, decide_eq_true_iff, decide_eq_true_iff] at this
    exact decide_eq_true (by omega)
def sp_is_digits : TSp := t1 fun a KK => ∃ l, a = .fz (.str (S l)) ∧ KK (.fz (.bl (isDg l))) [.nil]
theorem ok_is_digits {f : Addr} {fd : FuncData} (F : Fun K "_is_digits" "_is_digits" s_is_digits f fd) (T : Txt K mg CS CI CT CP CM CK CU CC CN CE CA CH CB CRM CR CX_)  : FnOk P w K mg base (L2.CX P w) 1 f fd ["word"] (lift c [.f] sp_is_digits) := by
  have nd := sc_is_digits.nd
  refine F.okX sc_is_digits (fun vs H Q E h => ?_) (fun cdv A outer s H vs Q E hr h => ?_)
  · exact lift_len h (by rintro as KK ⟨_, rfl, _⟩; rfl)
  · refine ⟨_, (pss_one (ps_ret (pe_and (pe_ascii (pv 0)) (pe_one (pe_digit (pv 0)))))), ?_⟩
    refine bodyN (c := c) (P := []) (n := 1) [] h rfl rfl ?_
    rintro as KK ⟨_, rfl, ⟨l, rfl, h⟩⟩
    refine ⟨rfl, by simp [ownsIn], by simp, ?_⟩
    simp only [List.cons_append, List.nil_append]
    obtain ⟨h1, h2⟩ := asc_dig (l := l)
    k_extra "ts"
    refine ifK_d (fun c => ?_) (fun c => ?_)
    · rw [← h1 c] at h
      k_extra "ts"
      exact h
    · rw [h2 c] at h
      exact h
theorem rmp {l : List Nat} : Txt.removeprefix (S l) (Str.ofString "-") = S (rmS l) := by
  rw [PySem.StrLaws.removeprefix_eq, PySem.StrLaws.subAt_eq, show Str.ofString "-" = S [45] from rfl, SX.S_len, SX.S_len]
  show (if (decide (0 + 1 ≤ l.length) && ((l.drop 0).take 1 == [45])) = true then S ((l.drop 1).take (l.length - 1)) else S l) = S (rmS l)
  rw [List.drop_zero]
  rcases rmS_eq l with ⟨e, t⟩ | ⟨e, t⟩
  · rw [e, if_neg]
    intro z
    rw [Bool.and_eq_true] at z
    exact t (beq_iff_eq.mp z.2)
  · have hl := congrArg List.length e
    rw [List.length_cons] at hl
    have e2 : rmS l = l.drop 1 := by
      have := congrArg (List.drop 1) e
      rw [List.drop_succ_cons, List.drop_zero] at this
      exact this.symm
    rw [if_pos (by rw [Bool.and_eq_true]; exact ⟨decide_eq_true (by omega), beq_iff_eq.mpr t⟩), e2, List.take_of_length_le (by rw [List.length_drop]; omega)]
theorem int_dg {l : List Nat} (h : isDg l = true) (hl : l.length ≤ 640) : PySem.intText? (S l) = some ((digitsVal l : Nat) : Int) := by
  obtain ⟨a, b⟩ := isDg_iff.mp h
  exact PySem.intText_digits (x := S l) a b (by rw [SX.S_len]; omega)
theorem int_ival {l : List Nat} (h : isDg (rmS l) = true) (hl : l.length ≤ 640) : PySem.intText? (S l) = some (ival l) := by
  unfold ival
  rcases rmS_eq l with ⟨e, t⟩ | ⟨e, t⟩
  · rw [if_neg t]
    rw [e] at h
    exact int_dg h hl
  · rw [if_pos t]
    obtain ⟨a, b⟩ := isDg_iff.mp h
    have e2 : rmS l = l.drop 1 := by
      have := congrArg (List.drop 1) e
      rw [List.drop_succ_cons, List.drop_zero] at this
      exact this.symm
    rw [← e2]
    exact PySem.intText_neg (x := S l) e a b (by rw [SX.S_len]; omega)
/-- no long run of digits -/
def DR (l : List Nat) : Prop := l.length ≤ 1000 ∧ ∀ p q r, l = p ++ (q ++ r) → AllDigits q → q.length ≤ 410
theorem val_lt {q : List Nat} (h : AllDigits q) : digitsVal q < 10 ^ q.length := by
  have key : ∀ (n : Nat) (q : List Nat), q.length = n → AllDigits q → digitsVal q < 10 ^ n := fun n => by
    induction n with
    | zero =>
      intro q e _
      rw [List.length_eq_zero_iff.mp e]; decide
    | succ n ih =>
      intro q e h
      have ne : q ≠ [] := fun z => by rw [z] at e; cases e
      have eq := (List.dropLast_concat_getLast ne).symm
      rw [eq] at h e ⊢
      rw [List.length_append, List.length_singleton] at e
      obtain ⟨h1, h2⟩ := dig_app.mp h
      have := ih _ (by omega) h1
      have hc := h2 _ (List.mem_singleton.mpr rfl)
      rw [val_snoc, Nat.pow_succ]
      omega
  exact key _ q rfl h
theorem val_410 {q : List Nat} (h : AllDigits q) (hl : q.length ≤ 410) : digitsVal q < 10 ^ 410 := Nat.lt_of_lt_of_le (val_lt h) (Nat.pow_le_pow_right (by decide) hl)
theorem sm410 {n : Int} (h : n.natAbs < 10 ^ 410) : Sm 8000 n := Nat.lt_of_lt_of_le h (by decide +kernel)
theorem lg410 {n : Int} (h : n.natAbs < 10 ^ 410) : n.natAbs.log2 < 1920 := by
  by_cases z : n.natAbs = 0
  · rw [z]; decide
  · exact (Nat.log2_lt z).mpr (Nat.lt_of_lt_of_le h (by decide +kernel))
theorem red_self {n d : Int} (h : 0 < d) (g : Nat.gcd n.natAbs d.natAbs = 1) : red n d = (n, d) := by
  unfold red
  rw [g]
  show (n.fdiv (if d < 0 then -((1 : Nat) : Int) else ((1 : Nat) : Int)), d.fdiv (if d < 0 then -((1 : Nat) : Int) else ((1 : Nat) : Int))) = (n, d)
  rw [if_neg (by omega)]
  show (n.fdiv 1, d.fdiv 1) = (n, d)
  rw [Int.fdiv_one, Int.fdiv_one]
theorem Sh.red {x y : Int} (h : 0 < y) : Sh (.ins 0 [.int (red x y).1, .int (red x y).2]) x y := by
  obtain ⟨l, e, _⟩ := red_ok (o := x) (u := y) (by omega)
  exact ⟨h, _, _, rfl, l, e⟩
theorem par_some {l p q : List Nat} (h : TL.par [47] [] l = some (p, q)) : l = p ++ 47 :: q := by
  have key : ∀ (l acc p q : List Nat), TL.par [47] acc l = some (p, q) → acc ++ l = p ++ 47 :: q := fun l => by
    induction l with
    | nil => intro acc p q h; cases h
    | cons c r ih =>
      intro acc p q h
      unfold TL.par at h
      rw [pre_47] at h
      by_cases z : c = 47
      · rw [if_pos (decide_eq_true z)] at h
        cases h
        rw [z]; rfl
      · rw [if_neg (by rw [decide_eq_false z]; exact Bool.false_ne_true)] at h
        have := ih _ _ _ h
        rw [List.append_assoc] at this
        exact this
  exact key l [] p q h
theorem part_dr {l : List Nat} (dr : DR l) : ∃ p u st : List Nat, Txt.partition (S l) (Str.ofString "/") = (S p, S st, S u) ∧ pu l = (p, if st = [] then [49] else u) ∧ (AllDigits (rmS p) → (rmS p).length ≤ 410) ∧ (AllDigits (pu l).2 → (pu l).2.length ≤ 410) ∧ (st = [] ∨ st = [47]) ∧ p.length ≤ 1000 := by
  have rmd : ∀ p r : List Nat, l = p ++ r → AllDigits (rmS p) → (rmS p).length ≤ 410 := fun p r e h => by
    rcases rmS_eq p with ⟨e2, _⟩ | ⟨e2, _⟩
    · rw [e2] at h ⊢
      exact dr.2 [] p r e h
    · exact dr.2 [45] (rmS p) r (by rw [e]; conv => lhs; rw [e2]
                                    rfl) h
  have e47 : Str.ofString "/" = S [47] := rfl
  cases h : TL.par [47] [] l with
  | some pq =>
    obtain ⟨p, q⟩ := pq
    have e := par_some h
    have hpu : pu l = (p, q) := by unfold pu; rw [h]
    refine ⟨p, q, [47], by rw [e47]; exact SX.partition_some (by simp) h, hpu, rmd p _ e, fun hd => ?_, .inr rfl, by have := dr.1; have := congrArg List.length e; rw [List.length_append] at this; omega⟩
    rw [hpu] at hd ⊢
    exact dr.2 (p ++ [47]) q [] (by rw [List.append_nil, List.append_assoc]; exact e) hd
  | none =>
    have hpu : pu l = (l, [49]) := by unfold pu; rw [h]
    refine ⟨l, [], [], by rw [e47]; exact SX.partition_none (by simp) h, hpu, rmd l [] (List.append_nil _).symm, fun _ => by rw [hpu]; exact (show 1 ≤ 410 by decide), .inl rfl, dr.1⟩
def sp_told : TSp := t1 fun a KK => ∃ l, a = .fz (.str (S l)) ∧ DR l ∧ (told l = none → KK (.fz .non) [.nil]) ∧ (∀ n d, told l = some (n, d) → 0 < d → n.natAbs < 10 ^ 410 → d.natAbs < 10 ^ 410 → KK (.fz (.ins 0 [.int (red n d).1, .int (red n d).2])) [.nil])
theorem ok_told {f : Addr} {fd : FuncData} (F : Fun K "_told" "_told" s_told f fd) (T : Txt K mg CS CI CT CP CM CK CU CC CN CE CA CH CB CRM CR CX_) (D_is_digits : Df P w K mg base 1 "_is_digits" s_is_digits ["word"] (lift c [.f] sp_is_digits)) (D_Share_init : Dk P w K mg base 1 CS "Share" "Share.__init__" s_Share_init ["self", "over", "under"] (lift c [.l, .f, .f] sp_Share_init)) : FnOk P w K mg base (L2.CX P w) 3 f fd ["text"] (lift c [.f] sp_told) := by
  have nd := sc_told.nd
  refine F.okX sc_told (fun vs H Q E h => ?_) (fun cdv A outer s H vs Q E hr h => ?_)
  · exact lift_len h (by rintro as KK ⟨_, rfl, _⟩; rfl)
  · refine ⟨_, (pss_cons (ps_asg (pe_part (pv 0) pe_str) (pg_tup (n := 3) rfl (pgs_cons (pg_name (i := 1) nd rfl (Or.inl rfl)) (pgs_cons (pg_name (i := 2) nd rfl (Or.inl rfl)) (pgs_cons (pg_name (i := 3) nd rfl (Or.inl rfl)) pgs_nil))) : PG _ _ (gTup K _ _)))
(pss_mid (ps_if (pt_cmpR op_eq (pv 2) pe_str (nomark _))
(pss_one (ps_set (i := 3) nd rfl (Or.inl rfl) pe_str))
pss_nil)
(pss_cons (ps_if (PW.pt (pw_or (pt_not (pt_val (pe_d D_is_digits hr (by decide) (by rfl) passL (pa_cons (pe_rmPre (pv 1) pe_str) pa_nil)))) (pw_or1 (pt_not (pt_val (pe_d D_is_digits hr (by decide) (by rfl) passL (pa_cons (pv 3) pa_nil)))))))
(pss_one (ps_ret pe_non))
pss_nil)
(pss_cons (ps_if (pt_cmpR op_eq (pe_callTy n_int_str (by rfl) T.int (by decide +kernel) (pa_cons (pv 3) pa_nil)) pe_int (nomark _))
(pss_one (ps_ret pe_non))
pss_nil)
(pss_one (ps_ret (pe_k D_Share_init hr (by decide) (by rfl) passL (pa_cons (pe_callTy n_int_str (by rfl) T.int (by decide +kernel) (pa_cons (pv 1) pa_nil)) (pa_cons (pe_callTy n_int_str (by rfl) T.int (by decide +kernel) (pa_cons (pv 3) pa_nil)) pa_nil))))))))), ?_⟩
    refine bodyN (c := c) (P := []) (n := 1) [.nil, .nil, .nil] h rfl rfl ?_
    rintro as KK ⟨_, rfl, ⟨l, rfl, dr, h0, h1⟩⟩
    refine ⟨rfl, by simp [ownsIn], by simp, ?_⟩
    simp only [List.cons_append, List.nil_append]
    have ll := dr.1
    k_extra "ts"
    refine ⟨by rw [SX.S_len]; omega, ?_⟩
    obtain ⟨p, u, st, hp, hpu, drp, dru, hst, pl⟩ := part_dr dr
    rw [hp]
    k_extra "ts"
    refine ⟨fun E => E = [.fz (.str (S l)), .fz (.str (S p)), .fz (.str (S st)), .fz (.str (S (pu l).2))], ?_, ?_⟩
    · k_extra "ts"
      refine ifK_d (fun c => ?_) (fun c => ?_)
      · have st0 : st = [] := SX.S_inj (b := []) (of_decide_eq_true c)
        rw [hpu, if_pos st0]
        k_extra "ts"
        rfl
      · have st1 : st ≠ [] := fun z => of_decide_eq_false c (by rw [z]; rfl)
        rw [hpu, if_neg st1]
        rfl
    have ep : (pu l).1 = p := by rw [hpu]
    obtain ⟨v, hv⟩ : ∃ v, v = (pu l).2 := ⟨_, rfl⟩
    rw [← hv] at dru ⊢
    clear hp hpu hst
    rintro _ rfl
    k_extra "ts"
    refine ⟨by rw [SX.S_len]; omega, ?_⟩
    k_extra "ts"
    rw [rmp]
    refine ⟨_, rfl, rmS p, rfl, ?_⟩
    cases d1 : isDg (rmS p) with
    | false =>
      k_extra "ts"
      exact h0 (by unfold told; rw [ep, d1, if_neg (fun z => Bool.noConfusion z.1)])
    | true =>
    k_extra "ts"
    refine ⟨_, rfl, v, rfl, ?_⟩
    cases d2 : isDg v with
    | false =>
      k_extra "ts"
      exact h0 (by unfold told; rw [← hv, d2, if_neg (fun z => Bool.noConfusion z.2.1)])
    | true =>
    have q1 := isDg_iff.mp d1
    have q2 := isDg_iff.mp d2
    have l1 := drp q1.1
    have l2 := dru q2.1
    have b1 := val_410 q1.1 l1
    have b2 := val_410 q2.1 l2
    have vS : (S v).length ≤ 640 := by rw [SX.S_len]; omega
    have pS : (S p).length ≤ 640 := by
      rw [SX.S_len]
      rcases rmS_eq p with ⟨e, _⟩ | ⟨e, _⟩
      · rw [e] at l1; omega
      · have := congrArg List.length e
        rw [List.length_cons] at this; omega
    have iv : (ival p).natAbs = digitsVal (rmS p) := by
      unfold ival rmS
      split <;> omega
    k_extra "ts"
    refine ⟨_, int_dg d2 (by omega), vS, ?_⟩
    k_extra "ts"
    refine ifK_d (fun c => ?_) (fun c => ?_)
    · have c' := of_decide_eq_true c
      k_extra "ts"
      exact h0 (by unfold told; rw [← hv, if_neg (fun z => z.2.2 (by omega))])
    have c' := of_decide_eq_false c
    k_extra "ts"
    refine ⟨_, int_ival d1 (by rw [SX.S_len] at pS; exact pS), pS, ?_⟩
    k_extra "ts"
    refine ⟨_, int_dg d2 (by omega), vS, ?_⟩
    have s1 : Sm 8000 (ival p) := sm410 (by omega)
    have s2 : Sm 8000 ((digitsVal v : Nat) : Int) := sm410 (by omega)
    k_extra "ts"
    refine ⟨_, _, _, rfl, _, _, rfl, rfl, rfl, c', s1, s2, ?_⟩
    k_extra "ts"
    exact h1 _ _ (by unfold told; rw [ep, ← hv, if_pos ⟨d1, d2, fun z => c' (by omega)⟩]) (by omega) (by omega) (by omega)
def sp_law_is : TSp := t3 fun a b d KK => ∃ x o u, a = .fz x ∧ b = .fz (.int o) ∧ d = .fz (.int u) ∧ Sh x o u ∧ Sm 3000 o ∧ Sm 3000 u ∧ KK (.fz (.bl true)) [.nil, .nil, .nil]
theorem ok_law_is {f : Addr} {fd : FuncData} (F : Fun K "_law_is" "_law_is" s_law_is f fd) (T : Txt K mg CS CI CT CP CM CK CU CC CN CE CA CH CB CRM CR CX_) (D_law_integer : Df P w K mg base 1 "_law_integer" s_law_integer ["value"] (lift c [.f] sp_law_integer)) (D_law_gcd : Df P w K mg base 1 "_law_gcd" s_law_gcd ["one", "other"] (lift c [.f, .f] sp_law_gcd)) : FnOk P w K mg base (L2.CX P w) 2 f fd ["got", "over", "under"] (lift c [.f, .f, .f] sp_law_is) := by
  have nd := sc_law_is.nd
  refine F.okX sc_law_is (fun vs H Q E h => ?_) (fun cdv A outer s H vs Q E hr h => ?_)
  · exact lift_len h (by rintro as KK ⟨_, _, _, rfl, _⟩; rfl)
  · refine ⟨_, (pss_cons (ps_if (PW.pt (pw_or (pt_not (pt_val (pe_callB (call_isi : CallR _ (.builtin "isinstance") (rIsi K)) (by rfl) T.isinstance (by decide +kernel) (pa_cons (pv 0) (pa_cons (pe_glob (v := .ref CS) (by rfl) T.mgShare rfl) pa_nil))))) (pw_or (pt_not (pt_val (pe_d D_law_integer hr (by decide) (by rfl) passL (pa_cons (pe_fld (pv 0) rfl : PE _ _ (tFld K _ _)) pa_nil)))) (pw_or1 (pt_not (pt_val (pe_d D_law_integer hr (by decide) (by rfl) passL (pa_cons (pe_fld (pv 0) rfl : PE _ _ (tFld K _ _)) pa_nil))))))))
(pss_one (ps_ret pe_bl))
pss_nil)
(pss_cons (ps_set (i := 3) nd rfl (Or.inl rfl) (pe_d D_law_gcd hr (by decide) (by rfl) passL (pa_cons (pe_callB n_abs (by rfl) T.abs (by decide +kernel) (pa_cons (pv 1) pa_nil)) (pa_cons (pv 2) pa_nil))))
(pss_one (ps_ret (pe_and (pe_cmpR op_eq (pe_op op_mulW (pe_fld (pv 0) rfl : PE _ _ (tFld K _ _)) (pv 3)) (pv 1) (nomark _)) (pe_one (pe_cmpR op_eq (pe_op op_mulW (pe_fld (pv 0) rfl : PE _ _ (tFld K _ _)) (pv 3)) (pv 2) (nomark _)))))))), ?_⟩
    refine bodyN (c := c) (P := []) (n := 3) [.nil] h rfl rfl ?_
    rintro as KK ⟨_, _, _, rfl, ⟨_, o, u, rfl, rfl, rfl, ⟨p1, n, d, rfl, l1, e1⟩, s1, s2, h⟩⟩
    refine ⟨rfl, by simp [ownsIn], by simp, ?_⟩
    simp only [List.cons_append, List.nil_append]
    obtain ⟨q1, q2⟩ := Sh.sm l1 p1 e1 s1 s2
    have sg : Sm 3000 ((Nat.gcd o.natAbs u.natAbs : Nat) : Int) := s2.le (by
      have := Nat.gcd_le_right (n := u.natAbs) o.natAbs (by omega)
      omega)
    have lo := low_of l1 p1 e1
    have eo : (if o < 0 then -o else o) = (o.natAbs : Int) := by split <;> omega
    have eu : u = (u.natAbs : Int) := by omega
    k_extra "ts"
    refine ⟨_, rfl, _, rfl, ?_⟩
    k_extra "ts"
    refine ⟨_, rfl, _, rfl, ?_⟩
    k_extra "ts"
    refine ⟨_, _, rfl, o.natAbs, u.natAbs, ?_, ?_, Nat.lt_of_lt_of_le s1 (Nat.pow_le_pow_right (by decide) (by decide)), Nat.lt_of_lt_of_le s2 (Nat.pow_le_pow_right (by decide) (by decide)), ?_⟩
    · exact congrArg (fun z => Ent.fz (D.int z)) eo
    · exact congrArg (fun z => Ent.fz (D.int z)) eu
    k_extra "ts"
    rw [lo.1]
    refine ifK_d (fun g => ?_) (fun g => ?_)
    · k_extra "ts"
      rw [lo.2]
      rw [show decide (u = u) = true from decide_eq_true rfl]
      exact h
    · exact absurd rfl (of_decide_eq_false g)
def sp_read_share : TSpX := x1 fun a KK KX => ∃ l, a = .fz (.str (S l)) ∧ DR l ∧ (∀ n d, Can l n d → n.natAbs < 10 ^ 410 → d.natAbs < 10 ^ 410 → KK (.fz (.ins 0 [.int n, .int d])) [.nil]) ∧ ((¬ ∃ n d, Can l n d) → KX ⟨27, [.int 0, .str (S l)]⟩)
theorem ok_read_share {f : Addr} {fd : FuncData} (F : Fun K "read_share" "read_share" s_read_share f fd) (T : Txt K mg CS CI CT CP CM CK CU CC CN CE CA CH CB CRM CR CX_) (D_told : Df P w K mg base 3 "_told" s_told ["text"] (lift c [.f] sp_told)) (D_Share_written : Dm P w K mg base 1 CS "written" "Share.written" s_Share_written ["self"] (lift c [.f] sp_Share_written)) (D_InvalidText_init : Dx P w K mg base 1 CX_ "InvalidText" "InvalidText.__init__" s_InvalidText_init ["self", "text", "at"] (spX2 CX_ "text" "at")) : FnOk P w K mg base (L2.CX P w) 4 f fd ["text"] (liftX c [.f] sp_read_share) := by
  have nd := sc_read_share.nd
  refine F.okX sc_read_share (fun vs H Q E h => ?_) (fun cdv A outer s H vs Q E hr h => ?_)
  · exact liftX_len h (by rintro as KK KX ⟨_, rfl, _⟩; rfl)
  · refine ⟨_, (pss_cons (ps_set (i := 1) nd rfl (Or.inl rfl) (pe_d D_told hr (by decide) (by rfl) passL (pa_cons (pv 0) pa_nil)))
(pss_cons (ps_if (PW.pt (pw_or (pt_cmpR n_isN (pv 1) pe_non (nomark _)) (pw_or1 (pt_cmpR op_ne (pe_m0 D_Share_written hr (by decide) passL (pv 1)) (pv 0) (nomark _)))))
(pss_one (ps_raiseT rfl (takes_of rfl rfl rfl rfl) (pmk_x D_InvalidText_init hr (by decide) (by rfl) (pa_cons (pv 0) (pa_cons pe_int pa_nil)))))
pss_nil)
(pss_one (ps_ret (pv 1))))), ?_⟩
    refine bodyNX (c := c) (P := []) (n := 1) (z := fun W F0 pv TXw _ => inferInstance) [.nil] h rfl rfl ?_
    rintro as KK KX ⟨_, rfl, ⟨l, rfl, dr, h, hx⟩⟩
    refine ⟨rfl, by simp [ownsIn], by simp, ?_⟩
    simp only [List.cons_append, List.nil_append]
    k_extra "ts"
    refine ⟨_, rfl, l, rfl, dr, fun e => ?_, fun n d e d0 nb db => ?_⟩
    · k_extra "ts"
      refine hx fun ⟨a, b, hc⟩ => ?_
      have := told_wr (n := a) hc.1
      rw [← hc.2.2, e] at this; cases this
    · obtain ⟨lo, _, r1, r2⟩ := red_ok (o := n) (u := d) (by omega)
      have rn : (red n d).1.natAbs < 10 ^ 410 := by omega
      have rd : (red n d).2.natAbs < 10 ^ 410 := by omega
      k_extra "ts"
      refine ⟨_, rfl, _, _, rfl, lg410 rn, lg410 rd, ?_⟩
      k_extra "ts"
      refine ifK_d (fun c => ?_) (fun c => ?_)
      · k_extra "ts"
        refine hx fun ⟨a, b, hc⟩ => ?_
        have := told_wr (n := a) hc.1
        rw [← hc.2.2, e] at this
        cases this
        rw [red_self hc.1 hc.2.1, ← hc.2.2] at c
        simp at c
      · have c' : wr (red n d).1 (red n d).2 = l := SX.S_inj (by simpa using c)
        k_extra "ts"
        exact h _ _ ⟨lo.1, lo.2, c'.symm⟩ rn rd
theorem cano_iff {l : List Nat} : cano l ↔ l ≠ [] ∧ AllDigits l ∧ ¬ (l.head? = some 48 ∧ l ≠ [48]) := by
  unfold cano
  constructor
  · rintro ⟨a, b, c⟩
    exact ⟨b, a, fun z => c.elim z.2 fun q => q z.1⟩
  · rintro ⟨a, b, c⟩
    refine ⟨b, a, ?_⟩
    by_cases q : l = [48]
    · exact .inl q
    · exact .inr fun z => c ⟨z, q⟩
def sp_law_digits : TSp := t1 fun a KK => ∃ l, a = .fz (.str (S l)) ∧ l.length ≤ 1000 ∧ (cano l → l.length ≤ 410) ∧ (cano l → KK (.fz (.int ((digitsVal l : Nat) : Int))) [.nil]) ∧ (¬ cano l → KK (.fz .non) [.nil])
theorem ok_law_digits {f : Addr} {fd : FuncData} (F : Fun K "_law_digits" "_law_digits" s_law_digits f fd) (T : Txt K mg CS CI CT CP CM CK CU CC CN CE CA CH CB CRM CR CX_)  : FnOk P w K mg base (L2.CX P w) 1 f fd ["text"] (lift c [.f] sp_law_digits) := by
  have nd := sc_law_digits.nd
  refine F.okX sc_law_digits (fun vs H Q E h => ?_) (fun cdv A outer s H vs Q E hr h => ?_)
  · exact lift_len h (by rintro as KK ⟨_, rfl, _⟩; rfl)
  · refine ⟨_, (pss_cons (ps_if (pt_cmpR op_eq (pv 0) pe_str (nomark _))
(pss_one (ps_ret pe_non))
pss_nil)
(pss_cons (ps_for (passes_of rfl) rfl (pi_str (pv 0)) (pg_name (i := 1) nd rfl (Or.inl rfl))
(pss_one (ps_if (pt_cmpR op_notInS (pv 1) pe_str (by rfl))
(pss_one (ps_ret pe_non))
pss_nil)))
(pss_cons (ps_if (PW.pt (pw_and (pt_cmpR op_eq (pe_ix ix_str (pv 0) pe_int (fun _ _ => rfl)) pe_str (nomark _)) (pw_and1 (pt_cmpR op_ne (pv 0) pe_str (nomark _)))))
(pss_one (ps_ret pe_non))
pss_nil)
(pss_one (ps_ret (pe_callTy n_int_str (by rfl) T.int (by decide +kernel) (pa_cons (pv 0) pa_nil))))))), ?_⟩
    refine bodyN (c := c) (P := []) (n := 1) [.nil] h rfl rfl ?_
    rintro as KK ⟨_, rfl, ⟨l, rfl, ll, cl, h1, h0⟩⟩
    refine ⟨rfl, by simp [ownsIn], by simp, ?_⟩
    simp only [List.cons_append, List.nil_append]
    k_extra "ts"
    refine ifK_d (fun c => ?_) (fun c => ?_)
    · have c' : l = [] := SX.S_inj (b := []) (of_decide_eq_true c)
      k_extra "ts"
      exact h0 fun z => z.2.1 c'
    have ne : l ≠ [] := fun z => of_decide_eq_false c (by rw [z]; rfl)
    clear c
    k_extra "ts"
    rw [show sgs (S l) = l.map fun k => D.str ⟨#[k]⟩ from rfl]
    refine forX (fun i E => ∃ y : Ent, E = [.fz (.str (S l)), y] ∧ ∀ c ∈ l.take i, 48 ≤ c ∧ c ≤ 57) ⟨_, rfl, fun c h => (by cases h)⟩ ?_ ?_
    · rintro i k _ hi ⟨y, rfl, hd⟩
      have il := (List.getElem?_eq_some_iff.mp hi).1
      have km := List.mem_of_getElem? hi
      have dm : (decide (k ∈ (Str.ofString "0123456789").cps.toList) = true) ↔ 48 ≤ k ∧ k ≤ 57 := by
        rw [decide_eq_true_iff, show (Str.ofString "0123456789").cps.toList = [48, 49, 50, 51, 52, 53, 54, 55, 56, 57] by decide]
        simp only [List.mem_cons, List.not_mem_nil, or_false]
        omega
      k_extra "ts"
      refine ⟨k, rfl, ?_⟩
      k_extra "ts"
      refine ifK_d (fun c => ?_) (fun c => ?_)
      · k_extra "ts"
        refine h0 fun z => ?_
        have := dm.mpr (z.1 k km)
        rw [this] at c; cases c
      · refine ⟨_, rfl, fun d hd2 => ?_⟩
        rw [List.take_add_one, hi] at hd2
        rcases List.mem_append.mp hd2 with hd2 | hd2
        · exact hd d hd2
        · rw [List.mem_singleton.mp hd2]
          exact dm.mp (by simpa using c)
    · rintro _ ⟨y, rfl, hd⟩
      rw [List.take_length] at hd
      have c9 := @cano_iff l
      obtain ⟨k, t, rfl⟩ : ∃ k t, l = k :: t := by
        cases l with
        | nil => exact absurd rfl ne
        | cons k t => exact ⟨k, t, rfl⟩
      have lS : (S (k :: t)).length ≤ 1000 := by rw [SX.S_len]; exact ll
      k_extra "ts"
      rw [show (S (k :: t)).cps.toList = k :: t from rfl]
      refine atIK_of (atI_nat (xs := k :: t) (j := 0) (v := k) rfl) ?_
      k_extra "ts"
      have done : ¬ ((k :: t).head? = some 48 ∧ k :: t ≠ [48]) → KK (.fz (.int ((digitsVal (k :: t) : Nat) : Int))) [.nil] := fun z => h1 (c9.mpr ⟨by simp, hd, z⟩)
      have fits : ¬ ((k :: t).head? = some 48 ∧ k :: t ≠ [48]) → (k :: t).length ≤ 410 := fun z => cl (c9.mpr ⟨by simp, hd, z⟩)
      have fin : ∀ z : ¬ ((k :: t).head? = some 48 ∧ k :: t ≠ [48]), PySem.intText? (S (k :: t)) = some ((digitsVal (k :: t) : Nat) : Int) ∧ (S (k :: t)).length ≤ 640 := fun z => by
        have := fits z
        exact ⟨int_dg (isDg_iff.mpr ⟨hd, by simp⟩) (by omega), by rw [SX.S_len]; omega⟩
      refine ifK_d (fun c1 => ?_) (fun c1 => ?_)
      · have k48 : k = 48 := List.head_eq_of_cons_eq (SX.S_inj (a := [k]) (b := [48]) (of_decide_eq_true c1))
        k_extra "ts"
        refine ifK_d (fun c2 => ?_) (fun c2 => ?_)
        · have c2' : k :: t ≠ [48] := fun z => by
            rw [z] at c2
            exact absurd c2 (by decide)
          k_extra "ts"
          exact h0 fun z => (c9.mp z).2.2 ⟨by rw [k48]; rfl, c2'⟩
        · have c2' : k :: t = [48] := SX.S_inj (b := [48]) (nd_f c2)
          have z : ¬ ((k :: t).head? = some 48 ∧ k :: t ≠ [48]) := fun q => q.2 c2'
          k_extra "ts"
          refine ⟨_, (fin z).1, (fin z).2, ?_⟩
          k_extra "ts"
          exact done z
      · have z : ¬ ((k :: t).head? = some 48 ∧ k :: t ≠ [48]) := fun q => of_decide_eq_false c1 (by
          have : k = 48 := Option.some.inj q.1
          rw [this]; rfl)
        k_extra "ts"
        refine ⟨_, (fin z).1, (fin z).2, ?_⟩
        k_extra "ts"
        exact done z
theorem cut_to (l : List Nat) {i : Int} (h : 0 ≤ i) : cutS (S l) none (some i) = S (l.take i.toNat) := by
  rw [C8.cutS_slice, SX.slice_to h]
theorem cut_from (l : List Nat) {i : Int} (h : 0 ≤ i) : cutS (S l) (some i) none = S (l.drop i.toNat) := by
  rw [C8.cutS_slice, SX.slice_from h]
theorem DR.pre {l p r : List Nat} (h : DR l) (e : rmS l = p ++ r) (hd : AllDigits p) : p.length ≤ 410 := by
  rcases rmS_eq l with ⟨e2, _⟩ | ⟨e2, _⟩
  · exact h.2 [] p r (by rw [← e, e2]; rfl) hd
  · exact h.2 [45] p r (by rw [← e]; exact e2) hd
theorem DR.snd {l p u : List Nat} (h : DR l) (e : rmS l = p ++ 47 :: u) (hd : AllDigits u) : u.length ≤ 410 := by
  rcases rmS_eq l with ⟨e2, _⟩ | ⟨e2, _⟩
  · exact h.2 (p ++ [47]) u [] (by rw [List.append_nil, List.append_assoc, ← e2]; exact e) hd
  · exact h.2 (45 :: p ++ [47]) u [] (by rw [List.append_nil, List.append_assoc, e2, e]; rfl) hd
theorem rmS_len (l : List Nat) : (rmS l).length ≤ l.length := by
  rcases rmS_eq l with ⟨e, _⟩ | ⟨e, _⟩
  · rw [e]; exact Nat.le_refl _
  · have := congrArg List.length e
    rw [List.length_cons] at this; omega
theorem abs_if {l : List Nat} {v : Nat} : (if rmS l = l then (v : Int) else 0 - (v : Int)).natAbs = v := by split <;> omega
def sp_law_read : TSp := t1 fun a KK => ∃ l, a = .fz (.str (S l)) ∧ DR l ∧ (∀ n d, Can l n d → n.natAbs < 10 ^ 410 → d.natAbs < 10 ^ 410 → KK (.fz (.lst [.int n, .int d])) [.nil]) ∧ ((¬ ∃ n d, Can l n d) → KK (.fz .non) [.nil])
theorem ok_law_read {f : Addr} {fd : FuncData} (F : Fun K "_law_read" "_law_read" s_law_read f fd) (T : Txt K mg CS CI CT CP CM CK CU CC CN CE CA CH CB CRM CR CX_) (D_law_digits : Df P w K mg base 1 "_law_digits" s_law_digits ["text"] (lift c [.f] sp_law_digits)) (D_law_gcd : Df P w K mg base 1 "_law_gcd" s_law_gcd ["one", "other"] (lift c [.f, .f] sp_law_gcd)) : FnOk P w K mg base (L2.CX P w) 2 f fd ["text"] (lift c [.f] sp_law_read) := by
  have nd := sc_law_read.nd
  refine F.okX sc_law_read (fun vs H Q E h => ?_) (fun cdv A outer s H vs Q E hr h => ?_)
  · exact lift_len h (by rintro as KK ⟨_, rfl, _⟩; rfl)
  · refine ⟨_, (pss_cons (ps_set (i := 1) nd rfl (Or.inl rfl) (pv 0))
(pss_mid (ps_if (pt_cmpR op_eq (pe_slice sl_str (pv 0) po_none (po_some pe_int)) pe_str (nomark _))
(pss_one (ps_set (i := 1) nd rfl (Or.inl rfl) (pe_slice sl_str (pv 0) (po_some pe_int) po_none)))
pss_nil)
(pss_cons (ps_set (i := 2) nd rfl (Or.inl rfl) (pe_splitS (pv 1) pe_str))
(pss_cons (ps_set (i := 3) nd rfl (Or.inl rfl) (pe_d D_law_digits hr (by decide) (by rfl) passL (pa_cons (pe_ix (ix_list : IxR _ (rIxL K)) (pv 2) pe_int (fun _ _ => rfl)) pa_nil)))
(pss_cons (ps_if (PW.pt (pw_or (pt_cmpR op_gt (pe_callB (K01.len_seqK : CallR _ (.builtin "len") (K01.rLenSeq K)) (by rfl) T.len (by decide +kernel) (pa_cons (pv 2) pa_nil)) pe_int (nomark _)) (pw_or1 (pt_cmpR n_isN (pv 3) pe_non (nomark _)))))
(pss_one (ps_ret pe_non))
pss_nil)
(pss_mid (ps_if (PW.pt (pw_and (pt_cmpR op_eq (pv 3) pe_int (nomark _)) (pw_and1 (pt_cmpR op_ne (pv 0) pe_str (nomark _)))))
(pss_one (ps_ret pe_non))
pss_nil)
(pss_cons (ps_set (i := 4) nd rfl (Or.inl rfl) pe_int)
(pss_cons (ps_if (pt_cmpR op_eq (pe_callB (K01.len_seqK : CallR _ (.builtin "len") (K01.rLenSeq K)) (by rfl) T.len (by decide +kernel) (pa_cons (pv 2) pa_nil)) pe_int (nomark _))
(pss_cons (ps_set (i := 4) nd rfl (Or.inl rfl) (pe_d D_law_digits hr (by decide) (by rfl) passL (pa_cons (pe_ix (ix_list : IxR _ (rIxL K)) (pv 2) pe_int (fun _ _ => rfl)) pa_nil)))
(pss_one (ps_if (PW.pt (pw_or (pt_cmpR n_isN (pv 4) pe_non (nomark _)) (pw_or (pt_cmpR op_lt (pv 4) pe_int (nomark _)) (pw_or1 (pt_cmpR op_ne (pe_d D_law_gcd hr (by decide) (by rfl) passL (pa_cons (pv 3) (pa_cons (pv 4) pa_nil))) pe_int (nomark _))))))
(pss_one (ps_ret pe_non))
pss_nil)))
pss_nil)
(pss_cons (ps_if (pt_cmpR op_ne (pv 1) (pv 0) (nomark _))
(pss_one (ps_set (i := 3) nd rfl (Or.inl rfl) (pe_op op_sub pe_int (pv 3))))
pss_nil)
(pss_one (ps_ret (pe_lst (pa_cons (pv 3) (pa_cons (pv 4) pa_nil)))))))))))))), ?_⟩
    refine bodyN (c := c) (P := []) (n := 1) [.nil, .nil, .nil, .nil] h rfl rfl ?_
    rintro as KK ⟨_, rfl, ⟨l, rfl, dr, h1, h0⟩⟩
    refine ⟨rfl, by simp [ownsIn], by simp, ?_⟩
    simp only [List.cons_append, List.nil_append]
    have ll := dr.1
    have lS : (S l).length ≤ 1000 := by rw [SX.S_len]; exact ll
    have bl := rmS_len l
    have bS : (S (rmS l)).length ≤ 1000 := by rw [SX.S_len]; omega
    k_extra "ts"
    refine ⟨fun E => E = [.fz (.str (S l)), .fz (.str (S (rmS l))), .nil, .nil, .nil], ?_, ?_⟩
    · k_extra "ts"
      rw [cut_to l (by decide)]
      refine ifK_d (fun c => ?_) (fun c => ?_)
      · have c' : l.take 1 = [45] := SX.S_inj (b := [45]) (of_decide_eq_true c)
        have e2 : rmS l = l.drop 1 := if_pos c'
        rw [e2]
        k_extra "ts"
        rw [cut_from l (by decide)]
        rfl
      · have c' : l.take 1 ≠ [45] := fun z => of_decide_eq_false c (by show S (l.take 1) = S [45]; rw [z])
        rw [rmS_not c']
        rfl
    rintro _ rfl
    have hsp : Txt.split (S (rmS l)) (Str.ofString "/") = (TL.spl [47] 0 [] (rmS l)).map S := SX.split_S (b := [47]) (by simp) (by decide)
    k_extra "ts"
    rw [hsp]
    obtain ⟨p, ps, hps⟩ : ∃ p ps, TL.spl [47] 0 [] (rmS l) = p :: ps := by
      cases q : TL.spl [47] 0 [] (rmS l) with
      | nil => exact absurd q (spl_ne _ _)
      | cons p ps => exact ⟨p, ps, rfl⟩
    obtain ⟨rr, her⟩ := spl_hd hps
    have pl : p.length ≤ 1000 := by
      have := congrArg List.length her
      rw [List.length_append] at this; omega
    have p4 : cano p → p.length ≤ 410 := fun z => dr.pre her z.1
    have cp : ∀ n d, Can l n d → cano p ∧ digitsVal p = n.natAbs ∧ ((ps = [] ∧ d = 1) ∨ (∃ u, ps = [u] ∧ cano u ∧ digitsVal u = d.natAbs ∧ d ≠ 1)) := fun n d hc => by
      rcases hc.parts with ⟨e, z⟩ | ⟨e, z⟩
      · rw [hps] at e
        cases e
        exact ⟨num_cano _, numL_val _, .inl ⟨rfl, z⟩⟩
      · rw [hps] at e
        cases e
        exact ⟨num_cano _, numL_val _, .inr ⟨_, rfl, num_cano _, numL_val _, z⟩⟩
    rw [hps]
    clear hsp
    rcases ps with _ | ⟨u, _ | ⟨v, w⟩⟩
    · k_extra "ts"
      refine ⟨_, rfl, p, rfl, pl, p4, fun c1 => ?_, fun c1 => ?_⟩
      · have v4 := val_410 c1.1 (p4 c1)
        k_extra "ts"
        refine ⟨fun E => E = [.fz (.str (S l)), .fz (.str (S (rmS l))), .fz (.lst (([p] : List (List Nat)).map fun x => .str (S x))), .fz (.int ((digitsVal p : Nat) : Int)), .nil] ∧ ¬ (digitsVal p = 0 ∧ l ≠ [48]), ?_, ?_⟩
        · k_extra "ts"
          refine ifK_d (fun z => ?_) (fun z => ?_)
          · have z' := of_decide_eq_true z
            k_extra "ts"
            refine ifK_d (fun z2 => ?_) (fun z2 => ?_)
            · have z2' : l ≠ [48] := fun q => nd_t z2 (by rw [q]; rfl)
              k_extra "ts"
              refine h0 fun ⟨n, d, hc⟩ => ?_
              have hn : n = 0 := by have := (cp n d hc).2.1; omega
              rw [hn] at hc
              exact z2' hc.zero
            · have z2' : l = [48] := SX.S_inj (b := [48]) (nd_f z2)
              exact ⟨rfl, fun q => q.2 z2'⟩
          · have z' := of_decide_eq_false z
            exact ⟨rfl, fun q => z' (by rw [q.1]; rfl)⟩
        rintro _ ⟨rfl, nz⟩
        have hcan := can_one hps c1 nz
        have hab := @abs_if l (digitsVal p)
        k_extra "ts"
        refine ifK_d (fun b => ?_) (fun b => ?_)
        · have b' := nd_t b
          have b2 : rmS l ≠ l := fun q => b' (by rw [q])
          rw [if_neg b2] at hcan
          have := h1 _ _ hcan (by omega) (by omega)
          k_extra "ts"
          exact this
        · have b2 : rmS l = l := SX.S_inj (nd_f b)
          rw [if_pos b2] at hcan
          have := h1 _ _ hcan (by omega) (by omega)
          k_extra "ts"
          exact this
      · k_extra "ts"
        exact h0 fun ⟨n, d, hc⟩ => c1 (cp n d hc).1
    · have eu := spl_two hps
      have ul : u.length ≤ 1000 := by
        have := congrArg List.length eu
        rw [List.length_append, List.length_cons] at this; omega
      have u4 : cano u → u.length ≤ 410 := fun z => dr.snd eu z.1
      have cq : ∀ n d, Can l n d → cano u ∧ digitsVal u = d.natAbs ∧ d ≠ 1 := fun n d hc => by
        rcases (cp n d hc).2.2 with ⟨z, _⟩ | ⟨u', z, a, b, c⟩
        · cases z
        · cases z; exact ⟨a, b, c⟩
      k_extra "ts"
      refine ⟨_, rfl, p, rfl, pl, p4, fun c1 => ?_, fun c1 => ?_⟩
      · have v4 := val_410 c1.1 (p4 c1)
        k_extra "ts"
        refine ⟨fun E => E = [.fz (.str (S l)), .fz (.str (S (rmS l))), .fz (.lst (([p, u] : List (List Nat)).map fun x => .str (S x))), .fz (.int ((digitsVal p : Nat) : Int)), .nil] ∧ ¬ (digitsVal p = 0 ∧ l ≠ [48]), ?_, ?_⟩
        · k_extra "ts"
          refine ifK_d (fun z => ?_) (fun z => ?_)
          · have z' := of_decide_eq_true z
            k_extra "ts"
            refine ifK_d (fun z2 => ?_) (fun z2 => ?_)
            · have z2' : l ≠ [48] := fun q => nd_t z2 (by rw [q]; rfl)
              k_extra "ts"
              refine h0 fun ⟨n, d, hc⟩ => ?_
              have hn : n = 0 := by have := (cp n d hc).2.1; omega
              rw [hn] at hc
              exact z2' hc.zero
            · have z2' : l = [48] := SX.S_inj (b := [48]) (nd_f z2)
              exact ⟨rfl, fun q => q.2 z2'⟩
          · have z' := of_decide_eq_false z
            exact ⟨rfl, fun q => z' (by rw [q.1]; rfl)⟩
        rintro _ ⟨rfl, nz⟩
        have hab := @abs_if l (digitsVal p)
        k_extra "ts"
        refine ⟨_, rfl, u, rfl, ul, u4, fun c2 => ?_, fun c2 => ?_⟩
        · have v5 := val_410 c2.1 (u4 c2)
          k_extra "ts"
          refine ifK_d (fun e1 => ?_) (fun e1 => ?_)
          · have e1' := of_decide_eq_true e1
            k_extra "ts"
            exact h0 fun ⟨n, d, hc⟩ => by
              have h3 := (cq n d hc).2
              have h4 := hc.1
              omega
          have e1' := of_decide_eq_false e1
          k_extra "ts"
          refine ⟨_, _, rfl, digitsVal p, digitsVal u, rfl, rfl, Nat.lt_of_lt_of_le v4 (by decide +kernel), Nat.lt_of_lt_of_le v5 (by decide +kernel), ?_⟩
          k_extra "ts"
          refine ifK_d (fun e2 => ?_) (fun e2 => ?_)
          · have e2' := nd_t e2
            k_extra "ts"
            exact h0 fun ⟨n, d, hc⟩ => e2' (by
              have h2 := (cp n d hc).2.1
              have h3 := (cq n d hc).2.1
              have h4 := hc.2.1
              rw [← h2, ← h3] at h4
              rw [h4]; rfl)
          have e2' := nd_f e2
          have hcan := can_two hps c1 c2 nz (by omega) (by omega)
          k_extra "ts"
          refine ifK_d (fun b => ?_) (fun b => ?_)
          · have b' := nd_t b
            have b2 : rmS l ≠ l := fun q => b' (by rw [q])
            rw [if_neg b2] at hcan
            have := h1 _ _ hcan (by omega) (by omega)
            k_extra "ts"
            exact this
          · have b2 : rmS l = l := SX.S_inj (nd_f b)
            rw [if_pos b2] at hcan
            have := h1 _ _ hcan (by omega) (by omega)
            k_extra "ts"
            exact this
        · k_extra "ts"
          exact h0 fun ⟨n, d, hc⟩ => c2 (cq n d hc).1
      · k_extra "ts"
        exact h0 fun ⟨n, d, hc⟩ => c1 (cp n d hc).1
    · have no : ¬ ∃ n d, Can l n d := fun ⟨n, d, hc⟩ => by
        rcases (cp n d hc).2.2 with ⟨z, _⟩ | ⟨u', z, _⟩ <;> cases z
      have l3 : (2 : Int) < (((p :: u :: v :: w).map S).map D.str).length := by simp only [List.length_map, List.length_cons]; omega
      k_extra "ts"
      refine atIK_of (atI_nat (xs := ((p :: u :: v :: w).map S).map D.str) (j := 0) (v := D.str (S p)) rfl) ?_
      k_extra "ts"
      refine ⟨_, rfl, p, rfl, pl, p4, fun c1 => ?_, fun c1 => ?_⟩
      · k_extra "ts"
        rw [decide_eq_true l3]
        exact h0 no
      · k_extra "ts"
        rw [decide_eq_true l3]
        exact h0 no
open SX (S)
open NumText (AllDigits digitsVal)
def sp_law_number : TSp := t1 fun s KK => ∃ st, s = .ow st ∧ StOk st ∧ ∀ st' r, StOk st' → 0 ≤ r → r < 10 ^ 40 → KK (.fz (.int r)) [.ow st']
theorem ok_law_number {f : Addr} {fd : FuncData} (F : Fun K "_law_number" "_law_number" s_law_number f fd) (T : Txt K mg CS CI CT CP CM CK CU CC CN CE CA CH CB CRM CR CX_) (D_law_draw : Df P w K mg base 1 "_law_draw" s_law_draw ["state", "limit"] (lift c [.l, .f] sp_law_draw)) (D_law_wide : Df P w K mg base 2 "_law_wide" s_law_wide ["state"] (lift c [.l] sp_law_wide)) : FnOk P w K mg base (L2.CX P w) 3 f fd ["state"] (lift c [.l] sp_law_number) := by
  have nd := sc_law_number.nd
  refine F.okX sc_law_number (fun vs H Q E h => ?_) (fun cdv A outer s H vs Q E hr h => ?_)
  · exact lift_len h (by rintro as KK ⟨_, rfl, _⟩; rfl)
  · refine ⟨_, (pss_cons (ps_set (i := 1) nd rfl (Or.inl rfl) (pe_d D_law_draw hr (by decide) (by rfl) passL (pa_cons (pv 0) (pa_cons pe_int pa_nil))))
(pss_cons (ps_if (pt_cmpR op_eq (pv 1) pe_int (nomark _))
(pss_one (ps_ret (pe_d D_law_draw hr (by decide) (by rfl) passL (pa_cons (pv 0) (pa_cons pe_int pa_nil)))))
pss_nil)
(pss_cons (ps_if (pt_cmpR op_eq (pv 1) pe_int (nomark _))
(pss_one (ps_ret (pe_d D_law_wide hr (by decide) (by rfl) passL (pa_cons (pv 0) pa_nil))))
pss_nil)
(pss_one (ps_ret (pe_d D_law_draw hr (by decide) (by rfl) passL (pa_cons (pv 0) (pa_cons pe_int pa_nil)))))))), ?_⟩
    refine bodyN (c := c) (P := [0]) (n := 1) [.nil] h rfl rfl ?_
    rintro as KK ⟨_, rfl, ⟨st, rfl, hS, h⟩⟩
    refine ⟨rfl, by simp [ownsIn], by simp, ?_⟩
    simp only [List.cons_append, List.nil_append]
    have big : (30 : Int) ≤ 10 ^ 40 := by decide
    k_extra "ts"
    refine ⟨_, _, rfl, _, _, rfl, hS, rfl, K01.Sm.lit (by decide), fun st1 r1 S1 a0 a1 => ?_⟩
    k_extra "ts"
    refine ifK_d (fun c => ?_) (fun c => ?_)
    · k_extra "ts"
      refine ⟨_, _, rfl, _, _, rfl, S1, rfl, K01.Sm.lit (by decide), fun st2 r2 S2 b0 b1 => ?_⟩
      k_extra "ts"
      exact h _ _ S2 b0 (by omega)
    k_extra "ts"
    refine ifK_d (fun c => ?_) (fun c => ?_)
    · k_extra "ts"
      refine ⟨_, rfl, _, rfl, S1, fun st2 r2 S2 b0 b1 => ?_⟩
      k_extra "ts"
      exact h _ _ S2 b0 b1
    k_extra "ts"
    refine ⟨_, _, rfl, _, _, rfl, S1, rfl, K01.Sm.lit (by decide), fun st2 r2 S2 b0 b1 => ?_⟩
    k_extra "ts"
    exact h _ _ S2 b0 (by omega)
theorem lg40 {n : Int} (h : n.natAbs ≤ 10 ^ 40) : n.natAbs.log2 < 1920 := lg410 (Nat.lt_of_le_of_lt h (by decide +kernel))
theorem numL40 {n : Nat} (h : n < 10 ^ 40) : (numL n).length ≤ 40 := numL_len (by decide) h
theorem numI41 {n : Int} (h : n.natAbs < 10 ^ 40) : (numI n).length ≤ 41 := by
  have := numL40 h
  rcases numI_val n with ⟨e, _⟩ | ⟨e, _⟩
  · rw [e]; omega
  · rw [e, List.length_cons]; omega
theorem wr83 {n d : Int} (hn : n.natAbs < 10 ^ 40) (hd : d.natAbs < 10 ^ 40) : (wr n d).length ≤ 83 := by
  have a := numI41 hn
  have b := numI41 hd
  unfold wr
  split
  · omega
  · rw [List.length_append, List.length_cons]; omega
def sp_law_long : TSp := t1 fun s KK => ∃ st, s = .ow st ∧ StOk st ∧ ∀ st' l, StOk st' → AllDigits l → l.length ≤ 400 → KK (.fz (.str (S l))) [.ow st']
theorem ok_law_long {f : Addr} {fd : FuncData} (F : Fun K "_law_long" "_law_long" s_law_long f fd) (T : Txt K mg CS CI CT CP CM CK CU CC CN CE CA CH CB CRM CR CX_) (D_law_number : Df P w K mg base 3 "_law_number" s_law_number ["state"] (lift c [.l] sp_law_number)) (D_law_draw : Df P w K mg base 1 "_law_draw" s_law_draw ["state", "limit"] (lift c [.l, .f] sp_law_draw)) : FnOk P w K mg base (L2.CX P w) 4 f fd ["state"] (lift c [.l] sp_law_long) := by
  have nd := sc_law_long.nd
  refine F.okX sc_law_long (fun vs H Q E h => ?_) (fun cdv A outer s H vs Q E hr h => ?_)
  · exact lift_len h (by rintro as KK ⟨_, rfl, _⟩; rfl)
  · refine ⟨_, (pss_cons (ps_set (i := 1) nd rfl (Or.inl rfl) (pe_callTy n_str_int (by rfl) T.str (by decide +kernel) (pa_cons (pe_d D_law_number hr (by decide) (by rfl) passL (pa_cons (pv 0) pa_nil)) pa_nil)))
(pss_cons (ps_set (i := 2) nd rfl (Or.inl rfl) pe_str)
(pss_cons (ps_for (passes_of rfl) rfl (pi_range1 (by rfl) T.range (pa_cons (pe_op op_add pe_int (pe_d D_law_draw hr (by decide) (by rfl) passL (pa_cons (pv 0) (pa_cons pe_int pa_nil)))) pa_nil)) (pg_name (i := 3) nd rfl (Or.inl rfl))
(pss_one (ps_set (i := 2) nd rfl (Or.inl rfl) (pe_op n_add_str (pv 2) (pv 1)))))
(pss_one (ps_ret (pv 2)))))), ?_⟩
    refine bodyN (c := c) (P := [0]) (n := 1) [.nil, .nil, .nil] h rfl rfl ?_
    rintro as KK ⟨_, rfl, ⟨st, rfl, hS, h⟩⟩
    refine ⟨rfl, by simp [ownsIn], by simp, ?_⟩
    simp only [List.cons_append, List.nil_append]
    k_extra "ts"
    refine ⟨_, rfl, _, rfl, hS, fun st1 r S1 r0 r1 => ?_⟩
    have e : numI r = numL r.natAbs := by
      rcases numI_val r with ⟨e, _⟩ | ⟨_, z⟩
      · exact e
      · omega
    have d1 : AllDigits (numI r) := by rw [e]; exact numL_digits _
    have dl : (numI r).length ≤ 40 := by rw [e]; exact numL40 (by omega)
    k_extra "ts"
    refine ⟨lg40 (by omega), ?_⟩
    rw [str_int]
    generalize numI r = dg at *
    clear e
    k_extra "ts"
    refine ⟨_, _, rfl, _, _, rfl, S1, rfl, K01.Sm.lit (by decide), fun st2 r2 S2 b0 b1 => ?_⟩
    k_extra "ts"
    refine forI (fun i E => ∃ (m : List Nat) (y : Ent), E = [.ow st2, .fz (.str (S dg)), .fz (.str (S m)), y] ∧ AllDigits m ∧ m.length ≤ 40 * i) ⟨[], _, rfl, fun c h => (by cases h), Nat.zero_le _⟩ ?_ ?_
    · rintro i _ hi ⟨m, y, rfl, hm, ml⟩
      have a1 : (S m).length ≤ 1000 := by rw [SX.S_len]; omega
      have a2 : (S dg).length ≤ 1000 := by rw [SX.S_len]; omega
      k_extra "ts"
      exact ⟨m ++ dg, _, by rw [SX.S_cat]; rfl, dig_app.mpr ⟨hm, d1⟩, by rw [List.length_append]; omega⟩
    · rintro _ ⟨m, y, rfl, hm, ml⟩
      k_extra "ts"
      exact h _ _ S2 hm (by omega)
def sp_law_written : TSp := t2 fun a b KK => ∃ o u : Int, a = .fz (.int o) ∧ b = .fz (.int u) ∧ 0 < u ∧ o.natAbs < 10 ^ 40 ∧ u.natAbs < 10 ^ 40 ∧ KK (.fz (.str (S (wr (red o u).1 (red o u).2)))) [.nil, .nil]
theorem ok_law_written {f : Addr} {fd : FuncData} (F : Fun K "_law_written" "_law_written" s_law_written f fd) (T : Txt K mg CS CI CT CP CM CK CU CC CN CE CA CH CB CRM CR CX_) (D_law_gcd : Df P w K mg base 1 "_law_gcd" s_law_gcd ["one", "other"] (lift c [.f, .f] sp_law_gcd)) : FnOk P w K mg base (L2.CX P w) 2 f fd ["over", "under"] (lift c [.f, .f] sp_law_written) := by
  have nd := sc_law_written.nd
  refine F.okX sc_law_written (fun vs H Q E h => ?_) (fun cdv A outer s H vs Q E hr h => ?_)
  · exact lift_len h (by rintro as KK ⟨_, _, rfl, _⟩; rfl)
  · refine ⟨_, (pss_cons (ps_set (i := 2) nd rfl (Or.inl rfl) (pe_d D_law_gcd hr (by decide) (by rfl) passL (pa_cons (pe_callB n_abs (by rfl) T.abs (by decide +kernel) (pa_cons (pv 0) pa_nil)) (pa_cons (pv 1) pa_nil))))
(pss_cons (ps_set (i := 3) nd rfl (Or.inl rfl) (pe_callTy n_str_int (by rfl) T.str (by decide +kernel) (pa_cons (pe_op op_fdivX (pv 0) (pv 2)) pa_nil)))
(pss_cons (ps_if (pt_cmpR op_ne (pv 1) (pv 2) (nomark _))
(pss_one (ps_set (i := 3) nd rfl (Or.inl rfl) (pe_op n_add_str (pe_op n_add_str (pv 3) pe_str) (pe_callTy n_str_int (by rfl) T.str (by decide +kernel) (pa_cons (pe_op op_fdivX (pv 1) (pv 2)) pa_nil)))))
pss_nil)
(pss_one (ps_ret (pv 3)))))), ?_⟩
    refine bodyN (c := c) (P := []) (n := 2) [.nil, .nil] h rfl rfl ?_
    rintro as KK ⟨_, _, rfl, ⟨o, u, rfl, rfl, hu, ho, hu2, h⟩⟩
    refine ⟨rfl, by simp [ownsIn], by simp, ?_⟩
    simp only [List.cons_append, List.nil_append]
    obtain ⟨_, _, r1, r2⟩ := red_ok (o := o) (u := u) (by omega)
    have gp : 0 < Nat.gcd o.natAbs u.natAbs := Nat.gcd_pos_of_pos_right _ (by omega)
    have eo : (red o u).1 = o.fdiv ((Nat.gcd o.natAbs u.natAbs : Nat) : Int) := by unfold red; simp only [if_neg (show ¬ u < 0 by omega)]
    have eu : (red o u).2 = u.fdiv ((Nat.gcd o.natAbs u.natAbs : Nat) : Int) := by unfold red; simp only [if_neg (show ¬ u < 0 by omega)]
    have ea : (if o < 0 then -o else o) = ((o.natAbs : Nat) : Int) := by split <;> omega
    have eu2 : u = ((u.natAbs : Nat) : Int) := by omega
    k_extra "ts"
    rw [ea]
    refine ⟨_, _, rfl, o.natAbs, u.natAbs, rfl, congrArg (fun z => Ent.fz (D.int z)) eu2, ?_, ?_, ?_⟩
    · exact Nat.lt_of_lt_of_le ho (by decide +kernel)
    · exact Nat.lt_of_lt_of_le hu2 (by decide +kernel)
    have gl : Nat.gcd o.natAbs u.natAbs ≤ u.natAbs := Nat.gcd_le_right _ (by omega)
    rw [eo] at r1 h
    rw [eu] at r2 h
    obtain ⟨k, hk⟩ : ∃ k : Nat, u.natAbs = Nat.gcd o.natAbs u.natAbs * k := Nat.gcd_dvd_right _ _
    clear eo eu ea eu2
    generalize Nat.gcd o.natAbs u.natAbs = g at *
    have g0 : ((g : Nat) : Int) ≠ 0 := by omega
    have gS : Sm 8000 ((g : Nat) : Int) := Nat.lt_of_le_of_lt (show ((g : Nat) : Int).natAbs ≤ 10 ^ 40 by omega) (by decide +kernel)
    have hD : R9.CDivX o ((g : Nat) : Int) := K01.Sm.d gS g0
    have hD2 : R9.CDivX u ((g : Nat) : Int) := K01.Sm.d gS g0
    have lo := lg40 (n := o.fdiv ((g : Nat) : Int)) (by omega)
    have lu := lg40 (n := u.fdiv ((g : Nat) : Int)) (by omega)
    have wl := wr83 (n := o.fdiv ((g : Nat) : Int)) (d := u.fdiv ((g : Nat) : Int)) (by omega) (by omega)
    have il := numI41 (n := o.fdiv ((g : Nat) : Int)) (by omega)
    have iu := numI41 (n := u.fdiv ((g : Nat) : Int)) (by omega)
    have one : u.fdiv ((g : Nat) : Int) = 1 ↔ u = (g : Int) := by
      have e : u = (g : Int) * (k : Int) := by rw [← Int.natCast_mul, ← hk]; omega
      rw [e, Int.mul_fdiv_cancel_left _ g0]
      constructor
      · intro z; rw [z, Int.mul_one]
      · intro z
        exact Int.eq_of_mul_eq_mul_left g0 (by rw [z, Int.mul_one])
    clear ho hu2 r1 r2 gl gS hk
    have ilS : (Str.ofString (toString (o.fdiv ((g : Nat) : Int)))).length ≤ 41 := by rw [str_int, SX.S_len]; exact il
    have iuS : (Str.ofString (toString (u.fdiv ((g : Nat) : Int)))).length ≤ 41 := by rw [str_int, SX.S_len]; exact iu
    have sl1 : (Str.ofString "/").length = 1 := by decide
    have ilS2 : (Str.ofString (toString (o.fdiv ((g : Nat) : Int))) ++ Str.ofString "/").length ≤ 42 := by rw [TL.len_app]; exact Nat.add_le_add_right ilS 1
    k_extra "ts"
    refine ifK_d (fun c => ?_) (fun c => ?_)
    · have c' : ¬ u = (g : Int) := nd_t c
      k_extra "ts"
      unfold wr at h
      rw [if_neg (fun z => c' (one.mp z))] at h
      rw [str_int, str_int, show Str.ofString "/" = S [47] from rfl, SX.S_cat, SX.S_cat, List.append_assoc]
      exact h
    · have c' : u = (g : Int) := nd_f c
      unfold wr at h
      rw [if_pos (one.mpr c')] at h
      k_extra "ts"
      rw [str_int]
      exact h
open SX (S)
open NumText (AllDigits digitsVal)
theorem DR.short {m : List Nat} (h : m.length ≤ 410) : DR m := ⟨by omega, fun p q r e _ => by
  have := congrArg List.length e
  rw [List.length_append, List.length_append] at this
  omega⟩
theorem DR.two {a b : List Nat} (ha : a.length ≤ 410) (hb : b.length ≤ 410) : DR (a ++ 47 :: b) := ⟨by rw [List.length_append, List.length_cons]; omega, fun p q r e hd => by
  have h47 : 47 ∉ q := fun z => by have := hd 47 z; omega
  rcases List.append_eq_append_iff.mp e with ⟨c, e1, e2⟩ | ⟨c, e1, e2⟩
  · -- p = a ++ c
    have := congrArg List.length e2
    cases c with
    | nil =>
      rw [List.nil_append] at e2
      cases q with
      | nil => simp
      | cons x q => 
        have e3 : 47 = x := by have := congrArg List.head? e2; simpa using this
        exact absurd (by rw [← e3]; exact List.mem_cons_self) h47
    | cons x c =>
      simp only [List.length_append, List.length_cons] at this
      omega
  · -- a = p ++ c
    rcases List.append_eq_append_iff.mp e2 with ⟨c2, e3, e4⟩ | ⟨c2, e3, e4⟩
    · -- c = q ++ c2
      have := congrArg List.length e1
      have h3 := congrArg List.length e3
      simp only [List.length_append] at this h3
      omega
    · -- q = c ++ c2
      cases c2 with
      | nil =>
        have := congrArg List.length e1
        have h3 := congrArg List.length e3
        simp only [List.length_append, List.length_nil] at this h3
        omega
      | cons x c2 =>
        have e5 : 47 = x := by have := congrArg List.head? e4; simpa using this
        exact absurd (by rw [e3, ← e5]; exact List.mem_append_right _ List.mem_cons_self) h47⟩
def sp_law_string : TSp := t2 fun s t KK => ∃ st l, s = .ow st ∧ StOk st ∧ t = .fz (.str (S l)) ∧ l.length ≤ 400 ∧ ∀ st' m, StOk st' → DR m → KK (.fz (.str (S m))) [.ow st', .nil]
theorem ok_law_string {f : Addr} {fd : FuncData} (F : Fun K "_law_string" "_law_string" s_law_string f fd) (T : Txt K mg CS CI CT CP CM CK CU CC CN CE CA CH CB CRM CR CX_) (D_law_draw : Df P w K mg base 1 "_law_draw" s_law_draw ["state", "limit"] (lift c [.l, .f] sp_law_draw)) (D_law_number : Df P w K mg base 3 "_law_number" s_law_number ["state"] (lift c [.l] sp_law_number)) (D_law_long : Df P w K mg base 4 "_law_long" s_law_long ["state"] (lift c [.l] sp_law_long)) (D_law_text : Df P w K mg base 2 "_law_text" s_law_text ["state", "most"] (lift c [.l, .f] sp_law_text)) : FnOk P w K mg base (L2.CX P w) 5 f fd ["state", "text"] (lift c [.l, .f] sp_law_string) := by
  have nd := sc_law_string.nd
  refine F.okX sc_law_string (fun vs H Q E h => ?_) (fun cdv A outer s H vs Q E hr h => ?_)
  · exact lift_len h (by rintro as KK ⟨_, _, rfl, _⟩; rfl)
  · refine ⟨_, (pss_cons (ps_set (i := 2) nd rfl (Or.inl rfl) (pe_d D_law_draw hr (by decide) (by rfl) passL (pa_cons (pv 0) (pa_cons pe_int pa_nil))))
(pss_cons (ps_set (i := 3) nd rfl (Or.inl rfl) (pe_d D_law_draw hr (by decide) (by rfl) passL (pa_cons (pv 0) (pa_cons (pe_op op_add (pe_callB n_len_str (by rfl) T.len (by decide +kernel) (pa_cons (pv 1) pa_nil)) pe_int) pa_nil))))
(pss_cons (ps_set (i := 4) nd rfl (Or.inl rfl) (pe_ix ix_str pe_str (pe_d D_law_draw hr (by decide) (by rfl) passL (pa_cons (pv 0) (pa_cons pe_int pa_nil))) (fun _ _ => rfl)))
(pss_cons (ps_if (pt_cmpR op_eq (pv 2) pe_int (nomark _))
(pss_one (ps_ret (pv 1)))
pss_nil)
(pss_cons (ps_if (pt_cmpR op_eq (pv 2) pe_int (nomark _))
(pss_one (ps_ret (pe_op n_add_str (pe_op n_add_str (pe_slice sl_str (pv 1) po_none (po_some (pv 3))) (pv 4)) (pe_slice sl_str (pv 1) (po_some (pv 3)) po_none))))
pss_nil)
(pss_cons (ps_if (pt_cmpR op_eq (pv 2) pe_int (nomark _))
(pss_one (ps_ret (pe_op n_add_str (pe_slice sl_str (pv 1) po_none (po_some (pv 3))) (pe_slice sl_str (pv 1) (po_some (pe_op op_add (pv 3) pe_int)) po_none))))
pss_nil)
(pss_cons (ps_if (pt_cmpR op_eq (pv 2) pe_int (nomark _))
(pss_one (ps_ret (pe_op n_add_str (pe_op n_add_str (pe_slice sl_str (pv 1) po_none (po_some (pv 3))) (pv 4)) (pe_slice sl_str (pv 1) (po_some (pe_op op_add (pv 3) pe_int)) po_none))))
pss_nil)
(pss_cons (ps_if (pt_cmpR op_eq (pv 2) pe_int (nomark _))
(pss_one (ps_ret (pe_op n_add_str (pe_op n_add_str (pe_op n_add_str (pe_ix (ix_list : IxR _ (rIxL K)) (pe_lst (pa_cons pe_str (pa_cons pe_str pa_nil))) (pe_d D_law_draw hr (by decide) (by rfl) passL (pa_cons (pv 0) (pa_cons pe_int pa_nil))) (fun _ _ => rfl)) (pe_callTy n_str_int (by rfl) T.str (by decide +kernel) (pa_cons (pe_d D_law_number hr (by decide) (by rfl) passL (pa_cons (pv 0) pa_nil)) pa_nil))) pe_str) (pe_callTy n_str_int (by rfl) T.str (by decide +kernel) (pa_cons (pe_d D_law_number hr (by decide) (by rfl) passL (pa_cons (pv 0) pa_nil)) pa_nil)))))
pss_nil)
(pss_cons (ps_if (pt_cmpR op_eq (pv 2) pe_int (nomark _))
(pss_one (ps_ret (pe_op n_add_str (pe_op n_add_str (pe_ix (ix_list : IxR _ (rIxL K)) (pe_lst (pa_cons pe_str (pa_cons pe_str pa_nil))) (pe_d D_law_draw hr (by decide) (by rfl) passL (pa_cons (pv 0) (pa_cons pe_int pa_nil))) (fun _ _ => rfl)) (pe_d D_law_long hr (by decide) (by rfl) passL (pa_cons (pv 0) pa_nil))) (pe_ix (ix_list : IxR _ (rIxL K)) (pe_lst (pa_cons pe_str (pa_cons (pe_op n_add_str pe_str (pe_d D_law_long hr (by decide) (by rfl) passL (pa_cons (pv 0) pa_nil))) pa_nil))) (pe_d D_law_draw hr (by decide) (by rfl) passL (pa_cons (pv 0) (pa_cons pe_int pa_nil))) (fun _ _ => rfl)))))
pss_nil)
(pss_cons (ps_if (pt_cmpR op_eq (pv 2) pe_int (nomark _))
(pss_cons (ps_set (i := 5) nd rfl (Or.inl rfl) pe_str)
(pss_cons (ps_for (passes_of rfl) rfl (pi_range1 (by rfl) T.range (pa_cons (pe_d D_law_draw hr (by decide) (by rfl) passL (pa_cons (pv 0) (pa_cons pe_int pa_nil))) pa_nil)) (pg_name (i := 6) nd rfl (Or.inl rfl))
(pss_one (ps_set (i := 5) nd rfl (Or.inl rfl) (pe_op n_add_str (pv 5) (pe_ix ix_str pe_str (pe_d D_law_draw hr (by decide) (by rfl) passL (pa_cons (pv 0) (pa_cons pe_int pa_nil))) (fun _ _ => rfl))))))
(pss_one (ps_ret (pv 5)))))
pss_nil)
(pss_one (ps_ret (pe_d D_law_text hr (by decide) (by rfl) passL (pa_cons (pv 0) (pa_cons pe_int pa_nil))))))))))))))), ?_⟩
    refine bodyN (c := c) (P := [0]) (n := 2) [.nil, .nil, .nil, .nil, .nil] h rfl rfl ?_
    rintro as KK ⟨_, _, rfl, ⟨st, l, rfl, hS, rfl, ll, h⟩⟩
    refine ⟨rfl, by simp [ownsIn], by simp, ?_⟩
    simp only [List.cons_append, List.nil_append]
    have lS : (S l).length = l.length := SX.S_len l
    k_extra "ts"
    refine ⟨_, _, rfl, _, _, rfl, hS, rfl, K01.Sm.lit (by decide), fun st1 kd S1 a0 a1 => ?_⟩
    k_extra "ts"
    refine ⟨_, _, rfl, _, _, rfl, S1, rfl, K01.Sm.small (by omega) (by omega), fun st2 a S2 b0 b1 => ?_⟩
    have k1 : (cutS (S l) none (some a)).length ≤ 400 := by rw [cut_to l b0, SX.S_len, List.length_take]; omega
    have k2 : (cutS (S l) (some a) none).length ≤ 400 := by rw [cut_from l b0, SX.S_len, List.length_drop]; omega
    have k3 : (cutS (S l) (some (a + 1)) none).length ≤ 400 := by rw [cut_from l (by omega), SX.S_len, List.length_drop]; omega
    k_extra "ts"
    refine ⟨_, _, rfl, _, _, rfl, S2, rfl, K01.Sm.lit (by decide), fun st3 r3 S3 c0 c1 => ?_⟩
    obtain ⟨c, hc, _⟩ := K01.at_str (z := Str.ofString "-/0 +_19.\n") (r := r3) c0 (Int.lt_of_lt_of_le (show r3 < 10 by omega) (by decide))
    k_extra "ts"
    refine atIK_of hc ?_
    have o1 : (⟨#[c]⟩ : Str).length = 1 := rfl
    have o2 : (cutS (S l) none (some a) ++ ⟨#[c]⟩).length ≤ 401 := by rw [TL.len_app, o1]; omega
    have o3 : (⟨#[c]⟩ : Str) = S [c] := rfl
    k_extra "ts"
    refine ifK_d (fun e => ?_) (fun e => ?_)
    · k_extra "ts"
      exact h _ _ S3 (.short (by omega))
    k_extra "ts"
    refine ifK_d (fun e => ?_) (fun e => ?_)
    · k_extra "ts"
      rw [cut_to l b0, cut_from l b0, o3, SX.S_cat, SX.S_cat]
      exact h _ _ S3 (.short (by simp only [List.length_append, List.length_take, List.length_drop, List.length_cons, List.length_nil]; omega))
    k_extra "ts"
    refine ifK_d (fun e => ?_) (fun e => ?_)
    · k_extra "ts"
      rw [cut_to l b0, cut_from l (by omega), SX.S_cat]
      exact h _ _ S3 (.short (by simp only [List.length_append, List.length_take, List.length_drop, List.length_cons, List.length_nil]; omega))
    k_extra "ts"
    refine ifK_d (fun e => ?_) (fun e => ?_)
    · k_extra "ts"
      rw [cut_to l b0, cut_from l (by omega), o3, SX.S_cat, SX.S_cat]
      exact h _ _ S3 (.short (by simp only [List.length_append, List.length_take, List.length_drop, List.length_cons, List.length_nil]; omega))
    clear k1 k2 k3 o1 o2 lS
    k_extra "ts"
    refine ifK_d (fun e => ?_) (fun e => ?_)
    · k_extra "ts"
      refine ⟨_, _, rfl, _, _, rfl, S3, rfl, K01.Sm.lit (by decide), fun st4 r4 S4 d0 d1 => ?_⟩
      obtain ⟨d, hd, hm⟩ := atI_lt (xs := [D.str (Str.ofString ""), D.str (Str.ofString "-")]) (i := r4) d0 (by simp only [List.length_cons, List.length_nil]; omega)
      obtain ⟨sg, rfl, sl⟩ : ∃ sg, d = .str (S sg) ∧ sg.length ≤ 1 := by
        simp only [List.mem_cons, List.not_mem_nil, or_false] at hm
        rcases hm with rfl | rfl
        · exact ⟨[], rfl, by decide⟩
        · exact ⟨[45], rfl, by decide⟩
      k_extra "ts"
      refine atIK_of hd ?_
      k_extra "ts"
      refine ⟨_, rfl, st4, rfl, S4, fun st5 r5 S5 g0 g1 => ?_⟩
      have u1 := lg40 (n := r5) (by omega)
      have u2 := numI41 (n := r5) (by omega)
      have e1 : (S sg).length ≤ 1 := by rw [SX.S_len]; exact sl
      have e2 : (Str.ofString (toString r5)).length ≤ 41 := by rw [str_int, SX.S_len]; exact u2
      have e4 : (Str.ofString "/").length = 1 := by decide
      have t1 : (S sg ++ Str.ofString (toString r5)).length ≤ 42 := by rw [TL.len_app]; omega
      have t2 : (S sg ++ Str.ofString (toString r5) ++ Str.ofString "/").length ≤ 43 := by rw [TL.len_app]; omega
      k_extra "ts"
      refine ⟨_, rfl, st5, rfl, S5, fun st6 r6 S6 f0 f1 => ?_⟩
      have v1 := lg40 (n := r6) (by omega)
      have v2 := numI41 (n := r6) (by omega)
      have e5 : (Str.ofString (toString r6)).length ≤ 41 := by rw [str_int, SX.S_len]; exact v2
      k_extra "ts"
      rw [str_int, str_int, show Str.ofString "/" = S [47] from rfl, SX.S_cat, SX.S_cat, SX.S_cat]
      exact h _ _ S6 (.short (by simp only [List.length_append, List.length_cons, List.length_nil]; omega))
    k_extra "ts"
    refine ifK_d (fun e => ?_) (fun e => ?_)
    · k_extra "ts"
      refine ⟨_, _, rfl, _, _, rfl, S3, rfl, K01.Sm.lit (by decide), fun st4 r4 S4 d0 d1 => ?_⟩
      obtain ⟨d, hd, hm⟩ := atI_lt (xs := [D.str (Str.ofString ""), D.str (Str.ofString "-")]) (i := r4) d0 (by simp only [List.length_cons, List.length_nil]; omega)
      obtain ⟨sg, rfl, sl⟩ : ∃ sg, d = .str (S sg) ∧ sg.length ≤ 1 := by
        simp only [List.mem_cons, List.not_mem_nil, or_false] at hm
        rcases hm with rfl | rfl
        · exact ⟨[], rfl, by decide⟩
        · exact ⟨[45], rfl, by decide⟩
      k_extra "ts"
      refine atIK_of hd ?_
      k_extra "ts"
      refine ⟨_, rfl, st4, rfl, S4, fun st5 m1 S5 _ ml1 => ?_⟩
      have e1 : (S sg).length ≤ 1 := by rw [SX.S_len]; exact sl
      have e2 : (S m1).length ≤ 400 := by rw [SX.S_len]; exact ml1
      k_extra "ts"
      refine ⟨_, rfl, st5, rfl, S5, fun st6 m2 S6 _ ml2 => ?_⟩
      have e3 : (S m2).length ≤ 400 := by rw [SX.S_len]; exact ml2
      have e4 : (Str.ofString "/").length = 1 := by decide
      have e5 : (S sg ++ S m1).length ≤ 401 := by rw [TL.len_app]; omega
      have e6 : (Str.ofString "/" ++ S m2).length ≤ 401 := by rw [TL.len_app]; omega
      k_extra "ts"
      refine ⟨_, _, rfl, _, _, rfl, S6, rfl, K01.Sm.lit (by decide), fun st7 r7 S7 g0 g1 => ?_⟩
      obtain ⟨d2, hd2, hm2⟩ := atI_lt (xs := [D.str (Str.ofString ""), D.str (Str.ofString "/" ++ S m2)]) (i := r7) g0 (by simp only [List.length_cons, List.length_nil]; omega)
      obtain ⟨tl, rfl, ht⟩ : ∃ tl, d2 = .str (S tl) ∧ (tl = [] ∨ tl = 47 :: m2) := by
        simp only [List.mem_cons, List.not_mem_nil, or_false] at hm2
        rcases hm2 with rfl | rfl
        · exact ⟨[], rfl, .inl rfl⟩
        · exact ⟨47 :: m2, by rw [show Str.ofString "/" = S [47] from rfl, SX.S_cat]; rfl, .inr rfl⟩
      have e7 : (S tl).length ≤ 401 := by
        rw [SX.S_len]
        rcases ht with rfl | rfl
        · decide
        · rw [List.length_cons]; omega
      k_extra "ts"
      refine atIK_of hd2 ?_
      k_extra "ts"
      rw [SX.S_cat, SX.S_cat]
      refine h _ _ S7 ?_
      rcases ht with rfl | rfl
      · exact .short (by simp only [List.length_append, List.length_nil]; omega)
      · exact .two (by rw [List.length_append]; omega) (by omega)
    k_extra "ts"
    refine ifK_d (fun e => ?_) (fun e => ?_)
    · k_extra "ts"
      refine ⟨_, _, rfl, _, _, rfl, S3, rfl, K01.Sm.lit (by decide), fun st4 r4 S4 d0 d1 => ?_⟩
      k_extra "ts"
      refine forI (fun i E => ∃ (st : OD) (m : List Nat) (y : Ent), E = [.ow st, .fz (.str (S l)), .fz (.int kd), .fz (.int a), .fz (.str ⟨#[c]⟩), .fz (.str (S m)), y] ∧ StOk st ∧ m.length = i) ⟨_, [], _, rfl, S4, rfl⟩ ?_ ?_
      · rintro i _ hi ⟨st5, m, y, rfl, S5, ml⟩
        have mS : (S m).length ≤ 10 := by rw [SX.S_len]; omega
        k_extra "ts"
        refine ⟨_, _, rfl, _, _, rfl, S5, rfl, K01.Sm.lit (by decide), fun st6 r6 S6 f0 f1 => ?_⟩
        obtain ⟨c6, hc6, _⟩ := K01.at_str (z := Str.ofString "-/0126") (r := r6) f0 (Int.lt_of_lt_of_le (show r6 < 6 by omega) (by decide))
        have o6 : (⟨#[c6]⟩ : Str).length = 1 := rfl
        k_extra "ts"
        refine atIK_of hc6 ?_
        k_extra "ts"
        exact ⟨st6, m ++ [c6], _, by rw [show (⟨#[c6]⟩ : Str) = S [c6] from rfl, SX.S_cat]; rfl, S6, by rw [List.length_append, ml]; rfl⟩
      · rintro _ ⟨st5, m, y, rfl, S5, ml⟩
        k_extra "ts"
        exact h _ _ S5 (.short (by omega))
    k_extra "ts"
    refine ⟨_, _, rfl, _, _, rfl, S3, rfl, by decide, by decide, fun st4 t S4 tt => ?_⟩
    k_extra "ts"
    rw [← SX.S_tl t]
    exact h _ _ S4 (.short (by have := tt.1; show t.cps.toList.length ≤ 410; rw [Array.length_toList]; exact Nat.le_trans this (by decide)))
def sp_law_told : TSp := t1 fun a KK => ∃ l, a = .fz (.str (S l)) ∧ DR l ∧ KK (.fz (.bl true)) [.nil]
theorem ok_law_told {f : Addr} {fd : FuncData} (F : Fun K "_law_told" "_law_told" s_law_told f fd) (T : Txt K mg CS CI CT CP CM CK CU CC CN CE CA CH CB CRM CR CX_) (D_law_read : Df P w K mg base 2 "_law_read" s_law_read ["text"] (lift c [.f] sp_law_read)) (D_read_share : Df P w K mg base 4 "read_share" s_read_share ["text"] (liftX c [.f] sp_read_share)) (E_law_integer : De P w K mg base 1 "_law_integer" ["value"] (fun _ _ _ => (lift c [.f] sp_law_integer))) (D_law_is : Df P w K mg base 2 "_law_is" s_law_is ["got", "over", "under"] (lift c [.f, .f, .f] sp_law_is)) (D_Share_written : Dm P w K mg base 1 CS "written" "Share.written" s_Share_written ["self"] (lift c [.f] sp_Share_written)) : FnOk P w K mg base (L2.CX P w) 5 f fd ["text"] (lift c [.f] sp_law_told) := by
  have nd := sc_law_told.nd
  refine F.okX sc_law_told (fun vs H Q E h => ?_) (fun cdv A outer s H vs Q E hr h => ?_)
  · exact lift_len h (by rintro as KK ⟨_, rfl, _⟩; rfl)
  · refine ⟨_, (pss_cons (ps_set (i := 1) nd rfl (Or.inl rfl) (pe_d D_law_read hr (by decide) (by rfl) passL (pa_cons (pv 0) pa_nil)))
(pss_cons ((ps_try_asT (i := 3) rfl rfl nd rfl rfl (by exact ⟨rfl, by decide, .inl T.mgInvalidText⟩) (takes_of rfl rfl rfl rfl) (fun W pn xe tk po => (pss_one (ps_set (i := 2) nd rfl (Or.inl rfl) (pe_dS D_read_share hr (by decide) (by rfl) (fun σ => passAt tk σ) (pa_cons (pv 0) pa_nil)))))
(fun a oe cls d pn hz hf => (pss_cons (ps_if (PW.pt (pw_or (pt_not (pt_val (pe_callB (call_isT (hot_suite hz hf) T.excC_CX_ : CallR _ (.builtin "isinstance") (rIsP K CX_ a cls d)) (by rfl) T.isinstance (by decide +kernel) (pa_cons (pv 3) (pa_cons (pe_bltn (v := .ty "ValueError") (by rfl) T.ValueError (by decide +kernel) rfl) pa_nil))))) (pw_or (pt_not (pt_val (pe_eT E_law_integer (hot_suite hz hf) (roomH_mark hr) (by decide) (by rfl) (pa_cons (pe_xfT (hot_suite hz hf) T.xf_CX_ T.noX__at (pv 3)) pa_nil)))) (pw_or1 (pt_cmpR op_ne (pe_xfT (hot_suite hz hf) T.xf_CX_ T.noX__at (pv 3)) pe_int (nomark _))))))
(pss_one (ps_ret pe_bl))
pss_nil)
(pss_one (ps_ret (pe_and (pe_cmpR n_isN (pv 1) pe_non (nomark _)) (pe_and (pe_callB (call_isi : CallR _ (.builtin "isinstance") (rIsi K)) (by rfl) T.isinstance (by decide +kernel) (pa_cons (pe_xfT (hot_suite hz hf) T.xf_CX_ T.noX__text (pv 3)) (pa_cons (pe_bltn (v := .ty "str") (by rfl) T.str (by decide +kernel) rfl) pa_nil))) (pe_one (pe_cmpR op_eq (pe_xfT (hot_suite hz hf) T.xf_CX_ T.noX__text (pv 3)) (pv 0) (nomark _))))))))) : PS _ _ (tTryAs K _ _ _ _ _)))
(pss_cons (ps_if (PW.pt (pw_or (pt_cmpR n_isN (pv 1) pe_non (nomark _)) (pw_or1 (pt_not (pt_val (pe_d D_law_is hr (by decide) (by rfl) passL (pa_cons (pv 2) (pa_cons (pe_ix (ix_list : IxR _ (rIxL K)) (pv 1) pe_int (fun _ _ => rfl)) (pa_cons (pe_ix (ix_list : IxR _ (rIxL K)) (pv 1) pe_int (fun _ _ => rfl)) pa_nil)))))))))
(pss_one (ps_ret pe_bl))
pss_nil)
(pss_cons (ps_set (i := 4) nd rfl (Or.inl rfl) (pe_m0 D_Share_written hr (by decide) passL (pv 2)))
(pss_one (ps_ret (pe_and (pe_callB (call_isi : CallR _ (.builtin "isinstance") (rIsi K)) (by rfl) T.isinstance (by decide +kernel) (pa_cons (pv 4) (pa_cons (pe_bltn (v := .ty "str") (by rfl) T.str (by decide +kernel) rfl) pa_nil))) (pe_one (pe_cmpR op_eq (pv 4) (pv 0) (nomark _)))))))))), ?_⟩
    refine bodyN (c := c) (P := []) (n := 1) [.nil, .nil, .nil, .nil] h rfl rfl ?_
    rintro as KK ⟨_, rfl, ⟨l, rfl, dr, h⟩⟩
    refine ⟨rfl, by simp [ownsIn], by simp, ?_⟩
    simp only [List.cons_append, List.nil_append]
    k_extra "ts"
    refine ⟨_, rfl, l, rfl, dr, fun n d hc nb db => ?_, fun hno => ?_⟩
    · have m3 : ∀ {k : Int}, k.natAbs < 10 ^ 410 → Sm 3000 k := fun {k} z => Nat.lt_of_lt_of_le z (by decide +kernel)
      have ln := lg410 nb
      have ld := lg410 db
      k_extra "ts"
      intro F1
      k_extra "ts"
      refine ⟨_, rfl, l, rfl, dr, fun n' d' hc' _ _ => ?_, fun hno => absurd ⟨n, d, hc⟩ hno⟩
      have eq := told_wr (n := n) hc.1
      rw [← hc.2.2, hc'.2.2, told_wr hc'.1] at eq
      cases eq
      k_extra "ts"
      refine ⟨_, _, _, rfl, _, n, d, rfl, rfl, rfl, ⟨hc.1, n, d, rfl, ⟨hc.1, hc.2.1⟩, rfl⟩, m3 nb, m3 db, ?_⟩
      k_extra "ts"
      refine ⟨_, rfl, n, d, rfl, ln, ld, ?_⟩
      rw [← hc.2.2]
      k_extra "ts"
      rw [decide_eq_true rfl]
      exact h
    · k_extra "ts"
      intro F1
      k_extra "ts"
      refine ⟨_, rfl, l, rfl, dr, fun n d hc _ _ => absurd ⟨n, d, hc⟩ hno, fun _ => ?_⟩
      k_extra "ts"
      intro a dd
      k_extra "ts"
      refine ⟨_, rfl, _, rfl, ?_⟩
      k_extra "ts"
      rw [decide_eq_true rfl]
      exact h
def sp_law_body : TSp := t1 fun s KK => ∃ ns, s = .fz (.scr ns) ∧ ns.length ≤ 63 ∧ KK (.fz (.bl true)) [.nil]
theorem ok_law_body {f : Addr} {fd : FuncData} (F : Fun K "_law_body" "_law_body" s_law_body f fd) (T : Txt K mg CS CI CT CP CM CK CU CC CN CE CA CH CB CRM CR CX_) (D_law_start : Df P w K mg base 1 "_law_start" s_law_start ["script"] (lift c [.f] sp_law_start)) (D_law_number : Df P w K mg base 3 "_law_number" s_law_number ["state"] (lift c [.l] sp_law_number)) (D_law_draw : Df P w K mg base 1 "_law_draw" s_law_draw ["state", "limit"] (lift c [.l, .f] sp_law_draw)) (D_Share_init : Dk P w K mg base 1 CS "Share" "Share.__init__" s_Share_init ["self", "over", "under"] (lift c [.l, .f, .f] sp_Share_init)) (D_law_written : Df P w K mg base 2 "_law_written" s_law_written ["over", "under"] (lift c [.f, .f] sp_law_written)) (D_Share_written : Dm P w K mg base 1 CS "written" "Share.written" s_Share_written ["self"] (lift c [.f] sp_Share_written)) (D_law_string : Df P w K mg base 5 "_law_string" s_law_string ["state", "text"] (lift c [.l, .f] sp_law_string)) (D_law_told : Df P w K mg base 5 "_law_told" s_law_told ["text"] (lift c [.f] sp_law_told)) (D_law_is : Df P w K mg base 2 "_law_is" s_law_is ["got", "over", "under"] (lift c [.f, .f, .f] sp_law_is)) : FnOk P w K mg base (L2.CX P w) 6 f fd ["script"] (lift c [.f] sp_law_body) := by
  have nd := sc_law_body.nd
  refine F.okX sc_law_body (fun vs H Q E h => ?_) (fun cdv A outer s H vs Q E hr h => ?_)
  · exact lift_len h (by rintro as KK ⟨_, rfl, _⟩; rfl)
  · refine ⟨_, (pss_cons (ps_set (i := 1) nd rfl (Or.inl rfl) (pe_d D_law_start hr (by decide) (by rfl) passL (pa_cons (pv 0) pa_nil)))
(pss_cons (ps_set (i := 2) nd rfl (Or.inl rfl) (pe_d D_law_number hr (by decide) (by rfl) passL (pa_cons (pv 1) pa_nil)))
(pss_mid (ps_if (pt_cmpR op_eq (pe_d D_law_draw hr (by decide) (by rfl) passL (pa_cons (pv 1) (pa_cons pe_int pa_nil))) pe_int (nomark _))
(pss_one (ps_set (i := 2) nd rfl (Or.inl rfl) (pe_op op_sub pe_int (pv 2))))
pss_nil)
(pss_cons (ps_set (i := 3) nd rfl (Or.inl rfl) (pe_callB (n_max2 rfl) (by rfl) T.max (by decide +kernel) (pa_cons pe_int (pa_cons (pe_d D_law_number hr (by decide) (by rfl) passL (pa_cons (pv 1) pa_nil)) pa_nil))))
(pss_cons (ps_set (i := 4) nd rfl (Or.inl rfl) (pe_k D_Share_init hr (by decide) (by rfl) passL (pa_cons (pv 2) (pa_cons (pv 3) pa_nil))))
(pss_cons (ps_set (i := 5) nd rfl (Or.inl rfl) (pe_d D_law_written hr (by decide) (by rfl) passL (pa_cons (pv 2) (pa_cons (pv 3) pa_nil))))
(pss_cons (ps_set (i := 6) nd rfl (Or.inl rfl) (pe_m0 D_Share_written hr (by decide) passL (pv 4)))
(pss_cons (ps_if (PW.pt (pw_or (pt_not (pt_val (pe_callB (call_isi : CallR _ (.builtin "isinstance") (rIsi K)) (by rfl) T.isinstance (by decide +kernel) (pa_cons (pv 6) (pa_cons (pe_bltn (v := .ty "str") (by rfl) T.str (by decide +kernel) rfl) pa_nil))))) (pw_or1 (pt_cmpR op_ne (pv 6) (pv 5) (nomark _)))))
(pss_one (ps_ret pe_bl))
pss_nil)
(pss_cons (ps_set (i := 7) nd rfl (Or.inl rfl) (pe_d D_law_string hr (by decide) (by rfl) passL (pa_cons (pv 1) (pa_cons (pv 5) pa_nil))))
(pss_cons (ps_if (PW.pt (pw_or (pt_not (pt_val (pe_d D_law_told hr (by decide) (by rfl) passL (pa_cons (pv 7) pa_nil)))) (pw_or (pt_not (pt_val (pe_d D_law_told hr (by decide) (by rfl) passL (pa_cons (pv 5) pa_nil)))) (pw_or1 (pt_not (pt_val (pe_d D_law_told hr (by decide) (by rfl) passL (pa_cons (pv 7) pa_nil))))))))
(pss_one (ps_ret pe_bl))
pss_nil)
(pss_cons (ps_if (pt_not (pt_val (pe_d D_law_told hr (by decide) (by rfl) passL (pa_cons (pe_d D_law_string hr (by decide) (by rfl) passL (pa_cons (pv 1) (pa_cons (pe_slice sl_str (pv 7) po_none (po_some pe_int)) pa_nil))) pa_nil))))
(pss_one (ps_ret pe_bl))
pss_nil)
(pss_one (ps_ret (pe_and (pe_cmpR op_eq (pe_m0 D_Share_written hr (by decide) passL (pv 4)) (pv 5) (nomark _)) (pe_one (pe_d D_law_is hr (by decide) (by rfl) passL (pa_cons (pv 4) (pa_cons (pv 2) (pa_cons (pv 3) pa_nil))))))))))))))))))), ?_⟩
    refine bodyN (c := c) (P := []) (n := 1) [.nil, .nil, .nil, .nil, .nil, .nil, .nil] h rfl rfl ?_
    rintro as KK ⟨_, rfl, ⟨ns, rfl, hl, h⟩⟩
    refine ⟨rfl, by simp [ownsIn], by simp, ?_⟩
    simp only [List.cons_append, List.nil_append]
    k_extra "ts"
    refine ⟨_, rfl, ns, rfl, hl, fun st0 S0 => ?_⟩
    have S0' := S0
    obtain ⟨_, _, _, _, _, e0, _⟩ := S0'
    subst e0
    k_extra "ts"
    refine ⟨_, rfl, _, rfl, S0, fun st1 r1 S1 a0 a1 => ?_⟩
    k_extra "ts"
    refine ⟨fun E => ∃ (st : OD) (o : Int), E = [.fz (.scr ns), .ow st, .fz (.int o), .nil, .nil, .nil, .nil, .nil] ∧ StOk st ∧ o.natAbs < 10 ^ 40, ?_, ?_⟩
    · k_extra "ts"
      refine ⟨_, _, rfl, _, _, rfl, S1, rfl, K01.Sm.lit (by decide), fun st2 r2 S2 b0 b1 => ?_⟩
      k_extra "ts"
      refine ifK_d (fun c => ?_) (fun c => ?_)
      · k_extra "ts"
        exact ⟨_, _, rfl, S2, by omega⟩
      · exact ⟨_, _, rfl, S2, by omega⟩
    rintro _ ⟨st2, o, rfl, S2, ho⟩
    k_extra "ts"
    refine ⟨_, rfl, _, rfl, S2, fun st3 r3 S3 b0 b1 => ?_⟩
    obtain ⟨u, hu, u1⟩ : ∃ u : Int, (if r3 > 1 then r3 else 1) = u ∧ 1 ≤ u ∧ u < 10 ^ 40 := ⟨_, rfl, by split <;> omega, by
      have : (1 : Int) < 10 ^ 40 := by decide
      split <;> omega⟩
    have big8 : (10 : Nat) ^ 40 ≤ 2 ^ 8000 := by decide +kernel
    have big3 : (10 : Nat) ^ 40 ≤ 2 ^ 3000 := by decide +kernel
    have o8 : Sm 8000 o := Nat.lt_of_lt_of_le ho big8
    have u8 : Sm 8000 u := Nat.lt_of_lt_of_le (show u.natAbs < 10 ^ 40 by omega) big8
    have o3 : Sm 3000 o := Nat.lt_of_lt_of_le ho big3
    have u3 : Sm 3000 u := Nat.lt_of_lt_of_le (show u.natAbs < 10 ^ 40 by omega) big3
    obtain ⟨lo, _, q1, q2⟩ := red_ok (o := o) (u := u) (by omega)
    have wl := wr83 (n := (red o u).1) (d := (red o u).2) (by omega) (by omega)
    have g1 := lg40 (n := (red o u).1) (by omega)
    have g2 := lg40 (n := (red o u).2) (by omega)
    have sh := Sh.red (x := o) (y := u) (by omega)
    k_extra "ts"
    rw [hu]
    refine ⟨_, _, _, rfl, o, u, rfl, rfl, rfl, by omega, o8, u8, ?_⟩
    k_extra "ts"
    refine ⟨_, _, rfl, o, u, rfl, rfl, by omega, ho, by omega, ?_⟩
    generalize (red o u).1 = rn at *
    generalize (red o u).2 = rd at *
    k_extra "ts"
    refine ⟨_, rfl, rn, rd, rfl, g1, g2, ?_⟩
    generalize hwr : wr rn rd = W at *
    have wd : DR W := .short (by omega)
    k_extra "ts"
    rw [decide_eq_true rfl]
    k_extra "ts"
    refine ⟨_, _, rfl, _, W, rfl, S3, rfl, by omega, fun st4 m S4 md => ?_⟩
    have ml := md.1
    have mS : (S m).length ≤ 1000 := by rw [SX.S_len]; exact ml
    k_extra "ts"
    refine ⟨_, rfl, m, rfl, md, ?_⟩
    k_extra "ts"
    refine ⟨_, rfl, W, rfl, wd, ?_⟩
    k_extra "ts"
    refine ⟨_, rfl, m, rfl, md, ?_⟩
    k_extra "ts"
    rw [cut_to m (by decide)]
    refine ⟨_, _, rfl, _, m.take 12, rfl, S4, rfl, by rw [List.length_take]; omega, fun st5 m2 S5 md2 => ?_⟩
    k_extra "ts"
    refine ⟨_, rfl, m2, rfl, md2, ?_⟩
    k_extra "ts"
    refine ⟨_, rfl, rn, rd, rfl, g1, g2, ?_⟩
    rw [hwr]
    k_extra "ts"
    rw [decide_eq_true rfl]
    k_extra "ts"
    refine ⟨_, _, _, rfl, _, o, u, rfl, rfl, rfl, sh, o3, u3, ?_⟩
    k_extra "ts"
    exact h
def sp_law (K : PySem.W.Frag) : Sp := fun vs H Q _ => ∃ (s : Addr) (ns : List Int), vs = [.ref s] ∧ SqL K H s (ns.map V.int) ∧ ns.length ≤ 63 ∧ ∀ H', Q (.bl true) H'
theorem ok_law {f : Addr} {fd : FuncData} (F : Fun K "law" "law" s_law f fd) (D_law_body : Df P w K mg base 6 "_law_body" s_law_body ["script"] (lift c [.f] sp_law_body)) : FnOk P w K mg base CX0 7 f fd ["script"] (sp_law K) := by
  have nd := sc_law.nd
  refine F.ok sc_law (fun vs H Q E h => ?_) (fun cdv A outer s H vs Q E hr h => ?_)
  · obtain ⟨_, _, rfl, _⟩ := h
    rfl
  · obtain ⟨sc, ns, rfl, hs, hl, k⟩ := h
    refine ⟨_, (pss_one (ps_try_thru0 (pss_one (ps_ret (pe_d D_law_body hr (by decide) (by rfl) passL (pa_cons (pv 0) pa_nil)))))), ?_⟩
    exact ⟨_, rfl, lift_law (c := c) (X := E0) hs ⟨_, rfl, ns, rfl, hl, true, rfl, k⟩⟩
end
theorem k1_self {K : PySem.W.Frag} {C : Addr} : PySem.W.kitOne K (.ref C) (.ref C) = some true := by
  unfold PySem.W.kitOne
  exact if_pos (beq_self_eq_true _)
theorem k1_ref {K : PySem.W.Frag} {C : Addr} {s : String} {b : Bool} (hd : PySem.W.hasDictIn K C = true) (ht : PySem.W.typeIn K (.ref C) = some (.type "type")) (h : PySem.W.subIn K (.type s) (.ref C) = some b) : PySem.W.kitOne K (.type s) (.ref C) = some b := by
  obtain ⟨cd, hc, _⟩ := PySem.W.any_some hd
  have e2 : ((PySem.W.clsIn K C).isSome && PySem.W.typeIn K (.ref C) == some (.type "type")) = true := by rw [hc, ht] <;> rfl
  have e1 : ¬ (Value.type s == Value.ref C) = true := fun z => Value.noConfusion (beq_iff_eq.mp z)
  unfold PySem.W.kitOne PySem.W.kitCls
  rw [if_neg e1]
  show (if ((PySem.W.clsIn K C).isSome && PySem.W.typeIn K (.ref C) == some (.type "type")) = true then PySem.W.subIn K (.type s) (.ref C) else none) = some b
  rw [if_pos e2]
  exact h
theorem k1_ve {K : PySem.W.Frag} {C : Addr} {b : Bool} (h : PySem.W.subIn K (.ref C) (.type "ValueError") = some b) : PySem.W.kitOne K (.ref C) (.type "ValueError") = some b := by
  have e1 : ¬ (Value.ref C == Value.type "ValueError") = true := fun z => Value.noConfusion (beq_iff_eq.mp z)
  have e2 : PySem.W.kitMeta "ValueError" = true := by decide +kernel
  unfold PySem.W.kitOne PySem.W.kitCls
  rw [if_neg e1]
  show (if PySem.W.kitMeta "ValueError" = true then PySem.W.subIn K (.ref C) (.type "ValueError") else none) = some b
  rw [if_pos e2]
  exact h
theorem k1_own {K : PySem.W.Frag} {A C : Addr} {b : Bool} (hd : PySem.W.hasDictIn K C = true) (ht : PySem.W.typeIn K (.ref C) = some (.type "type")) (hs : PySem.W.subIn K (.ref A) (.ref A) = some true) (h : PySem.W.subIn K (.ref A) (.ref C) = some b) : PySem.W.kitOne K (.ref A) (.ref C) = some b := by
  obtain ⟨cd, hc, _⟩ := PySem.W.any_some hd
  have e2 : ((PySem.W.clsIn K C).isSome && PySem.W.typeIn K (.ref C) == some (.type "type")) = true := by rw [hc, ht] <;> rfl
  unfold PySem.W.kitOne PySem.W.kitCls
  by_cases e1 : (Value.ref A == Value.ref C) = true
  · rw [if_pos e1]
    have z := beq_iff_eq.mp e1
    rw [← z, hs] at h
    exact h
  · rw [if_neg e1]
    show (if ((PySem.W.clsIn K C).isSome && PySem.W.typeIn K (.ref C) == some (.type "type")) = true then PySem.W.subIn K (.ref A) (.ref C) else none) = some b
    rw [if_pos e2]
    exact h
theorem all_mk {P : Program} {w : World} {K : PySem.W.Frag} {h : Heap} {mg : Str → Option Value} {fa CR CS CI CX_ : Addr} (X : K.In h) (G : h.Ns mainGlobals mg) (hfa : mg "law" = some (.ref fa))
    {nm_CI q_CI : Str} {N_CI : Addr} {bs_CI : List Value} {sn_CI : List Str} {sub_CI : List Value} {ab_CI : Bool} {col_CI : Option Bool} {dd_CI : Option Addr} {m0_CI m1_CI m2_CI m3_CI m5_CI : Option Value} {nm_CX_ q_CX_ : Str} {N_CX_ : Addr} {bs_CX_ : List Value} {sn_CX_ : List Str} {sub_CX_ : List Value} {ab_CX_ : Bool} {col_CX_ : Option Bool} {dd_CX_ : Option Addr} {m0_CX_ m1_CX_ m2_CX_ m3_CX_ m5_CX_ : Option Value}
    {f_InvalidText_init f_Share_init f_Share_written f_is_digits f_told f_read_share f_law_integer f_law_gcd f_law_start f_law_draw f_law_wide f_law_is f_law_signs f_law_text f_law_digits f_law_read f_law_number f_law_long f_law_written f_law_string f_law_told f_law_body f_law : Addr} {od_InvalidText_init an_InvalidText_init od_Share_init an_Share_init od_Share_written an_Share_written od_is_digits an_is_digits od_told an_told od_read_share an_read_share od_law_integer an_law_integer od_law_gcd an_law_gcd od_law_start an_law_start od_law_draw an_law_draw od_law_wide an_law_wide od_law_is an_law_is od_law_signs an_law_signs od_law_text an_law_text od_law_digits an_law_digits od_law_read an_law_read od_law_number an_law_number od_law_long an_law_long od_law_written an_law_written od_law_string an_law_string od_law_told an_law_told od_law_body an_law_body od_law an_law : Option Addr} {sl_InvalidText_init sl_Share_init sl_Share_written sl_is_digits sl_told sl_read_share sl_law_integer sl_law_gcd sl_law_start sl_law_draw sl_law_wide sl_law_is sl_law_signs sl_law_text sl_law_digits sl_law_read sl_law_number sl_law_long sl_law_written sl_law_string sl_law_told sl_law_body sl_law : Array (Option Value)} {oc_InvalidText_init kV_InvalidText_init dc_InvalidText_init pm_InvalidText_init cd_InvalidText_init ct_InvalidText_init oc_Share_init kV_Share_init dc_Share_init pm_Share_init cd_Share_init ct_Share_init oc_Share_written kV_Share_written dc_Share_written pm_Share_written cd_Share_written ct_Share_written oc_is_digits kV_is_digits dc_is_digits pm_is_digits cd_is_digits ct_is_digits oc_told kV_told dc_told pm_told cd_told ct_told oc_read_share kV_read_share dc_read_share pm_read_share cd_read_share ct_read_share oc_law_integer kV_law_integer dc_law_integer pm_law_integer cd_law_integer ct_law_integer oc_law_gcd kV_law_gcd dc_law_gcd pm_law_gcd cd_law_gcd ct_law_gcd oc_law_start kV_law_start dc_law_start pm_law_start cd_law_start ct_law_start oc_law_draw kV_law_draw dc_law_draw pm_law_draw cd_law_draw ct_law_draw oc_law_wide kV_law_wide dc_law_wide pm_law_wide cd_law_wide ct_law_wide oc_law_is kV_law_is dc_law_is pm_law_is cd_law_is ct_law_is oc_law_signs kV_law_signs dc_law_signs pm_law_signs cd_law_signs ct_law_signs oc_law_text kV_law_text dc_law_text pm_law_text cd_law_text ct_law_text oc_law_digits kV_law_digits dc_law_digits pm_law_digits cd_law_digits ct_law_digits oc_law_read kV_law_read dc_law_read pm_law_read cd_law_read ct_law_read oc_law_number kV_law_number dc_law_number pm_law_number cd_law_number ct_law_number oc_law_long kV_law_long dc_law_long pm_law_long cd_law_long ct_law_long oc_law_written kV_law_written dc_law_written pm_law_written cd_law_written ct_law_written oc_law_string kV_law_string dc_law_string pm_law_string cd_law_string ct_law_string oc_law_told kV_law_told dc_law_told pm_law_told cd_law_told ct_law_told oc_law_body kV_law_body dc_law_body pm_law_body cd_law_body ct_law_body oc_law kV_law dc_law pm_law cd_law ct_law : Value}
    (a_CS : PySem.W.nsIn K mainGlobals "Share" = some (some (.ref CS)))
    (a_CI : PySem.W.nsIn K mainGlobals "InvalidNumber" = some (some (.ref CI)))
    (a_CX_ : PySem.W.nsIn K mainGlobals "InvalidText" = some (some (.ref CX_)))
    (a_InvalidText_init : PySem.W.findIn K (.ref CX_) "__init__" = some (some (.ref f_InvalidText_init)))
    (i_InvalidText_init : PySem.W.isFn K (.ref f_InvalidText_init) = true)
    (l_InvalidText_init : K.lookup f_InvalidText_init = some ⟨oc_InvalidText_init, od_InvalidText_init, .func (PySem.W.fnOf "__init__" "InvalidText.__init__" (defArgs s_InvalidText_init) (defBody s_InvalidText_init) (defScope s_InvalidText_init) .none kV_InvalidText_init dc_InvalidText_init pm_InvalidText_init an_InvalidText_init cd_InvalidText_init ct_InvalidText_init), sl_InvalidText_init⟩)
    (c_InvalidText_init : PySem.W.codeIn K cd_InvalidText_init "InvalidText.__init__" = true)
    (k_InvalidText_init : PySem.W.keepIn K (.ref f_InvalidText_init) = true)
    (a_Share_init : PySem.W.findIn K (.ref CS) "__init__" = some (some (.ref f_Share_init)))
    (i_Share_init : PySem.W.isFn K (.ref f_Share_init) = true)
    (l_Share_init : K.lookup f_Share_init = some ⟨oc_Share_init, od_Share_init, .func (PySem.W.fnOf "__init__" "Share.__init__" (defArgs s_Share_init) (defBody s_Share_init) (defScope s_Share_init) .none kV_Share_init dc_Share_init pm_Share_init an_Share_init cd_Share_init ct_Share_init), sl_Share_init⟩)
    (c_Share_init : PySem.W.codeIn K cd_Share_init "Share.__init__" = true)
    (k_Share_init : PySem.W.keepIn K (.ref f_Share_init) = true)
    (a_Share_written : PySem.W.findIn K (.ref CS) "written" = some (some (.ref f_Share_written)))
    (i_Share_written : PySem.W.isFn K (.ref f_Share_written) = true)
    (l_Share_written : K.lookup f_Share_written = some ⟨oc_Share_written, od_Share_written, .func (PySem.W.fnOf "written" "Share.written" (defArgs s_Share_written) (defBody s_Share_written) (defScope s_Share_written) .none kV_Share_written dc_Share_written pm_Share_written an_Share_written cd_Share_written ct_Share_written), sl_Share_written⟩)
    (c_Share_written : PySem.W.codeIn K cd_Share_written "Share.written" = true)
    (k_Share_written : PySem.W.keepIn K (.ref f_Share_written) = true)
    (a_is_digits : PySem.W.nsIn K mainGlobals "_is_digits" = some (some (.ref f_is_digits)))
    (l_is_digits : K.lookup f_is_digits = some ⟨oc_is_digits, od_is_digits, .func (PySem.W.fnOf "_is_digits" "_is_digits" (defArgs s_is_digits) (defBody s_is_digits) (defScope s_is_digits) .none kV_is_digits dc_is_digits pm_is_digits an_is_digits cd_is_digits ct_is_digits), sl_is_digits⟩)
    (c_is_digits : PySem.W.codeIn K cd_is_digits "_is_digits" = true)
    (k_is_digits : PySem.W.keepIn K (.ref f_is_digits) = true)
    (a_told : PySem.W.nsIn K mainGlobals "_told" = some (some (.ref f_told)))
    (l_told : K.lookup f_told = some ⟨oc_told, od_told, .func (PySem.W.fnOf "_told" "_told" (defArgs s_told) (defBody s_told) (defScope s_told) .none kV_told dc_told pm_told an_told cd_told ct_told), sl_told⟩)
    (c_told : PySem.W.codeIn K cd_told "_told" = true)
    (k_told : PySem.W.keepIn K (.ref f_told) = true)
    (a_read_share : PySem.W.nsIn K mainGlobals "read_share" = some (some (.ref f_read_share)))
    (l_read_share : K.lookup f_read_share = some ⟨oc_read_share, od_read_share, .func (PySem.W.fnOf "read_share" "read_share" (defArgs s_read_share) (defBody s_read_share) (defScope s_read_share) .none kV_read_share dc_read_share pm_read_share an_read_share cd_read_share ct_read_share), sl_read_share⟩)
    (c_read_share : PySem.W.codeIn K cd_read_share "read_share" = true)
    (k_read_share : PySem.W.keepIn K (.ref f_read_share) = true)
    (a_law_integer : PySem.W.nsIn K mainGlobals "_law_integer" = some (some (.ref f_law_integer)))
    (l_law_integer : K.lookup f_law_integer = some ⟨oc_law_integer, od_law_integer, .func (PySem.W.fnOf "_law_integer" "_law_integer" (defArgs s_law_integer) (defBody s_law_integer) (defScope s_law_integer) .none kV_law_integer dc_law_integer pm_law_integer an_law_integer cd_law_integer ct_law_integer), sl_law_integer⟩)
    (c_law_integer : PySem.W.codeIn K cd_law_integer "_law_integer" = true)
    (k_law_integer : PySem.W.keepIn K (.ref f_law_integer) = true)
    (a_law_gcd : PySem.W.nsIn K mainGlobals "_law_gcd" = some (some (.ref f_law_gcd)))
    (l_law_gcd : K.lookup f_law_gcd = some ⟨oc_law_gcd, od_law_gcd, .func (PySem.W.fnOf "_law_gcd" "_law_gcd" (defArgs s_law_gcd) (defBody s_law_gcd) (defScope s_law_gcd) .none kV_law_gcd dc_law_gcd pm_law_gcd an_law_gcd cd_law_gcd ct_law_gcd), sl_law_gcd⟩)
    (c_law_gcd : PySem.W.codeIn K cd_law_gcd "_law_gcd" = true)
    (k_law_gcd : PySem.W.keepIn K (.ref f_law_gcd) = true)
    (a_law_start : PySem.W.nsIn K mainGlobals "_law_start" = some (some (.ref f_law_start)))
    (l_law_start : K.lookup f_law_start = some ⟨oc_law_start, od_law_start, .func (PySem.W.fnOf "_law_start" "_law_start" (defArgs s_law_start) (defBody s_law_start) (defScope s_law_start) .none kV_law_start dc_law_start pm_law_start an_law_start cd_law_start ct_law_start), sl_law_start⟩)
    (c_law_start : PySem.W.codeIn K cd_law_start "_law_start" = true)
    (k_law_start : PySem.W.keepIn K (.ref f_law_start) = true)
    (a_law_draw : PySem.W.nsIn K mainGlobals "_law_draw" = some (some (.ref f_law_draw)))
    (l_law_draw : K.lookup f_law_draw = some ⟨oc_law_draw, od_law_draw, .func (PySem.W.fnOf "_law_draw" "_law_draw" (defArgs s_law_draw) (defBody s_law_draw) (defScope s_law_draw) .none kV_law_draw dc_law_draw pm_law_draw an_law_draw cd_law_draw ct_law_draw), sl_law_draw⟩)
    (c_law_draw : PySem.W.codeIn K cd_law_draw "_law_draw" = true)
    (k_law_draw : PySem.W.keepIn K (.ref f_law_draw) = true)
    (a_law_wide : PySem.W.nsIn K mainGlobals "_law_wide" = some (some (.ref f_law_wide)))
    (l_law_wide : K.lookup f_law_wide = some ⟨oc_law_wide, od_law_wide, .func (PySem.W.fnOf "_law_wide" "_law_wide" (defArgs s_law_wide) (defBody s_law_wide) (defScope s_law_wide) .none kV_law_wide dc_law_wide pm_law_wide an_law_wide cd_law_wide ct_law_wide), sl_law_wide⟩)
    (c_law_wide : PySem.W.codeIn K cd_law_wide "_law_wide" = true)
    (k_law_wide : PySem.W.keepIn K (.ref f_law_wide) = true)
    (a_law_is : PySem.W.nsIn K mainGlobals "_law_is" = some (some (.ref f_law_is)))
    (l_law_is : K.lookup f_law_is = some ⟨oc_law_is, od_law_is, .func (PySem.W.fnOf "_law_is" "_law_is" (defArgs s_law_is) (defBody s_law_is) (defScope s_law_is) .none kV_law_is dc_law_is pm_law_is an_law_is cd_law_is ct_law_is), sl_law_is⟩)
    (c_law_is : PySem.W.codeIn K cd_law_is "_law_is" = true)
    (k_law_is : PySem.W.keepIn K (.ref f_law_is) = true)
    (a_law_signs : PySem.W.nsIn K mainGlobals "_law_signs" = some (some (.ref f_law_signs)))
    (l_law_signs : K.lookup f_law_signs = some ⟨oc_law_signs, od_law_signs, .func (PySem.W.fnOf "_law_signs" "_law_signs" (defArgs s_law_signs) (defBody s_law_signs) (defScope s_law_signs) .none kV_law_signs dc_law_signs pm_law_signs an_law_signs cd_law_signs ct_law_signs), sl_law_signs⟩)
    (c_law_signs : PySem.W.codeIn K cd_law_signs "_law_signs" = true)
    (k_law_signs : PySem.W.keepIn K (.ref f_law_signs) = true)
    (a_law_text : PySem.W.nsIn K mainGlobals "_law_text" = some (some (.ref f_law_text)))
    (l_law_text : K.lookup f_law_text = some ⟨oc_law_text, od_law_text, .func (PySem.W.fnOf "_law_text" "_law_text" (defArgs s_law_text) (defBody s_law_text) (defScope s_law_text) .none kV_law_text dc_law_text pm_law_text an_law_text cd_law_text ct_law_text), sl_law_text⟩)
    (c_law_text : PySem.W.codeIn K cd_law_text "_law_text" = true)
    (k_law_text : PySem.W.keepIn K (.ref f_law_text) = true)
    (a_law_digits : PySem.W.nsIn K mainGlobals "_law_digits" = some (some (.ref f_law_digits)))
    (l_law_digits : K.lookup f_law_digits = some ⟨oc_law_digits, od_law_digits, .func (PySem.W.fnOf "_law_digits" "_law_digits" (defArgs s_law_digits) (defBody s_law_digits) (defScope s_law_digits) .none kV_law_digits dc_law_digits pm_law_digits an_law_digits cd_law_digits ct_law_digits), sl_law_digits⟩)
    (c_law_digits : PySem.W.codeIn K cd_law_digits "_law_digits" = true)
    (k_law_digits : PySem.W.keepIn K (.ref f_law_digits) = true)
    (a_law_read : PySem.W.nsIn K mainGlobals "_law_read" = some (some (.ref f_law_read)))
    (l_law_read : K.lookup f_law_read = some ⟨oc_law_read, od_law_read, .func (PySem.W.fnOf "_law_read" "_law_read" (defArgs s_law_read) (defBody s_law_read) (defScope s_law_read) .none kV_law_read dc_law_read pm_law_read an_law_read cd_law_read ct_law_read), sl_law_read⟩)
    (c_law_read : PySem.W.codeIn K cd_law_read "_law_read" = true)
    (k_law_read : PySem.W.keepIn K (.ref f_law_read) = true)
    (a_law_number : PySem.W.nsIn K mainGlobals "_law_number" = some (some (.ref f_law_number)))
    (l_law_number : K.lookup f_law_number = some ⟨oc_law_number, od_law_number, .func (PySem.W.fnOf "_law_number" "_law_number" (defArgs s_law_number) (defBody s_law_number) (defScope s_law_number) .none kV_law_number dc_law_number pm_law_number an_law_number cd_law_number ct_law_number), sl_law_number⟩)
    (c_law_number : PySem.W.codeIn K cd_law_number "_law_number" = true)
    (k_law_number : PySem.W.keepIn K (.ref f_law_number) = true)
    (a_law_long : PySem.W.nsIn K mainGlobals "_law_long" = some (some (.ref f_law_long)))
    (l_law_long : K.lookup f_law_long = some ⟨oc_law_long, od_law_long, .func (PySem.W.fnOf "_law_long" "_law_long" (defArgs s_law_long) (defBody s_law_long) (defScope s_law_long) .none kV_law_long dc_law_long pm_law_long an_law_long cd_law_long ct_law_long), sl_law_long⟩)
    (c_law_long : PySem.W.codeIn K cd_law_long "_law_long" = true)
    (k_law_long : PySem.W.keepIn K (.ref f_law_long) = true)
    (a_law_written : PySem.W.nsIn K mainGlobals "_law_written" = some (some (.ref f_law_written)))
    (l_law_written : K.lookup f_law_written = some ⟨oc_law_written, od_law_written, .func (PySem.W.fnOf "_law_written" "_law_written" (defArgs s_law_written) (defBody s_law_written) (defScope s_law_written) .none kV_law_written dc_law_written pm_law_written an_law_written cd_law_written ct_law_written), sl_law_written⟩)
    (c_law_written : PySem.W.codeIn K cd_law_written "_law_written" = true)
    (k_law_written : PySem.W.keepIn K (.ref f_law_written) = true)
    (a_law_string : PySem.W.nsIn K mainGlobals "_law_string" = some (some (.ref f_law_string)))
    (l_law_string : K.lookup f_law_string = some ⟨oc_law_string, od_law_string, .func (PySem.W.fnOf "_law_string" "_law_string" (defArgs s_law_string) (defBody s_law_string) (defScope s_law_string) .none kV_law_string dc_law_string pm_law_string an_law_string cd_law_string ct_law_string), sl_law_string⟩)
    (c_law_string : PySem.W.codeIn K cd_law_string "_law_string" = true)
    (k_law_string : PySem.W.keepIn K (.ref f_law_string) = true)
    (a_law_told : PySem.W.nsIn K mainGlobals "_law_told" = some (some (.ref f_law_told)))
    (l_law_told : K.lookup f_law_told = some ⟨oc_law_told, od_law_told, .func (PySem.W.fnOf "_law_told" "_law_told" (defArgs s_law_told) (defBody s_law_told) (defScope s_law_told) .none kV_law_told dc_law_told pm_law_told an_law_told cd_law_told ct_law_told), sl_law_told⟩)
    (c_law_told : PySem.W.codeIn K cd_law_told "_law_told" = true)
    (k_law_told : PySem.W.keepIn K (.ref f_law_told) = true)
    (a_law_body : PySem.W.nsIn K mainGlobals "_law_body" = some (some (.ref f_law_body)))
    (l_law_body : K.lookup f_law_body = some ⟨oc_law_body, od_law_body, .func (PySem.W.fnOf "_law_body" "_law_body" (defArgs s_law_body) (defBody s_law_body) (defScope s_law_body) .none kV_law_body dc_law_body pm_law_body an_law_body cd_law_body ct_law_body), sl_law_body⟩)
    (c_law_body : PySem.W.codeIn K cd_law_body "_law_body" = true)
    (k_law_body : PySem.W.keepIn K (.ref f_law_body) = true)
    (a_law : PySem.W.nsIn K mainGlobals "law" = some (some (.ref f_law)))
    (l_law : K.lookup f_law = some ⟨oc_law, od_law, .func (PySem.W.fnOf "law" "law" (defArgs s_law) (defBody s_law) (defScope s_law) .none kV_law dc_law pm_law an_law cd_law ct_law), sl_law⟩)
    (c_law : PySem.W.codeIn K cd_law "law" = true)
    (k_law : PySem.W.keepIn K (.ref f_law) = true)
    (z_len : PySem.W.nsIn K mainGlobals "len" = some none)
    (z_abs : PySem.W.nsIn K mainGlobals "abs" = some none)
    (z_int : PySem.W.nsIn K mainGlobals "int" = some none)
    (z_bool : PySem.W.nsIn K mainGlobals "bool" = some none)
    (z_str : PySem.W.nsIn K mainGlobals "str" = some none)
    (z_list : PySem.W.nsIn K mainGlobals "list" = some none)
    (z_tuple : PySem.W.nsIn K mainGlobals "tuple" = some none)
    (z_ValueError : PySem.W.nsIn K mainGlobals "ValueError" = some none)
    (z_max : PySem.W.nsIn K mainGlobals "max" = some none)
    (z_min : PySem.W.nsIn K mainGlobals "min" = some none)
    (z_isinstance : PySem.W.nsIn K mainGlobals "isinstance" = some none)
    (z_range : PySem.W.nsIn K mainGlobals "range" = some none)
    (z_zip : PySem.W.nsIn K mainGlobals "zip" = some none)
    (z_sum : PySem.W.nsIn K mainGlobals "sum" = some none)
    (z_sorted : PySem.W.nsIn K mainGlobals "sorted" = some none)
    (z_enumerate : PySem.W.nsIn K mainGlobals "enumerate" = some none)
    (z_set : PySem.W.nsIn K mainGlobals "set" = some none)
    (z_dict : PySem.W.nsIn K mainGlobals "dict" = some none)
    (z_any : PySem.W.nsIn K mainGlobals "any" = some none)
    (z_all : PySem.W.nsIn K mainGlobals "all" = some none)
    (z_gcd : PySem.W.nsIn K mainGlobals "gcd" = some (some (.builtin "math.gcd")))
    (pg_CS : PySem.W.plainGet K CS Str.empty = true)
    (hd_CS : PySem.W.hasDictIn K CS = true)
    (po_CS : PySem.W.plainOver K CS = true)
    (sa_CS : PySem.W.findIn K (.ref CS) "__setattr__" = some (some (.builtin "object.__setattr__")))
    (mk_CS : PySem.W.makesIn K CS = true)
    (kc_CS : PySem.W.keepIn K (.ref CS) = true)
    (nCS_over : PySem.W.findIn K (.ref CS) "over" = some none)
    (nCS_under : PySem.W.findIn K (.ref CS) "under" = some none)
    (xL_CI : K.lookup CI = some (excClassObj nm_CI q_CI CI N_CI bs_CI [.ref CR, .type "ValueError", .type "Exception", .type "BaseException", .type "object"] true sn_CI sub_CI ab_CI col_CI dd_CI m0_CI m1_CI m2_CI m3_CI m5_CI "ValueError.__new__"))
    (xsa_CI : PySem.W.findIn K (.ref CI) "__setattr__" = some (some (.builtin "object.__setattr__")))
    (xex_CI : PySem.W.subIn K (.ref CI) (.type "BaseException") = some true)
    (xty_CI : PySem.W.typeIn K (.ref CI) = some (.type "type"))
    (xk_CI : PySem.W.keepIn K (.ref CI) = true)
    (xCI_number : PySem.W.findIn K (.ref CI) "number" = some none)
    (xga_CI : PySem.W.findIn K (.ref CI) "__getattribute__" = some (some (.builtin "BaseException.__getattribute__")))
    (xgg_CI : PySem.W.findIn K (.ref CI) "__getattr__" = some none)
    (xhd_CI : PySem.W.hasDictIn K CI = true)
    (xcl_CI : PySem.W.findIn K (.ref CI) "__class__" = some (some (.builtin "object.__class__")))
    (xmr_CI : PySem.W.mroIn K CI (.type "object") = some true)
    (kVE_CI : PySem.W.subIn K (.ref CI) (.type "ValueError") = some true)
    (xss_CI : PySem.W.subIn K (.ref CI) (.ref CI) = some true)
    (xL_CX_ : K.lookup CX_ = some (excClassObj nm_CX_ q_CX_ CX_ N_CX_ bs_CX_ [.ref CR, .type "ValueError", .type "Exception", .type "BaseException", .type "object"] true sn_CX_ sub_CX_ ab_CX_ col_CX_ dd_CX_ m0_CX_ m1_CX_ m2_CX_ m3_CX_ m5_CX_ "ValueError.__new__"))
    (xsa_CX_ : PySem.W.findIn K (.ref CX_) "__setattr__" = some (some (.builtin "object.__setattr__")))
    (xex_CX_ : PySem.W.subIn K (.ref CX_) (.type "BaseException") = some true)
    (xty_CX_ : PySem.W.typeIn K (.ref CX_) = some (.type "type"))
    (xk_CX_ : PySem.W.keepIn K (.ref CX_) = true)
    (xCX__text : PySem.W.findIn K (.ref CX_) "text" = some none)
    (xCX__at : PySem.W.findIn K (.ref CX_) "at" = some none)
    (xga_CX_ : PySem.W.findIn K (.ref CX_) "__getattribute__" = some (some (.builtin "BaseException.__getattribute__")))
    (xgg_CX_ : PySem.W.findIn K (.ref CX_) "__getattr__" = some none)
    (xhd_CX_ : PySem.W.hasDictIn K CX_ = true)
    (xcl_CX_ : PySem.W.findIn K (.ref CX_) "__class__" = some (some (.builtin "object.__class__")))
    (xmr_CX_ : PySem.W.mroIn K CX_ (.type "object") = some true)
    (kVE_CX_ : PySem.W.subIn K (.ref CX_) (.type "ValueError") = some true)
    (xss_CX_ : PySem.W.subIn K (.ref CX_) (.ref CX_) = some true)
    (xti_CX_ : PySem.W.typeIn K (.ref f_InvalidText_init) = some (.type "function"))
    (sf : PySem.W.selfFirst K CS = true)
    (iCls : PySem.W.findIn K (.ref CS) "__class__" = some (some (.builtin "object.__class__")))
    (iGet : PySem.W.specialIn K (.builtin "object.__class__") "__get__" = some (some (.builtin "getset_descriptor.__get__")))
    (iTak : PySem.W.takesIn K (.builtin "object.__class__") = some true)
    (iObj : PySem.W.mroIn K CS (.type "object") = some true)
    (tyS : PySem.W.typeIn K (.ref CS) = some (.type "type"))
    (kI : PySem.W.subIn K (.type "int") (.ref CS) = some false)
    (kT : PySem.W.subIn K (.type "tuple") (.ref CS) = some false)
    (kL : PySem.W.subIn K (.type "list") (.ref CS) = some false)
    (kX : PySem.W.subIn K (.type "str") (.ref CS) = some false)
    (nfS : PySem.W.notFirst K CS (.ref CS) = true)
    (nfI : PySem.W.notFirst K CS (.type "int") = true)
    (nfT : PySem.W.notFirst K CS (.type "tuple") = true)
    (nfL : PySem.W.notFirst K CS (.type "list") = true)
    (nfX : PySem.W.notFirst K CS (.type "str") = true)
    (ne : PySem.W.findIn K (.ref CS) "__ne__" = some (some (.builtin "object.__ne__")))
    (ob : PySem.W.subIn K (.ref CS) (.type "object") = some true)
    (xga : PySem.W.findIn K (.ref CI) "__getattribute__" = some (some (.builtin "BaseException.__getattribute__")))
    (xgg : PySem.W.findIn K (.ref CI) "__getattr__" = some none)
    (xhd : PySem.W.hasDictIn K CI = true)
    (xcl : PySem.W.findIn K (.ref CI) "__class__" = some (some (.builtin "object.__class__")))
    (xmr : PySem.W.mroIn K CI (.type "object") = some true)
    (kVE : PySem.W.subIn K (.ref CI) (.type "ValueError") = some true)
    (xss : PySem.W.subIn K (.ref CI) (.ref CI) = some true) :
    ∃ fd : FuncData, (∀ (s : Shared) (v : Value), BindsTo s fd ⟨[v], []⟩ [("script", v)]) ∧ ∀ base : Heap, K.In base → base.Ns mainGlobals mg → FnOk P w K mg base CX0 7 fa fd ["script"] (sp_law K) := by
  let CT : Addr := fa
  let CP : Addr := fa
  let CM : Addr := fa
  let CK : Addr := fa
  let CU : Addr := fa
  let CC : Addr := fa
  let CN : Addr := fa
  let CE : Addr := fa
  let CA : Addr := fa
  let CH : Addr := fa
  let CB : Addr := fa
  let CRM : Addr := fa
  have e := hfa.symm.trans (PySem.W.mg_of X G a_law)
  cases e
  have ox_CI : OexC K CI := ⟨⟨nm_CI, q_CI, N_CI, bs_CI, _, sn_CI, sub_CI, ab_CI, col_CI, dd_CI, m0_CI, m1_CI, m2_CI, m3_CI, m5_CI, xL_CI, rfl⟩, xsa_CI, xex_CI, xty_CI, xk_CI⟩
  have ox_CX_ : OexC K CX_ := ⟨⟨nm_CX_, q_CX_, N_CX_, bs_CX_, _, sn_CX_, sub_CX_, ab_CX_, col_CX_, dd_CX_, m0_CX_, m1_CX_, m2_CX_, m3_CX_, m5_CX_, xL_CX_, rfl⟩, xsa_CX_, xex_CX_, xty_CX_, xk_CX_⟩
  have cl_CS : Cls K CS := ⟨pg_CS, hd_CS, po_CS, sa_CS⟩
  have T : Txt K mg CS CI CT CP CM CK CU CC CN CE CA CH CB CRM CR CX_ :=
    { len := PySem.W.mg_none_of X G z_len,
      abs := PySem.W.mg_none_of X G z_abs,
      int := PySem.W.mg_none_of X G z_int,
      bool := PySem.W.mg_none_of X G z_bool,
      str := PySem.W.mg_none_of X G z_str,
      list := PySem.W.mg_none_of X G z_list,
      tuple := PySem.W.mg_none_of X G z_tuple,
      ValueError := PySem.W.mg_none_of X G z_ValueError,
      max := PySem.W.mg_none_of X G z_max,
      min := PySem.W.mg_none_of X G z_min,
      isinstance := PySem.W.mg_none_of X G z_isinstance,
      range := PySem.W.mg_none_of X G z_range,
      zip := PySem.W.mg_none_of X G z_zip,
      sum := PySem.W.mg_none_of X G z_sum,
      sorted := PySem.W.mg_none_of X G z_sorted,
      enumerate := PySem.W.mg_none_of X G z_enumerate,
      set := PySem.W.mg_none_of X G z_set,
      dict := PySem.W.mg_none_of X G z_dict,
      any := PySem.W.mg_none_of X G z_any,
      all := PySem.W.mg_none_of X G z_all,
      gcd := PySem.W.mg_of X G z_gcd,
      mgShare := PySem.W.mg_of X G a_CS,
      cl := ⟨pg_CS, hd_CS, po_CS, sa_CS⟩,
      nO := nCS_over,
      nU := nCS_under,
      mgInvalidNumber := PySem.W.mg_of X G a_CI,
      oex := ox_CI,
      xf_CI := ⟨xga_CI, xgg_CI, xex_CI, xhd_CI⟩,
      excC_CI := ⟨xga_CI, xgg_CI, xex_CI, xhd_CI, xcl_CI, iGet, iTak, xmr_CI⟩,
      no_number := xCI_number,
      mgInvalidText := PySem.W.mg_of X G a_CX_,
      oexX_ := ox_CX_,
      xf_CX_ := ⟨xga_CX_, xgg_CX_, xex_CX_, xhd_CX_⟩,
      excC_CX_ := ⟨xga_CX_, xgg_CX_, xex_CX_, xhd_CX_, xcl_CX_, iGet, iTak, xmr_CX_⟩,
      noX__text := xCX__text,
      noX__at := xCX__at,
      sf := sf,
      iCls := iCls,
      iGet := iGet,
      iTak := iTak,
      iObj := iObj,
      kSS := k1_self,
      kI := k1_ref hd_CS tyS kI,
      kT := k1_ref hd_CS tyS kT,
      kL := k1_ref hd_CS tyS kL,
      kX := k1_ref hd_CS tyS kX,
      nfS := nfS,
      nfI := nfI,
      nfT := nfT,
      nfL := nfL,
      nfX := nfX,
      ne := ne,
      ob := ob,
      xf := ⟨xga, xgg, xex_CI, xhd⟩,
      excC := ⟨xga, xgg, xex_CI, xhd, xcl, iGet, iTak, xmr⟩,
      kVE := k1_ve kVE,
      exm := PySem.W.exm_ref xex_CI xhd xty_CI xss }
  obtain ⟨c, hc⟩ : ∃ c : TL.Cls, c = ⟨fun k => match k with | 0 => CS | 20 => CI | 27 => CX_ | _ => fa, P, w, K⟩ := ⟨_, rfl⟩
  have ik : TL.IsK c K := ⟨by rw [hc]⟩
  have ip : TL.IsP c P w := ⟨by rw [hc], by rw [hc]⟩
  have te : TL.TxE K c [20, 27] := ⟨fun k hk => by
    subst hc
    rcases (show k = 20 ∨ k = 27 by simpa only [List.mem_cons, List.not_mem_nil, or_false] using hk) with rfl | rfl
    · exact k1_ve kVE_CI
    · exact k1_ve kVE_CX_, fun k hk => by
    subst hc
    rcases (show k = 20 ∨ k = 27 by simpa only [List.mem_cons, List.not_mem_nil, or_false] using hk) with rfl | rfl
    · exact PySem.W.exm_ref xex_CI xhd_CI xty_CI xss_CI
    · exact PySem.W.exm_ref xex_CX_ xhd_CX_ xty_CX_ xss_CX_⟩
  have ic0 : TL.IsC c CS 0 := ⟨by subst hc; rfl⟩
  have ic20 : TL.IsC c CI 20 := ⟨by subst hc; rfl⟩
  have ic27 : TL.IsC c CX_ 27 := ⟨by subst hc; rfl⟩
  have tf : TL.TxF K c [0] := ⟨fun k f hk hf => by
    subst hc
    rcases (show k = 0 by simpa only [List.mem_cons, List.not_mem_nil, or_false] using hk) with rfl
    · rcases (show f = "over" ∨ f = "under" by simpa only [TL.nm, List.mem_cons, List.not_mem_nil, or_false] using hf) with rfl | rfl
      · exact ⟨T.cl, T.nO⟩
      · exact ⟨T.cl, T.nU⟩⟩
  have ti : TL.TxI K c [0] [2, 3, 4, 5] [] := by
    subst hc
    refine ⟨fun k hk => ?_, fun k hk => ?_, fun k hk n hn => ?_, fun k hk n hn => by cases hn⟩
    · obtain rfl : k = 0 := by simpa using hk
      exact ⟨T.cl, T.iCls, T.iGet, T.iTak, T.iObj⟩
    · obtain rfl : k = 0 := by simpa using hk
      exact T.kSS
    · obtain rfl : k = 0 := by simpa using hk
      rcases (show n = 2 ∨ n = 3 ∨ n = 4 ∨ n = 5 by simpa only [List.mem_cons, List.not_mem_nil, or_false] using hn) with rfl | rfl | rfl | rfl
      · exact T.kI
      · exact T.kX
      · exact T.kL
      · exact T.kT
  have F_InvalidText_init := fun_mk (st := s_InvalidText_init) l_InvalidText_init c_InvalidText_init k_InvalidText_init
  have b_InvalidText_init := F_InvalidText_init.binds (ps := ["self", "text", "at"]) fun _ _ _ _ _ _ us hl => match us, hl with | [_, _, _], _ => rfl
  have F_Share_init := fun_mk (st := s_Share_init) l_Share_init c_Share_init k_Share_init
  have b_Share_init := F_Share_init.binds (ps := ["self", "over", "under"]) fun _ _ _ _ _ _ us hl => match us, hl with | [_, _, _], _ => rfl
  have F_Share_written := fun_mk (st := s_Share_written) l_Share_written c_Share_written k_Share_written
  have b_Share_written := F_Share_written.binds (ps := ["self"]) fun _ _ _ _ _ _ us hl => match us, hl with | [_], _ => rfl
  have F_is_digits := fun_mk (st := s_is_digits) l_is_digits c_is_digits k_is_digits
  have b_is_digits := F_is_digits.binds (ps := ["word"]) fun _ _ _ _ _ _ us hl => match us, hl with | [_], _ => rfl
  have F_told := fun_mk (st := s_told) l_told c_told k_told
  have b_told := F_told.binds (ps := ["text"]) fun _ _ _ _ _ _ us hl => match us, hl with | [_], _ => rfl
  have F_read_share := fun_mk (st := s_read_share) l_read_share c_read_share k_read_share
  have b_read_share := F_read_share.binds (ps := ["text"]) fun _ _ _ _ _ _ us hl => match us, hl with | [_], _ => rfl
  have F_law_integer := fun_mk (st := s_law_integer) l_law_integer c_law_integer k_law_integer
  have b_law_integer := F_law_integer.binds (ps := ["value"]) fun _ _ _ _ _ _ us hl => match us, hl with | [_], _ => rfl
  have F_law_gcd := fun_mk (st := s_law_gcd) l_law_gcd c_law_gcd k_law_gcd
  have b_law_gcd := F_law_gcd.binds (ps := ["one", "other"]) fun _ _ _ _ _ _ us hl => match us, hl with | [_, _], _ => rfl
  have F_law_start := fun_mk (st := s_law_start) l_law_start c_law_start k_law_start
  have b_law_start := F_law_start.binds (ps := ["script"]) fun _ _ _ _ _ _ us hl => match us, hl with | [_], _ => rfl
  have F_law_draw := fun_mk (st := s_law_draw) l_law_draw c_law_draw k_law_draw
  have b_law_draw := F_law_draw.binds (ps := ["state", "limit"]) fun _ _ _ _ _ _ us hl => match us, hl with | [_, _], _ => rfl
  have F_law_wide := fun_mk (st := s_law_wide) l_law_wide c_law_wide k_law_wide
  have b_law_wide := F_law_wide.binds (ps := ["state"]) fun _ _ _ _ _ _ us hl => match us, hl with | [_], _ => rfl
  have F_law_is := fun_mk (st := s_law_is) l_law_is c_law_is k_law_is
  have b_law_is := F_law_is.binds (ps := ["got", "over", "under"]) fun _ _ _ _ _ _ us hl => match us, hl with | [_, _, _], _ => rfl
  have F_law_signs := fun_mk (st := s_law_signs) l_law_signs c_law_signs k_law_signs
  have b_law_signs := F_law_signs.binds (ps := []) fun _ _ _ _ _ _ us hl => match us, hl with | [], _ => rfl
  have F_law_text := fun_mk (st := s_law_text) l_law_text c_law_text k_law_text
  have b_law_text := F_law_text.binds (ps := ["state", "most"]) fun _ _ _ _ _ _ us hl => match us, hl with | [_, _], _ => rfl
  have F_law_digits := fun_mk (st := s_law_digits) l_law_digits c_law_digits k_law_digits
  have b_law_digits := F_law_digits.binds (ps := ["text"]) fun _ _ _ _ _ _ us hl => match us, hl with | [_], _ => rfl
  have F_law_read := fun_mk (st := s_law_read) l_law_read c_law_read k_law_read
  have b_law_read := F_law_read.binds (ps := ["text"]) fun _ _ _ _ _ _ us hl => match us, hl with | [_], _ => rfl
  have F_law_number := fun_mk (st := s_law_number) l_law_number c_law_number k_law_number
  have b_law_number := F_law_number.binds (ps := ["state"]) fun _ _ _ _ _ _ us hl => match us, hl with | [_], _ => rfl
  have F_law_long := fun_mk (st := s_law_long) l_law_long c_law_long k_law_long
  have b_law_long := F_law_long.binds (ps := ["state"]) fun _ _ _ _ _ _ us hl => match us, hl with | [_], _ => rfl
  have F_law_written := fun_mk (st := s_law_written) l_law_written c_law_written k_law_written
  have b_law_written := F_law_written.binds (ps := ["over", "under"]) fun _ _ _ _ _ _ us hl => match us, hl with | [_, _], _ => rfl
  have F_law_string := fun_mk (st := s_law_string) l_law_string c_law_string k_law_string
  have b_law_string := F_law_string.binds (ps := ["state", "text"]) fun _ _ _ _ _ _ us hl => match us, hl with | [_, _], _ => rfl
  have F_law_told := fun_mk (st := s_law_told) l_law_told c_law_told k_law_told
  have b_law_told := F_law_told.binds (ps := ["text"]) fun _ _ _ _ _ _ us hl => match us, hl with | [_], _ => rfl
  have F_law_body := fun_mk (st := s_law_body) l_law_body c_law_body k_law_body
  have b_law_body := F_law_body.binds (ps := ["script"]) fun _ _ _ _ _ _ us hl => match us, hl with | [_], _ => rfl
  have F_law := fun_mk (st := s_law) l_law c_law k_law
  have b_law := F_law.binds (ps := ["script"]) fun _ _ _ _ _ _ us hl => match us, hl with | [_], _ => rfl
  refine ⟨PySem.W.fnOf "law" "law" (defArgs s_law) (defBody s_law) (defScope s_law) .none kV_law dc_law pm_law an_law cd_law ct_law, fun s v => .of_eq rfl, fun base _ _ => ?_⟩
  have D_law_start : Df P w K mg base 1 "_law_start" s_law_start ["script"] (lift c [.f] sp_law_start) := ⟨⟨_, _, F_law_start, ok_law_start F_law_start T, PySem.W.mg_of X G a_law_start, b_law_start⟩⟩
  have D_law_draw : Df P w K mg base 1 "_law_draw" s_law_draw ["state", "limit"] (lift c [.l, .f] sp_law_draw) := ⟨⟨_, _, F_law_draw, ok_law_draw F_law_draw T, PySem.W.mg_of X G a_law_draw, b_law_draw⟩⟩
  have D_law_wide : Df P w K mg base 2 "_law_wide" s_law_wide ["state"] (lift c [.l] sp_law_wide) := ⟨⟨_, _, F_law_wide, ok_law_wide F_law_wide T D_law_draw, PySem.W.mg_of X G a_law_wide, b_law_wide⟩⟩
  have D_law_number : Df P w K mg base 3 "_law_number" s_law_number ["state"] (lift c [.l] sp_law_number) := ⟨⟨_, _, F_law_number, ok_law_number F_law_number T D_law_draw D_law_wide, PySem.W.mg_of X G a_law_number, b_law_number⟩⟩
  have D_Share_init : Dk P w K mg base 1 CS "Share" "Share.__init__" s_Share_init ["self", "over", "under"] (lift c [.l, .f, .f] sp_Share_init) := ⟨⟨_, _, F_Share_init, ok_Share_init F_Share_init T, ⟨mk_CS, a_Share_init, i_Share_init, kc_CS⟩, PySem.W.mg_of X G a_CS, b_Share_init⟩⟩
  have D_law_gcd : Df P w K mg base 1 "_law_gcd" s_law_gcd ["one", "other"] (lift c [.f, .f] sp_law_gcd) := ⟨⟨_, _, F_law_gcd, ok_law_gcd F_law_gcd T, PySem.W.mg_of X G a_law_gcd, b_law_gcd⟩⟩
  have D_law_written : Df P w K mg base 2 "_law_written" s_law_written ["over", "under"] (lift c [.f, .f] sp_law_written) := ⟨⟨_, _, F_law_written, ok_law_written F_law_written T D_law_gcd, PySem.W.mg_of X G a_law_written, b_law_written⟩⟩
  have D_Share_written : Dm P w K mg base 1 CS "written" "Share.written" s_Share_written ["self"] (lift c [.f] sp_Share_written) := ⟨⟨_, _, F_Share_written, ok_Share_written F_Share_written T, cl_CS, ⟨a_Share_written, i_Share_written, k_Share_written⟩, b_Share_written⟩⟩
  have D_law_long : Df P w K mg base 4 "_law_long" s_law_long ["state"] (lift c [.l] sp_law_long) := ⟨⟨_, _, F_law_long, ok_law_long F_law_long T D_law_number D_law_draw, PySem.W.mg_of X G a_law_long, b_law_long⟩⟩
  have D_law_signs : Df P w K mg base 1 "_law_signs" s_law_signs [] (lift c [] sp_law_signs) := ⟨⟨_, _, F_law_signs, ok_law_signs F_law_signs T, PySem.W.mg_of X G a_law_signs, b_law_signs⟩⟩
  have D_law_text : Df P w K mg base 2 "_law_text" s_law_text ["state", "most"] (lift c [.l, .f] sp_law_text) := ⟨⟨_, _, F_law_text, ok_law_text F_law_text T D_law_draw D_law_signs, PySem.W.mg_of X G a_law_text, b_law_text⟩⟩
  have D_law_string : Df P w K mg base 5 "_law_string" s_law_string ["state", "text"] (lift c [.l, .f] sp_law_string) := ⟨⟨_, _, F_law_string, ok_law_string F_law_string T D_law_draw D_law_number D_law_long D_law_text, PySem.W.mg_of X G a_law_string, b_law_string⟩⟩
  have D_law_digits : Df P w K mg base 1 "_law_digits" s_law_digits ["text"] (lift c [.f] sp_law_digits) := ⟨⟨_, _, F_law_digits, ok_law_digits F_law_digits T, PySem.W.mg_of X G a_law_digits, b_law_digits⟩⟩
  have D_law_read : Df P w K mg base 2 "_law_read" s_law_read ["text"] (lift c [.f] sp_law_read) := ⟨⟨_, _, F_law_read, ok_law_read F_law_read T D_law_digits D_law_gcd, PySem.W.mg_of X G a_law_read, b_law_read⟩⟩
  have D_is_digits : Df P w K mg base 1 "_is_digits" s_is_digits ["word"] (lift c [.f] sp_is_digits) := ⟨⟨_, _, F_is_digits, ok_is_digits F_is_digits T, PySem.W.mg_of X G a_is_digits, b_is_digits⟩⟩
  have D_told : Df P w K mg base 3 "_told" s_told ["text"] (lift c [.f] sp_told) := ⟨⟨_, _, F_told, ok_told F_told T D_is_digits D_Share_init, PySem.W.mg_of X G a_told, b_told⟩⟩
  have D_InvalidText_init : Dx P w K mg base 1 CX_ "InvalidText" "InvalidText.__init__" s_InvalidText_init ["self", "text", "at"] (spX2 CX_ "text" "at") := ⟨⟨_, _, F_InvalidText_init, ok_InvalidText_init F_InvalidText_init T, ox_CX_, a_InvalidText_init, xti_CX_, PySem.W.mg_of X G a_CX_, b_InvalidText_init⟩⟩
  have D_read_share : Df P w K mg base 4 "read_share" s_read_share ["text"] (liftX c [.f] sp_read_share) := ⟨⟨_, _, F_read_share, ok_read_share F_read_share T D_told D_Share_written D_InvalidText_init, PySem.W.mg_of X G a_read_share, b_read_share⟩⟩
  have E_law_integer : De P w K mg base 1 "_law_integer" ["value"] (fun _ _ _ => (lift c [.f] sp_law_integer)) := ⟨⟨_, _, okE_law_integer F_law_integer T, PySem.W.mg_of X G a_law_integer, k_law_integer, b_law_integer⟩⟩
  have D_law_integer : Df P w K mg base 1 "_law_integer" s_law_integer ["value"] (lift c [.f] sp_law_integer) := ⟨⟨_, _, F_law_integer, ok_law_integer F_law_integer T, PySem.W.mg_of X G a_law_integer, b_law_integer⟩⟩
  have D_law_is : Df P w K mg base 2 "_law_is" s_law_is ["got", "over", "under"] (lift c [.f, .f, .f] sp_law_is) := ⟨⟨_, _, F_law_is, ok_law_is F_law_is T D_law_integer D_law_gcd, PySem.W.mg_of X G a_law_is, b_law_is⟩⟩
  have D_law_told : Df P w K mg base 5 "_law_told" s_law_told ["text"] (lift c [.f] sp_law_told) := ⟨⟨_, _, F_law_told, ok_law_told F_law_told T D_law_read D_read_share E_law_integer D_law_is D_Share_written, PySem.W.mg_of X G a_law_told, b_law_told⟩⟩
  have D_law_body : Df P w K mg base 6 "_law_body" s_law_body ["script"] (lift c [.f] sp_law_body) := ⟨⟨_, _, F_law_body, ok_law_body F_law_body T D_law_start D_law_number D_law_draw D_Share_init D_law_written D_Share_written D_law_string D_law_told D_law_is, PySem.W.mg_of X G a_law_body, b_law_body⟩⟩
  exact ok_law F_law D_law_body
end Q1
open PySem PySem.W PyProof.Rows
set_option maxRecDepth 100000 in
set_option maxHeartbeats 0 in
theorem PySem.Challenge.cw_marktruly_k06_shares_written_holds : PySem.Challenge.rw_marktruly_k06_shares_written.Holds := by
  w_on; o_law; k_head; (case hw => w_witness2)
  k_fill
  refine L2.walk_of (l := PySem.Challenge.rw_marktruly_k06_shares_written) (n := 63) (k := 7) (x := "script") (CX := fun _ => L2.CX0) (sp := fun w => Q1.sp_law _) rfl (by decide) rfl ⟨rfl, by decide, by decide⟩ (fun w h Y => PySem.W.kIn_of Y) ?F (fun _ _ a ns hl _ hS => ⟨a, ns, rfl, hS, hl, fun _ => rfl⟩) (fun _ _ _ _ _ z => z)
  case F =>
    intro w mg fa h KX G hmg
    refine' Q1.all_mk KX G hmg ?a_CS ?a_CI ?a_CX_ ?a_InvalidText_init ?i_InvalidText_init ?l_InvalidText_init ?c_InvalidText_init ?k_InvalidText_init ?a_Share_init ?i_Share_init ?l_Share_init ?c_Share_init ?k_Share_init ?a_Share_written ?i_Share_written ?l_Share_written ?c_Share_written ?k_Share_written ?a_is_digits ?l_is_digits ?c_is_digits ?k_is_digits ?a_told ?l_told ?c_told ?k_told ?a_read_share ?l_read_share ?c_read_share ?k_read_share ?a_law_integer ?l_law_integer ?c_law_integer ?k_law_integer ?a_law_gcd ?l_law_gcd ?c_law_gcd ?k_law_gcd ?a_law_start ?l_law_start ?c_law_start ?k_law_start ?a_law_draw ?l_law_draw ?c_law_draw ?k_law_draw ?a_law_wide ?l_law_wide ?c_law_wide ?k_law_wide ?a_law_is ?l_law_is ?c_law_is ?k_law_is ?a_law_signs ?l_law_signs ?c_law_signs ?k_law_signs ?a_law_text ?l_law_text ?c_law_text ?k_law_text ?a_law_digits ?l_law_digits ?c_law_digits ?k_law_digits ?a_law_read ?l_law_read ?c_law_read ?k_law_read ?a_law_number ?l_law_number ?c_law_number ?k_law_number ?a_law_long ?l_law_long ?c_law_long ?k_law_long ?a_law_written ?l_law_written ?c_law_written ?k_law_written ?a_law_string ?l_law_string ?c_law_string ?k_law_string ?a_law_told ?l_law_told ?c_law_told ?k_law_told ?a_law_body ?l_law_body ?c_law_body ?k_law_body ?a_law ?l_law ?c_law ?k_law ?z_len ?z_abs ?z_int ?z_bool ?z_str ?z_list ?z_tuple ?z_ValueError ?z_max ?z_min ?z_isinstance ?z_range ?z_zip ?z_sum ?z_sorted ?z_enumerate ?z_set ?z_dict ?z_any ?z_all ?z_gcd ?pg_CS ?hd_CS ?po_CS ?sa_CS ?mk_CS ?kc_CS ?nCS_over ?nCS_under ?xL_CI ?xsa_CI ?xex_CI ?xty_CI ?xk_CI ?xCI_number ?xga_CI ?xgg_CI ?xhd_CI ?xcl_CI ?xmr_CI ?kVE_CI ?xss_CI ?xL_CX_ ?xsa_CX_ ?xex_CX_ ?xty_CX_ ?xk_CX_ ?xCX__text ?xCX__at ?xga_CX_ ?xgg_CX_ ?xhd_CX_ ?xcl_CX_ ?xmr_CX_ ?kVE_CX_ ?xss_CX_ ?xti_CX_ ?sf ?iCls ?iGet ?iTak ?iObj ?tyS ?kI ?kT ?kL ?kX ?nfS ?nfI ?nfT ?nfL ?nfX ?ne ?ob ?xga ?xgg ?xhd ?xcl ?xmr ?kVE ?xss
    (case a_CS => k_is)
    (case a_CI => k_is)
    (case a_CX_ => k_is)
    (case a_InvalidText_init => k_is)
    (case i_InvalidText_init => k_is)
    (case l_InvalidText_init => k_is)
    (case c_InvalidText_init => k_is)
    (case k_InvalidText_init => k_is)
    (case a_Share_init => k_is)
    (case i_Share_init => k_is)
    (case l_Share_init => k_is)
    (case c_Share_init => k_is)
    (case k_Share_init => k_is)
    (case a_Share_written => k_is)
    (case i_Share_written => k_is)
    (case l_Share_written => k_is)
    (case c_Share_written => k_is)
    (case k_Share_written => k_is)
    (case a_is_digits => k_is)
    (case l_is_digits => k_is)
    (case c_is_digits => k_is)
    (case k_is_digits => k_is)
    (case a_told => k_is)
    (case l_told => k_is)
    (case c_told => k_is)
    (case k_told => k_is)
    (case a_read_share => k_is)
    (case l_read_share => k_is)
    (case c_read_share => k_is)
    (case k_read_share => k_is)
    (case a_law_integer => k_is)
    (case l_law_integer => k_is)
    (case c_law_integer => k_is)
    (case k_law_integer => k_is)
    (case a_law_gcd => k_is)
    (case l_law_gcd => k_is)
    (case c_law_gcd => k_is)
    (case k_law_gcd => k_is)
    (case a_law_start => k_is)
    (case l_law_start => k_is)
    (case c_law_start => k_is)
    (case k_law_start => k_is)
    (case a_law_draw => k_is)
    (case l_law_draw => k_is)
    (case c_law_draw => k_is)
    (case k_law_draw => k_is)
    (case a_law_wide => k_is)
    (case l_law_wide => k_is)
    (case c_law_wide => k_is)
    (case k_law_wide => k_is)
    (case a_law_is => k_is)
    (case l_law_is => k_is)
    (case c_law_is => k_is)
    (case k_law_is => k_is)
    (case a_law_signs => k_is)
    (case l_law_signs => k_is)
    (case c_law_signs => k_is)
    (case k_law_signs => k_is)
    (case a_law_text => k_is)
    (case l_law_text => k_is)
    (case c_law_text => k_is)
    (case k_law_text => k_is)
    (case a_law_digits => k_is)
    (case l_law_digits => k_is)
    (case c_law_digits => k_is)
    (case k_law_digits => k_is)
    (case a_law_read => k_is)
    (case l_law_read => k_is)
    (case c_law_read => k_is)
    (case k_law_read => k_is)
    (case a_law_number => k_is)
    (case l_law_number => k_is)
    (case c_law_number => k_is)
    (case k_law_number => k_is)
    (case a_law_long => k_is)
    (case l_law_long => k_is)
    (case c_law_long => k_is)
    (case k_law_long => k_is)
    (case a_law_written => k_is)
    (case l_law_written => k_is)
    (case c_law_written => k_is)
    (case k_law_written => k_is)
    (case a_law_string => k_is)
    (case l_law_string => k_is)
    (case c_law_string => k_is)
    (case k_law_string => k_is)
    (case a_law_told => k_is)
    (case l_law_told => k_is)
    (case c_law_told => k_is)
    (case k_law_told => k_is)
    (case a_law_body => k_is)
    (case l_law_body => k_is)
    (case c_law_body => k_is)
    (case k_law_body => k_is)
    (case a_law => k_is)
    (case l_law => k_is)
    (case c_law => k_is)
    (case k_law => k_is)
    (case z_len => k_is)
    (case z_abs => k_is)
    (case z_int => k_is)
    (case z_bool => k_is)
    (case z_str => k_is)
    (case z_list => k_is)
    (case z_tuple => k_is)
    (case z_ValueError => k_is)
    (case z_max => k_is)
    (case z_min => k_is)
    (case z_isinstance => k_is)
    (case z_range => k_is)
    (case z_zip => k_is)
    (case z_sum => k_is)
    (case z_sorted => k_is)
    (case z_enumerate => k_is)
    (case z_set => k_is)
    (case z_dict => k_is)
    (case z_any => k_is)
    (case z_all => k_is)
    (case z_gcd => k_is)
    (case pg_CS => k_is)
    (case hd_CS => k_is)
    (case po_CS => k_is)
    (case sa_CS => k_is)
    (case mk_CS => k_is)
    (case kc_CS => k_is)
    (case nCS_over => k_is)
    (case nCS_under => k_is)
    (case xL_CI => k_is)
    (case xsa_CI => k_is)
    (case xex_CI => k_is)
    (case xty_CI => k_is)
    (case xk_CI => k_is)
    (case xCI_number => k_is)
    (case xga_CI => k_is)
    (case xgg_CI => k_is)
    (case xhd_CI => k_is)
    (case xcl_CI => k_is)
    (case xmr_CI => k_is)
    (case kVE_CI => k_is)
    (case xss_CI => k_is)
    (case xL_CX_ => k_is)
    (case xsa_CX_ => k_is)
    (case xex_CX_ => k_is)
    (case xty_CX_ => k_is)
    (case xk_CX_ => k_is)
    (case xCX__text => k_is)
    (case xCX__at => k_is)
    (case xga_CX_ => k_is)
    (case xgg_CX_ => k_is)
    (case xhd_CX_ => k_is)
    (case xcl_CX_ => k_is)
    (case xmr_CX_ => k_is)
    (case kVE_CX_ => k_is)
    (case xss_CX_ => k_is)
    (case xti_CX_ => k_is)
    (case sf => k_is)
    (case iCls => k_is)
    (case iGet => k_is)
    (case iTak => k_is)
    (case iObj => k_is)
    (case tyS => k_is)
    (case kI => k_is)
    (case kT => k_is)
    (case kL => k_is)
    (case kX => k_is)
    (case nfS => k_is)
    (case nfI => k_is)
    (case nfT => k_is)
    (case nfL => k_is)
    (case nfX => k_is)
    (case ne => k_is)
    (case ob => k_is)
    (case xga => k_is)
    (case xgg => k_is)
    (case xhd => k_is)
    (case xcl => k_is)
    (case xmr => k_is)
    (case kVE => k_is)
    (case xss => k_is)
