import PyProof.Rows.All
import Wide.All
import OpenK.AllK
import Wide.FinOn
import PyProof.InstNe
import HandS.ForMost
import HandS.ForExc
import HandS.Wide
import HandS.WideBits
import HandS.Gcd
import HandS.IsInst
import HandS.NoneIn
import HandS.Zip
import HandS.Defaults
import HandS.MakeKw
import HandS.MakeKwOnly
import HandS.OwnEq
import HandS.ExcInit
import HandS.ExcField
import HandS.ExcIs
import HandS.HotCalls
import KE.KExcIs
import KE.KDictSum
import HandS.Conv
import HandS.Iter
import HandS.DictComp
import KE.GoesMore
import KE.GoesEnum
import HandS.Comp
import HandS.SetBool
import HandS.SetTxt0
import HandS.SetKeys
import PyProof.TupleOfSeq
import KE.GoesZip
import PySem.Challenge.RW_marktruly_k25_keys_by_numbers
set_option Elab.async false
set_option linter.all false
set_option maxRecDepth 100000
set_option maxHeartbeats 4000000
namespace R9M
/-! ### Euclid's steps -/
/-- how often (a, b) is followed by (b, a % b) until b is 0 -/
def euc (a b : Nat) : Nat := if h : b = 0 then 0 else euc b (a % b) + 1
termination_by b
decreasing_by exact Nat.mod_lt _ (Nat.pos_of_ne_zero h)
theorem euc_zero (a : Nat) : euc a 0 = 0 := by rw [euc]; exact dif_pos rfl
theorem euc_step {a b : Nat} (h : b ≠ 0) : euc a b = euc b (a % b) + 1 := by
  rw [euc]; exact dif_neg h
/-- the number of binary digits -/
def bits (n : Nat) : Nat := if n = 0 then 0 else n.log2 + 1
theorem bits_half {m n : Nat} (h : 2 * m < n) : bits m + 1 ≤ bits n := by
  have hn : n ≠ 0 := by omega
  by_cases hm : m = 0
  · subst hm
    unfold bits
    rw [if_pos rfl, if_neg hn]; omega
  · unfold bits
    rw [if_neg hm, if_neg hn]
    have h1 : 2 ^ m.log2 ≤ m := Nat.log2_self_le hm
    have h2 : m.log2 + 1 ≤ n.log2 := (Nat.le_log2 hn).mpr (by rw [Nat.pow_succ]; omega)
    omega
theorem half_mod {b r : Nat} (hr : r ≠ 0) (h : r < b) : 2 * (b % r) < b := by
  have h0 : b % r < r := Nat.mod_lt _ (Nat.pos_of_ne_zero hr)
  by_cases c : 2 * r ≤ b
  · omega
  · have e : b % r = b - r := by
      rw [Nat.mod_eq_sub_mod (Nat.le_of_lt h)]
      exact Nat.mod_eq_of_lt (by omega)
    omega
theorem euc_le : ∀ (n a b : Nat), b ≤ n → euc a b ≤ 2 * bits b + 1 := by
  intro n
  induction n using Nat.strongRecOn with
  | ind n ih =>
    intro a b hb
    by_cases h : b = 0
    · rw [h, euc_zero]; omega
    · rw [euc_step h]
      by_cases h1 : a % b = 0
      · rw [h1, euc_zero]; omega
      · rw [euc_step h1]
        have l1 : a % b < b := Nat.mod_lt _ (Nat.pos_of_ne_zero h)
        have l2 := half_mod h1 l1
        have l3 := bits_half l2
        have l4 := ih (b % (a % b)) (by omega) (a % b) (b % (a % b)) (Nat.le_refl _)
        omega
theorem euc_turns (a b : Nat) : euc a b < 2 * (bits a + bits b) + 4 := by
  have := euc_le b a b (Nat.le_refl _)
  omega
theorem gcd_step (a b : Nat) : Nat.gcd b (a % b) = Nat.gcd a b := by
  rw [Nat.gcd_comm b, ← Nat.gcd_rec, Nat.gcd_comm]
/-! ### lowest terms -/
/-- n / d in lowest terms -/
def Low (n d : Int) : Prop := 0 < d ∧ Nat.gcd n.natAbs d.natAbs = 1
theorem low_of {n d o u : Int} (l : Low n d) (hu : 0 < u) (h : n * u = o * d) : n * (Nat.gcd o.natAbs u.natAbs : Nat) = o ∧ d * (Nat.gcd o.natAbs u.natAbs : Nat) = u := by
  obtain ⟨hd, g⟩ := l
  have e : n.natAbs * u.natAbs = o.natAbs * d.natAbs := by
    rw [← Int.natAbs_mul, ← Int.natAbs_mul, h]
  have dv : d.natAbs ∣ u.natAbs := by
    have c : Nat.Coprime d.natAbs n.natAbs := by
      show Nat.gcd _ _ = 1
      rw [Nat.gcd_comm]; exact g
    exact c.dvd_of_dvd_mul_left ⟨o.natAbs, by rw [e, Nat.mul_comm]⟩
  obtain ⟨k, hk⟩ := dv
  have dp : 0 < d.natAbs := by omega
  have ho : o.natAbs = n.natAbs * k := by
    have : o.natAbs * d.natAbs = (n.natAbs * k) * d.natAbs := by
      rw [← e, hk, Nat.mul_comm d.natAbs k, Nat.mul_assoc]
    exact Nat.eq_of_mul_eq_mul_right dp this
  have gk : Nat.gcd o.natAbs u.natAbs = k := by
    rw [ho, hk, Nat.gcd_mul_right, g, Nat.one_mul]
  rw [gk]
  have hku : u = d * (k : Int) := by
    have h1 : (u.natAbs : Int) = u := Int.natAbs_of_nonneg (Int.le_of_lt hu)
    have h2 : (d.natAbs : Int) = d := Int.natAbs_of_nonneg (Int.le_of_lt hd)
    rw [← h1, hk, Int.natCast_mul, h2]
  refine ⟨?_, hku.symm⟩
  have : (n * (k : Int)) * d = o * d := by
    rw [← h, hku, Int.mul_assoc, Int.mul_comm (k : Int) d]
  exact Int.eq_of_mul_eq_mul_right (by omega) this
/-- what Share's __init__ makes -/
def red (o u : Int) : Int × Int :=
  let g : Int := (Nat.gcd o.natAbs u.natAbs : Nat)
  let d := if u < 0 then -g else g
  (o.fdiv d, u.fdiv d)
theorem red_ok {o u : Int} (hu : u ≠ 0) : Low (red o u).1 (red o u).2 ∧ (red o u).1 * u = o * (red o u).2 ∧ (red o u).1.natAbs ≤ o.natAbs ∧ (red o u).2.natAbs ≤ u.natAbs := by
  have gp : 0 < Nat.gcd o.natAbs u.natAbs := Nat.gcd_pos_of_pos_right _ (by omega)
  obtain ⟨g, hg⟩ : ∃ g, Nat.gcd o.natAbs u.natAbs = g := ⟨_, rfl⟩
  have d1 : g ∣ o.natAbs := hg ▸ Nat.gcd_dvd_left _ _
  have d2 : g ∣ u.natAbs := hg ▸ Nat.gcd_dvd_right _ _
  rw [hg] at gp
  have z1 : (g : Int) ∣ o := Int.ofNat_dvd_left.mpr d1
  have z2 : (g : Int) ∣ u := Int.ofNat_dvd_left.mpr d2
  obtain ⟨a, ha⟩ := z1
  obtain ⟨b, hb⟩ := z2
  have gne : (g : Int) ≠ 0 := by omega
  have cop : Nat.gcd a.natAbs b.natAbs = 1 := by
    have : Nat.gcd o.natAbs u.natAbs = g * Nat.gcd a.natAbs b.natAbs := by
      rw [ha, hb, Int.natAbs_mul, Int.natAbs_mul, Int.natAbs_natCast, Nat.gcd_mul_left]
    rw [hg] at this
    have h2 : g * 1 = g * Nat.gcd a.natAbs b.natAbs := by rw [Nat.mul_one]; exact this
    exact (Nat.eq_of_mul_eq_mul_left gp h2).symm
  have bne : b ≠ 0 := fun z => hu (by rw [hb, z, Int.mul_zero])
  have la : a.natAbs ≤ o.natAbs := by
    rw [ha, Int.natAbs_mul, Int.natAbs_natCast]
    exact Nat.le_mul_of_pos_left _ gp
  have lb : b.natAbs ≤ u.natAbs := by
    rw [hb, Int.natAbs_mul, Int.natAbs_natCast]
    exact Nat.le_mul_of_pos_left _ gp
  by_cases c : u < 0
  · have e1 : red o u = (-a, -b) := by
      unfold red
      rw [hg]
      dsimp only
      rw [if_pos c]
      have x1 : o.fdiv (-(g : Int)) = -a := by
        rw [ha, show (g : Int) * a = (-(g : Int)) * (-a) by rw [Int.neg_mul_neg]]
        exact Int.mul_fdiv_cancel_left _ (by omega)
      have x2 : u.fdiv (-(g : Int)) = -b := by
        rw [hb, show (g : Int) * b = (-(g : Int)) * (-b) by rw [Int.neg_mul_neg]]
        exact Int.mul_fdiv_cancel_left _ (by omega)
      rw [x1, x2]
    rw [e1]
    have bneg : b < 0 := by
      apply Decidable.byContradiction
      intro z
      have z' : 0 ≤ (g : Int) * b := Int.mul_nonneg (by omega) (by omega)
      omega
    refine ⟨⟨by show 0 < -b; omega, by show Nat.gcd (-a).natAbs (-b).natAbs = 1; rw [Int.natAbs_neg, Int.natAbs_neg]; exact cop⟩, ?_, by show (-a).natAbs ≤ _; rw [Int.natAbs_neg]; exact la, by show (-b).natAbs ≤ _; rw [Int.natAbs_neg]; exact lb⟩
    show -a * u = o * -b
    rw [ha, hb, Int.neg_mul, Int.mul_neg, Int.mul_comm (g : Int) a, Int.mul_assoc]
  · have e1 : red o u = (a, b) := by
      unfold red
      rw [hg]
      dsimp only
      rw [if_neg c]
      have x1 : o.fdiv (g : Int) = a := by
        rw [ha]; exact Int.mul_fdiv_cancel_left _ (by omega)
      have x2 : u.fdiv (g : Int) = b := by
        rw [hb]; exact Int.mul_fdiv_cancel_left _ (by omega)
      rw [x1, x2]
    rw [e1]
    have bpos : 0 < b := by
      apply Decidable.byContradiction
      intro z
      have z' : (g : Int) * b ≤ 0 := Int.mul_nonpos_of_nonneg_of_nonpos (by omega) (by omega)
      omega
    refine ⟨⟨bpos, cop⟩, ?_, la, lb⟩
    show a * u = o * b
    rw [ha, hb, Int.mul_comm (g : Int) a, Int.mul_assoc]
end R9M
namespace R9M
/-! ### fractions: n / d stands for o / u -/
theorem can {k a b : Int} (hk : 0 < k) (h : k * a = k * b) : a = b := Int.eq_of_mul_eq_mul_left (by omega) h
theorem fr_add {n d m e o1 u1 o2 u2 n' d' : Int} (hd : 0 < d) (he : 0 < e) (h1 : n * u1 = o1 * d) (h2 : m * u2 = o2 * e) (h : n' * (d * e) = (n * e + m * d) * d') : n' * (u1 * u2) = (o1 * u2 + o2 * u1) * d' := by
  have : (d * e) * (n' * (u1 * u2)) = (d * e) * ((o1 * u2 + o2 * u1) * d') := by grind
  exact can (Int.mul_pos hd he) this
theorem fr_sub {n d m e o1 u1 o2 u2 n' d' : Int} (hd : 0 < d) (he : 0 < e) (h1 : n * u1 = o1 * d) (h2 : m * u2 = o2 * e) (h : n' * (d * e) = (n * e - m * d) * d') : n' * (u1 * u2) = (o1 * u2 - o2 * u1) * d' := by
  have : (d * e) * (n' * (u1 * u2)) = (d * e) * ((o1 * u2 - o2 * u1) * d') := by grind
  exact can (Int.mul_pos hd he) this
theorem fr_mul {n d m e o1 u1 o2 u2 n' d' : Int} (hd : 0 < d) (he : 0 < e) (h1 : n * u1 = o1 * d) (h2 : m * u2 = o2 * e) (h : n' * (d * e) = (n * m) * d') : n' * (u1 * u2) = (o1 * o2) * d' := by
  have : (d * e) * (n' * (u1 * u2)) = (d * e) * ((o1 * o2) * d') := by grind
  exact can (Int.mul_pos hd he) this
/-- the sign put above -/
def sgn (x y : Int) : Int × Int := if y < 0 then (0 - x, 0 - y) else (x, y)
theorem sgn_pos {x y : Int} (h : y ≠ 0) : 0 < (sgn x y).2 := by
  unfold sgn
  split
  · show 0 < 0 - y
    omega
  · show 0 < y
    omega
theorem sgn_eq {x y a b : Int} (h : a * y = x * b) : a * (sgn x y).2 = (sgn x y).1 * b := by
  unfold sgn
  split
  · show a * (0 - y) = (0 - x) * b
    grind
  · exact h
theorem sgn_abs (x y : Int) : (sgn x y).1.natAbs = x.natAbs ∧ (sgn x y).2.natAbs = y.natAbs := by
  unfold sgn
  split
  · exact ⟨by show (0 - x).natAbs = _; omega, by show (0 - y).natAbs = _; omega⟩
  · exact ⟨rfl, rfl⟩
theorem fr_by {n d m e o1 u1 o2 u2 n' d' : Int} (hd : 0 < d) (he : 0 < e) (h1 : n * u1 = o1 * d) (h2 : m * u2 = o2 * e) (h : n' * (d * m) = (n * e) * d') : n' * (sgn (o1 * u2) (u1 * o2)).2 = (sgn (o1 * u2) (u1 * o2)).1 * d' := by
  refine sgn_eq ?_
  have : (d * e) * (n' * (u1 * o2)) = (d * e) * ((o1 * u2) * d') := by grind
  exact can (Int.mul_pos hd he) this
theorem fr_zero {m e o2 u2 : Int} (he : 0 < e) (hu : 0 < u2) (h2 : m * u2 = o2 * e) : m = 0 ↔ o2 = 0 := by
  constructor
  · intro h
    rw [h, Int.zero_mul] at h2
    rcases Int.mul_eq_zero.mp h2.symm with z | z
    · exact z
    · omega
  · intro h
    rw [h, Int.zero_mul] at h2
    rcases Int.mul_eq_zero.mp h2 with z | z
    · exact z
    · omega
theorem fr_lt {n d m e o1 u1 o2 u2 : Int} (hd : 0 < d) (he : 0 < e) (p1 : 0 < u1) (p2 : 0 < u2) (h1 : n * u1 = o1 * d) (h2 : m * u2 = o2 * e) : n * e < m * d ↔ o1 * u2 < o2 * u1 := by
  have e1 : (u1 * u2) * (n * e) = (d * e) * (o1 * u2) := by grind
  have e2 : (u1 * u2) * (m * d) = (d * e) * (o2 * u1) := by grind
  have q1 : 0 < u1 * u2 := Int.mul_pos p1 p2
  have q2 : 0 < d * e := Int.mul_pos hd he
  constructor
  · intro h
    have := Int.mul_lt_mul_of_pos_left h q1
    rw [e1, e2] at this
    exact Int.lt_of_mul_lt_mul_left this (Int.le_of_lt q2)
  · intro h
    have := Int.mul_lt_mul_of_pos_left h q2
    rw [← e1, ← e2] at this
    exact Int.lt_of_mul_lt_mul_left this (Int.le_of_lt q1)
theorem fr_eq {n d m e o1 u1 o2 u2 : Int} (l1 : Low n d) (l2 : Low m e) (p1 : 0 < u1) (p2 : 0 < u2) (h1 : n * u1 = o1 * d) (h2 : m * u2 = o2 * e) : (n = m ∧ d = e) ↔ o1 * u2 = o2 * u1 := by
  have hd := l1.1
  have he := l2.1
  have e1 : (u1 * u2) * (n * e) = (d * e) * (o1 * u2) := by grind
  have e2 : (u1 * u2) * (m * d) = (d * e) * (o2 * u1) := by grind
  have q1 : 0 < u1 * u2 := Int.mul_pos p1 p2
  have q2 : 0 < d * e := Int.mul_pos hd he
  constructor
  · rintro ⟨a, b⟩
    refine can q2 ?_
    rw [← e1, ← e2, a, b]
  · intro h
    have x : n * e = m * d := by
      refine can q1 ?_
      rw [e1, e2, h]
    obtain ⟨y1, y2⟩ := low_of l1 he x
    rw [l2.2] at y1 y2
    omega
theorem low_le {n d o u : Int} (l : Low n d) (hu : 0 < u) (h : n * u = o * d) : n.natAbs ≤ o.natAbs ∧ d.natAbs ≤ u.natAbs := by
  obtain ⟨y1, y2⟩ := low_of l hu h
  have gp : 0 < Nat.gcd o.natAbs u.natAbs := Nat.gcd_pos_of_pos_right _ (by omega)
  generalize Nat.gcd o.natAbs u.natAbs = g at *
  constructor
  · rw [← y1, Int.natAbs_mul, Int.natAbs_natCast]
    exact Nat.le_mul_of_pos_right _ gp
  · rw [← y2, Int.natAbs_mul, Int.natAbs_natCast]
    exact Nat.le_mul_of_pos_right _ gp
end R9M
namespace R9M
open PySem PyProof.Rows
/-! ### texts in order: one row alone -/
def leS (a b : Str) : Prop := a.cps.toList ≤ b.cps.toList
theorem leS_anti {a b : Str} (h : leS a b) (g : leS b a) : a = b := by
  have e : a.cps.toList = b.cps.toList := List.le_antisymm h g
  cases a; cases b
  congr 1
  exact Array.toList_inj.mp e
theorem rise_pair : ∀ (l : List Str) (p : Str), risingS p l = true → (p :: l).Pairwise leS
  | [], p, _ => List.pairwise_singleton _ _
  | x :: r, p, h => by
    have h' : (!Spec.ltCps x.cps.toList p.cps.toList && risingS x r) = true := h
    obtain ⟨h1, h2⟩ := Bool.and_eq_true_iff.mp h'
    have ih := rise_pair r x h2
    have px : leS p x := by
      rw [ltCps_eq, Bool.not_eq_true', decide_eq_false_iff_not] at h1
      exact List.not_lt.mp h1
    refine List.pairwise_cons.mpr ⟨fun b hb => ?_, ih⟩
    rcases List.mem_cons.mp hb with e | e
    · rw [e]; exact px
    · exact List.le_trans px ((List.pairwise_cons.mp ih).1 b e)
theorem sorted_pair : ∀ (l : List Str), sortedS l = true → l.Pairwise leS
  | [], _ => List.Pairwise.nil
  | x :: r, h => rise_pair r x h
theorem sorted_one {a b : List Str} (h : sortedS a = true) (g : sortedS b = true) (p : a.Perm b) : a = b :=
  List.Perm.eq_of_pairwise (fun _ _ _ _ x y => leS_anti x y) (sorted_pair a h) (sorted_pair b g) p
/-- a sum of weights -/
theorem sum_le {B : Int} : ∀ (ws : List Int), (∀ w ∈ ws, 0 ≤ w ∧ w ≤ B) → 0 ≤ ws.sum ∧ ws.sum ≤ ws.length * B
  | [], _ => by simp
  | w :: r, h => by
    obtain ⟨h1, h2⟩ := h w List.mem_cons_self
    obtain ⟨g1, g2⟩ := sum_le r fun x hx => h x (List.mem_cons_of_mem _ hx)
    rw [List.sum_cons, List.length_cons]
    refine ⟨by omega, ?_⟩
    have : ((r.length + 1 : Nat) : Int) * B = r.length * B + B := by
      rw [Int.natCast_add, Int.add_mul]
      omega
    omega
end R9M
namespace R9
open PySem PySem.Spec PyProof.Rows L2
/-! ### whole numbers -/
def CDivX (_ j : Int) : Prop := j ≠ 0 ∧ j.natAbs.log2 < 9000
section
variable {X : Cx}
theorem op_fdivX : OpR X (binaryOp .FloorDiv) (rI CDivX fun i j => .int (i.fdiv j)) := opI fun _ _ _ _ _ _ _ hc q => floordiv_int hc.1 q (.inl (PyProof.noPylong_of_log2 hc.2))
end
/-! ### an own operator, an own == -/
section
variable {X : Cx} {CX : CXT} {C f : Addr} {fd : FuncData} {ps : List Str} {sp : Sp} {E : XK} {n : Nat}
def rOwn (C : Addr) (sp : Sp) (E : XK) : R2 := fun x y H Q => ∃ a b dx dy fs gs, x = .ref a ∧ y = .ref b ∧ H a = some (.ins C dx fs) ∧ H b = some (.ins C dy gs) ∧ sp [.ref a, .ref b] H Q E
theorem not_ni {v : V} {u : Value} (r : RelV v u) {P : Value → Shared → Prop} {s : Shared} (h : P u s) : PySem.W.CmpBack P u s := by
  cases v with
  | non => cases (show u = Value.none from r); exact h
  | bl b => cases (show u = Value.bool b from r); exact h
  | int i => obtain ⟨t, e⟩ := (show ∃ t, u = Value.int i t from r); cases e; exact h
  | str x => obtain ⟨t, e⟩ := (show ∃ t, u = Value.str x t from r); cases e; exact h
  | byt b => obtain ⟨t, e⟩ := (show ∃ t, u = Value.bytes b t from r); cases e; exact h
  | flt b => obtain ⟨t, e⟩ := (show ∃ t, u = Value.float b t from r); cases e; exact h
  | ref a => cases (show u = Value.ref a from r); exact h
  | ty m => cases (show u = Value.type m from r); exact h
theorem op_own {op : Operator} (F : FnOk X.prog X.w X.K X.mg X.base CX n f fd ps sp) (hr : Room n X.A) (sf : PySem.W.selfFirst X.K C = true)
    (hs : PySem.W.findIn X.K (.ref C) (PySem.dunder op.info.2) = some (some (.ref f))) (hf : PySem.W.isFn X.K (.ref f) = true) (hb : Binds X.K fd ps []) (hx : Passes CX X E) : OpR X (binaryOp op) (rOwn C sp E) := by
  intro pins s σ H x y u v Q I rx ry h
  obtain ⟨a, b, dx, dy, fs, gs, rfl, rfl, ha, hb', hq⟩ := h
  cases rx
  cases ry
  obtain ⟨mA, J, _⟩ := ins_get I.hok ha
  obtain ⟨mB, J', _⟩ := ins_get I.hok hb'
  obtain ⟨od, J, _⟩ := J.look
  obtain ⟨od', J', _⟩ := J'.look
  obtain ⟨m, hF⟩ := I.fr
  refine PySem.W.binop_K hF I.ok.mod.kin J J'.type sf hs hf ?_
  refine wpAny_mono (run_fn (us := [.ref a, .ref b]) (vs := [.ref a, .ref b]) F hr hb .nil hx I (.cons rfl (.cons rfl .nil)) hq) (fun r s' z => ?_) fun _ _ z => z
  obtain ⟨v, H', I', rv, q⟩ := z
  exact not_ni rv ⟨v, H', I', rv, q⟩
def rOwnEq (K : PySem.W.Frag) (C : Addr) (sp : Sp) (E : XK) : R2 := fun x y H Q => ∃ a dx fs t, x = .ref a ∧ H a = some (.ins C dx fs) ∧ TyX K H y t ∧ PySem.W.notFirst K C t = true ∧ sp [.ref a, y] H Q E
theorem op_ownEq (F : FnOk X.prog X.w X.K X.mg X.base CX n f fd ps sp) (hr : Room n X.A)
    (hs : PySem.W.findIn X.K (.ref C) "__eq__" = some (some (.ref f))) (hf : PySem.W.isFn X.K (.ref f) = true) (hb : Binds X.K fd ps []) (hx : Passes CX X E) : OpR X (compareOp .Eq) (rOwnEq X.K C sp E) := by
  intro pins s σ H x y u v Q I rx ry h
  obtain ⟨a, dx, fs, t, rfl, ha, ty, nf, hq⟩ := h
  cases rx
  obtain ⟨mA, J, _⟩ := ins_get I.hok ha
  obtain ⟨od, J, _⟩ := J.look
  obtain ⟨m, hF⟩ := I.fr
  obtain ⟨P, Z, p, _⟩ := kit_of I ry ty
  show wpAny (model X.prog X.w) X.A (richCompare .Eq (.ref a) v) (EP X pins σ Q) X.xe s
  refine PySem.W.cmp_K (op := .Eq) (tb := t) hr.units0 hF I.ok.mod.kin J (Z.ty _ _ I.kIn p) nf hs hf ?_
  refine wpAny_mono (run_fn (us := [.ref a, v]) (vs := [.ref a, y]) F hr hb .nil hx I (.cons rfl (.cons ry .nil)) hq) (fun r s' z => ?_) fun _ _ z => z
  obtain ⟨v, H', I', rv, q⟩ := z
  exact not_ni rv ⟨v, H', I', rv, q⟩
end
end R9
namespace R9
open PySem PySem.Spec PyProof.Rows L2
/-! ### != by an own ==, no own != -/
theorem ne_bind (self : Value) : bindSpecial (.builtin "object.__ne__") self = pure (.builtin "object.__ne__", [self]) := by first | rfl | kernel_rfl
section
open PySem.W
variable {prog : Program} {w : World} {A A₀ : Around} {E : Value → Shared → Prop} {s : Shared} {K : Frag} {x C L f : Addr} {h₀ : Heap} {m : Str → Option Value} {ox : Obj} {od : Option Obj} {name : Str} {b tb : Value}
theorem ifBound_B {M : Model} {args : List Value} {id : String} {Q : Option Value → Shared → Prop} (X : K.In s.heap) (I : InstAt s.heap x ox C od) (hs : findIn K (.ref C) name = some (some (.builtin id))) (hb : ∀ self, bindSpecial (.builtin id) self = pure (.builtin id, [self]))
    (h : wpAny M A (call (.builtin id) (.ref x :: args)) (fun v => Q (some v)) E s) : wpAny M A (callSpecialIfBound? (.ref x) name args) Q E s := by
  simp only [callSpecialIfBound?, bindSpecialIfBound?]
  refine wpAny_holding (wpAny_bind (wpAny_bind (wpAny_bind (I.type.here ((looks_findIn X hs).here ?_)))))
  refine wpAny_bind (wpAny_askSetting (wpAny_ite ?_))
  have fin : wpAny M A (call (.builtin id) ([.ref x] ++ args) >>= fun v => pure (some v)) Q E s := wpAny_bind (wpAny_mono h (fun v s' h' => wpAny_pure h') fun _ _ h' => h')
  have B : Looks M s.heap (bindSpecial (.builtin id) (.ref x)) (.builtin id, [.ref x]) := Looks.of_pure (hb _)
  split
  · exact wpAny_bind (B.here (wpAny_pure (by exact fin)))
  · exact wpAny_tryCatch (wpAny_bind (B.here (wpAny_pure (by exact fin))))
theorem ne_entry {Q : Fin → Shared → Prop} {v : Value} (hu : A.units < cLine) (X : K.In s.heap) (I : InstAt s.heap x ox C od) (hs : findIn K (.ref C) "__eq__" = some (some (.ref f))) (hf : isFn K (.ref f) = true)
    (h : wpAny (model prog w) A (call (.ref f) [.ref x, v]) (fun r s' => ∃ b, r = .bool b ∧ Q (.done (.ret (.bool (!b)))) s') E s) :
    wpAny (model prog w) A (Builtin.«object.__ne__» ⟨[.ref x, v], []⟩) Q E s := by
  unfold Builtin.«object.__ne__»
  refine wpAny_bind (wpAny_of_eq (a := ((Value.ref x : Value), [v])) (by first | rfl | (simp only [slotArgs]; rfl)) ?_)
  refine wpAny_bind (wpAny_cRoomFor hu ?_)
  refine wpAny_bind (ifBound_K X I hs hf (wpAny_mono h (fun r s' hr => ?_) fun _ _ e => e))
  obtain ⟨b, rfl, hq⟩ := hr
  exact wpAny_bind (wpAny_truthy_bool (wpAny_pure hq))
theorem ne_K {Q : Value → Shared → Prop} {v : Value} (hu : A.units + 1 < cLine) (X : K.In s.heap) (I : InstAt s.heap x ox C od) (hb : Looks (model prog w) s.heap (typeOf v) tb) (hn : notFirst K C tb = true)
    (hne : findIn K (.ref C) "__ne__" = some (some (.builtin "object.__ne__"))) (hs : findIn K (.ref C) "__eq__" = some (some (.ref f))) (hf : isFn K (.ref f) = true) (hob : subIn K (.ref C) (.type "object") = some true)
    (h : wpAny (model prog w) A.in1 (call (.ref f) [.ref x, v]) (fun r s' => ∃ b, r = .bool b ∧ Q (.bool (!b)) s') E s) : wpAny (model prog w) A (richCompare .NotEq (.ref x) v) Q E s := by
  have sub : Looks (model prog w) s.heap (isInstance (.ref x) (.type "object")) true := I.type.andThen (looks_subIn X hob)
  have one : wpAny (model prog w) A (tryCompare (.ref x) "__ne__" v) (fun r s' => ∃ v, r = some v ∧ Q v s') E s := by
    unfold tryCompare
    refine wpAny_bind (ifBound_B X I hne ne_bind (wpAny_call (codeAny_call_builtin (by decide +kernel) F.cmpEntry_ne (check_slot F.cmpKind_ne F.cmpSplit_ne sub (F.cmpArgs_ne _ _) (ne_entry (A := A.in1) (Nat.lt_of_le_of_lt (Nat.le_refl _) (show A.in1.units < cLine from hu)) X I hs hf (wpAny_mono h (fun r s' hr => ?_) fun _ _ e => e))))))
    obtain ⟨b, rfl, hq⟩ := hr
    exact ⟨b, rfl, wpAny_pure ⟨_, rfl, hq⟩⟩
  unfold richCompare
  simp only [oneThing_ref]
  refine wpAny_holding (wpAny_bind (wpAny_cRoomFor (Nat.lt_of_succ_lt hu) ?_))
  rw [cmpInfo_NotEq]
  dsimp only
  refine wpAny_bind (I.type.here (wpAny_bind (hb.here ?_)))
  split
  · rename_i q
    have e : subIn K tb (.ref C) = some false := by
      rcases Bool.or_eq_true_iff.mp hn with e | e
      · rw [beq_iff_eq.mp e] at q; simp at q
      · exact beq_iff_eq.mp e
    refine wpAny_bind ((looks_subIn X e).here ?_)
    simp only [Bool.false_eq_true, if_false]
    refine wpAny_bind (wpAny_mono one (fun r s' z => ?_) fun _ _ e => e)
    obtain ⟨v, rfl, hq⟩ := z
    exact wpAny_pure hq
  · refine wpAny_bind (wpAny_pure ?_)
    simp only [Bool.false_eq_true, if_false]
    refine wpAny_bind (wpAny_mono one (fun r s' z => ?_) fun _ _ e => e)
    obtain ⟨v, rfl, hq⟩ := z
    exact wpAny_pure hq
end
end R9
namespace R9
open PySem PySem.Spec PyProof.Rows L2
section
variable {X : Cx} {CX : CXT} {C f : Addr} {fd : FuncData} {ps : List Str} {sp : Sp} {E : XK} {n : Nat}
def rOwnNe (K : PySem.W.Frag) (C : Addr) (sp : Sp) (E : XK) : R2 := fun x y H Q => ∃ a dx fs t, x = .ref a ∧ H a = some (.ins C dx fs) ∧ TyX K H y t ∧ PySem.W.notFirst K C t = true ∧ sp [.ref a, y] H (fun v H' => ∃ b, v = .bl b ∧ Q (.bl (!b)) H') E
theorem op_ownNe (F : FnOk X.prog X.w X.K X.mg X.base CX n f fd ps sp) (hr : Room (n + 1) X.A)
    (hs : PySem.W.findIn X.K (.ref C) "__eq__" = some (some (.ref f))) (hf : PySem.W.isFn X.K (.ref f) = true) (hb : Binds X.K fd ps []) (hx : Passes CX X E)
    (hne : PySem.W.findIn X.K (.ref C) "__ne__" = some (some (.builtin "object.__ne__"))) (hob : PySem.W.subIn X.K (.ref C) (.type "object") = some true) : OpR X (compareOp .NotEq) (rOwnNe X.K C sp E) := by
  intro pins s σ H x y u v Q I rx ry h
  obtain ⟨a, dx, fs, t, rfl, ha, ty, nf, hsp⟩ := h
  cases rx
  obtain ⟨mA, J, _⟩ := ins_get I.hok ha
  obtain ⟨od, J, _⟩ := J.look
  obtain ⟨P, Z, p, _⟩ := kit_of I ry ty
  show wpAny (model X.prog X.w) X.A (richCompare .NotEq (.ref a) v) (EP X pins σ Q) X.xe s
  have hu : X.A.units + 1 < cLine := hu_of hr
  refine ne_K (tb := t) hu I.kIn J (Z.ty _ _ I.kIn p) nf hne hs hf hob ?_
  have e0 : Env0 X.prog X.w X.K X.mg X.base X.A.in1 X.stack s H := by
    have e := I.env0
    exact ⟨e.frames, e.mod, e.bs, e.bsz, e.funs, e.frf, e.hok, e.bare⟩
  have hl := F.len _ _ _ _ hsp
  have r2 : Vals [V.ref a, y] [Value.ref a, v] := .cons rfl (.cons ry .nil)
  refine wpAny_call (codeAny_mono (F.run X.A.in1 X.stack s H ⟨[.ref a, v], []⟩ [.ref a, v] [.ref a, y] _ E hr.in1 e0 (by
    have := hb s [.ref a, v] I.kIn (by simpa using hl)
    simpa using this) r2 hsp) fun r s' hq => ?_)
  cases r with
  | error e => exact hx pins σ H s e s' I hq
  | ok fl =>
    cases fl with
    | ret w =>
      obtain ⟨z, H', I', rz, b, ez, q⟩ := I.after hq
      subst ez
      cases rz
      exact ⟨b, rfl, ⟨.bl (!b), H', I', rfl, q⟩⟩
    | next => exact False.elim hq
    | brk => exact False.elim hq
    | cont => exact False.elim hq
end
/-! ### defs, methods, classes, packed -/
/-- how the arguments come to the parameters, for every way the text's own defs are called -/
abbrev fo (x qual : Str) (st : Stmt) (kV doc pm : Value) (an : Option Addr) (cdv ct : Value) : FuncData := PySem.W.fnOf x qual (defArgs st) (defBody st) (defScope st) .none kV doc pm an cdv ct
structure Df (P : Program) (w : World) (K : PySem.W.Frag) (mg : Str → Option Value) (base : Heap) (k : Nat) (x : Str) (st : Stmt) (ps : List Str) (sp : Sp) : Prop where
  ex : ∃ (f : Addr) (fd : FuncData), Fun K x x st f fd ∧ FnOk P w K mg base (L2.CX P w) k f fd ps sp ∧ mg x = some (.ref f) ∧ Binds K fd ps []
structure Dm (P : Program) (w : World) (K : PySem.W.Frag) (mg : Str → Option Value) (base : Heap) (k : Nat) (C : Addr) (m qual : Str) (st : Stmt) (ps : List Str) (sp : Sp) : Prop where
  ex : ∃ (f : Addr) (fd : FuncData), Fun K m qual st f fd ∧ FnOk P w K mg base (L2.CX P w) k f fd ps sp ∧ Cls K C ∧ Meth K C m f ∧ Binds K fd ps []
structure Dk (P : Program) (w : World) (K : PySem.W.Frag) (mg : Str → Option Value) (base : Heap) (k : Nat) (C : Addr) (x qual : Str) (st : Stmt) (ps : List Str) (sp : Sp) : Prop where
  ex : ∃ (f : Addr) (fd : FuncData), Fun K "__init__" qual st f fd ∧ FnOk P w K mg base (L2.CX P w) k f fd ps sp ∧ Mk K C f ∧ mg x = some (.ref C) ∧ Binds K fd ps []
section
variable {X : Cx} {j k : Nat} {x m qual : Str} {st : Stmt} {ps : List Str} {sp : Sp} {C : Addr} {p pos apos : Pos} {e o : Expr} {es : List Expr} {kws : List Keyword} {t tk : TA} {ta : TE} {ks : List Str} {E : XK}
theorem pe_d (D : Df X.prog X.w X.K X.mg X.base k x st ps sp) (hr : Room j X.A) (hk : k ≤ j) (hg : Gl X x) (hx : Passes (L2.CX X.prog X.w) X E) (ha : PA X (e :: es) t)
    (hdb : (x == ("__debug__" : Str)) = false := by decide) (he : starEach (e :: es) X.env = (false, eval e X.env) :: starEach es X.env := by rfl) (hpl : (backTo pos (starEach es X.env)).any (·.1) = false := by rfl) :
    PE X (.Call (.Name x p) (e :: es) [] pos) (tCall sp [] E t) := by
  obtain ⟨f, fd, F, G, hm, b⟩ := D.ex
  exact pe_call G (hr.mono hk) hg hm F.kp b .nil hx ha hdb he hpl
theorem pe_d0 (D : Df X.prog X.w X.K X.mg X.base k x st ps sp) (hr : Room j X.A) (hk : k ≤ j) (hg : Gl X x) (hx : Passes (L2.CX X.prog X.w) X E)
    (hdb : (x == ("__debug__" : Str)) = false := by decide) :
    PE X (.Call (.Name x p) [] [] pos) (tCall sp [] E tNil) := by
  obtain ⟨f, fd, F, G, hm, b⟩ := D.ex
  exact pe_call0 G (hr.mono hk) hg hm F.kp b .nil hx hdb
theorem pe_m {pl : Sem Bool} (D : Dm X.prog X.w X.K X.mg X.base k C m qual st ps sp) (hr : Room j X.A) (hk : k ≤ j) (hx : Passes (L2.CX X.prog X.w) X E) (he : PE X o ta) (ha : PA X (e :: es) t)
    (hst : starEach (e :: es) X.env = (false, eval e X.env) :: starEach es X.env := by rfl) (hpl : (backTo pos (starEach es X.env)).any (·.1) = false := by rfl)
    (ht : eval (.Call (.Attribute o m apos) (e :: es) [] pos) X.env = (do
      let ov ← eval o X.env
      standAt apos.atName
      let (f, first) ← holding [ov] (getMethod ov m pl)
      callWith pos f first (backTo pos (starEach (e :: es) X.env)) (backToKw pos (keywordEach [] X.env))) := by rfl) :
    PE X (.Call (.Attribute o m apos) (e :: es) [] pos) (tMeth C m sp [] E ta t) := by
  obtain ⟨f, fd, F, G, hc, hm, b⟩ := D.ex
  exact pe_meth (pl := pl) he hc hm G (hr.mono hk) b .nil hx ha hst hpl ht
theorem pe_m0 {pl : Sem Bool} (D : Dm X.prog X.w X.K X.mg X.base k C m qual st ps sp) (hr : Room j X.A) (hk : k ≤ j) (hx : Passes (L2.CX X.prog X.w) X E) (he : PE X o ta)
    (ht : eval (.Call (.Attribute o m apos) [] [] pos) X.env = (do
      let ov ← eval o X.env
      standAt apos.atName
      let (f, first) ← holding [ov] (getMethod ov m pl)
      callWith pos f first (backTo pos (starEach [] X.env)) (backToKw pos (keywordEach [] X.env))) := by rfl) :
    PE X (.Call (.Attribute o m apos) [] [] pos) (tMeth C m sp [] E ta tNil) := by
  obtain ⟨f, fd, F, G, hc, hm, b⟩ := D.ex
  exact pe_meth0 (pl := pl) he hc hm G (hr.mono hk) b .nil hx ht
theorem pe_k (D : Dk X.prog X.w X.K X.mg X.base k C x qual st ps sp) (hr : Room j X.A) (hk : k + 1 ≤ j) (hg : Gl X x) (hx : Passes (L2.CX X.prog X.w) X E) (ha : PA X (e :: es) t)
    (hdb : (x == ("__debug__" : Str)) = false := by decide) (he : starEach (e :: es) X.env = (false, eval e X.env) :: starEach es X.env := by rfl) (hpl : (backTo pos (starEach es X.env)).any (·.1) = false := by rfl) :
    PE X (.Call (.Name x p) (e :: es) [] pos) (tMake C sp [] E t) := by
  obtain ⟨f, fd, F, G, M, hm, b⟩ := D.ex
  exact pe_make M G (hr.mono hk) hg hm b .nil hx ha hdb he hpl
/-- keywords: the parameters' order of what the call gives -/
theorem kb_of {f : Addr} {fd : FuncData} {n : Nat} {g : {α : Type} → List α → List α → List α} (F : Fun X.K x qual st f fd)
    (hrel : ∀ {vs zs : List V} {us ws : List Value}, Vals vs us → Vals zs ws → Vals (g vs zs) (g us ws))
    (h : ∀ (kV doc pm : Value) (an : Option Addr) (cdv ct : Value) (us ws : List Value), us.length = n → ws.length = ks.length → bindArgs (fo x qual st kV doc pm an cdv ct) ⟨us, ks.zip ws⟩ = pure (ps.zip (g us ws))) : KBn X.K fd ps n ks (fun us ws => g us ws) (fun vs zs => g vs zs) := by
  obtain ⟨oc, od, kV, doc, pm, an, cdv, ct, osl, rfl, lk, hcd⟩ := F.ex
  exact ⟨fun s us ws _ l1 l2 => .of_eq (h kV doc pm an cdv ct us ws l1 l2), hrel⟩
theorem pe_dK0 {g : {α : Type} → List α → List α → List α} (D : Df X.prog X.w X.K X.mg X.base k x st ps sp) (hr : Room j X.A) (hk : k ≤ j) (hg : Gl X x) (hx : Passes (L2.CX X.prog X.w) X E)
    (hrel : ∀ {vs zs : List V} {us ws : List Value}, Vals vs us → Vals zs ws → Vals (g vs zs) (g us ws))
    (hb : ∀ (kV doc pm : Value) (an : Option Addr) (cdv ct : Value) (us ws : List Value), us.length = 0 → ws.length = ks.length → bindArgs (fo x x st kV doc pm an cdv ct) ⟨us, ks.zip ws⟩ = pure (ps.zip (g us ws)))
    (hkw : PK X kws tk) (hall : (backToKw pos (keywordEach kws X.env)).all (·.1.isSome) = true := by rfl) (hks : (backToKw pos (keywordEach kws X.env)).filterMap (·.1) = ks := by rfl)
    (hdb : (x == ("__debug__" : Str)) = false := by decide)
    (hpl : ((backTo pos (starEach [] X.env)).any (·.1) || (backToKw pos (keywordEach kws X.env)).any (·.1.isNone)) = false := by rfl) :
    PE X (.Call (.Name x p) [] kws pos) (tCallN 0 ks.length sp (fun vs zs => g vs zs) E tNil tk) := by
  obtain ⟨f, fd, F, G, hm, b⟩ := D.ex
  refine ⟨fun pins s σ H Q I h => ?_⟩
  refine wpAny_Call_Name_kw (ld_glob I hg hm ?_ hdb)
  refine PySem.W.callWith_KW0 (h₀ := X.base) I.ok.mod.kin F.kp hall ?_ hpl
  refine thn (hkw.run pos pins s σ H _ I h) fun ws s2 ⟨zs, H2, I2, rz, l1, l2, q2⟩ => ⟨I2.kIn, ?_⟩
  rw [hks]
  exact run_fnN (us := []) (vs := []) G (hr.mono hk) (kb_of F hrel hb) hx I2 .nil rz rfl l2 q2
theorem pe_dK {n : Nat} {g : {α : Type} → List α → List α → List α} (D : Df X.prog X.w X.K X.mg X.base k x st ps sp) (hr : Room j X.A) (hk : k ≤ j) (hg : Gl X x) (hx : Passes (L2.CX X.prog X.w) X E)
    (hrel : ∀ {vs zs : List V} {us ws : List Value}, Vals vs us → Vals zs ws → Vals (g vs zs) (g us ws))
    (hb : ∀ (kV doc pm : Value) (an : Option Addr) (cdv ct : Value) (us ws : List Value), us.length = n → ws.length = ks.length → bindArgs (fo x x st kV doc pm an cdv ct) ⟨us, ks.zip ws⟩ = pure (ps.zip (g us ws)))
    (ha : PA X (e :: es) t) (hkw : PK X kws tk) (hall : (backToKw pos (keywordEach kws X.env)).all (·.1.isSome) = true := by rfl) (hks : (backToKw pos (keywordEach kws X.env)).filterMap (·.1) = ks := by rfl)
    (hdb : (x == ("__debug__" : Str)) = false := by decide) (he : starEach (e :: es) X.env = (false, eval e X.env) :: starEach es X.env := by rfl)
    (hpl : ((backTo pos (starEach (e :: es) X.env)).any (·.1) || (backToKw pos (keywordEach kws X.env)).any (·.1.isNone)) = false := by rfl) :
    PE X (.Call (.Name x p) (e :: es) kws pos) (tCallN n ks.length sp (fun vs zs => g vs zs) E t tk) := by
  obtain ⟨f, fd, F, G, hm, b⟩ := D.ex
  exact pe_callN G (hr.mono hk) hg hm F.kp (kb_of F hrel hb) hx ha hkw hall hks hdb he hpl
theorem pe_kK0 {g : {α : Type} → List α → List α → List α} (D : Dk X.prog X.w X.K X.mg X.base k C x qual st ps sp) (hr : Room j X.A) (hk : k + 1 ≤ j) (hg : Gl X x) (hx : Passes (L2.CX X.prog X.w) X E)
    (hrel : ∀ {vs zs : List V} {us ws : List Value}, Vals vs us → Vals zs ws → Vals (g vs zs) (g us ws))
    (hb : ∀ (kV doc pm : Value) (an : Option Addr) (cdv ct : Value) (us ws : List Value), us.length = 1 → ws.length = ks.length → bindArgs (fo "__init__" qual st kV doc pm an cdv ct) ⟨us, ks.zip ws⟩ = pure (ps.zip (g us ws)))
    (hkw : PK X kws tk) (hall : (backToKw pos (keywordEach kws X.env)).all (·.1.isSome) = true := by rfl) (hks : (backToKw pos (keywordEach kws X.env)).filterMap (·.1) = ks := by rfl)
    (hdb : (x == ("__debug__" : Str)) = false := by decide)
    (hpl : ((backTo pos (starEach [] X.env)).any (·.1) || (backToKw pos (keywordEach kws X.env)).any (·.1.isNone)) = false := by rfl) :
    PE X (.Call (.Name x p) [] kws pos) (tMakeK C 0 ks.length sp (fun vs zs => g vs zs) E tNil tk) := by
  obtain ⟨f, fd, F, G, M, hm, b⟩ := D.ex
  exact pe_makeK0 M G (hr.mono hk) hg hm (kb_of F hrel hb) hx hkw hall hks hdb hpl
/-- o.m(k = v, ..) -/
def tMethK (C : Addr) (m : Str) (n : Nat) (sp : Sp) (gV : List V → List V → List V) (E : XK) (ta : TE) (tk : TA) : TE := fun σ H Q => ta σ H fun x H1 => ∃ a dx fs, x = .ref a ∧ H1 a = some (.ins C dx fs) ∧ fs.lookup m = none ∧
  tk σ H1 fun zs H2 => zs.length = n ∧ sp (gV [x] zs) H2 Q E
theorem pe_mK0 {pl : Sem Bool} {g : {α : Type} → List α → List α → List α} (D : Dm X.prog X.w X.K X.mg X.base k C m qual st ps sp) (hr : Room j X.A) (hk : k ≤ j) (hx : Passes (L2.CX X.prog X.w) X E) (he : PE X o ta)
    (hrel : ∀ {vs zs : List V} {us ws : List Value}, Vals vs us → Vals zs ws → Vals (g vs zs) (g us ws))
    (hb : ∀ (kV doc pm : Value) (an : Option Addr) (cdv ct : Value) (us ws : List Value), us.length = 1 → ws.length = ks.length → bindArgs (fo m qual st kV doc pm an cdv ct) ⟨us, ks.zip ws⟩ = pure (ps.zip (g us ws)))
    (hkw : PK X kws tk) (hall : (backToKw pos (keywordEach kws X.env)).all (·.1.isSome) = true := by rfl) (hks : (backToKw pos (keywordEach kws X.env)).filterMap (·.1) = ks := by rfl)
    (hpl : ((backTo pos (starEach [] X.env)).any (·.1) || (backToKw pos (keywordEach kws X.env)).any (·.1.isNone)) = false := by rfl)
    (ht : eval (.Call (.Attribute o m apos) [] kws pos) X.env = (do
      let ov ← eval o X.env
      standAt apos.atName
      let (f, first) ← holding [ov] (getMethod ov m pl)
      callWith pos f first (backTo pos (starEach [] X.env)) (backToKw pos (keywordEach kws X.env))) := by rfl) :
    PE X (.Call (.Attribute o m apos) [] kws pos) (tMethK C m ks.length sp (fun vs zs => g vs zs) E ta tk) := by
  obtain ⟨f, fd, F, G, hc, hm, b⟩ := D.ex
  refine ⟨fun pins s σ H Q I h => ?_⟩
  refine PySem.W.methodCall_KW (pl := pl) (thn (he.run pins s σ H _ I h) fun u s1 ⟨x, H1, I1, rx, a, dx, fs, ex, ea, l, q⟩ => ?_) ht
  subst ex
  obtain rfl : u = Value.ref a := rx
  refine getmeth_ok I1 ea hc hm l ?_
  refine PySem.W.callWith_KW0 (first := [.ref a]) (h₀ := X.base) I1.ok.mod.kin hm.kp hall ?_ hpl
  refine thn (hkw.run pos pins s1 σ H1 _ I1 q) fun ws s2 ⟨zs, H2, I2, rz, l2, q2⟩ => ⟨I2.kIn, ?_⟩
  rw [hks]
  exact run_fnN (us := [.ref a]) (vs := [.ref a]) G (hr.mono hk) (kb_of F hrel hb) hx I2 (.cons rfl .nil) rz rfl l2 q2
end
end R9
namespace R9
open PySem PySem.Spec PyProof.Rows L2
open L2H (RoomH PinOk cxH inv_startH)
/-! ### defs that run while an exception is handled, the exception among their arguments -/
/-- p: the handled exception's object, cls its class, d its own dict -/
def Exo (p : Addr × Obj) (cls : Value) (d : Option Addr) : Prop := Zc cls d p.2 ∧ ∃ fv, p.2.data = .fields fv
abbrev SpE := Addr → Value → Option Addr → Sp
structure FnE (P : Program) (w : World) (K : PySem.W.Frag) (mg : Str → Option Value) (base : Heap) (k : Nat) (f : Addr) (fd : FuncData) (ps : List Str) (sp : SpE) : Prop where
  len : ∀ a cls d vs H Q E, sp a cls d vs H Q E → vs.length = ps.length
  run : ∀ (A : Around) (outer : List Env) (s : Shared) (H : Hp) (args : Args) (us : List Value) (vs : List V) (Q : VK) (E : XK) (p : Addr × Obj) (cls : Value) (d : Option Addr),
    RoomH k A → PinOk outer H s p → Exo p cls d → Env0 P w K mg base A outer s H → BindsTo s fd args (ps.zip us) → Vals vs us → sp p.1 cls d vs H Q E → codeAny (model P w) A (.call (.ref f) args) (CR (L2.CX P w) outer P w H s Q E) s
section
variable {P : Program} {w : World} {K : PySem.W.Frag} {mg : Str → Option Value} {base : Heap}
theorem okE {x qual : Str} {st : Stmt} {f : Addr} {fd : FuncData} {N ps : List Str} {k : Nat} {sp : SpE} (F : Fun K x qual st f fd) (S : FnScope N ps (defScope st)) (len : ∀ a cls d vs H Q E, sp a cls d vs H Q E → vs.length = ps.length)
    (body : ∀ (cdv : Value) (A : Around) (outer : List Env) (s : Shared) (H : Hp) (vs : List V) (Q : VK) (E : XK) (p : Addr × Obj) (cls : Value) (d : Option Addr), Exo p cls d → RoomH k (A.deeper (envOfC qual (defScope st) s.heap.objs.size f cdv)) → sp p.1 cls d vs H Q E →
      ∃ t, PSs (cxH (L2.CX P w) P w K mg base N qual (defScope st) f cdv A outer s H E p) (defBody st) t ∧ t { nx := fun _ H' => Q .non H', rt := Q } (L2.start N vs) H) : FnE P w K mg base (k + 1) f fd ps sp := by
  obtain ⟨oc, od, kV, doc, pm, an, cdv, ct, osl, rfl, lk, hcd⟩ := F.ex
  refine ⟨len, fun A outer s H args us vs Q E p cls d room pin exo e0 bind rel want => ?_⟩
  have all : ∀ b o, base.get? b = some o → s.heap.get? b = some o := fun b o e => (e0.bs b o e).1
  have KX : K.In s.heap := e0.mod.kin.keeps all
  have par : ∀ y ∈ ps.zip us, (defScope st).names.lookup y.1 = some .local ∨ ((defScope st).names.lookup y.1 = some .cell ∧ ((cellsFrom (s.heap.objs.size + 1) (defScope st).names []).lookup y.1).isSome = true) := by
    rintro ⟨n, v⟩ hy
    exact (S.par n (List.of_mem_zip hy).1).imp id fun q => ⟨q, PySem.W.cellsFrom_some _ _ _ (.inl q)⟩
  refine codeAny_call_function room.depth (KX _ _ lk) rfl S.co S.gen rfl (PySem.W.codeRec_of KX hcd) (bind _ _ _ _ ?_)
  refine wpAny_newFunctionEnv_cells S.kind par fun env henv s1 inC => ?_
  cases henv
  refine ⟨(e0.mod.nolimit.keeps all).keeps inC.toInCall.keep, codeAny_func ?_⟩
  obtain ⟨t, ht, hq⟩ := body cdv A outer s H vs Q E p cls d exo (room.deeper _) want
  have I := inv_startH (CX := L2.CX P w) (E := E) S pin e0 (len _ _ _ _ _ _ _ want) rel inC
  refine wpAny_mono (ht.run [] s1 (L2.start N vs) H _ I hq) (fun fl s' z => ?_) fun _ _ z => z
  cases fl with
  | ret u =>
    obtain ⟨v, σ', H', J, rv, q⟩ := z
    exact ⟨v, H', J.os, J.bare, J.base, J.hok, rv, q⟩
  | next =>
    obtain ⟨σ', H', J, q⟩ := z
    exact ⟨.non, H', J.os, J.bare, J.base, J.hok, rfl, q⟩
  | brk =>
    obtain ⟨_, _, _, no⟩ := z
    exact no.elim
  | cont =>
    obtain ⟨_, _, _, no⟩ := z
    exact no.elim
end
/-- such a def, packed -/
structure De (P : Program) (w : World) (K : PySem.W.Frag) (mg : Str → Option Value) (base : Heap) (k : Nat) (x : Str) (ps : List Str) (sp : SpE) : Prop where
  ex : ∃ (f : Addr) (fd : FuncData), FnE P w K mg base k f fd ps sp ∧ mg x = some (.ref f) ∧ PySem.W.keepIn K (.ref f) = true ∧ Binds K fd ps []
/-- where a handled exception stands -/
structure HotX (X : Cx) (p : Addr × Obj) (cls : Value) (d : Option Addr) : Prop where
  pin : p ∈ X.pn
  exo : Exo p cls d
section
variable {X : Cx} {j k : Nat} {x m : Str} {ps : List Str} {sp : SpE} {p : Addr × Obj} {cls : Value} {d : Option Addr} {q pos : Pos} {e : Expr} {es : List Expr} {t : TA} {te : TE} {C : Addr}
theorem hot_suite {X : Cx} {a : Addr} {oe : Obj} {pn : List (Addr × Obj)} (hz : Zc cls d oe) (hf : ∃ fv, oe.data = .fields fv) : HotX (X.suite a ((a, oe) :: pn)) (a, oe) cls d := ⟨List.mem_cons_self, hz, hf⟩
theorem hot_def {CX : CXT} {P : Program} {w : World} {K : PySem.W.Frag} {mg : Str → Option Value} {base : Heap} {N : List Str} {qual : Str} {scope : Scope} {f : Addr} {cd : Value} {A : Around} {outer : List Env} {s : Shared} {H : Hp} {E : XK} (ex : Exo p cls d) :
    HotX (cxH CX P w K mg base N qual scope f cd A outer s H E p) p cls d := ⟨List.mem_cons_self, ex⟩
/-- a call, nothing let out -/
theorem pe_e {a : Addr} {oe : Obj} (D : De X.prog X.w X.K X.mg X.base k x ps sp) (hot : HotX X (a, oe) cls d) (hr : RoomH j X.A) (hk : k ≤ j) (hg : Gl X x) (ha : PA X (e :: es) t) (hdb : (x == ("__debug__" : Str)) = false := by decide)
    (he : starEach (e :: es) X.env = (false, eval e X.env) :: starEach es X.env := by rfl) (hpl : (backTo pos (starEach es X.env)).any (·.1) = false := by rfl) :
    PE X (.Call (.Name x q) (e :: es) [] pos) (fun σ H Q => t σ H fun vs H1 => sp a cls d vs H1 Q E0) := by
  obtain ⟨f, fd, F, hm, kp, b⟩ := D.ex
  refine ⟨fun pins s σ H Q I h => wpAny_Call_Name_kw (ld_glob I hg hm ?_ hdb)⟩
  refine PySem.W.callWith_K (h₀ := X.base) I.ok.mod.kin kp (thn (ha.run pos pins s σ H _ I h) fun us s1 ⟨vs, H1, I1, rel, want⟩ => ⟨I1.kIn, ?_⟩) he hpl
  have hl : us.length = ps.length := rel.length.symm.trans (F.len _ _ _ _ _ _ _ want)
  have bt := b s1 us I1.kIn (by rw [List.append_nil]; exact hl)
  rw [List.append_nil] at bt
  obtain ⟨g1, g2, g3, g4, g5⟩ := I1.pin (a, oe) (List.mem_append_left _ hot.pin)
  have pin : PinOk X.stack H1 s1 (a, oe) := ⟨g1, g2, fun z => (List.mem_cons.mp (I1.stkSub a z)).elim g3 g4, g5⟩
  refine wpAny_call (codeAny_mono (F.run X.A X.stack s1 H1 ⟨us, []⟩ us vs Q E0 (a, oe) cls d (hr.mono hk) pin hot.exo I1.env0 bt rel want) fun r s' z => ?_)
  cases r with
  | ok fl =>
    cases fl with
    | ret u => exact I1.after z
    | next => exact z.elim
    | brk => exact z.elim
    | cont => exact z.elim
  | error er =>
    obtain ⟨_, _, _, _, _, _, _, _, _, _, _, _, no⟩ := z
    exact no.elim
/-- e.f, e the handled exception -/
theorem pe_xfP {a : Addr} {oe : Obj} {n : Str} (hot : HotX X (a, oe) cls d) (T : XfC X.K C) (hno : PySem.W.findIn X.K (.ref C) n = some none) (he : PE X e te) (hb : attributeBase e n X.env (eval e X.env) = eval e X.env := by rfl) :
    PE X (.Attribute e n pos) (fun σ H Q => te σ H fun x H1 => x = .ref a ∧ cls = .ref C ∧ ∃ (dd : Addr) (fs : List (Str × V)) (v : V), d = some dd ∧ H1 dd = some (.xd fs) ∧ fs.lookup n = some v ∧ Q v H1) := by
  refine ⟨fun pins s σ H Q I h => attr_of hb (thn (he.run pins s σ H _ I h) ?_)⟩
  rintro u s1 ⟨x, H1, I1, rx, rfl, rfl, dd, fs, v, rfl, ea, l, q⟩
  obtain rfl : u = Value.ref a := rx
  obtain ⟨⟨hc, hd⟩, fv, hv⟩ := hot.exo
  have ha := (I1.pin (a, oe) (List.mem_append_left _ hot.pin)).1
  obtain ⟨mA, hns, hr⟩ := (show ObjOk X.prog X.w H1 s1.heap dd (.xd fs) from I1.hok dd _ ea)
  obtain ⟨od, ho, hl⟩ := lookIn_ns hns
  obtain ⟨u, hu, ru⟩ := RelO.some_of (v := v) (o := mA n) (by rw [← l]; exact hr n)
  have J : PySem.W.InstAt s1.heap a oe C (some od) := ⟨ha, hc, by unfold PySem.W.notCls; rw [hv] <;> rfl, by rw [hd]; exact ho⟩
  exact HandSPX.exc_get I1.kIn J T.ga T.gg T.exC (PySem.W.findObj_own T.hdC hno rfl (by rw [hl, hu])) (handed_of ru) ⟨v, H1, I1.tok _, ru, q⟩
end
end R9
namespace PySem.W
open PySem PySem.Spec PySem.Calls PyProof.Rows
/-- isinstance, asked of an own exception with or without a dict of its own -/
theorem r9_kit {K : Frag} {x D : Addr} {ox : Obj} (C : L2.ExcC K D) : KitX K (.ref x) (.ref D) (fun h => ∃ od, InstAt h x ox D od) := by
  obtain ⟨cd, hcd, _⟩ := any_some C.hd
  have cls : ∃ c' d' sl', K.lookup D = some ⟨c', d', .cls cd, sl'⟩ := by
    unfold clsIn at hcd
    split at hcd
    · rename_i c' d' cd' sl' ho
      cases hcd
      exact ⟨c', d', sl', ho⟩
    · cases hcd
  obtain ⟨c', d', sl', ho⟩ := cls
  refine ⟨fun _ _ _ ⟨_, I⟩ => I.type, fun _ h X _ => ?_, fun h tp dd its n sl X htp => ?_, fun X ⟨od, I⟩ k => ?_⟩
  · intro A' Q' E' s' k q
    unfold isType loadHead
    exact wpAny_bind (wpAny_loadPart (k _ _ (X _ _ ho)) (wpAny_pure q))
  · refine Bool.eq_false_iff.mpr fun q => ?_
    cases (Value.ref.inj (beq_iff_eq.mp q))
    cases (X _ _ ho).symm.trans htp
  · exact kx_classE X I C.hg C.hk C.hs (findObj_dataE (by rw [hcd] <;> rfl) C.ha C.hn C.ht) C.hm k
end PySem.W
namespace R9
open PySem PySem.Spec PyProof.Rows L2
/-- isinstance(e, c), e the handled exception -/
theorem call_isP {X : Cx} {a : Addr} {oe : Obj} {D : Addr} {d : Option Addr} (hot : HotX X (a, oe) (.ref D) d) (C : ExcC X.K D) :
    CallR X (.builtin "isinstance") (fun xs H Q => ∃ (c : V) (cv : Value) (b : Bool), xs = [.ref a, c] ∧ ClsV c cv ∧ PySem.W.kitOne X.K (.ref D) cv = some b ∧ (∀ dd, d = some dd → ∃ fs, H dd = some (.xd fs)) ∧ Q (.bl b) H) := by
  rintro pins s σ H xs us Q I r ⟨c, cv, b, rfl, hcv, e, hdd, q⟩
  obtain ⟨u1, u2, rfl, r1, r2⟩ := vals2 r
  cases (show u1 = Value.ref a from r1)
  cases hcv.eq r2
  obtain ⟨⟨hc, hd⟩, fv, hv⟩ := hot.exo
  have ha := (I.pin (a, oe) (List.mem_append_left _ hot.pin)).1
  have J : ∃ od, PySem.W.InstAt s.heap a oe D od := by
    cases d with
    | none => exact ⟨none, ha, hc, by unfold PySem.W.notCls; rw [hv] <;> rfl, by rw [hd]; trivial⟩
    | some dd =>
      obtain ⟨fs, hfs⟩ := hdd dd rfl
      obtain ⟨mA, hns, hr⟩ := (show ObjOk X.prog X.w H s.heap dd (.xd fs) from I.hok dd _ hfs)
      obtain ⟨od, ho, hl⟩ := lookIn_ns hns
      exact ⟨some od, ha, hc, by unfold PySem.W.notCls; rw [hv] <;> rfl, by rw [hd]; exact ho⟩
  exact PySem.W.kia_one (PySem.W.r9_kit C) I.kIn J e (fun z => nomatch z) fun tk => ⟨.bl b, H, I.kept (t' := tk) fun _ _ z => z, rfl, q⟩
end R9
namespace R9
open PySem PySem.Spec PyProof.Rows L2
open L2H (RoomH)
/-! ### promises by the number of arguments -/
def sp1 (R : V → Hp → VK → XK → Prop) : Sp := fun vs H Q E => ∃ a, vs = [a] ∧ R a H Q E
def sp2 (R : V → V → Hp → VK → XK → Prop) : Sp := fun vs H Q E => ∃ a b, vs = [a, b] ∧ R a b H Q E
def sp3 (R : V → V → V → Hp → VK → XK → Prop) : Sp := fun vs H Q E => ∃ a b c, vs = [a, b, c] ∧ R a b c H Q E
def sp4 (R : V → V → V → V → Hp → VK → XK → Prop) : Sp := fun vs H Q E => ∃ a b c d, vs = [a, b, c, d] ∧ R a b c d H Q E
def sp5 (R : V → V → V → V → V → Hp → VK → XK → Prop) : Sp := fun vs H Q E => ∃ a b c d e, vs = [a, b, c, d, e] ∧ R a b c d e H Q E
theorem vals_rev {vs : List V} {us : List Value} (r : Vals vs us) : Vals vs.reverse us.reverse := by
  induction r with
  | nil => exact .nil
  | cons h t ih =>
    rw [List.reverse_cons, List.reverse_cons]
    exact ih.append (.cons h .nil)
theorem roomH_mark {X : Cx} {k : Nat} {a : Addr} {pn : List (Addr × Obj)} (r : Room k X.A) : RoomH k (X.suite a pn).A := ⟨(L2H.roomH_of r).dp, (L2H.roomH_of r).un⟩
/-! ### what is kept -/
/-- all is kept but what stands at the addresses S -/
def But (S : List Addr) (H H' : Hp) : Prop := ∀ c o, H c = some o → c ∉ S → H' c = some o
theorem But.refl (S : List Addr) (H : Hp) : But S H H := fun _ _ e _ => e
theorem But.trans {S : List Addr} {H H1 H2 : Hp} (a : But S H H1) (b : But S H1 H2) : But S H H2 := fun c o e n => b c o (a c o e n) n
theorem But.mono {S T : List Addr} {H H' : Hp} (a : But S H H') (h : ∀ x ∈ S, x ∈ T) : But T H H' := fun c o e n => a c o e fun z => n (h c z)
theorem But.new {S : List Addr} {H : Hp} {p : Addr} {o : HO} (h : H p = none) : But S H (upd H p o) := fun c u e _ => by
  rw [upd_ne (ne_of_none e h)]
  exact e
theorem But.put {S : List Addr} {H : Hp} {p : Addr} {o : HO} (h : p ∈ S) : But S H (upd H p o) := fun c u e n => by
  rw [upd_ne fun z => n (by rw [z]; exact h)]
  exact e
/-- an address that was free at the start needs no mention -/
theorem But.drop {S : List Addr} {H H' : Hp} {r : Addr} (h : H r = none) (a : But (r :: S) H H') : But S H H' := fun c o e n => a c o e fun z => by
  rcases List.mem_cons.mp z with z | z
  · rw [z, h] at e
    cases e
  · exact n z
theorem But.of_same {S : List Addr} {H H' : Hp} (a : Same H H') : But S H H' := fun c o e _ => a c o e
theorem But.same {H H' : Hp} (a : But [] H H') : Same H H' := fun c o e => a c o e (fun z => by cases z)
theorem But.at {S : List Addr} {H H' : Hp} {c : Addr} {o : HO} (a : But S H H') (e : H c = some o) (n : c ∉ S) : H' c = some o := a c o e n
theorem But.nil_at {S : List Addr} {H H' : Hp} {c : Addr} (a : But S H H') (n : c ∉ S) (e : H' c = none) : H c = none := by
  cases h : H c with
  | none => rfl
  | some o => rw [a c o h n] at e; cases e
theorem Same.but {H H' : Hp} (a : Same H H') : But [] H H' := But.of_same a
/-! ### packed operators, packed exceptions -/
structure Dx (P : Program) (w : World) (K : PySem.W.Frag) (mg : Str → Option Value) (base : Heap) (k : Nat) (C : Addr) (x qual : Str) (st : Stmt) (ps : List Str) (sp : Sp) : Prop where
  ex : ∃ (f : Addr) (fd : FuncData), Fun K "__init__" qual st f fd ∧ FnOk P w K mg base (L2.CX P w) k f fd ps sp ∧ OexC K C ∧ PySem.W.findIn K (.ref C) "__init__" = some (some (.ref f)) ∧ PySem.W.typeIn K (.ref f) = some (.type "function") ∧ mg x = some (.ref C) ∧ Binds K fd ps []
section
variable {X : Cx} {j k : Nat} {x m qual : Str} {st : Stmt} {ps : List Str} {sp : Sp} {C : Addr} {p pos : Pos} {e : Expr} {es : List Expr} {t : TA}
theorem pmk_x (D : Dx X.prog X.w X.K X.mg X.base k C x qual st ps sp) (hr : Room j X.A) (hk : k + 1 ≤ j) (hg : Gl X x) (ha : PA X (e :: es) t) (hdb : (x == ("__debug__" : Str)) = false := by decide)
    (he : starEach (e :: es) X.env = (false, eval e X.env) :: starEach es X.env := by rfl) (hpl : (backTo pos (starEach es X.env)).any (·.1) = false := by rfl) :
    PMk X (.Call (.Name x p) (e :: es) [] pos) (tMkO C sp [] t) := by
  obtain ⟨f, fd, F, G, T, i1, i2, hm, b⟩ := D.ex
  exact pmk_oex T i1 i2 G (hr.mono hk) b .nil passL hg hm ha hdb he hpl
theorem op_d {op : Operator} (D : Dm X.prog X.w X.K X.mg X.base k C m qual st ps sp) (hr : Room j X.A) (hk : k ≤ j) (sf : PySem.W.selfFirst X.K C = true) (hm : PySem.dunder op.info.2 = m) : OpR X (binaryOp op) (rOwn C sp E0) := by
  obtain ⟨f, fd, F, G, hc, me, b⟩ := D.ex
  subst hm
  exact op_own G (hr.mono hk) sf me.at_ me.fn b passL
theorem op_dE (D : Dm X.prog X.w X.K X.mg X.base k C "__eq__" qual st ps sp) (hr : Room j X.A) (hk : k ≤ j) : OpR X (compareOp .Eq) (rOwnEq X.K C sp E0) := by
  obtain ⟨f, fd, F, G, hc, me, b⟩ := D.ex
  exact op_ownEq G (hr.mono hk) me.at_ me.fn b passL
theorem op_dN (D : Dm X.prog X.w X.K X.mg X.base k C "__eq__" qual st ps sp) (hr : Room j X.A) (hk : k + 1 ≤ j) (hne : PySem.W.findIn X.K (.ref C) "__ne__" = some (some (.builtin "object.__ne__"))) (hob : PySem.W.subIn X.K (.ref C) (.type "object") = some true) :
    OpR X (compareOp .NotEq) (rOwnNe X.K C sp E0) := by
  obtain ⟨f, fd, F, G, hc, me, b⟩ := D.ex
  exact op_ownNe G (hr.mono hk) me.at_ me.fn b passL hne hob
end
/-! ### a word between a statement and the rest -/
def tMid (t u : TS) : TS := fun D σ H => ∃ M : L2.St → Hp → Prop, t { D with nx := M } σ H ∧ ∀ σ' H', M σ' H' → u D σ' H'
theorem pss_mid {X : Cx} {st : Stmt} {rest : List Stmt} {t u : TS} (one : PS X st t) (more : PSs X rest u) : PSs X (st :: rest) (tMid t u) := by
  refine ⟨fun pins s σ H D I ⟨M, h1, h2⟩ => wpAny_execs_cons (wpAny_mono (one.run pins s σ H { D with nx := M } I h1) (fun fl s1 z => ?_) fun _ _ z => z)⟩
  cases fl with
  | next =>
    obtain ⟨σ', H', J, m⟩ := z
    exact more.run pins s1 σ' H' D J (h2 σ' H' m)
  | ret v => exact z
  | brk => exact z
  | cont => exact z
/-- what a callee lets out, told where the number of slots is known -/
theorem passes_len {X : Cx} {W : WX} {E : XK} (tk : Takes X W) (hW : ∀ cls d σ H, σ.length = X.N.length → E cls d H → W cls d σ H) : Passes (L2.CX X.prog X.w) X E :=
  fun _ σ _ _ e s' I c => tk e s' (XE.of_call I (fun cls d H' h => hW cls d σ H' I.len h) c)
end R9
namespace R9
open PySem PySem.Spec PyProof.Rows L2
/-! ### one of two ways -/
theorem pi_or {X : Cx} {tg iter : Expr} {w1 w2 : TI} (a : PI X tg iter w1) (b : PI X tg iter w2) : PI X tg iter (fun σ H R => w1 σ H R ∨ w2 σ H R) := ⟨fun pins s σ H R I h => h.elim (a.run pins s σ H R I) (b.run pins s σ H R I)⟩
theorem pg_or {X : Cx} {tg : Expr} {g1 g2 : TG} (a : PG X tg g1) (b : PG X tg g2) : PG X tg (fun v σ H Q => g1 v σ H Q ∨ g2 v σ H Q) := ⟨fun pins s σ H v u Q I r h => h.elim (a.run pins s σ H v u Q I r) (b.run pins s σ H v u Q I r)⟩
theorem pe_or {X : Cx} {e : Expr} {t1 t2 : TE} (a : PE X e t1) (b : PE X e t2) : PE X e (fun σ H Q => t1 σ H Q ∨ t2 σ H Q) := ⟨fun pins s σ H Q I h => h.elim (a.run pins s σ H Q I) (b.run pins s σ H Q I)⟩
/-! ### tuple(d), sorted(d), sum(d.values()) of a dict -/
section
variable {prog : Program} {w : World} {A : Around} {E : Value → Shared → Prop} {s : Shared} {r d : Addr} {n : Nat} {P : Nat → Value → Prop} {OK : Heap → Prop} {Q : Value → Shared → Prop}
theorem tupleNew (K : PySem.W.KdlSrc prog w "dict" r d n P OK) (hh : A.handled = none) (hok : OK s.heap) (hn : n ≤ sizeLine)
    (h : ∀ (g : Heap) (tk : Nat) (acc : Array Value), (∀ b o, s.heap.get? b = some o → g.get? b = some o) → ItemsOf P acc n → Q (.ref g.objs.size) { s with heap := g.push { cls := .type "tuple", data := .seq acc }, toks := tk }) :
    codeAny (model prog w) A (.call (.builtin "tuple.__new__") ⟨[.type "tuple", .ref r], []⟩) (wants Q E) s := by
  refine codeAny_of_tree ?_
  show wpAny _ A.in1 (do checkBuiltinCall "tuple.__new__" ⟨[.type "tuple", .ref r], []⟩; again (.builtin "tuple.__new__" ⟨[.type "tuple", .ref r], []⟩)) _ _ s
  refine wpAny_bind (wpAny_of_eq (F.newCall_tuple_1 _) (wpAny_pure ⟨plainId_quiet F.plain_tuple_new _, codeAny_builtin F.entry_tuple_new ?_⟩))
  rw [Around.under_plainId F.plain_tuple_new _]
  have x1 := sub_tuple_self
  have x2 := init_tuple_lookup
  have x3 := madeHere_tuple
  have ty : s.TypeIs (.ref r) "dict" := K.type s hok
  have h1 : A.in1.handled = none := hh
  wp_walk using wpAny_typeOf ty, PySem.W.kdu_collect (A := A.in1) K h1 hok hn
  intro g tk acc hk hacc
  show wpAny _ _ (Builtin.Tuple.tupleExact acc.toList.toArray >>= fun v => ret v) _ _ _
  unfold Builtin.Tuple.tupleExact
  refine wpAny_bind (wpAny_newObj_type ?_ (by show acc.toList.toArray.size ≤ sizeLine; rw [Array.toArray_toList, hacc.1]; exact hn))
  refine wpAny_pure ?_
  rw [show acc.toList.toArray = acc from Array.toArray_toList]
  exact h g tk acc hk hacc
theorem tupleCall (K : PySem.W.KdlSrc prog w "dict" r d n P OK) (hh : A.handled = none) (hok : OK s.heap) (hn : n ≤ sizeLine)
    (h : ∀ (g : Heap) (tk : Nat) (acc : Array Value), (∀ b o, s.heap.get? b = some o → g.get? b = some o) → ItemsOf P acc n → Q (.ref g.objs.size) { s with heap := g.push { cls := .type "tuple", data := .seq acc }, toks := tk }) :
    wpAny (model prog w) A (call (.type "tuple") [.ref r]) Q E s := by
  refine callType_codes (Q₁ := fun obj z => z.TypeIs obj "tuple" ∧ Q obj z) F.called_tuple (F.typeCall_tuple_1 _) F.entry_object_init
    (tupleNew (A := A.in1) K hh hok hn fun g tk acc hk hacc => ⟨⟨_, Heap.get?_push_size _ rfl, rfl⟩, h g tk acc hk hacc⟩) fun obj z hz => ?_
  exact ⟨hz.1, F.args_object_init_2 obj _, object_init_meets F.called_tuple.init.lookup F.called_tuple.made (by decide) prog w A.in1 _ z ⟨hz.1, rfl, hz.2⟩⟩
theorem sumCall {T : String} (K : PySem.W.KdlSrc prog w T r d n P OK) (hh : A.handled = none) (hok : OK s.heap) (val : Nat → Int) (hval : ∀ (i : Nat) (v : Value), P i v → ∃ t : Tok, v = Value.int (val i) t)
    (h : ∀ (g : Heap) (tk : Nat) (t : Tok), (∀ b o, s.heap.get? b = some o → g.get? b = some o) → Q (.int (preSum val n) t) { s with heap := g, toks := tk }) :
    wpAny (model prog w) A (call (.builtin "sum") [.ref r]) Q E s := by
  refine call_sum_walkAnyS ?_
  obtain ⟨oI, St, hit, W, st⟩ := K.iter A.in1 s hh hok
  refine hit _ _ ⟨s.heap.objs.size, _, _, _, n, P, _, val, rfl, W.toS, st, fun b hb => ?_, hval, fun z t hm => ?_⟩
  · show b < (s.heap.push oI).objs.size
    rw [size_push']
    rcases List.mem_cons.mp hb with e | hb
    · rw [e]; exact Nat.lt_succ_self _
    · rw [List.mem_singleton.mp hb]; exact Nat.lt_succ_of_lt (K.there _ hok).2
  · have hk : ∀ b o, s.heap.get? b = some o → z.heap.get? b = some o := fun b o e =>
      hm.heap b o (fun hI => absurd (Heap.lt_size e) (by rw [List.mem_singleton.mp hI]; exact Nat.lt_irrefl _)) (Heap.get?_push_of_some _ e)
    rw [Moved.eq_with hm]
    exact h z.heap z.toks t hk
end
theorem pair_left {α β : Type} {F : α → β → Prop} : ∀ {xs : List α} {ys : List β}, Paired F xs ys → ∀ {i : Nat} {y : β}, ys[i]? = some y → ∃ x, xs[i]? = some x ∧ F x y
  | _, _, .nil, _, _, h => by cases h
  | _, _, .cons a _, 0, _, h => ⟨_, rfl, Option.some.inj h ▸ a⟩
  | _, _, .cons _ b, i + 1, _, h => pair_left b h
theorem key_vals {kvs : List (Key × V)} {vs : List (Key × Value)} {acc : Array Value} {P : Program} {w : World} (rk : KV kvs vs) (h : ItemsOf (fun i v => ∃ k x, vs[i]? = some (k, x) ∧ (mixKind P w).is k v = true) acc vs.length) : Vals (kvs.map fun kv => kV kv.1) acc.toList := by
  have hl : kvs.length = vs.length := Paired.length rk
  refine vals_of_at (by rw [List.length_map, hl]; exact h.1.symm) fun j x u h1 h2 => ?_
  obtain ⟨k, y, hky, hi⟩ := h.2 j u (by rw [← Array.getElem?_toList]; exact h2)
  have e1 : (kvs.map (·.1))[j]? = some k := by rw [KV.keys rk, List.getElem?_map, hky] <;> rfl
  have e2 : (kvs.map fun kv => kV kv.1)[j]? = some (kV k) := by
    rw [show (kvs.map fun kv => kV kv.1) = (kvs.map (·.1)).map kV by rw [List.map_map] <;> rfl, List.getElem?_map, e1] <;> rfl
  rw [e2] at h1
  cases h1
  exact keyIs_rel hi
section
variable {X : Cx}
def rTupD : List V → Hp → VK → Prop := fun xs H Q => ∃ p kvs, xs = [.ref p] ∧ H p = some (.dK kvs) ∧ ∀ q, H q = none → Q (.ref q) (upd H q (.tup (kvs.map fun kv => kV kv.1)))
theorem call_tupD (hc : X.calm = true) : CallR X (.type "tuple") rTupD := by
  intro pins s σ H xs us Q I r h
  obtain ⟨p, kvs, rfl, hk, q⟩ := h
  rw [Vals.ref1 r]
  obtain ⟨z, lo, vs, rk, hd⟩ := I.hok p _ hk
  obtain ⟨ep, hat⟩ := hd.dictAt
  have hl : kvs.length = vs.length := Paired.length rk
  refine tupleCall (PySem.W.kdl_dict (knd := mixKind X.prog X.w) (kvs := vs) (ep := ep) lo) (I.ok.hd hc) hat (by rw [← hl]; exact z) fun g tk acc hk2 hacc => ?_
  have I2 : Inv X pins σ H { s with heap := g, toks := tk } := I.kept hk2
  refine ⟨.ref g.objs.size, upd H g.objs.size (.tup (kvs.map fun kv => kV kv.1)), I2.laid (t' := tk) (fun c o e => Heap.get?_push_of_some _ e) (Nat.le_refl _) (show ObjOk X.prog X.w _ _ _ (.tup (kvs.map fun kv => kV kv.1)) from ⟨?_, acc.toList, key_vals rk hacc, ?_⟩), rfl, q _ (I2.hok.fresh (Nat.le_refl _))⟩
  · rw [List.length_map]; exact z
  · rw [Array.toArray_toList]; exact IsTup.new _ _
def rSortedD : List V → Hp → VK → Prop := fun xs H Q => ∃ (p : Addr) (kvs : List (Key × V)) (ss : List Str), xs = [.ref p] ∧ H p = some (.dK kvs) ∧ kvs.map (·.1) = ss.map Sum.inr ∧ ss.length < 64 ∧ ∀ (ys : List Str) (q : Addr), ys.Perm ss → sortedS ys = true → H q = none → Q (.ref q) (upd H q (.lst (ys.map V.str)))
theorem cr_sortedD (hc : X.calm = true) : CallR X (.builtin "sorted") rSortedD := by
  intro pins s σ H xs us Q I r h
  obtain ⟨p, kvs, ss, rfl, hk, hss, h64, q⟩ := h
  rw [Vals.ref1 r]
  obtain ⟨z, lo, vs, rk, hd⟩ := I.hok p _ hk
  obtain ⟨ep, hat⟩ := hd.dictAt
  have hl : kvs.length = vs.length := Paired.length rk
  have hls : kvs.length = ss.length := by
    have := congrArg List.length hss
    rw [List.length_map, List.length_map] at this
    exact this
  refine PySem.Calls.call_function_entry PyProof.Rows.kind_sorted PyProof.Rows.plain_sorted PyProof.Rows.entry_sorted (PyProof.Rows.args_sorted1 _) ?_
  unfold Builtin.«sorted»
  refine wpAny_bind (m := checkCount "sorted" 1 1 _) (wpAny_pure ?_)
  refine wpAny_bind (PySem.W.kdu_collect (A := X.A.in1) (PySem.W.kdl_dict (knd := mixKind X.prog X.w) (kvs := vs) (ep := ep) lo) (I.ok.hd hc) hat (by rw [← hl]; exact z) fun g tk acc hkeep hacc => ?_)
  have vv := key_vals rk hacc
  have ek : (kvs.map fun kv => kV kv.1) = ss.map V.str := by
    rw [show (kvs.map fun kv => kV kv.1) = (kvs.map (·.1)).map kV by rw [List.map_map] <;> rfl, hss, List.map_map]
    rfl
  rw [ek] at vv
  have sa := vv.strs
  have la : acc.toList.length = ss.length := by rw [← vv.length, List.length_map]
  refine wpAny_bind (wpAny_newList ?_ (by rw [la, sizeLine_eq]; omega))
  have hoL : (g.push (PyProof.Rows.seqObj "list" acc.toList.toArray 0)).get? g.objs.size = some (PyProof.Rows.seqObj "list" acc.toList.toArray 0) := Heap.get?_push_size _ rfl
  refine wpAny_bind (wpAny_holding (wpAny_call_entry PyProof.Rows.slot_list_sort ⟨_, hoL, rfl⟩ PyProof.Rows.entry_list_sort (PyProof.Rows.list_sort_treeK PyProof.Rows.strKind_oneLt hoL sa.keysOf (fun v₁ v₂ rest e => PyProof.Rows.keyKind_strs (by rw [← e]; exact sa)) (by rw [la]; exact h64) fun st' hp hs => ⟨_, rfl, ?_⟩) (PyProof.Rows.args_list_sort _)))
  refine wpAny_pure ⟨_, rfl, ?_⟩
  obtain ⟨ys, h1, h2, h3⟩ := PyProof.Rows.sorted_out_str sa hp hs
  obtain ⟨e2, he⟩ := PyProof.Rows.sortedHeap_at (vs := acc.toList) (out := (arrOf st').map (·.2)) hoL
  have hlen : (ys.map V.str).length ≤ sizeLine := by rw [List.length_map, h2.length_eq, sizeLine_eq]; omega
  have I2 : Inv X pins σ H { s with heap := g, toks := tk } := I.kept hkeep
  exact ⟨.ref g.objs.size, upd H g.objs.size (.lst (ys.map V.str)), I2.laid (t' := tk) (fun b o e => by
    rw [PyProof.Rows.sortedHeap_old (Nat.ne_of_lt (Heap.lt_size e)) (by rw [PyProof.Rows.size_push']; exact Nat.lt_succ_of_lt (Heap.lt_size e))]
    exact Heap.get?_push_of_some _ e) (Nat.le_refl _) ⟨hlen, _, e2, vals_of_strs h1, he⟩, rfl, q ys _ h2 h3 (I2.hok.fresh (Nat.le_refl _))⟩
variable {e : Expr} {te : TE} {p apos cpos pos : Pos}
theorem sum_pre : ∀ (ns : List Int) (val : Nat → Int), (∀ (i : Nat) (x : Int), ns[i]? = some x → val i = x) → preSum val ns.length = ns.sum := by
  intro ns val h
  have key : ∀ n, n ≤ ns.length → preSum val n = (ns.take n).sum := by
    intro n
    induction n with
    | zero => intro _; rw [List.take_zero]; rfl
    | succ n ih =>
      intro hn
      have hx : ns[n]? = some ns[n] := List.getElem?_eq_getElem (by omega)
      show preSum val n + val n = _
      rw [ih (by omega), h n _ hx, List.take_add_one, hx, List.sum_append]
      simp
  rw [key _ (Nat.le_refl _), List.take_length]
/-- sum(e.values()), whole numbers -/
def tSumVals (te : TE) : TE := fun σ H Q => te σ H fun x H1 => ∃ (d : Addr) (kvs : List (Key × V)) (ns : List Int), x = .ref d ∧ H1 d = some (.dK kvs) ∧ kvs.map (·.2) = ns.map V.int ∧ Q (.int ns.sum) H1
theorem pe_sumVals (hc : X.calm = true) (he : PE X e te) (hg : Gl X "sum") (hm : X.mg "sum" = none) (hv : bootBuiltins "sum" = some (.builtin "sum")) (hbase : attributeBase e "values" X.env (eval e X.env) = eval e X.env := by rfl) (hline : (apos.endLine == cpos.line) = true := by rfl)
    (hs : starEach [.Call (.Attribute e "values" apos) [] [] cpos] X.env = (false, eval (.Call (.Attribute e "values" apos) [] [] cpos) X.env) :: starEach [] X.env := by rfl) :
    PE X (.Call (.Name "sum" p) [.Call (.Attribute e "values" apos) [] [] cpos] [] pos) (tSumVals te) := by
  refine ⟨fun pins s σ H Q I hq => ?_⟩
  refine wpAny_Call_Name_kw (ld_blt I hg hm hv ?_)
  refine PyProof.Rows.callWith_builtin1 ?_ hs rfl
  rw [hs]
  show wpAny _ _ (spliced ((false, eval (.Call (.Attribute e "values" apos) [] [] cpos) X.env) :: backTo pos (starEach [] X.env))) _ _ s
  refine Calls.spliced_cons ?_
  refine wpAny_Call_method (T := "dict") (id := "dict.values") hbase rfl hline F.plainAttrs_dict F.slot_dict_values F.type_dict_values (thn (he.run pins s σ H _ I hq) fun u s1 ⟨x, H1, I1, rx, d, kvs, ns, ex, hd, hns, q⟩ => ?_)
  subst ex
  obtain rfl : u = Value.ref d := rx
  obtain ⟨hz, hs0, vs, kv, hdo⟩ := I1.hok d _ hd
  obtain ⟨ep, hat⟩ := hdo.dictAt
  have lk : kvs.length = vs.length := Paired.length kv
  have I2 : Inv X pins σ H1 { s1 with heap := s1.heap.push { cls := .type "dict_values", data := .fields #[.ref d] } } := I1.kept (t' := s1.toks) fun b ob z => Heap.get?_push_of_some _ z
  refine ⟨hdo.typeIs, hdo.mapOf.noDict, ?_⟩
  show wpAny _ _ (callWith cpos (.builtin "dict.values") [.ref d] [] []) _ X.xe s1
  refine method_meetsIn F.slot_dict_values F.entry_dict_values rfl (PySem.evalArgs_none ⟨rfl, hdo.typeIs, F.args_dict_values_1 _, _, meets_dict_values (mixKind X.prog X.w) d hs0, ⟨vs, hdo⟩, ?_⟩)
  refine Calls.spliced_nil ?_
  have lz : ns.length = vs.length := by
    have := congrArg List.length hns
    rw [List.length_map, List.length_map] at this
    omega
  refine sumCall (PySem.W.kdl_values (knd := mixKind X.prog X.w) (kvs := vs) (ep := ep)) (I1.ok.hd hc) ⟨⟨_, Heap.get?_push_size _ rfl, rfl, rfl⟩, hat.push _⟩ (fun i => ns.getD i 0) (fun i v hv => ?_) fun g tk t hk => ?_
  · obtain ⟨k, hi⟩ := hv
    obtain ⟨pr, h1, _, h2⟩ := pair_left kv hi
    have h3 : (kvs.map (·.2))[i]? = some pr.2 := by rw [List.getElem?_map, h1]; rfl
    rw [hns, List.getElem?_map] at h3
    cases h4 : ns[i]? with
    | none => rw [h4] at h3; cases h3
    | some z =>
      rw [h4] at h3
      have h5 : pr.2 = V.int z := (Option.some.inj h3).symm
      rw [h5] at h2
      obtain ⟨t, ht⟩ := h2
      refine ⟨t, ?_⟩
      show v = Value.int (ns.getD i 0) t
      rw [List.getD_eq_getElem?_getD, h4]
      exact ht
  · rw [← lz, sum_pre ns _ fun i x hx => by rw [List.getD_eq_getElem?_getD, hx]; rfl]
    exact ⟨.int ns.sum, H1, I2.kept hk, ⟨t, rfl⟩, q⟩
end
end R9
/-! ### enumerate over a tuple -/
namespace PySem
open Sem (wp)
open AutoSeq1 (wpAny_loadPart')
theorem newT_enum (l : Addr) (items : Array Value) (n : Nat) (dct : Option Addr) (sl : Array (Option Value)) :
    Meets (Builtin.«enumerate.__new__» ⟨[.type "enumerate", .ref l], []⟩) (fun _ R s => s.heap.get? l = some { cls := .type "tuple", dict := dct, data := .seq items n, slots := sl } ∧
      R (.ok (.ret (.ref (s.heap.push { cls := .type "tuple_iterator", data := .fields #[.ref l, .int 0 0] }).objs.size)))
        { s with heap := (s.heap.push { cls := .type "tuple_iterator", data := .fields #[.ref l, .int 0 0] }).push { cls := .type "enumerate", data := .fields #[.none, .bool false, .ref s.heap.objs.size, rawInt 0, .none, .none] } }) :=
  .of_wp fun prog w A R s h => by
    obtain ⟨hp, g, d, tk, os⟩ := s; obtain ⟨hl, h⟩ := h
    have sub := sub_enumerate
    have hL : Heap.IsTuple (Shared.heap ⟨hp, g, d, tk, os⟩) l items := ⟨_, hl, rfl, n, rfl⟩
    wp_walk using wpAny_loadPart' hl
    refine wpAny_stack_any fun st => wpAny_pure ?_
    split
    · rename_i c _ _ _ _ _
      cases (c == Value.type "enumerate")
      · wp_walk using wpAny_loadPart' hl, wpAny_pyIter_tuple hL
        exact ⟨_, rfl, h⟩
      · wp_walk using wpAny_loadPart' hl, wpAny_pyIter_tuple hL
        exact ⟨_, rfl, h⟩
    · wp_walk using wpAny_loadPart' hl, wpAny_pyIter_tuple hL
      exact ⟨_, rfl, h⟩
section
variable {prog : Program} {w : World} {A : Around} {E : Value → Shared → Prop} {s : Shared}
theorem call_enumT {l : Addr} {items : Array Value} {Q : Value → Shared → Prop} (hL : s.heap.IsTuple l items)
    (h : ∀ g, IsEnum g (s.heap.objs.size + 1) s.heap.objs.size 0 .none → g.get? s.heap.objs.size = some { cls := .type "tuple_iterator", data := .fields #[.ref l, .int 0 0] } → 
      (∀ b o, s.heap.get? b = some o → g.get? b = some o) → Q (.ref (s.heap.objs.size + 1)) { s with heap := g }) :
    wpAny (model prog w) A (call (.type "enumerate") [.ref l]) Q E s := by
  obtain ⟨⟨c, dct, dt, sl⟩, hl, hc, n, hd⟩ := hL
  replace hc : c = .type "tuple" := hc
  replace hd : dt = .seq items n := hd
  subst hc hd
  refine callType_new F.called_enumerate (by decide) (F.typeCall_enumerate_1 _) (F.newCall_enumerate_1 _) (fun obj => F.args_object_init_2 obj _) F.entry_enumerate_new
    (newT_enum l items n dct sl) ⟨hl, ?_⟩
  have hz : (s.heap.push { cls := .type "tuple_iterator", data := .fields #[.ref l, .int 0 0] }).objs.size = s.heap.objs.size + 1 := Heap.size_push ..
  show _ ∧ _
  rw [hz]
  have he : IsEnum ((s.heap.push { cls := .type "tuple_iterator", data := .fields #[.ref l, .int 0 0] }).push
      { cls := .type "enumerate", data := .fields #[.none, .bool false, .ref s.heap.objs.size, rawInt 0, .none, .none] }) (s.heap.objs.size + 1) s.heap.objs.size 0 .none := by
    have := Heap.get?_push_size (s.heap.push { cls := .type "tuple_iterator", data := .fields #[.ref l, .int 0 0] })
      (o := { cls := .type "enumerate", data := .fields #[.none, .bool false, .ref s.heap.objs.size, rawInt 0, .none, .none] }) rfl
    rw [hz] at this; exact this
  exact ⟨⟨_, he, rfl⟩, h _ he (Heap.get?_push_of_some _ (Heap.get?_push_size _ rfl)) fun b o y => Heap.get?_push_of_some _ (Heap.get?_push_of_some _ y)⟩
theorem enumT_end {e it l : Addr} {i : Nat} {items : Array Value} {old : Value} {Q : Option Value → Shared → Prop} (hh : A.handled = none)
    (he : IsEnum s.heap e it i old) (hit : s.heap.IsTupleIter it l i) (hl : s.heap.IsTuple l items) (hx : items[i]? = none)
    (hQ : ∀ g, Heap.ExtBut it s.heap g → Q none { s with heap := g }) : wpAny (model prog w) A (pyNext (.ref e)) Q E s := by
  have ty : s.TypeIs (.ref e) "enumerate" := ⟨_, he, rfl⟩
  unfold pyNext
  refine wpAny_bind (wpAny_attempt (wpAny_callSpecial?_slot (name := Str.ofString "__next__") ty F.slot_enumerate_next
    (wpAny_call_entry F.slot_enumerate_next ty F.entry_enumerate_next ?_ (F.args_enumerate_next_1 _))))
  show wpAny _ _ (field (.ref e) 2 >>= _) _ _ _
  refine wpAny_bind (wpAny_field he rfl (x := .ref it) rfl ?_)
  refine wpAny_bind (wpAny_nextOf_tuple_end hh hit hl hx fun g x he' hx' => ?_)
  obtain ⟨o, ho, hc⟩ := hx'
  refine wpAny_bind (wpAny_isInstance (T := "StopIteration") (b := true) ⟨o, ho, hc⟩ isSubtype_stop ?_)
  exact wpAny_pure (hQ _ he')
end
end PySem
namespace R9
open PySem PySem.Spec PyProof.Rows L2
/-- the tuple at a, each item in a new pair -/
def IteT (K : PySem.W.Frag) (a : Addr) : It :=
  ⟨fun i H => ∃ (xs : List V) (x : V), SqT K H a xs ∧ xs[i]? = some x, fun i H v H' => ∃ T x, v = .ref T ∧ H T = none ∧ H' = upd H T (.tup [.int (i : Nat), x]) ∧ ∀ xs, SqT K H a xs → xs[i]? = some x, fun i H => ∃ xs : List V, SqT K H a xs ∧ xs.length ≤ i⟩
theorem turn_enumT {P : Program} {w : World} {K : PySem.W.Frag} {elts : List Expr} {kk : Nat} {tpos : Pos} (a e it : Addr) :
    Turn P w K (.Tuple elts kk tpos) (IteT K a) [e, it] e (fun i h => (∃ old, IsEnum h e it ((i : Nat) : Int) old) ∧ h.IsTupleIter it a i ∧ e ≠ it) where
  mem := by simp
  obj := fun i h st b hb => by
    obtain ⟨⟨old, he⟩, ⟨o, ho, hc, hd⟩, _⟩ := st
    rcases (show b = e ∨ b = it by simpa using hb) with z | z
    · rw [z]; exact ⟨_, he, fun v q => nomatch q⟩
    · rw [z]; exact ⟨o, ho, fun v q => by rw [hd] at q; cases q⟩
  keep := fun i h g st k => let ⟨⟨old, he⟩, hi, hne⟩ := st; ⟨⟨old, k e (by simp) _ he⟩, hi.at fun o q => k it (by simp) o q, hne⟩
  item := by
    intro X hP hw hK hc i pins s σ H E I hf st hg
    subst hP hw hK
    obtain ⟨⟨old, he⟩, hit, hne⟩ := st
    obtain ⟨xs, x, hq, hx⟩ := hg
    obtain ⟨its, rv, p, hz⟩ := I.tuple hq
    obtain ⟨u, hu, ru⟩ := rv.get hx
    have ht : s.heap.IsTuple a its.toArray := p
    have ea : e ≠ a := fun z => by
      obtain ⟨o, h1, h2, _⟩ := ht
      rw [← z, he] at h1
      cases h1
      exact absurd (show Value.type "enumerate" = Value.type "tuple" from h2) (by decide)
    have ai : a ≠ it := fun z => by
      obtain ⟨o, h1, h2, _⟩ := ht
      obtain ⟨o', g1, g2, _⟩ := hit
      rw [z, g1] at h1
      cases h1
      rw [g2] at h2
      exact absurd h2 (by decide)
    have hel : e < s.heap.objs.size := Heap.lt_size he
    have hil : it < s.heap.objs.size := by obtain ⟨_, q, _⟩ := hit; exact Heap.lt_size q
    refine wpAny_pyNext_enum_itemD (Draws.tuple (A := X.A.in1) (I.ok.hd hc) it a ai its.toArray) he ⟨hit, ht⟩ (by
      have := (List.getElem?_eq_some_iff.mp hu).1
      simpa using this) hne (by simp [hne, ea]) fun y g tk hy ho hst hT hsz hk => ?_
    have hyu : y = u := by
      have : its[i]? = some y := by simpa using hy
      rw [hu] at this
      exact (Option.some.inj this).symm
    subst hyu
    refine ⟨_, rfl, wpAny_letOwnedTupleGo_enum (s := { s with heap := g, toks := tk + 1 }) ho fun g2 he2 sb => ?_⟩
    have hT2 : g2.get? s.heap.objs.size = some { cls := .type "tuple", data := .seq #[.int i tk, y] } := (sb.2 _ (Nat.ne_of_gt hel)).trans hT
    have new : ObjOk X.prog X.w (upd H s.heap.objs.size (.tup [.int (i : Nat), x])) g2 s.heap.objs.size (.tup [.int (i : Nat), x]) :=
      ⟨by show 2 ≤ sizeLine; decide, [.int i tk, y], .cons ⟨_, rfl⟩ (.cons ru .nil), ⟨_, hT2, rfl, _, rfl⟩⟩
    have I1 : Inv X pins σ (upd H s.heap.objs.size (.tup [.int (i : Nat), x])) { s with heap := g2, toks := tk + 1 } :=
      I.turnedNew (ch := [e, it]) (fun b ob hb q => (sb.2 b (fun z => hb (by simp [z]))).trans (hk b ob (fun z => hb (by simp [z])) (fun z => hb (by simp [z])) q)) hf (Nat.le_refl _) new
    refine ⟨.ref s.heap.objs.size, _, I1, rfl, ⟨_, x, rfl, I.hok.fresh (Nat.le_refl _), rfl, fun ys hy => by rw [I.tuple_inj hy hq]; exact hx⟩, ⟨⟨y, ?_⟩, hst.1.at fun o q => (sb.2 it (Ne.symm hne)).trans q, hne⟩, fun b hb => ?_⟩
    · rw [show ((i + 1 : Nat) : Int) = (i : Int) + 1 by omega]
      exact he2
    · have hb' : b < s.heap.objs.size := by
        rcases (show b = e ∨ b = it by simpa using hb) with z | z
        · rw [z]; exact hel
        · rw [z]; exact hil
      rw [upd_ne (Nat.ne_of_lt hb')]
      exact (hf b hb).1
  done := by
    intro X hP hw hK hc i pins s σ H E I hf st hg
    subst hP hw hK
    obtain ⟨⟨old, he⟩, hit, hne⟩ := st
    obtain ⟨xs, hq, hx⟩ := hg
    obtain ⟨its, rv, p, hz⟩ := I.tuple hq
    have ht : s.heap.IsTuple a its.toArray := p
    have ai : a ≠ it := fun z => by
      obtain ⟨o, h1, h2, _⟩ := ht
      obtain ⟨o', g1, g2, _⟩ := hit
      rw [z, g1] at h1
      cases h1
      rw [g2] at h2
      exact absurd h2 (by decide)
    obtain ⟨f0, f1, f2, f3, f4, f5⟩ := hf it (by simp)
    have hl := rv.length
    exact enumT_end (I.ok.hd hc) he hit ht (by simp; omega) fun g eb => ⟨rfl, I.turned (t' := s.toks) (fun b o hb e => eb b o hb e) f0 f1 f3 f4 f5⟩
  self := fun A i s Q E st h => let ⟨⟨_, he⟩, _⟩ := st; wpAny_pyIter_enum he h
def iEnumT (K : PySem.W.Frag) (ta : TA) : TI := fun σ H R => ta σ H fun vs H1 => ∃ a xs, vs = [.ref a] ∧ SqT K H1 a xs ∧ R (IteT K a) H1
theorem pi_enumT {X : Cx} {e : Expr} {ta : TA} {p pos tpos : Pos} {elts : List Expr} {kk : Nat} (hg : Gl X "enumerate") (hm : X.mg "enumerate" = none) (ha : PA X [e] ta) (hs : starEach [e] X.env = [(false, eval e X.env)] := by rfl) :
    PI X (.Tuple elts kk tpos) (.Call (.Name "enumerate" p) [e] [] pos) (iEnumT X.K ta) := by
  refine ⟨fun pins s σ H R I h => ?_⟩
  refine Call_ (ld_blt I hg hm boot_enumerate (PyProof.Rows.callWith_type1 (thn (ha.run pos pins s σ H _ I h) fun us s1 ⟨vs, H1, I1, r1, a, xs, ex, hq, q⟩ => ?_) hs rfl))
  subst ex
  cases r1 with
  | cons r rr =>
    cases rr
    cases r
    obtain ⟨its, rv, pt, hz⟩ := I1.tuple hq
    refine call_enumT (show s1.heap.IsTuple a its.toArray from pt) fun g he hit hk => wpAny_pyIter_enum he ?_
    have I2 : Inv X pins σ H1 { s1 with heap := g } := I1.kept (t' := s1.toks) hk
    refine ⟨s1.heap.objs.size + 1, [s1.heap.objs.size + 1, s1.heap.objs.size], _, _, H1, rfl, I2, turn_enumT a (s1.heap.objs.size + 1) s1.heap.objs.size, ⟨⟨.none, he⟩, ⟨_, hit, rfl, rfl⟩, Nat.succ_ne_self _⟩, fun b hb => ?_, q⟩
    have hle : s1.heap.objs.size ≤ b := by
      rcases (show b = s1.heap.objs.size + 1 ∨ b = s1.heap.objs.size by simpa using hb) with z | z
      · rw [z]; exact Nat.le_add_right _ _
      · rw [z]; exact Nat.le_refl _
    exact I1.fpOk hle (I1.hok.fresh hle)
end R9
namespace K01
open PySem PySem.Spec PyProof.Rows L2 R9 R9M
open L2H (RoomH)
/-! ### data -/
/-- smaller than 2 ^ k -/
def Sm (k : Nat) (n : Int) : Prop := n.natAbs < 2 ^ k
theorem Sm.mono {j k : Nat} {n : Int} (h : Sm j n) (l : j ≤ k) : Sm k n := Nat.lt_of_lt_of_le h (Nat.pow_le_pow_right (by decide) l)
theorem Sm.le {k : Nat} {m n : Int} (h : Sm k n) (l : m.natAbs ≤ n.natAbs) : Sm k m := Nat.lt_of_le_of_lt l h
theorem Sm.mul {j k : Nat} {m n : Int} (a : Sm j m) (b : Sm k n) : Sm (j + k) (m * n) := wide_lt a b
theorem Sm.add {j k : Nat} {m n : Int} (a : Sm j m) (b : Sm k n) : Sm (max j k + 1) (m + n) := by
  have a' : Sm (max j k) m := a.mono (Nat.le_max_left _ _)
  have b' : Sm (max j k) n := b.mono (Nat.le_max_right _ _)
  unfold Sm at *
  rw [Nat.pow_succ]
  omega
theorem Sm.neg {k : Nat} {n : Int} (a : Sm k n) : Sm k (-n) := by
  unfold Sm at *
  rw [Int.natAbs_neg]; exact a
theorem Sm.sub {j k : Nat} {m n : Int} (a : Sm j m) (b : Sm k n) : Sm (max j k + 1) (m - n) := by
  rw [Int.sub_eq_add_neg]
  exact a.add b.neg
theorem Sm.m {j k : Nat} {m n : Int} (a : Sm j m) (b : Sm k n) (h0 : 0 < j := by decide) (h1 : 0 < k := by decide) (h : j + k ≤ 1000000 := by decide) : CMulW m n := wide_mul a b h0 h1 h
theorem Sm.d {k : Nat} {m n : Int} (a : Sm k n) (h : n ≠ 0) (h0 : 0 < k := by decide) (h1 : k ≤ 9000 := by decide) : CDivX m n := ⟨h, Nat.lt_of_lt_of_le (PySem.Flt.log2_lt_of h0 a) h1⟩
theorem Sm.lit {k : Nat} {n : Int} (h : n.natAbs < 2 ^ k) : Sm k n := h
/-- the script's state: a list at p, its first item the copy of the script at q -/
structure StA (H : Hp) (p q : Addr) : Prop where
  ex : ∃ (ns : List Int) (i b c d : Int), H p = some (.lst [.ref q, .int i, .int b, .int c, .int d]) ∧ H q = some (.lst (ns.map V.int)) ∧ ns.length ≤ 63 ∧ 0 ≤ i ∧ i ≤ 63 ∧ 0 ≤ b ∧ c ≤ 60 ∧ 0 ≤ d ∧ d < 2147483647
theorem StA.ne {H : Hp} {p q : Addr} (h : StA H p q) : q ≠ p := fun z => by
  obtain ⟨ns, i, b, c, d, h1, h2, _⟩ := h.ex
  rw [z, h1] at h2
  have e := HO.lst.inj (Option.some.inj h2)
  cases ns with
  | nil => cases e
  | cons x r => cases (List.cons.inj e).1
theorem StA.but {S : List Addr} {H H' : Hp} {p q : Addr} (h : StA H p q) (b : But S H H') (h1 : p ∉ S) (h2 : q ∉ S) : StA H' p q := by
  obtain ⟨ns, i, x, c, d, e1, e2, r⟩ := h.ex
  exact ⟨ns, i, x, c, d, b _ _ e1 h1, b _ _ e2 h2, r⟩
/-- a Share at a -/
def shF (n d : Int) : List (Str × V) := [("over", .int n), ("under", .int d)]
def ShA (CS : Addr) (H : Hp) (a : Addr) (n d : Int) : Prop := (∃ dx, H a = some (.ins CS dx (shF n d))) ∧ Low n d
theorem ShA.but {CS : Addr} {S : List Addr} {H H' : Hp} {a : Addr} {n d : Int} (h : ShA CS H a n d) (b : But S H H') (h1 : a ∉ S) : ShA CS H' a n d := by
  obtain ⟨⟨dx, e⟩, l⟩ := h
  exact ⟨⟨dx, b _ _ e h1⟩, l⟩
theorem sh_over (n d : Int) : (shF n d).lookup ("over" : Str) = some (.int n) := rfl
theorem sh_under (n d : Int) : (shF n d).lookup ("under" : Str) = some (.int d) := by first | rfl | decide +kernel
theorem iteD {p A B : Prop} [Decidable p] (h1 : p → A) (h2 : ¬ p → B) : if decide p = true then A else B := by
  by_cases h : p
  · rw [decide_eq_true h, if_pos rfl]; exact h1 h
  · rw [decide_eq_false h, if_neg Bool.false_ne_true]; exact h2 h
theorem iteN {p A B : Prop} [Decidable p] (h1 : ¬ p → A) (h2 : p → B) : if (!decide p) = true then A else B := by
  by_cases h : p
  · rw [decide_eq_true h]; exact h2 h
  · rw [decide_eq_false h]; exact h1 h
theorem szl {xs : List V} (h : Nat.ble xs.length 1000 = true) : xs.length ≤ sizeLine := Nat.le_trans (Nat.le_of_ble_eq_true h) (by decide)
theorem kt_ii {K : PySem.W.Frag} : PySem.W.kitOne K (.type "int") (.type "int") = some true := kit_ty (by decide +kernel)
theorem kt_ib {K : PySem.W.Frag} : PySem.W.kitOne K (.type "int") (.type "bool") = some false := kit_ty (by decide +kernel)
theorem kt_il {K : PySem.W.Frag} : PySem.W.kitOne K (.type "int") (.type "list") = some false := kit_ty (by decide +kernel)
theorem kt_it {K : PySem.W.Frag} : PySem.W.kitOne K (.type "int") (.type "tuple") = some false := kit_ty (by decide +kernel)
theorem kt_bb {K : PySem.W.Frag} : PySem.W.kitOne K (.type "bool") (.type "bool") = some true := kit_ty (by decide +kernel)
theorem upd_free {H : Hp} {a b : Addr} {o : HO} (h : upd H a o b = none) : H b = none ∧ b ≠ a := by
  by_cases e : b = a
  · rw [e, upd_same] at h; cases h
  · rw [upd_ne e] at h; exact ⟨h, e⟩
theorem szlt {n : Nat} (h : n ≤ 1000) : n < sizeLine := Nat.lt_of_le_of_lt h (by decide)

def sp0 (R : Hp → VK → XK → Prop) : Sp := fun vs H Q E => vs = [] ∧ R H Q E
/-- a short text of signs -/
def Tx (n : Nat) (t : Str) : Prop := t.length ≤ n ∧ PyData.strOk t = true
theorem Tx.mono {m n : Nat} {t : Str} (h : Tx m t) (l : m ≤ n) : Tx n t := ⟨Nat.le_trans h.1 l, h.2⟩
theorem Tx.lit {n : Nat} {s : Str} (h : (Nat.ble s.length n && PyData.strOk s) = true) : Tx n s :=
  ⟨Nat.le_of_ble_eq_true (Bool.and_eq_true_iff.mp h).1, (Bool.and_eq_true_iff.mp h).2⟩
theorem ok_mem {t : Str} (h : PyData.strOk t = true) {c : Nat} (m : c ∈ t.cps.toList) : c < 0x110000 := by
  have h' : t.cps.all (· < 0x110000) = true := h
  rw [← Array.all_toList, List.all_eq_true] at h'
  exact of_decide_eq_true (h' c m)
theorem ok_of {t : Str} (h : ∀ c ∈ t.cps.toList, c < 0x110000) : PyData.strOk t = true := by
  show t.cps.all (· < 0x110000) = true
  rw [← Array.all_toList, List.all_eq_true]
  exact fun c m => decide_eq_true (h c m)
theorem Tx.app {m n : Nat} {s t : Str} (a : Tx m s) (b : Tx n t) : Tx (m + n) (s ++ t) := by
  refine ⟨?_, ok_of fun c hc => ?_⟩
  · rw [PySem.Str.length_append]
    exact Nat.add_le_add a.1 b.1
  · rw [PySem.Str.cps_append, Array.toList_append] at hc
    rcases List.mem_append.mp hc with h | h
    · exact ok_mem a.2 h
    · exact ok_mem b.2 h
theorem Tx.one {c : Nat} (h : c < 0x110000) : Tx 1 ⟨#[c]⟩ := ⟨Nat.le_refl 1, ok_of fun d hd => by rw [List.mem_singleton.mp hd]; exact h⟩
theorem Tx.cut {n : Nat} {t : Str} (h : Tx n t) {lo hi : Option Int} : Tx n (cutS t lo hi) := by
  refine ⟨Nat.le_trans (cutS_length t lo hi) h.1, ok_of fun c hc => ok_mem h.2 ?_⟩
  unfold cutS at hc
  exact List.mem_of_mem_drop (List.mem_of_mem_take hc)
theorem Tx.sz {n : Nat} {t : Str} (h : Tx n t) (l : Nat.ble n 1000 = true) : t.length ≤ sizeLine := Nat.le_trans h.1 (Nat.le_trans (Nat.le_of_ble_eq_true l) (by decide))
theorem Tx.sz2 {m n : Nat} {s t : Str} (a : Tx m s) (b : Tx n t) (l : Nat.ble (m + n) 1000 = true) : s.length + t.length ≤ sizeLine := Nat.le_trans (Nat.add_le_add a.1 b.1) (Nat.le_trans (Nat.le_of_ble_eq_true l) (by decide))
theorem at_str {z : Str} {r : Int} (h0 : 0 ≤ r) (h : r < (z.length : Int)) : ∃ c, atI z.cps.toList r = some c ∧ (PyData.strOk z = true → c < 0x110000) := by
  obtain ⟨n, rfl⟩ := Int.eq_ofNat_of_zero_le h0
  have hn : n < z.cps.toList.length := by
    have : n < z.cps.size := by
      have e : z.length = z.cps.size := rfl
      omega
    rw [Array.length_toList]
    exact this
  exact ⟨z.cps.toList[n], atI_nat (List.getElem?_eq_getElem hn), fun h => ok_mem h (List.getElem_mem hn)⟩
theorem Sm.small {n : Int} {k : Nat} (h0 : 0 ≤ n) (h : n < 1000) (hk : 10 ≤ k := by decide) : Sm k n := Sm.mono (k := k) (j := 10) (by unfold Sm; omega) hk

end K01
namespace K01
open PySem PySem.Spec PyProof.Rows L2 R9
/-! ### what stays: a part F of the heap that is never changed again -/
def Fz (F H : Hp) : Prop := ∀ a o, F a = some o → H a = some o
theorem Fz.refl (F : Hp) : Fz F F := fun _ _ e => e
theorem Fz.trans {F G H : Hp} (a : Fz F G) (b : Fz G H) : Fz F H := fun x o e => b x o (a x o e)
/-- from (F, H) to (F', H'): all that stood but at S stands, what is new in F' is new -/
structure Up (S : List Addr) (F H F' H' : Hp) : Prop where
  sub : Fz F F'
  on : Fz F' H'
  new : ∀ a, F a = none → F' a ≠ none → H a = none
  but : But S H H'
  liv : ∀ a, H a ≠ none → H' a ≠ none
theorem Up.refl {S : List Addr} {F H : Hp} (h : Fz F H) : Up S F H F H := ⟨.refl F, h, fun _ a b => absurd a b, .refl _ _, fun _ h => h⟩
theorem Up.mono {S T : List Addr} {F H F' H' : Hp} (u : Up S F H F' H') (h : ∀ x ∈ S, x ∈ T) : Up T F H F' H' := ⟨u.sub, u.on, u.new, u.but.mono h, u.liv⟩
theorem Up.trans {S : List Addr} {F H F1 H1 F2 H2 : Hp} (u : Up S F H F1 H1) (v : Up S F1 H1 F2 H2) : Up S F H F2 H2 := by
  refine ⟨u.sub.trans v.sub, v.on, fun a h1 h2 => ?_, u.but.trans v.but, fun a h => v.liv a (u.liv a h)⟩
  by_cases c : F1 a = none
  · have h3 := v.new a c h2
    cases e : H a with
    | none => rfl
    | some o => exact absurd h3 (u.liv a (by rw [e]; exact Option.some_ne_none o))
  · exact u.new a h1 c
theorem Up.at {S : List Addr} {F H F' H' : Hp} (u : Up S F H F' H') {a : Addr} {o : HO} (e : F a = some o) : F' a = some o := u.sub a o e
theorem Up.nn {S : List Addr} {F H F' H' : Hp} (u : Up S F H F' H') {a : Addr} (e : F a = none) (h : H a ≠ none) : F' a = none := by
  cases c : F' a with
  | none => rfl
  | some o => exact absurd (u.new a e (by rw [c]; exact Option.some_ne_none o)) h
/-- a new thing that stays -/
theorem Up.fresh {S : List Addr} {F H : Hp} (h : Fz F H) {a : Addr} (ha : H a = none) (o : HO) : Up S F H (upd F a o) (upd H a o) := by
  have fa : F a = none := by
    cases c : F a with
    | none => rfl
    | some x => rw [h a x c] at ha; cases ha
  refine ⟨fun b x e => ?_, fun b x e => ?_, fun b h1 h2 => ?_, But.new ha, fun b hb => ?_⟩
  · rw [upd_ne (fun z => by rw [z, fa] at e; cases e)]; exact e
  · by_cases c : b = a
    · subst c; rw [upd_same] at e ⊢; exact e
    · rw [upd_ne c] at e ⊢; exact h b x e
  · by_cases c : b = a
    · rw [c]; exact ha
    · rw [upd_ne c] at h2; exact absurd h1 h2
  · by_cases c : b = a
    · rw [c, upd_same]; exact Option.some_ne_none _
    · rw [upd_ne c]; exact hb
theorem Fz.no {F H : Hp} (h : Fz F H) {l : Addr} (e : H l = none) : F l = none := by
  cases c : F l with
  | none => rfl
  | some x => rw [h l x c] at e; cases e
theorem Up.old {S : List Addr} {F0 H0 F H : Hp} {a : Addr} (u : Up S F0 H0 F H) (h : H a = none) : H0 a = none := by
  cases c : H0 a with
  | none => rfl
  | some o => exact absurd h (u.liv a (by rw [c]; exact Option.some_ne_none o))
theorem Up.drop {S : List Addr} {F0 H0 F H : Hp} {l : Addr} (u : Up (l :: S) F0 H0 F H) (e : H0 l = none) : Up S F0 H0 F H := ⟨u.sub, u.on, u.new, But.drop e u.but, u.liv⟩
theorem Up.of0 {S : List Addr} {F0 H0 F H : Hp} (u : Up [] F0 H0 F H) : Up S F0 H0 F H := u.mono fun _ h => by cases h
theorem Up.more {S S1 : List Addr} {F0 H0 F H F1 H1 : Hp} (u : Up S F0 H0 F H) (v : Up S1 F H F1 H1) (h : ∀ x ∈ S1, x ∈ S) : Up S F0 H0 F1 H1 := u.trans (v.mono h)
/-- a thing of one's own, new since H0, that may still change -/
structure Ow (H0 F H : Hp) (l : Addr) (o : HO) : Prop where
  at_ : H l = some o
  no : F l = none
  new : H0 l = none
theorem Ow.up {S : List Addr} {H0 F H F' H' : Hp} {l : Addr} {o : HO} (c : Ow H0 F H l o) (u : Up S F H F' H') (n : ∀ s ∈ S, H0 s ≠ none) : Ow H0 F' H' l o :=
  ⟨u.but _ _ c.at_ (fun z => n l z c.new), u.nn c.no (by rw [c.at_]; exact Option.some_ne_none o), c.new⟩
theorem Ow.up0 {H0 F H F' H' : Hp} {l : Addr} {o : HO} (c : Ow H0 F H l o) (u : Up [] F H F' H') : Ow H0 F' H' l o := c.up u fun _ h => by cases h
/-- another one of one's own changed -/
theorem Ow.ne {H0 F H F' H' : Hp} {l m : Addr} {o o' : HO} (c : Ow H0 F H l o) (d : Ow H0 F H m o') (u : Up [m] F H F' H') (n : l ≠ m) : Ow H0 F' H' l o :=
  ⟨u.but _ _ c.at_ (by simpa using n), u.nn c.no (by rw [c.at_]; exact Option.some_ne_none o), c.new⟩
/-- it begins -/
theorem Up.begin {S : List Addr} {F0 H0 F H : Hp} (u : Up S F0 H0 F H) {l : Addr} (e : H l = none) (o : HO) : Up [] F H F (upd H l o) ∧ Up S F0 H0 F (upd H l o) ∧ Ow H0 F (upd H l o) l o := by
  have b : Up [] F H F (upd H l o) := ⟨.refl F, fun b x c => by rw [upd_ne (fun z => by rw [z, u.on.no e] at c; cases c)]; exact u.on b x c, fun _ a b => absurd a b, But.new e, fun b hb => by
    by_cases c : b = l
    · rw [c, upd_same]; exact Option.some_ne_none _
    · rw [upd_ne c]; exact hb⟩
  exact ⟨b, u.trans b.of0, upd_same, u.on.no e, u.old e⟩
/-- it changes -/
theorem Up.put {S : List Addr} {F0 H0 F H : Hp} {l : Addr} {o : HO} (u : Up S F0 H0 F H) (c : Ow H0 F H l o) (o' : HO) : Up [l] F H F (upd H l o') ∧ Up S F0 H0 F (upd H l o') ∧ Ow H0 F (upd H l o') l o' := by
  have b : Up [l] F H F (upd H l o') := ⟨.refl F, fun b x e => by rw [upd_ne (fun z => by rw [z, c.no] at e; cases e)]; exact u.on b x e, fun _ a b => absurd a b, But.put List.mem_cons_self, fun b hb => by
    by_cases d : b = l
    · rw [d, upd_same]; exact Option.some_ne_none _
    · rw [upd_ne d]; exact hb⟩
  exact ⟨b, Up.drop ((u.mono fun x h => List.mem_cons_of_mem _ h).trans (b.mono fun x h => by rw [List.mem_singleton.mp h]; exact List.mem_cons_self)) c.new, upd_same, c.no, c.new⟩
/-- what is in S changes -/
theorem Up.set {S : List Addr} {F0 H0 F H : Hp} {m : Addr} (u : Up S F0 H0 F H) (mS : m ∈ S) (fm : F m = none) (o' : HO) : Up [m] F H F (upd H m o') ∧ Up S F0 H0 F (upd H m o') := by
  have b : Up [m] F H F (upd H m o') := ⟨.refl F, fun b x e => by rw [upd_ne (fun z => by rw [z, fm] at e; cases e)]; exact u.on b x e, fun _ a b => absurd a b, But.put List.mem_cons_self, fun b hb => by
    by_cases d : b = m
    · rw [d, upd_same]; exact Option.some_ne_none _
    · rw [upd_ne d]; exact hb⟩
  exact ⟨b, u.trans (b.mono fun x h => by rw [List.mem_singleton.mp h]; exact mS)⟩
/-- it stays from now on -/
theorem Up.keep {S : List Addr} {F0 H0 F H : Hp} {l : Addr} {o : HO} (u : Up S F0 H0 F H) (c : Ow H0 F H l o) : Up S F0 H0 (upd F l o) H ∧ Fz F (upd F l o) ∧ (upd F l o) l = some o := by
  have s : Fz F (upd F l o) := fun b x d => by rw [upd_ne (fun z => by rw [z, c.no] at d; cases d)]; exact d
  refine ⟨⟨u.sub.trans s, fun b x d => ?_, fun b h1 h2 => ?_, u.but, u.liv⟩, s, upd_same⟩
  · by_cases z : b = l
    · subst z; rw [upd_same] at d; rw [c.at_]; exact d
    · rw [upd_ne z] at d; exact u.on _ _ d
  · by_cases z : b = l
    · rw [z]; exact c.new
    · rw [upd_ne z] at h2; exact u.new b h1 h2
theorem Ow.kept {H0 F H : Hp} {l m : Addr} {o o' : HO} (c : Ow H0 F H l o) (n : l ≠ m) : Ow H0 (upd F m o') H l o := ⟨c.at_, by rw [upd_ne n]; exact c.no, c.new⟩
/-- nothing stays yet -/
def Nil : Hp := fun _ => none
theorem Up.nil {S : List Addr} (H : Hp) : Up S Nil H Nil H := .refl fun _ _ e => by cases e
/-- what G has where H0 had nothing -/
def Nw (H0 H G : Hp) : Prop := ∀ a, H0 a = none → G a = H a
theorem Up.nw {S : List Addr} {H0 F H G : Hp} (u : Up S Nil H0 F H) (n : Nw H0 H G) : Fz F G := fun a o e => by
  rw [n a (u.new a rfl (by rw [e]; exact Option.some_ne_none o))]
  exact u.on a o e
/-! ### data that stays -/
theorem sql_fz {K : PySem.W.Frag} {F G : Hp} (h : Fz F G) {a : Addr} {xs : List V} (s : SqL K F a xs) : SqL K G a xs := by
  rcases s with (s | ⟨o, s⟩) | s
  · exact .inl (.inl (h _ _ s))
  · exact .inl (.inr ⟨o, h _ _ s⟩)
  · exact .inr s
theorem sqt_fz {K : PySem.W.Frag} {F G : Hp} (h : Fz F G) {a : Addr} {xs : List V} (s : SqT K F a xs) : SqT K G a xs := by
  rcases s with (s | ⟨o, s⟩) | s
  · exact .inl (.inl (h _ _ s))
  · exact .inl (.inr ⟨o, h _ _ s⟩)
  · exact .inr s
mutual
theorem Dp.fz {K : PySem.W.Frag} {F G : Hp} (h : Fz F G) : ∀ {d : PyData} {v : V}, Dp K F v d → Dp K G v d
  | .none, _, .non => .non
  | .bool _, _, .bl b => .bl b
  | .int _, _, .int i => .int i
  | .str _, _, .str x => .str x
  | .list _, _, .lst s a => .lst (sql_fz h s) (Dp.fzAll h a)
  | .tuple _, _, .tup s a => .tup (sqt_fz h s) (Dp.fzAll h a)
theorem Dp.fzAll {K : PySem.W.Frag} {F G : Hp} (h : Fz F G) : ∀ {ds : List PyData} {vs : List V}, DpAll K F vs ds → DpAll K G vs ds
  | [], _, .nil => .nil
  | _ :: _, _, .cons a b => .cons (Dp.fz h a) (Dp.fzAll h b)
end
end K01
namespace K01
open PySem PySem.Spec PyProof.Rows L2 R9
/-! ### comprehensions, by what is known of the items made so far -/

theorem lcg_list {K : PySem.W.Frag} {a : Addr} {xs : List V} {g : TG} {tt : TT} {te : TE} {vs : List Nat} {σ : L2.St} {H1 : Hp} {D : Addr} {Qd : Hp → Prop} {S S1 : List Addr} {F0 H0 F : Hp}
    (J : Hp → Prop) (I : Nat → List V → Hp → Prop) (u0 : Up S F0 H0 F H1) (j0 : J H1) (hD : H1 D = none) (hJ : ∀ H o, J H → J (upd H D o)) (hS : ∀ x ∈ S1, x ∈ S ∧ H0 x ≠ none) (hs : ∀ F2 H2, Up S F0 H0 F2 H2 → Fz F F2 → Up (D :: S1) F H1 F2 H2 → SqL K H2 a xs) (sz : xs.length ≤ 100000)
    (i0 : I 0 [] F) (im : ∀ i ys F1 F2, Fz F1 F2 → I i ys F1 → I i ys F2)
    (turn : ∀ i x F2 H2 acc, xs[i]? = some x → Up S F0 H0 F2 H2 → Fz F F2 → Up (D :: S1) F H1 F2 H2 → J H2 → I i acc F2 → ∀ (T : V → Hp → Prop) (N : Hp → Prop), (∀ y F5 H5, Up S1 F2 H2 F5 H5 → J H5 → I (i + 1) (acc ++ [y]) F5 → T y H5) → (∀ F5 H5, Up S1 F2 H2 F5 H5 → J H5 → I (i + 1) acc F5 → N H5) →
      g x (wipe σ vs) H2 fun σ2 H3 => wipe σ2 vs = wipe σ vs ∧ tt σ2 H3 fun b H4 => if b = true then te σ2 H4 T else N H4)
    (after : ∀ ys F2 H2, Up S F0 H0 F2 H2 → Fz F F2 → Up S1 F H1 F2 H2 → J H2 → Ow H0 F2 H2 D (.lst ys) → ys.length ≤ xs.length → I xs.length ys F2 → Qd H2) :
    ∃ W : Nat → Nat → Hp → Prop, (∃ m, W 0 m (upd H1 D (.lst []))) ∧ ∀ i m H, W i m H →
      ((Itl K a).stop i H ∧ Qd H) ∨ ((Itl K a).go i H ∧ ∃ Nx : Hp → Prop, (∀ H', Nx H' → ∃ m', m' < m ∧ W (i + 1) m' H') ∧ ∀ x H', (Itl K a).yld i H x H' → g x (wipe σ vs) H' fun σ2 H2 => wipe σ2 vs = wipe σ vs ∧ tt σ2 H2 fun b H3 =>
        if b = true then te σ2 H3 fun y H4 => ∃ acc, H4 D = some (.lst acc) ∧ acc.length < sizeLine ∧ Nx (upd H4 D (.lst (acc ++ [y]))) else Nx H3) := by
  have sz2 : (100000 : Nat) < sizeLine := by decide
  refine lc_list (K := K) (a := a) (xs := xs) (fun i H => ∃ F2 acc, Up S F0 H0 F2 H ∧ Fz F F2 ∧ Up (D :: S1) F H1 F2 H ∧ J H ∧ Ow H0 F2 H D (.lst acc) ∧ acc.length ≤ i ∧ I i acc F2) ?_ (fun i H _ h => ?_) ?_ ?_
  · obtain ⟨v, u, c⟩ := u0.begin hD (.lst [])
    exact ⟨F, [], u, .refl F, v.of0, hJ _ _ j0, c, Nat.le_refl _, i0⟩
  · obtain ⟨F2, acc, u, f, v, _⟩ := h
    exact hs F2 H u f v
  · rintro i x H2 hx ⟨F2, acc, u, f, v, j, c, l, inv⟩
    have il : i < xs.length := (List.getElem?_eq_some_iff.mp hx).1
    refine turn i x F2 H2 acc hx u f v j inv _ _ (fun y F5 H5 u5 j5 inv5 => ?_) (fun F5 H5 u5 j5 inv5 => ?_)
    · have c5 := c.up u5 fun x h => (hS x h).2
      have U5 := u.more u5 fun x h => (hS x h).1
      have V5 := v.more u5 fun x h => List.mem_cons_of_mem _ h
      obtain ⟨v6, u6, c6⟩ := U5.put c5 (.lst (acc ++ [y]))
      exact ⟨acc, c5.at_, Nat.lt_of_le_of_lt l (Nat.lt_of_lt_of_le il (Nat.le_trans sz (Nat.le_of_lt sz2))), F5, acc ++ [y], u6, f.trans u5.sub, V5.more v6 (fun x h => by rw [List.mem_singleton.mp h]; exact List.mem_cons_self), hJ _ _ j5, c6, by rw [List.length_append]; exact Nat.succ_le_succ l, inv5⟩
    · exact ⟨F5, acc, u.more u5 fun x h => (hS x h).1, f.trans u5.sub, v.more u5 fun x h => List.mem_cons_of_mem _ h, j5, c.up u5 fun x h => (hS x h).2, Nat.le_succ_of_le l, inv5⟩
  · rintro H2 ⟨F2, acc, u, f, v, j, c, l, inv⟩
    exact after acc F2 H2 u f (v.drop hD) j c l inv

theorem lcg_tup {K : PySem.W.Frag} {a : Addr} {xs : List V} {g : TG} {tt : TT} {te : TE} {vs : List Nat} {σ : L2.St} {H1 : Hp} {D : Addr} {Qd : Hp → Prop} {S S1 : List Addr} {F0 H0 F : Hp}
    (J : Hp → Prop) (I : Nat → List V → Hp → Prop) (u0 : Up S F0 H0 F H1) (j0 : J H1) (hD : H1 D = none) (hJ : ∀ H o, J H → J (upd H D o)) (hS : ∀ x ∈ S1, x ∈ S ∧ H0 x ≠ none) (hs : ∀ F2 H2, Up S F0 H0 F2 H2 → Fz F F2 → Up (D :: S1) F H1 F2 H2 → SqT K H2 a xs) (sz : xs.length ≤ 100000)
    (i0 : I 0 [] F) (im : ∀ i ys F1 F2, Fz F1 F2 → I i ys F1 → I i ys F2)
    (turn : ∀ i x F2 H2 acc, xs[i]? = some x → Up S F0 H0 F2 H2 → Fz F F2 → Up (D :: S1) F H1 F2 H2 → J H2 → I i acc F2 → ∀ (T : V → Hp → Prop) (N : Hp → Prop), (∀ y F5 H5, Up S1 F2 H2 F5 H5 → J H5 → I (i + 1) (acc ++ [y]) F5 → T y H5) → (∀ F5 H5, Up S1 F2 H2 F5 H5 → J H5 → I (i + 1) acc F5 → N H5) →
      g x (wipe σ vs) H2 fun σ2 H3 => wipe σ2 vs = wipe σ vs ∧ tt σ2 H3 fun b H4 => if b = true then te σ2 H4 T else N H4)
    (after : ∀ ys F2 H2, Up S F0 H0 F2 H2 → Fz F F2 → Up S1 F H1 F2 H2 → J H2 → Ow H0 F2 H2 D (.lst ys) → ys.length ≤ xs.length → I xs.length ys F2 → Qd H2) :
    ∃ W : Nat → Nat → Hp → Prop, (∃ m, W 0 m (upd H1 D (.lst []))) ∧ ∀ i m H, W i m H →
      ((Itt K a).stop i H ∧ Qd H) ∨ ((Itt K a).go i H ∧ ∃ Nx : Hp → Prop, (∀ H', Nx H' → ∃ m', m' < m ∧ W (i + 1) m' H') ∧ ∀ x H', (Itt K a).yld i H x H' → g x (wipe σ vs) H' fun σ2 H2 => wipe σ2 vs = wipe σ vs ∧ tt σ2 H2 fun b H3 =>
        if b = true then te σ2 H3 fun y H4 => ∃ acc, H4 D = some (.lst acc) ∧ acc.length < sizeLine ∧ Nx (upd H4 D (.lst (acc ++ [y]))) else Nx H3) := by
  have sz2 : (100000 : Nat) < sizeLine := by decide
  refine lc_tup (K := K) (a := a) (xs := xs) (fun i H => ∃ F2 acc, Up S F0 H0 F2 H ∧ Fz F F2 ∧ Up (D :: S1) F H1 F2 H ∧ J H ∧ Ow H0 F2 H D (.lst acc) ∧ acc.length ≤ i ∧ I i acc F2) ?_ (fun i H _ h => ?_) ?_ ?_
  · obtain ⟨v, u, c⟩ := u0.begin hD (.lst [])
    exact ⟨F, [], u, .refl F, v.of0, hJ _ _ j0, c, Nat.le_refl _, i0⟩
  · obtain ⟨F2, acc, u, f, v, _⟩ := h
    exact hs F2 H u f v
  · rintro i x H2 hx ⟨F2, acc, u, f, v, j, c, l, inv⟩
    have il : i < xs.length := (List.getElem?_eq_some_iff.mp hx).1
    refine turn i x F2 H2 acc hx u f v j inv _ _ (fun y F5 H5 u5 j5 inv5 => ?_) (fun F5 H5 u5 j5 inv5 => ?_)
    · have c5 := c.up u5 fun x h => (hS x h).2
      have U5 := u.more u5 fun x h => (hS x h).1
      have V5 := v.more u5 fun x h => List.mem_cons_of_mem _ h
      obtain ⟨v6, u6, c6⟩ := U5.put c5 (.lst (acc ++ [y]))
      exact ⟨acc, c5.at_, Nat.lt_of_le_of_lt l (Nat.lt_of_lt_of_le il (Nat.le_trans sz (Nat.le_of_lt sz2))), F5, acc ++ [y], u6, f.trans u5.sub, V5.more v6 (fun x h => by rw [List.mem_singleton.mp h]; exact List.mem_cons_self), hJ _ _ j5, c6, by rw [List.length_append]; exact Nat.succ_le_succ l, inv5⟩
    · exact ⟨F5, acc, u.more u5 fun x h => (hS x h).1, f.trans u5.sub, v.more u5 fun x h => List.mem_cons_of_mem _ h, j5, c.up u5 fun x h => (hS x h).2, Nat.le_succ_of_le l, inv5⟩
  · rintro H2 ⟨F2, acc, u, f, v, j, c, l, inv⟩
    exact after acc F2 H2 u f (v.drop hD) j c l inv

/-! ### the world of a law's body: what stays, what may change, the script's state -/
structure Wr (F0 H0 F H : Hp) (p q : Addr) : Prop where
  up : Up [p] F0 H0 F H
  fp : F p = none
  fq : F q = none
  st : StA H p q
  lp : H0 p ≠ none
  lq : H0 q ≠ none
theorem StA.lv {H : Hp} {p q : Addr} (h : StA H p q) : H p ≠ none ∧ H q ≠ none := by
  obtain ⟨_, _, _, _, _, e1, e2, _⟩ := h.ex
  exact ⟨by rw [e1]; exact Option.some_ne_none _, by rw [e2]; exact Option.some_ne_none _⟩
theorem StA.off {H : Hp} {p q l : Addr} (h : StA H p q) (hl : H l = none) : l ≠ p ∧ l ≠ q := ⟨fun z => h.lv.1 (z ▸ hl), fun z => h.lv.2 (z ▸ hl)⟩
theorem Wr.start {H : Hp} {p q : Addr} (s : StA H p q) : Wr Nil H Nil H p q := ⟨.nil H, rfl, rfl, s, s.lv.1, s.lv.2⟩
section
variable {F0 H0 F H : Hp} {p q : Addr}
theorem Wr.fz (W : Wr F0 H0 F H p q) : Fz F H := W.up.on
theorem Wr.at {a : Addr} {o : HO} (W : Wr F0 H0 F H p q) (e : F a = some o) : H a = some o := W.up.on _ _ e
theorem Wr.step {F1 H1 : Hp} (W : Wr F0 H0 F H p q) (u : Up [p] F H F1 H1) (s : StA H1 p q) : Wr F0 H0 F1 H1 p q :=
  ⟨W.up.trans u, u.nn W.fp W.st.lv.1, u.nn W.fq W.st.lv.2, s, W.lp, W.lq⟩
theorem Wr.step0 {F1 H1 : Hp} (W : Wr F0 H0 F H p q) (u : Up [] F H F1 H1) : Wr F0 H0 F1 H1 p q := W.step u.of0 (W.st.but u.but (by simp) (by simp))
theorem Wr.draws {H1 : Hp} (W : Wr F0 H0 F H p q) (s : StA H1 p q) (b : But [p] H H1) : Up [p] F H F H1 :=
  ⟨.refl F, fun a o e => b a o (W.up.on a o e) (by simpa using fun z => by rw [z, W.fp] at e; cases e), fun _ a b => absurd a b, b, fun a h => by
    by_cases c : a = p
    · rw [c]; exact s.lv.1
    · cases e : H a with
      | none => exact absurd e h
      | some o => rw [b a o e (by simpa using c)]; exact Option.some_ne_none o⟩
theorem Wr.draw {H1 : Hp} (W : Wr F0 H0 F H p q) (s : StA H1 p q) (b : But [p] H H1) : Wr F0 H0 F H1 p q := W.step (W.draws s b) s
end
/-- all that is new stays -/
def allNew (F H H1 : Hp) : Hp := fun a => match F a with | some o => some o | none => match H a with | none => H1 a | some _ => none
theorem allNew_new {F H H1 : Hp} (f : Fz F H) {a : Addr} (h : H a = none) : allNew F H H1 a = H1 a := by
  unfold allNew
  rw [f.no h, h]
theorem Up.all {S : List Addr} {F H H1 : Hp} (u : Up S F H F H1) (f : Fz F H) : Up S F H (allNew F H H1) H1 := by
  refine ⟨fun a o e => ?_, fun a o e => ?_, fun a h1 h2 => ?_, u.but, u.liv⟩
  · unfold allNew; rw [e]
  · unfold allNew at e
    cases c : F a with
    | some x => rw [c] at e; exact u.on _ _ (c.trans e)
    | none =>
      rw [c] at e
      cases d : H a with
      | none => rw [d] at e; exact e
      | some x => rw [d] at e; cases e
  · cases d : H a with
    | none => rfl
    | some x =>
      unfold allNew at h2
      rw [h1, d] at h2
      exact absurd rfl h2
theorem But.up {F H H1 : Hp} (f : Fz F H) (b : But [] H H1) : Up [] F H F H1 :=
  ⟨.refl F, fun a o e => b a o (f a o e) (by simp), fun _ a b => absurd a b, b, fun a h => by
    cases e : H a with
    | none => exact absurd e h
    | some o => rw [b a o e (by simp)]; exact Option.some_ne_none o⟩
/-- a callee made new things, which stay -/
theorem But.take {F H H1 : Hp} (f : Fz F H) (b : But [] H H1) : ∃ F1, Up [] F H F1 H1 ∧ Nw H H1 F1 := ⟨_, (But.up f b).all f, fun _ h => allNew_new f h⟩
section
variable {F0 H0 F H : Hp} {p q : Addr}
theorem Wr.take {H1 : Hp} (W : Wr F0 H0 F H p q) (s : StA H1 p q) (b : But [p] H H1) : ∃ F1, Up [p] F H F1 H1 ∧ Wr F0 H0 F1 H1 p q ∧ Nw H H1 F1 :=
  ⟨_, (W.draws s b).all W.fz, W.step ((W.draws s b).all W.fz) s, fun a h => allNew_new W.fz h⟩
theorem Wr.take0 {H1 : Hp} (W : Wr F0 H0 F H p q) (b : But [] H H1) : ∃ F1, Up [p] F H F1 H1 ∧ Wr F0 H0 F1 H1 p q ∧ Nw H H1 F1 := by
  obtain ⟨F1, u, n⟩ := But.take W.fz b
  exact ⟨F1, u.of0, W.step0 u, n⟩
/-- a new thing that stays -/
theorem Wr.new {a : Addr} (W : Wr F0 H0 F H p q) (ha : H a = none) (o : HO) : Up [p] F H (upd F a o) (upd H a o) ∧ Wr F0 H0 (upd F a o) (upd H a o) p q ∧ (upd F a o) a = some o :=
  ⟨.fresh W.fz ha o, W.step0 (.fresh W.fz ha o), upd_same⟩
theorem Ow.st {F' H' : Hp} {l : Addr} {o : HO} (c : Ow H0 F H l o) (W : Wr F0 H0 F H p q) (u : Up [p] F H F' H') : Ow H0 F' H' l o := c.up u fun s h => by rw [List.mem_singleton.mp h]; exact W.lp
/-- a thing of one's own begins, changes, stays -/
theorem Wr.begin {l : Addr} (W : Wr F0 H0 F H p q) (hl : H l = none) (o : HO) : Up [p] F H F (upd H l o) ∧ Wr F0 H0 F (upd H l o) p q ∧ Ow H0 F (upd H l o) l o := by
  obtain ⟨b, u, c⟩ := W.up.begin hl o
  exact ⟨b.of0, W.step0 b, c⟩
theorem Wr.put {l : Addr} {o : HO} (W : Wr F0 H0 F H p q) (c : Ow H0 F H l o) (o' : HO) : Up [l] F H F (upd H l o') ∧ Wr F0 H0 F (upd H l o') p q ∧ Ow H0 F (upd H l o') l o' := by
  obtain ⟨b, u, c'⟩ := W.up.put c o'
  have lp : p ≠ l := fun z => W.lp (z ▸ c.new)
  have lq : q ≠ l := fun z => W.lq (z ▸ c.new)
  exact ⟨b, ⟨u, W.fp, W.fq, W.st.but b.but (by simpa using lp) (by simpa using lq), W.lp, W.lq⟩, c'⟩
theorem Wr.keep {l : Addr} {o : HO} (W : Wr F0 H0 F H p q) (c : Ow H0 F H l o) : Wr F0 H0 (upd F l o) H p q ∧ Fz F (upd F l o) ∧ (upd F l o) l = some o := by
  obtain ⟨u, f, e⟩ := W.up.keep c
  have lp : p ≠ l := fun z => W.lp (z ▸ c.new)
  have lq : q ≠ l := fun z => W.lq (z ▸ c.new)
  exact ⟨⟨u, by rw [upd_ne lp]; exact W.fp, by rw [upd_ne lq]; exact W.fq, W.st, W.lp, W.lq⟩, f, e⟩
end
end K01
namespace K01
open PySem PySem.Spec PyProof.Rows L2 R9 R9M
/-! ### rows of values, each what an item tells -/
def Each {α : Type} (R : α → V → Prop) (xs : List α) (vs : List V) : Prop := vs.length = xs.length ∧ ∀ (j : Nat) (x : α) (v : V), xs[j]? = some x → vs[j]? = some v → R x v
theorem Each.nil {α : Type} {R : α → V → Prop} : Each R [] [] := ⟨rfl, fun j x v h => by simp at h⟩
theorem Each.mono {α : Type} {R R' : α → V → Prop} {xs : List α} {vs : List V} (e : Each R xs vs) (h : ∀ x v, R x v → R' x v) : Each R' xs vs := ⟨e.1, fun j x v a b => h x v (e.2 j x v a b)⟩
theorem Each.get {α : Type} {R : α → V → Prop} {xs : List α} {vs : List V} (e : Each R xs vs) {j : Nat} {x : α} (h : xs[j]? = some x) : ∃ v, vs[j]? = some v ∧ R x v := by
  have l : j < vs.length := by rw [e.1]; exact (List.getElem?_eq_some_iff.mp h).1
  exact ⟨_, List.getElem?_eq_getElem l, e.2 j x _ h (List.getElem?_eq_getElem l)⟩
theorem Each.back {α : Type} {R : α → V → Prop} {xs : List α} {vs : List V} (e : Each R xs vs) {j : Nat} {v : V} (h : vs[j]? = some v) : ∃ x, xs[j]? = some x ∧ R x v := by
  have l : j < xs.length := by rw [← e.1]; exact (List.getElem?_eq_some_iff.mp h).1
  exact ⟨_, List.getElem?_eq_getElem l, e.2 j _ v (List.getElem?_eq_getElem l) h⟩
theorem Each.snoc {α : Type} {R : α → V → Prop} {xs : List α} {vs : List V} {x : α} {v : V} (e : Each R xs vs) (h : R x v) : Each R (xs ++ [x]) (vs ++ [v]) := by
  refine ⟨by rw [List.length_append, List.length_append, e.1]; rfl, fun j y u a b => ?_⟩
  by_cases c : j < xs.length
  · rw [List.getElem?_append_left c] at a
    rw [List.getElem?_append_left (by rw [e.1]; exact c)] at b
    exact e.2 j y u a b
  · rw [List.getElem?_append_right (by omega)] at a
    rw [List.getElem?_append_right (by rw [e.1]; omega), e.1] at b
    have z : j - xs.length = 0 := by
      have := (List.getElem?_eq_some_iff.mp a).1
      simp only [List.length_singleton] at this
      omega
    rw [z] at a b
    cases a; cases b
    exact h
theorem Each.take {α : Type} {R : α → V → Prop} {xs : List α} {vs : List V} {i : Nat} {x : α} {v : V} (e : Each R (xs.take i) vs) (hx : xs[i]? = some x) (h : R x v) : Each R (xs.take (i + 1)) (vs ++ [v]) := by
  rw [List.take_add_one, hx]
  exact e.snoc h
theorem take_add {α : Type} {xs : List α} {i : Nat} {x : α} (h : xs[i]? = some x) : xs.take (i + 1) = xs.take i ++ [x] := by rw [List.take_add_one, h]; rfl
theorem lt_of_at {α : Type} {xs : List α} {i : Nat} {x : α} (h : xs[i]? = some x) : i < xs.length := (List.getElem?_eq_some_iff.mp h).1
/-! ### texts in a list -/
def Tls (H : Hp) (l : Addr) (ts : List Str) : Prop := H l = some (.lst (ts.map V.str))
/-- an entry: weight, text, accused -/
structure Ent where
  w : Int
  t : Str
  acc : List Str
def EnR (H : Hp) (e : Ent) (v : V) : Prop := ∃ a c, v = .ref a ∧ H a = some (.tup [.int e.w, .str e.t, .ref c]) ∧ H c = some (.lst (e.acc.map V.str))
def EnX (H : Hp) (e : Ent) (v : V) : Prop := ∃ a c, v = .ref a ∧ (H a = some (.tup [.int e.w, .str e.t, .ref c]) ∨ H a = some (.lst [.int e.w, .str e.t, .ref c])) ∧ (H c = some (.lst (e.acc.map V.str)) ∨ H c = some (.tup (e.acc.map V.str)))
def MkR (H : Hp) (e : Ent) (v : V) : Prop := ∃ a c ys, v = .ref a ∧ H a = some (.tup [.int e.w, .str e.t, .ref c]) ∧ H c = some (.tup (ys.map V.str)) ∧ ys.Perm e.acc ∧ sortedS ys = true
theorem EnR.fz {F G : Hp} (h : Fz F G) {e : Ent} {v : V} (r : EnR F e v) : EnR G e v := by obtain ⟨a, c, r1, r2, r3⟩ := r; exact ⟨a, c, r1, h _ _ r2, h _ _ r3⟩
theorem MkR.fz {F G : Hp} (h : Fz F G) {e : Ent} {v : V} (r : MkR F e v) : MkR G e v := by obtain ⟨a, c, ys, r1, r2, r3, r4⟩ := r; exact ⟨a, c, ys, r1, h _ _ r2, h _ _ r3, r4⟩
structure EnsA (H : Hp) (l : Addr) (vs : List V) (es : List Ent) : Prop where
  at_ : H l = some (.lst vs)
  it : Each (EnR H) es vs
theorem EnsA.fz {F G : Hp} (h : Fz F G) {l : Addr} {vs : List V} {es : List Ent} (r : EnsA F l vs es) : EnsA G l vs es := ⟨h _ _ r.at_, r.it.mono fun _ _ => EnR.fz h⟩
structure EnsX (H : Hp) (l : Addr) (vs : List V) (es : List Ent) : Prop where
  src : H l = some (.lst vs) ∨ H l = some (.tup vs)
  it : Each (EnX H) es vs
def wsum (es : List Ent) : Int := (es.map (·.w)).sum
structure MarkA (CM : Addr) (H : Hp) (m t : Addr) (vs : List V) (es : List Ent) : Prop where
  at_ : ∃ dx, H m = some (.ins CM dx [("entries", .ref t), ("whole", .int (wsum es))])
  en : H t = some (.tup vs)
  it : Each (MkR H) es vs
theorem MarkA.fz {CM : Addr} {F G : Hp} (h : Fz F G) {m t : Addr} {vs : List V} {es : List Ent} (r : MarkA CM F m t vs es) : MarkA CM G m t vs es := by
  obtain ⟨dx, e⟩ := r.at_
  exact ⟨⟨dx, h _ _ e⟩, h _ _ r.en, r.it.mono fun _ _ => MkR.fz h⟩
structure EnOk (es : List Ent) : Prop where
  len : es.length ≤ 60
  pos : 1 ≤ es.length
  each : ∀ e ∈ es, 1 ≤ e.w ∧ e.w ≤ 10 ^ 40 ∧ Tx 30 e.t ∧ e.acc.length ≤ 30 ∧ ∀ u ∈ e.acc, Tx 30 u
theorem EnOk.wts {es : List Ent} (h : ∀ e ∈ es, 1 ≤ e.w ∧ e.w ≤ 10 ^ 40) (hl : es.length ≤ 60) : 0 ≤ wsum es ∧ Sm 200 (wsum es) ∧ (1 ≤ es.length → 1 ≤ wsum es) := by
  have a : ∀ w ∈ es.map (·.w), 0 ≤ w ∧ w ≤ 10 ^ 40 := fun w hw => by
    obtain ⟨e, he, rfl⟩ := List.mem_map.mp hw
    have := h e he
    exact ⟨by omega, this.2⟩
  obtain ⟨s1, s2⟩ := sum_le _ a
  rw [List.length_map] at s2
  have l2 : ((es.length : Nat) : Int) * 10 ^ 40 ≤ 60 * 10 ^ 40 := Int.mul_le_mul_of_nonneg_right (by omega) (by decide)
  have c : (60 : Int) * 10 ^ 40 < 2 ^ 200 := by decide +kernel
  have s1' : 0 ≤ wsum es := s1
  have s2' : wsum es ≤ es.length * 10 ^ 40 := s2
  refine ⟨s1', by unfold Sm; omega, fun hp => ?_⟩
  cases es with
  | nil => simp at hp
  | cons e r =>
    have h1 := (h e List.mem_cons_self).1
    have : 0 ≤ (r.map (·.w)).sum := (sum_le (B := 10 ^ 40) _ fun w hw => a w (List.mem_cons_of_mem _ hw)).1
    show 1 ≤ ((e :: r).map (·.w)).sum
    rw [List.map_cons, List.sum_cons]
    omega
theorem EnOk.sum {es : List Ent} (h : EnOk es) : 1 ≤ wsum es ∧ Sm 200 (wsum es) :=
  have z := EnOk.wts (fun e he => ⟨(h.each e he).1, (h.each e he).2.1⟩) h.len
  ⟨z.2.2 h.pos, z.2.1⟩
/-! ### sums of some -/
theorem sum_snoc (xs : List Int) (x : Int) : (xs ++ [x]).sum = xs.sum + x := by rw [List.sum_append, List.sum_singleton]
theorem ints_snoc (ns : List Int) (n : Int) : ns.map V.int ++ [.int n] = (ns ++ [n]).map V.int := by rw [List.map_append]; rfl
theorem strs_snoc (ns : List Str) (n : Str) : ns.map V.str ++ [.str n] = (ns ++ [n]).map V.str := by rw [List.map_append]; rfl
theorem filter_take {α : Type} {p : α → Bool} {xs : List α} {i : Nat} {x : α} (h : xs[i]? = some x) : (xs.take (i + 1)).filter p = (xs.take i).filter p ++ (if p x = true then [x] else []) := by
  rw [take_add h, List.filter_append, List.filter_cons, List.filter_nil]
/-! ### blocks -/
/-- where a number lies: the place of the block, the place within it -/
def blk : List Int → Int → Nat × Int
  | [], n => (0, n)
  | w :: r, n => if n < w then (0, n) else ((blk r (n - w)).1 + 1, (blk r (n - w)).2)
theorem blk_lt : ∀ {ws : List Int} {n : Int}, (∀ w ∈ ws, 1 ≤ w) → 0 ≤ n → n < ws.sum → (blk ws n).1 < ws.length ∧ 0 ≤ (blk ws n).2 ∧ ∃ w, ws[(blk ws n).1]? = some w ∧ (blk ws n).2 < w
  | [], n, _, h0, h => by simp at h; omega
  | w :: r, n, hp, h0, h => by
    unfold blk
    by_cases c : n < w
    · rw [if_pos c]
      exact ⟨Nat.zero_lt_succ _, h0, w, rfl, c⟩
    · rw [if_neg c]
      rw [List.sum_cons] at h
      obtain ⟨a, b, w', e, d⟩ := blk_lt (ws := r) (n := n - w) (fun x hx => hp x (List.mem_cons_of_mem _ hx)) (by omega) (by omega)
      exact ⟨Nat.succ_lt_succ a, b, w', by rw [List.getElem?_cons_succ]; exact e, d⟩
end K01
namespace K01
open PySem PySem.Spec PyProof.Rows L2 R9 R9M
theorem Up.new0 {S : List Addr} {F0 H0 F H : Hp} {a : Addr} (u : Up S F0 H0 F H) (ha : H a = none) (o : HO) : Up [] F H (upd F a o) (upd H a o) ∧ Up S F0 H0 (upd F a o) (upd H a o) ∧ (upd F a o) a = some o :=
  ⟨.fresh u.on ha o, u.trans (Up.fresh u.on ha o), upd_same⟩
/-- an iterator that gives (0, vs[0]), (1, vs[1]), .. while inv stands -/
structure EnV (J : It) (vs : List V) (inv : Hp → Prop) : Prop where
  go : ∀ i H, inv H → i < vs.length → J.go i H
  stop : ∀ i H, inv H → vs.length ≤ i → J.stop i H
  yld : ∀ i H x H', inv H → J.yld i H x H' → ∃ T v, x = .ref T ∧ H T = none ∧ vs[i]? = some v ∧ H' = upd H T (.tup [.int (i : Nat), v])
theorem env_l {K : PySem.W.Frag} {l : Addr} {vs : List V} : EnV (Ite K l) vs (fun H => SqL K H l vs) where
  go := fun i H h hi => ⟨_, vs[i], h, List.getElem?_eq_getElem hi⟩
  stop := fun i H h hi => ⟨_, h, hi⟩
  yld := fun i H x H' h y => by
    obtain ⟨T, z, rfl, hT, rfl, hz⟩ := y
    exact ⟨T, z, rfl, hT, hz _ h, rfl⟩
theorem env_t {K : PySem.W.Frag} {l : Addr} {vs : List V} : EnV (IteT K l) vs (fun H => SqT K H l vs) where
  go := fun i H h hi => ⟨_, vs[i], h, List.getElem?_eq_getElem hi⟩
  stop := fun i H h hi => ⟨_, h, hi⟩
  yld := fun i H x H' h y => by
    obtain ⟨T, z, rfl, hT, rfl, hz⟩ := y
    exact ⟨T, z, rfl, hT, hz _ h, rfl⟩
theorem for_env {J : It} {vs : List V} {inv : Hp → Prop} (E : EnV J vs inv) {nx : L2.St → Hp → Prop} {G : (L2.St → Hp → Prop) → V → L2.St → Hp → Prop} {σ0 : L2.St} {H0 : Hp} (Pv : Nat → L2.St → Hp → Prop) (h0 : Pv 0 σ0 H0) (hinv : ∀ i σ H, Pv i σ H → inv H)
    (turn : ∀ i σ H v T, vs[i]? = some v → Pv i σ H → H T = none → G (Pv (i + 1)) (.ref T) σ (upd H T (.tup [.int (i : Nat), v]))) (after : ∀ σ H, Pv vs.length σ H → nx σ H) :
    ∃ W : Nat → Nat → L2.St → Hp → Prop, (∃ m, W 0 m σ0 H0) ∧ ∀ i m σ H, W i m σ H → (J.stop i H ∧ nx σ H) ∨ (J.go i H ∧ ∃ N : L2.St → Hp → Prop, (∀ σ' H', N σ' H' → ∃ m', m' < m ∧ W (i + 1) m' σ' H') ∧ ∀ x H', J.yld i H x H' → G N x σ H') := by
  refine ⟨fun i m σ H => m = vs.length - i ∧ i ≤ vs.length ∧ Pv i σ H, ⟨vs.length, rfl, Nat.zero_le _, h0⟩, fun i m σ H h => ?_⟩
  obtain ⟨rfl, hi, p⟩ := h
  by_cases c : i < vs.length
  · refine .inr ⟨E.go i H (hinv _ _ _ p) c, Pv (i + 1), fun σ' H' p' => ⟨vs.length - (i + 1), by omega, rfl, c, p'⟩, fun x H' y => ?_⟩
    obtain ⟨T, a, rfl, hT, ha, rfl⟩ := E.yld i H x H' (hinv _ _ _ p) y
    exact turn i σ H a T ha p hT
  · exact .inl ⟨E.stop i H (hinv _ _ _ p) (by omega), after σ H (by rwa [show i = vs.length by omega] at p)⟩
theorem putM1 {a : V} : putF "entries" a [] = ([("entries", a)] : List (Str × V)) := by first | rfl | decide +kernel
theorem putM2 {a b : V} : putF "whole" b [("entries", a)] = ([("entries", a), ("whole", b)] : List (Str × V)) := by first | rfl | decide +kernel
theorem mk_entries {a b : V} : ([("entries", a), ("whole", b)] : List (Str × V)).lookup ("entries" : Str) = some a := by first | rfl | decide +kernel
theorem mk_whole {a b : V} : ([("entries", a), ("whole", b)] : List (Str × V)).lookup ("whole" : Str) = some b := by first | rfl | decide +kernel
theorem at_nat {xs : List V} {j : Nat} {v : V} (h : xs[j]? = some v) : atI xs (j : Int) = some v := atI_nat h
end K01
namespace K01
open PySem PySem.Spec PyProof.Rows L2 R9 R9M
theorem lcg_range {lo : Int} {n : Nat} {g : TG} {tt : TT} {te : TE} {vs : List Nat} {σ : L2.St} {H1 : Hp} {D : Addr} {Qd : Hp → Prop} {S S1 : List Addr} {F0 H0 F : Hp}
    (J : Hp → Prop) (I : Nat → List V → Hp → Prop) (u0 : Up S F0 H0 F H1) (j0 : J H1) (hD : H1 D = none) (hJ : ∀ H o, J H → J (upd H D o)) (hS : ∀ x ∈ S1, x ∈ S ∧ H0 x ≠ none) (sz : n ≤ 100000)
    (i0 : I 0 [] F) (im : ∀ i ys F1 F2, Fz F1 F2 → I i ys F1 → I i ys F2)
    (turn : ∀ (i : Nat) F2 H2 acc, i < n → Up S F0 H0 F2 H2 → Fz F F2 → Up (D :: S1) F H1 F2 H2 → J H2 → I i acc F2 → ∀ (T : V → Hp → Prop) (N : Hp → Prop), (∀ y F5 H5, Up S1 F2 H2 F5 H5 → J H5 → I (i + 1) (acc ++ [y]) F5 → T y H5) → (∀ F5 H5, Up S1 F2 H2 F5 H5 → J H5 → I (i + 1) acc F5 → N H5) →
      g (.int (lo + i)) (wipe σ vs) H2 fun σ2 H3 => wipe σ2 vs = wipe σ vs ∧ tt σ2 H3 fun b H4 => if b = true then te σ2 H4 T else N H4)
    (after : ∀ ys F2 H2, Up S F0 H0 F2 H2 → Fz F F2 → Up S1 F H1 F2 H2 → J H2 → Ow H0 F2 H2 D (.lst ys) → ys.length ≤ n → I n ys F2 → Qd H2) :
    ∃ W : Nat → Nat → Hp → Prop, (∃ m, W 0 m (upd H1 D (.lst []))) ∧ ∀ i m H, W i m H →
      ((Itr lo n).stop i H ∧ Qd H) ∨ ((Itr lo n).go i H ∧ ∃ Nx : Hp → Prop, (∀ H', Nx H' → ∃ m', m' < m ∧ W (i + 1) m' H') ∧ ∀ x H', (Itr lo n).yld i H x H' → g x (wipe σ vs) H' fun σ2 H2 => wipe σ2 vs = wipe σ vs ∧ tt σ2 H2 fun b H3 =>
        if b = true then te σ2 H3 fun y H4 => ∃ acc, H4 D = some (.lst acc) ∧ acc.length < sizeLine ∧ Nx (upd H4 D (.lst (acc ++ [y]))) else Nx H3) := by
  have sz2 : (100000 : Nat) < sizeLine := by decide
  refine lc_range (fun i H => ∃ F2 acc, Up S F0 H0 F2 H ∧ Fz F F2 ∧ Up (D :: S1) F H1 F2 H ∧ J H ∧ Ow H0 F2 H D (.lst acc) ∧ acc.length ≤ i ∧ I i acc F2) ?_ ?_ ?_
  · obtain ⟨v, u, c⟩ := u0.begin hD (.lst [])
    exact ⟨F, [], u, .refl F, v.of0, hJ _ _ j0, c, Nat.le_refl _, i0⟩
  · rintro i H2 il ⟨F2, acc, u, f, v, j, c, l, inv⟩
    refine turn i F2 H2 acc il u f v j inv _ _ (fun y F5 H5 u5 j5 inv5 => ?_) (fun F5 H5 u5 j5 inv5 => ?_)
    · have c5 := c.up u5 fun x h => (hS x h).2
      have U5 := u.more u5 fun x h => (hS x h).1
      have V5 := v.more u5 fun x h => List.mem_cons_of_mem _ h
      obtain ⟨v6, u6, c6⟩ := U5.put c5 (.lst (acc ++ [y]))
      exact ⟨acc, c5.at_, Nat.lt_of_le_of_lt l (Nat.lt_of_lt_of_le il (Nat.le_trans sz (Nat.le_of_lt sz2))), F5, acc ++ [y], u6, f.trans u5.sub, V5.more v6 (fun x h => by rw [List.mem_singleton.mp h]; exact List.mem_cons_self), hJ _ _ j5, c6, by rw [List.length_append]; exact Nat.succ_le_succ l, inv5⟩
    · exact ⟨F5, acc, u.more u5 fun x h => (hS x h).1, f.trans u5.sub, v.more u5 fun x h => List.mem_cons_of_mem _ h, j5, c.up u5 fun x h => (hS x h).2, Nat.le_succ_of_le l, inv5⟩
  · rintro H2 ⟨F2, acc, u, f, v, j, c, l, inv⟩
    exact after acc F2 H2 u f (v.drop hD) j c l inv
/-! ### how many numbers lie on some blocks -/
def hits (f : Nat → Bool) (ws : List Int) : Nat → Int
  | 0 => 0
  | n + 1 => hits f ws n + (if f (blk ws (n : Int)).1 = true then 1 else 0)
def wsel (f : Nat → Bool) : List Int → Int
  | [] => 0
  | w :: r => (if f 0 = true then w else 0) + wsel (fun j => f (j + 1)) r
theorem hits_first {f : Nat → Bool} {w : Int} {r : List Int} : ∀ n : Nat, (n : Int) ≤ w → hits f (w :: r) n = if f 0 = true then (n : Int) else 0
  | 0, _ => by unfold hits; split <;> rfl
  | n + 1, h => by
    unfold hits
    rw [hits_first n (by omega), show (blk (w :: r) (n : Int)).1 = 0 by unfold blk; rw [if_pos (by omega)]]
    split <;> omega
theorem hits_rest {f : Nat → Bool} {w : Nat} {r : List Int} : ∀ m : Nat, hits f ((w : Int) :: r) (w + m) = (if f 0 = true then (w : Int) else 0) + hits (fun j => f (j + 1)) r m
  | 0 => by rw [Nat.add_zero, hits_first w (Int.le_refl _)]; unfold hits; omega
  | m + 1 => by
    show hits f ((w : Int) :: r) (w + m + 1) = _
    unfold hits
    rw [hits_rest m, show (blk ((w : Int) :: r) ((w + m : Nat) : Int)).1 = (blk r (m : Int)).1 + 1 by
      rw [blk, if_neg (by omega), show ((w + m : Nat) : Int) - (w : Int) = (m : Int) by omega]]
    omega
theorem hits_all : ∀ {f : Nat → Bool} {ws : List Int}, (∀ w ∈ ws, 1 ≤ w) → hits f ws ws.sum.toNat = wsel f ws
  | _, [], _ => rfl
  | f, w :: r, h => by
    have hw := h w List.mem_cons_self
    have hr : 0 ≤ r.sum := (by
      have : ∀ r : List Int, (∀ x ∈ r, 1 ≤ x) → 0 ≤ r.sum := fun r => by
        induction r with
        | nil => intro _; simp
        | cons a b ih => intro z; rw [List.sum_cons]; have := ih fun x hx => z x (List.mem_cons_of_mem _ hx); have := z a List.mem_cons_self; omega
      exact this r fun x hx => h x (List.mem_cons_of_mem _ hx))
    obtain ⟨k, rfl⟩ := Int.eq_ofNat_of_zero_le (show 0 ≤ w by omega)
    rw [List.sum_cons, show ((k : Int) + r.sum).toNat = k + r.sum.toNat by omega, hits_rest, hits_all fun x hx => h x (List.mem_cons_of_mem _ hx)]
    rfl
def atF (g : Ent → Bool) (es : List Ent) : Nat → Bool := fun j => match es[j]? with | some e => g e | none => false
theorem wsel_filter (g : Ent → Bool) : ∀ es : List Ent, wsel (atF g es) (es.map (fun e : Ent => e.w)) = ((es.filter g).map (fun e : Ent => e.w)).sum
  | [] => rfl
  | e :: r => by
    have ih := wsel_filter g r
    have e1 : atF g (e :: r) 0 = g e := rfl
    have e2 : (fun j => atF g (e :: r) (j + 1)) = atF g r := by funext j; unfold atF; rw [List.getElem?_cons_succ]
    show (if atF g (e :: r) 0 = true then e.w else 0) + wsel (fun j => atF g (e :: r) (j + 1)) (r.map (fun e : Ent => e.w)) = _
    rw [e1, e2, ih, List.filter_cons]
    split
    · rw [List.map_cons, List.sum_cons]
    · omega
theorem wsum_take {es : List Ent} {i : Nat} {e : Ent} (h : es[i]? = some e) : wsum (es.take (i + 1)) = wsum (es.take i) + e.w := by
  unfold wsum
  rw [take_add h, List.map_append, List.map_cons, List.map_nil, sum_snoc]
theorem wsum_le {es : List Ent} (h : ∀ e ∈ es, 1 ≤ e.w) : ∀ i, 0 ≤ wsum (es.take i) ∧ wsum (es.take i) ≤ wsum es := by
  have p : ∀ r : List Ent, (∀ e ∈ r, 1 ≤ e.w) → 0 ≤ wsum r := fun r => by
    induction r with
    | nil => intro _; exact Int.le_refl _
    | cons a b ih =>
      intro z
      have := ih fun x hx => z x (List.mem_cons_of_mem _ hx)
      have := z a List.mem_cons_self
      show 0 ≤ ((a :: b).map (·.w)).sum
      rw [List.map_cons, List.sum_cons]
      show 0 ≤ a.w + wsum b
      omega
  intro i
  refine ⟨p _ fun e he => h e (List.mem_of_mem_take he), ?_⟩
  have e : wsum es = wsum (es.take i) + wsum (es.drop i) := by
    unfold wsum
    rw [← List.sum_append, ← List.map_append, List.take_append_drop]
  have := p (es.drop i) fun e he => h e (List.mem_of_mem_drop he)
  omega
/-! ### lists of lists of one's own -/
structure Hnd (H0 F H : Hp) (D : Addr) (v : V) : Prop where
  ex : ∃ (a c : Addr) (x y : V) (us : List Str), v = .ref a ∧ Ow H0 F H a (.lst [x, y, .ref c]) ∧ Ow H0 F H c (.lst (us.map V.str)) ∧ a ≠ D ∧ c ≠ D ∧ a ≠ c
def rgI (n : Nat) : List Int := (List.range n).map (fun (i : Nat) => (i : Int))
theorem rgV_ints (b : Int) : rgV 0 b = (rgI b.toNat).map V.int := by
  unfold rgV rgI
  rw [List.map_map, show (b - 0).toNat = b.toNat by rw [Int.sub_zero]]
  refine List.map_congr_left fun i _ => ?_
  show V.int (0 + (i : Int)) = V.int (i : Int)
  rw [Int.zero_add]
theorem rgI_mem {n : Nat} {x : Int} (h : x ∈ rgI n) : 0 ≤ x ∧ x < n := by
  obtain ⟨i, hi, rfl⟩ := List.mem_map.mp h
  have := List.mem_range.mp hi
  omega
theorem rgI_len (n : Nat) : (rgI n).length = n := by unfold rgI; rw [List.length_map, List.length_range]
end K01
namespace K01
open PySem PySem.Spec PyProof.Rows L2 R9 R9M
/-! ### rules with K in their reading -/
def rListOf (K : PySem.W.Frag) : List V → Hp → VK → Prop := fun xs H Q => ∃ p ys, xs = [.ref p] ∧ (SqL K H p ys ∨ SqT K H p ys) ∧ ∀ l, H l = none → Q (.ref l) (upd H l (.lst ys))
theorem list_ofK {X : Cx} : CallR X (.type "list") (rListOf X.K) := call_list_of
def rLenSeq (K : PySem.W.Frag) : List V → Hp → VK → Prop := fun xs H Q => ∃ p ys, xs = [.ref p] ∧ (SqL K H p ys ∨ SqT K H p ys) ∧ Q (.int (ys.length : Nat)) H
theorem len_seqK {X : Cx} : CallR X (.builtin "len") (rLenSeq X.K) := call_len_seq
theorem made_none {H : Hp} {x dx c : Addr} {o o' : HO} (h : upd (upd H dx o) x o' c = none) : H c = none ∧ c ≠ x := by
  have h1 : c ≠ x := fun z => by rw [z, upd_same] at h; cases h
  rw [upd_ne h1] at h
  have h2 : c ≠ dx := fun z => by rw [z, upd_same] at h; cases h
  rw [upd_ne h2] at h
  exact ⟨h, h1⟩
/-- what a call of a class made, which stays -/
theorem made_nw {H H' G : Hp} {x dx : Addr} {o o' : HO} (hx : H x = none) (n : Nw H H' G) : ∀ c, upd (upd H dx o) x o' c = none ∨ c = x → G c = H' c := fun c h => n c (h.elim (fun z => (made_none z).1) fun z => by rw [z]; exact hx)
theorem Wr.off {F0 H0 F H : Hp} {p q a : Addr} {o : HO} (W : Wr F0 H0 F H p q) (e : F a = some o) : a ≠ p := fun z => by rw [z, W.fp] at e; cases e
/-- an entry handed in as lists of one's own -/
def HnE (H0 F H : Hp) (D : Addr) (en : Ent) (v : V) : Prop := ∃ a c, v = .ref a ∧ Ow H0 F H a (.lst [.int en.w, .str en.t, .ref c]) ∧ Ow H0 F H c (.lst (en.acc.map V.str)) ∧ a ≠ D ∧ c ≠ D
theorem HnE.st {H0 F F0 H F' H' : Hp} {D p q : Addr} {en : Ent} {v : V} (h : HnE H0 F H D en v) (W : Wr F0 H0 F H p q) (u : Up [p] F H F' H') : HnE H0 F' H' D en v := by
  obtain ⟨a, c, e, h1, h2, h3, h4⟩ := h
  exact ⟨a, c, e, h1.st W u, h2.st W u, h3, h4⟩
theorem HnE.put {H0 F H F' H' : Hp} {D : Addr} {o : HO} {en : Ent} {v : V} (h : HnE H0 F H D en v) (d : Ow H0 F H D o) (u : Up [D] F H F' H') : HnE H0 F' H' D en v := by
  obtain ⟨a, c, e, h1, h2, h3, h4⟩ := h
  exact ⟨a, c, e, h1.ne d u h3, h2.ne d u h4, h3, h4⟩
theorem HnE.x {H0 F H : Hp} {D : Addr} {en : Ent} {v : V} (h : HnE H0 F H D en v) : EnX H en v := by
  obtain ⟨a, c, e, h1, h2, _⟩ := h
  exact ⟨a, c, e, .inr h1.at_, .inl h2.at_⟩
theorem strs_ne {us : List Str} {n : Int} {r : List V} : (HO.lst (us.map V.str)) ≠ .lst (.int n :: r) := fun z => by
  have z := HO.lst.inj z
  cases us with
  | nil => cases z
  | cons a b => cases (List.cons.inj z).1
end K01
namespace R9S
open PySem PySem.Spec PyProof.Rows L2 PySem.Froz
/-! ### sets of texts that can be walked -/
/-- the set at a: its texts l, in some order; its table rises -/
structure STx (P : Program) (w : World) (h : Heap) (a : Addr) (l : List Str) : Prop where
  ex : ∃ D : SD, h.get? a = some (sObj "set" D) ∧ TxOk P w D l ∧ Ris D.2.2.place.toList ∧ (w.params.followText "set-order" = true ∨ D.2.2.led = true)
  nd : l.Nodup
  few : l.length < scanBound
section
variable {P : Program} {w : World} {A : Around} {E : Value → Shared → Prop} {s : Shared} {h h' : Heap} {a : Addr} {l : List Str}
theorem STx.keep (R : STx P w h a l) (k : ∀ o, h.get? a = some o → h'.get? a = some o) : STx P w h' a l := by
  obtain ⟨D, ho, r⟩ := R.ex
  exact ⟨⟨D, k _ ho, r⟩, R.nd, R.few⟩
theorem STx.is (R : STx P w s.heap a l) : s.TypeIs (.ref a) "set" := by
  obtain ⟨D, ho, _⟩ := R.ex
  exact ⟨_, ho, rfl⟩
theorem ris_tail {ep : Nat} {es1 : Array (Int × Value)} {t2 : SetTable} {wd : Bool} (r : Ris t2.place.toList) : Ris (tailTx ep es1 t2 wd).2.2.place.toList := by
  unfold tailTx
  by_cases c : (!wd && t2.tooFull) = true
  · rw [if_pos c]; exact relayAll_ris _ _ _
  · rw [if_neg c]; exact r
theorem led_tail {ep : Nat} {es1 : Array (Int × Value)} {t2 : SetTable} {wd : Bool} : (tailTx ep es1 t2 wd).2.2.led = t2.led := by
  unfold tailTx
  by_cases c : (!wd && t2.tooFull) = true
  · rw [if_pos c]; exact relayAll_led _ _ _
  · rw [if_neg c]
theorem ris_add {h : Int} {v : Value} {D : SD} (r : Ris D.2.2.place.toList) : Ris (addTx h v D).2.2.place.toList := by
  have r1 := layNew_ris D.2.2 D.1 h v r
  unfold addTx
  refine ris_tail ?_
  split <;> exact r1
theorem led_add {h : Int} {v : Value} {D : SD} : (addTx h v D).2.2.led = D.2.2.led := by
  have r1 := layNew_led D.2.2 D.1 h v
  unfold addTx
  refine led_tail.trans ?_
  split <;> exact r1
/-- a text that is there already: nothing changes -/
theorem add_had {k : Str} {u : Tok} {Q : Bool → Shared → Prop} (R : STx P w s.heap a l) (hk : k ∈ l) (hq : Q false s) : wpAny (model P w) A (setAddHashed a (.str k u) (hashStr w k)) Q E s := by
  obtain ⟨⟨es, ep, t⟩, ho, F, _⟩ := R.ex
  have hd : (sObj "set" (es, ep, t)).data = .set es ep t := rfl
  have hf : t.fits es.size = true := F.fit
  have he : ElemsOf (strKind P w) es.toList := F.el
  have hb : es.size < scanBound := by have z : es.size = l.length := F.sz; have := R.few; omega
  obtain ⟨x, hx, kx⟩ := (F.mem k).mp hk
  obtain ⟨j, hj⟩ : ∃ j, List.findIdx? (fun e => (strKind P w).is k e.2) es.toList = some j := by
    cases c : List.findIdx? (fun e => (strKind P w).is k e.2) es.toList with
    | some j => exact ⟨j, rfl⟩
    | none => have z := List.findIdx?_eq_none_iff.mp c x hx; rw [kx] at z; cases z
  unfold setAddHashed setAddHashedIn
  refine wpAny_holding (wpAny_bind (wpAny_setState_of ho hd hf ?_)); dsimp only
  rw [byScan_of rfl hb he, if_pos rfl]
  unfold setAddByScan
  refine wpAny_bind (wpAny_bind (wpAny_rule (wpAny_bind (wpAny_setScan_of (knd := strKind P w) (k := k) (is_str k u) ho hd hf he ?_))))
  rw [hj]
  dsimp only
  exact wpAny_pure (wpAny_pure hq)
theorem sObj_exact (D : SD) : (sObj "set" D).ExactSet := ⟨rfl, rfl, rfl⟩
/-- set.add of a text -/
theorem add_any {k : Str} {u : Tok} {Q : Bool → Shared → Prop} (R : STx P w s.heap a l) (hb : l.length + 1 < scanBound)
    (hq : ∀ b h', (∀ c o, c ≠ a → s.heap.get? c = some o → h'.get? c = some o) → STx P w h' a (if k ∈ l then l else k :: l) → Q b { s with heap := h' }) : wpAny (model P w) A (setAddHashed a (.str k u) (hashStr w k)) Q E s := by
  by_cases c : k ∈ l
  · refine add_had R c ?_
    have z := hq false s.heap (fun _ _ _ e => e)
    rw [if_pos c] at z
    exact z R
  · obtain ⟨D, ho, F, r, hl⟩ := R.ex
    refine add_x ho F c hb ?_
    refine hq _ _ (fun b o n e => ?_) ?_
    · rw [Heap.get?_update_other _ _ (Ne.symm n)]; exact e
    · rw [if_neg c]
      exact ⟨⟨_, get_upd _ ho rfl, add_ok u F, ris_add r, by rw [led_add]; exact hl⟩, List.nodup_cons.mpr ⟨c, R.nd⟩, hb⟩
end
/-- as an object of the layer -/
def SetS (P : Program) (w : World) (a : Addr) (l : List Str) : HO := .ext fun h => STx P w h a l
theorem setS_new {w : World} {P : Program} {H : Hp} {h : Heap} {a : Addr} {l : List Str} (R : STx P w h a l) : ObjOk P w H h a (SetS P w a l) := by
  obtain ⟨D, ho, _⟩ := R.ex
  exact ⟨R, ⟨_, ho⟩, fun _ _ p k => p.keep k⟩
theorem stx_fresh {P : Program} {w : World} {h : Heap} : STx P w (h.push { cls := .type "set", dict := none, data := .set #[] 0 (.fresh 0 0 (!w.params.followText "set-order")) }) h.objs.size [] := by
  refine ⟨⟨(#[], 0, .fresh 0 0 (!w.params.followText "set-order")), Heap.get?_push_size _ rfl, .nil (by rfl), List.Pairwise.nil, ?_⟩, List.nodup_nil, by decide⟩
  cases w.params.followText "set-order"
  · exact .inr rfl
  · exact .inl rfl
section
variable {X : Cx}
theorem setS_get {pins : List (Addr × Obj)} {σ : L2.St} {H : Hp} {s : Shared} {a : Addr} {l : List Str} (I : Inv X pins σ H s) (ha : H a = some (SetS X.prog X.w a l)) : STx X.prog X.w s.heap a l := (I.hok a _ ha).1
theorem addS_ok {pins : List (Addr × Obj)} {σ : L2.St} {H : Hp} {s : Shared} {E : Value → Shared → Prop} {D : Addr} {l : List Str} {k : Str} {u : Value} {Q : Value → Shared → Prop} (I : Inv X pins σ H s) (hD : H D = some (SetS X.prog X.w D l)) (ru : RelV (.str k) u) (room : l.length + 1 < scanBound)
    (h : ∀ s', Inv X pins σ (upd H D (SetS X.prog X.w D (if k ∈ l then l else k :: l))) s' → Q .none s') : wpAny (model X.prog X.w) X.A (call (.builtin "set.add") [.ref D, u]) Q E s := by
  obtain ⟨tk, rfl⟩ := ru
  have R := setS_get I hD
  refine wpAny_call_entry F.slot_set_add R.is F.entry_set_add ?_ (F.args_set_add_2 _ _)
  unfold Builtin.«set.add» Builtin.Frozenset.oneOther; simp only [List.isEmpty_nil, bind_assoc]
  unfold Builtin.Frozenset.addrOf setAdd; refine wpAny_bind (wpAny_pure ?_)
  try dsimp only
  refine wpAny_bind (wpAny_pure ?_); try dsimp only
  refine wpAny_bind (wpAny_holding (wpAny_bind ((strKind X.prog X.w).pyHash (is_str k tk) ?_)))
  refine add_any (s := { s with toks := s.toks + 1 }) R room fun b h' sb new => ?_
  show wpAny _ _ (ret Value.none) _ _ _
  refine wpAny_pure ⟨_, rfl, h _ (I.write (e := D) (t' := s.toks + 1) (by rw [hD]; trivial) (.inl rfl) sb ?_ (setS_new new))⟩
  obtain ⟨D', ho, _⟩ := new.ex
  exact ⟨_, ho⟩
end
/-! ### comprehensions of sets: any kind of set whose add is known -/
abbrev emptySet (w : World) : Obj := { cls := .type "set", dict := none, data := .set #[] 0 (.fresh 0 0 (!w.params.followText "set-order")) }
structure Fam (P : Program) (w : World) (St : Type) where
  G : Addr → St → HO
  z : St
  ok : St → V → Prop
  nx : St → V → St
  new : ∀ {H : Hp} {h : Heap}, ObjOk P w H (h.push (emptySet w)) h.objs.size (G h.objs.size z)
  add : ∀ {X : Cx} (_ : X.prog = P) (_ : X.w = w) {pins : List (Addr × Obj)} {σ : L2.St} {H : Hp} {s : Shared} {E : Value → Shared → Prop} {D : Addr} {st : St} {y : V} {u : Value} {Q : Value → Shared → Prop}, Inv X pins σ H s → H D = some (G D st) → ok st y → RelV y u →
    (∀ s', Inv X pins σ (upd H D (G D (nx st y))) s' → Q .none s') → wpAny (model X.prog X.w) X.A (call (.builtin "set.add") [.ref D, u]) Q E s
/-- what is asked of {elt for target in iter if ..} -/
def tScF {P : Program} {w : World} {St : Type} (F : Fam P w St) (wi : TI) (g : TG) (tt : TT) (te : TE) (vs : List Nat) : TE := fun σ H Q => wi σ H fun J H1 => ∀ D, H1 D = none → ∃ W : Nat → Nat → Hp → Prop, (∃ m, W 0 m (upd H1 D (F.G D F.z))) ∧ ∀ i m H, W i m H →
  (J.stop i H ∧ Q (.ref D) H) ∨ (J.go i H ∧ ∃ Nx : Hp → Prop, (∀ H', Nx H' → ∃ m', m' < m ∧ W (i + 1) m' H') ∧ ∀ x H', J.yld i H x H' → g x (wipe σ vs) H' fun σ2 H2 => wipe σ2 vs = wipe σ vs ∧ tt σ2 H2 fun b H3 =>
    if b = true then te σ2 H3 fun y H4 => ∃ st, H4 D = some (F.G D st) ∧ F.ok st y ∧ Nx (upd H4 D (F.G D (F.nx st y))) else Nx H3)
section
variable {X : Cx} {St : Type}
theorem scF_core (F : Fam X.prog X.w St) {pins : List (Addr × Obj)} {s : Shared} {σ : L2.St} {H : Hp} {Q : VK} {elt tg iter : Expr} {ifs : List Expr} {scope : Scope} {own : List (PySem.Str × Nat)} {pos pos' : Pos} {wi : TI} {g : TG} {tt : TT} {te : TE} {use : Option (Value → Sem Unit)} {Qf : Value → Shared → Prop}
    (hc : X.calm = true) (hN : X.N.Nodup) (I : Inv X pins σ H s) (hi : PI X tg iter wi) (ok : BlkOk X.N X.env.scope scope own)
    (hg : ∀ s H C cl fp, PG (X.blk s H scope (compEnvC scope cl C X.env) fp) tg g) (ht : ∀ s H C cl fp, PTs (X.blk s H scope (compEnvC scope cl C X.env) fp) ifs tt)
    (he : ∀ s H C cl fp, PE (X.blk s H scope (compEnvC scope cl C X.env) fp) elt te) (hs : ∀ x, foldedSetIterable iter X.env x = pure x)
    (h : tScF F wi g tt te (own.map (·.2)) σ H Q)
    (back : ∀ D C s' m H', Inv X pins σ H' s' → Q (.ref D) H' → s'.heap.Ns C m → FpOk X pins H' C → compPost (model X.prog X.w) X.A X.xe use Qf (.ref D) C (.ok .next) s') :
    wpAny (model X.prog X.w) X.A (comprehension (.SetComp elt [⟨tg, iter, ifs, 0⟩] scope pos) scope X.env pos' (newSet (.type "set")) false (eval iter X.env) use) Qf X.xe s := by
  have fr : ∀ y ∈ scope.names, y.2 = .free → ∃ c, X.env.cells.lookup y.1 = some c := fun y hy e => (ok.free y hy e).elim (fun k => I.ok.has _ (.inl k)) fun k => I.ok.has _ (.inr k)
  refine wpAny_comprehension_free (use := use) rfl hs (closure_ok fr) ok.kind (fun y hy e => by rw [ok.uniq y hy, e]) (thn (hi.run pins s σ H _ I h) fun _ _ a1 => thn a1 fun _ z2 ⟨it, fp, tn, J, H2, e, I2, T, st2, f2, q⟩ => ?_)
  subst e
  refine PpSet.newSet_ok (newEnv_comp ?_)
  obtain ⟨D, hD⟩ : ∃ D, z2.heap.objs.size = D := ⟨_, rfl⟩
  rw [hD]
  have D0 : H2 D = none := I2.hok.fresh (Nat.le_of_eq hD)
  obtain ⟨W, ⟨m0, w0⟩, turn⟩ := q D D0
  obtain ⟨z3, e3⟩ : ∃ z3 : Shared, z3 = { z2 with heap := z2.heap.push (emptySet X.w) } := ⟨_, rfl⟩
  rw [← e3]
  have I3 : Inv X pins σ (upd H2 D (F.G D F.z)) z3 := by
    have nw := F.new (H := upd H2 D (F.G D F.z)) (h := z2.heap)
    rw [hD] at nw; rw [e3]
    exact I2.laid (t' := z2.toks) (fun _ _ e => Heap.get?_push_of_some _ e) (Nat.le_of_eq hD) nw
  have h3 : z3.heap = z2.heap.push (emptySet X.w) := by rw [e3]
  have lt2 : ∀ b ∈ fp, b < z2.heap.objs.size := fun b hb => (T.obj _ _ st2 b hb).elim fun _ x => Heap.lt_size x.1
  have f3 : ∀ b ∈ fp, FpOk X pins (upd H2 D (F.G D F.z)) b ∧ b < z3.heap.objs.size := fun b hb =>
    ⟨⟨by rw [upd_ne (by rw [← hD]; exact Nat.ne_of_lt (lt2 b hb))]; exact (f2 b hb).1, (f2 b hb).2⟩, by rw [h3, Heap.size_push]; exact Nat.lt_succ_of_lt (lt2 b hb)⟩
  have st3 : tn 0 z3.heap := T.keep _ _ _ st2 fun _ _ _ e => by rw [h3]; exact Heap.get?_push_of_some _ e
  have I4 := block_start I3 ok hN f3
  obtain ⟨H3, eH⟩ : ∃ H3, H3 = upd H2 D (F.G D F.z) := ⟨_, rfl⟩
  rw [← eH] at I3 I4 w0 f3
  obtain ⟨cs, ec⟩ : ∃ cs, cs = cellsFrom (z3.heap.objs.size + 1) scope.names (cloFrom X.env.cells scope.names []) := ⟨_, rfl⟩
  rw [← ec] at I4 ⊢
  have pg := hg z3 H3 z3.heap.objs.size cs fp
  have pt := ht z3 H3 z3.heap.objs.size cs fp
  have pe := he z3 H3 z3.heap.objs.size cs fp
  show codeAny _ _ (.compStart (.SetComp elt [⟨tg, iter, ifs, 0⟩] scope pos) 0 (.ref it) (.ref D) (compEnvC scope cs z3.heap.objs.size X.env)) (compPost (model X.prog X.w) X.A X.xe use Qf (.ref D) z3.heap.objs.size) { z3 with heap := pushCells (z3.heap.push { cls := .type "dict", data := .dict #[] }) scope.names }
  have n3 : ∀ b ∈ fp, H3 b = none := fun b hb => (f3 b hb).1.1
  obtain ⟨ce, ece⟩ : ∃ ce, ce = compEnvC scope cs z3.heap.objs.size X.env := ⟨_, rfl⟩
  have cL : ce.locals = z3.heap.objs.size := by rw [ece]; rfl
  rw [← ece] at I4 pg pt pe ⊢
  obtain ⟨z4, e4⟩ : ∃ z4 : Shared, z4 = { z3 with heap := pushCells (z3.heap.push { cls := .type "dict", data := .dict #[] }) scope.names } := ⟨_, rfl⟩
  rw [← e4] at I4 ⊢
  have st4 : tn 0 z4.heap := T.keep _ _ _ st3 fun _ _ _ e => by rw [e4]; exact pushCells_keeps _ _ _ _ (Heap.get?_push_of_some _ e)
  have there : ∀ {σ' : L2.St} {H' : Hp} {s' : Shared}, Inv (X.blk z3 H3 scope ce fp) [] σ' H' s' → (∀ b ∈ fp, H' b = none) → ∀ b ∈ fp, FpOk (X.blk z3 H3 scope ce fp) [] H' b := fun I' hn b hb =>
    ⟨hn b hb, (I'.ok.exf b hb).1, I'.ok.exfs b hb, .inl hb, fun x c e => (I'.ok.exf b hb).2 x c e, fun p hp => absurd (show p ∈ ([] : List (Addr × Obj)) ++ [] from hp) (by simp)⟩
  refine PpSet.codeAny_compStart_set ?lp (T.self X.A 0 _ _ _ st4 ?lp)
  refine PpSet.compLoopS_any (fun n s' => ∃ i H', Inv (X.blk z3 H3 scope ce fp) [] (wipe σ (own.map (·.2))) H' s' ∧ tn i s'.heap ∧ (∀ b ∈ fp, H' b = none) ∧ W i n H') (fun n z5 ⟨i, H5, I5, st5, n5, w5⟩ => ?_) m0 ⟨0, H3, I4, st4, n3, w0⟩
  rcases turn i n H5 w5 with ⟨stop, qq⟩ | ⟨go, Nx, hNx, step⟩
  · refine thnF (T.done (X.blk z3 H3 scope ce fp) rfl rfl rfl hc i [] z5 _ H5 (fun _ _ => False) I5 (there I5 n5) st5 stop) fun r z6 ⟨hr, I6⟩ => ?_
    subst hr
    have I7 : Inv X pins σ H5 z6 := I3.call' (ch := fp) I6.os I6.base I6.hok I6.bare fun b hb => have v := (f3 b hb).1.2; ⟨v.2.2.1, v.1, v.2.2.2.1, v.2.2.2.2⟩
    have nC : H5 z3.heap.objs.size = none := cL ▸ (show H5 ce.locals = none from I6.free)
    obtain ⟨m, hn, _⟩ := I6.loc
    exact back D z3.heap.objs.size z6 m H5 I7 qq (cL ▸ (show z6.heap.Ns ce.locals m from hn)) (I3.fpOk (Nat.le_refl _) nC)
  · refine thnF (T.item (X.blk z3 H3 scope ce fp) rfl rfl rfl hc i [] z5 _ H5 (fun _ _ => False) I5 (there I5 n5) st5 go) fun r z6 ⟨u, hr, h6⟩ => ?_
    subst hr
    refine thnF h6 fun _ z7 ⟨x, H7, I7, r7, y7, st7, n7⟩ => ?_
    refine thnF (pg.run _ z7 _ H7 x u _ (I7.pinned (there I7 n7) (T.obj _ _ st7)) r7 (step x H7 y7)) fun _ z8 ⟨σ8, H8, I8, hw8, q8⟩ => ?_
    refine thnF (pt.run _ z8 σ8 H8 _ I8 q8) fun b z9 ⟨H9, I9, q9⟩ => ?_
    have close : ∀ {s' : Shared} {H' : Hp}, Inv (X.blk z3 H3 scope ce fp) ([] ++ pinsAt fp z7.heap) σ8 H' s' → Nx H' → ∃ m, m < n ∧ ∃ i H', Inv (X.blk z3 H3 scope ce fp) [] (wipe σ (own.map (·.2))) H' s' ∧ tn i s'.heap ∧ (∀ b ∈ fp, H' b = none) ∧ W i m H' := fun {s' H'} I' nx => by
      obtain ⟨m', hm, w'⟩ := hNx H' nx
      have pin : ∀ b ∈ fp, ∀ o, z7.heap.get? b = some o → s'.heap.get? b = some o ∧ H' b = none := fun b hb o e => have v := I'.pin (b, o) (List.mem_append_right _ (List.mem_append_right _ (mem_pinsAt hb e))); ⟨v.1, v.2.1⟩
      refine ⟨m', hm, i + 1, H', (I'.unpinned (pins := [])).weak (by rw [← hw8, wipe_length]) (fun j v e => (wipe_some (hw8 ▸ e)).1), T.keep _ _ _ st7 fun b hb o e => (pin b hb o e).1, fun b hb => ?_, w'⟩
      exact (T.obj _ _ st7 b hb).elim fun o x => (pin b hb o x.1).2
    cases b with
    | false => exact close I9 (by simpa using q9)
    | true =>
      rw [if_pos rfl] at q9
      refine thnF (pe.run _ z9 σ8 H9 _ I9 q9) fun v z10 ⟨y, H10, I10, r10, st0, hD10, okk, nx⟩ => ?_
      exact F.add (X := X.blk z3 H3 scope ce fp) rfl rfl I10 hD10 okk r10 fun z11 I11 => close I11 nx
theorem pe_scF (F : Fam X.prog X.w St) {elt tg iter : Expr} {ifs : List Expr} {scope : Scope} {own : List (PySem.Str × Nat)} {pos : Pos} {wi : TI} {g : TG} {tt : TT} {te : TE} (hc : X.calm = true) (hN : X.N.Nodup) (hi : PI X tg iter wi) (ok : BlkOk X.N X.env.scope scope own)
    (hg : ∀ s H C cl fp, PG (X.blk s H scope (compEnvC scope cl C X.env) fp) tg g) (ht : ∀ s H C cl fp, PTs (X.blk s H scope (compEnvC scope cl C X.env) fp) ifs tt)
    (he : ∀ s H C cl fp, PE (X.blk s H scope (compEnvC scope cl C X.env) fp) elt te) (hs : ∀ x, foldedSetIterable iter X.env x = pure x := by intro _; rfl) : PE X (.SetComp elt [⟨tg, iter, ifs, 0⟩] scope pos) (tScF F wi g tt te (own.map (·.2))) := by
  refine ⟨fun pins s σ H Q I h => ?_⟩
  rw [PpSet.eval_SetComp]
  exact scF_core F hc hN I hi ok hg ht he hs h fun D C s' m H' I' q hn f => ⟨m, hn, fun h'' sb => ⟨.ref D, H', I'.turned (t' := s'.toks) (fun b o hb e => (sb.2 b hb).trans e) f.1 f.2.1 f.2.2.2.1 f.2.2.2.2.1 f.2.2.2.2.2, rfl, q⟩⟩
end
/-- sets of texts -/
def famS (P : Program) (w : World) : Fam P w (List Str) where
  G := SetS P w
  z := []
  ok := fun l y => l.length + 1 < scanBound ∧ ∃ k, y = .str k
  nx := fun l y => match y with | .str k => if k ∈ l then l else k :: l | _ => l
  new := setS_new stx_fresh
  add := fun {X} hP hw {pins σ H s E D l y u Q} I hD ok r h => by
    subst hP; subst hw
    obtain ⟨room, k, rfl⟩ := ok
    exact addS_ok I hD r room h
/-! ### sorted of a set of texts -/
section
variable {P : Program} {w : World} {A : Around} {E : Value → Shared → Prop} {s : Shared} {a : Addr} {l : List Str}
theorem perm_of_sub : ∀ {l m : List Str}, l.Nodup → (∀ k ∈ l, k ∈ m) → m.length ≤ l.length → m.Perm l
  | [], m, _, _, h => by rw [List.eq_nil_of_length_eq_zero (Nat.le_zero.mp h)]
  | k :: r, m, nd, sub, h => by
    have hk := sub k List.mem_cons_self
    have p := List.perm_cons_erase hk
    have e := p.length_eq
    rw [List.length_cons] at e h
    exact p.trans (.cons k (perm_of_sub (List.nodup_cons.mp nd).2 (fun x hx => (List.mem_erase_of_ne (fun z => (List.nodup_cons.mp nd).1 (by rw [← z]; exact hx))).mpr (sub x (List.mem_cons_of_mem _ hx))) (by omega)))
theorem strs_vals : ∀ vs : List Value, (∀ v ∈ vs, ∃ k u, v = Value.str k u) → ∃ ss, StrsAre vs ss ∧ ∀ f : Value → Str, (∀ k u, f (.str k u) = k) → ss = vs.map f
  | [], _ => ⟨[], .nil, fun _ _ => rfl⟩
  | v :: r, h => by
    obtain ⟨ss, h1, h2⟩ := strs_vals r fun x hx => h x (List.mem_cons_of_mem _ hx)
    obtain ⟨k, u, rfl⟩ := h v List.mem_cons_self
    exact ⟨k :: ss, .cons k u h1, fun f hf => by rw [List.map_cons, hf, h2 f hf]⟩
def unS : Value → Str | .str k _ => k | _ => Str.empty
theorem stx_vals {D : SD} (F : TxOk P w D l) (nd : l.Nodup) : (∀ v ∈ D.1.toList.map (·.2), ∃ k u, v = Value.str k u) ∧ ((D.1.toList.map (·.2)).map unS).Perm l := by
  have each : ∀ e ∈ D.1.toList, ∃ k u, e.2 = Value.str k u ∧ k ∈ l := fun e he => by
    obtain ⟨⟨k, hk, _⟩, _⟩ := F.el e he
    have z : ∃ u, e.2 = .str k u := by
      cases h : e.2 with
      | str x u => rw [h] at hk; have q : (x == k) = true := hk; rw [beq_iff_eq.mp q]; exact ⟨u, rfl⟩
      | _ => rw [h] at hk; exact absurd hk (by simp [PySem.strKind, Value.isStrOf])
    obtain ⟨u, hu⟩ := z
    exact ⟨k, u, hu, (F.mem k).mpr ⟨e, he, hk⟩⟩
  refine ⟨fun v hv => ?_, ?_⟩
  · obtain ⟨e, he, rfl⟩ := List.mem_map.mp hv
    obtain ⟨k, u, h, _⟩ := each e he
    exact ⟨k, u, h⟩
  · have hl : ((D.1.toList.map (·.2)).map unS).length = l.length := by rw [List.length_map, List.length_map, Array.length_toList]; exact F.sz
    have sub : ∀ k ∈ l, k ∈ (D.1.toList.map (·.2)).map unS := fun k hk => by
      obtain ⟨e, he, q⟩ := (F.mem k).mp hk
      obtain ⟨k', u, h, _⟩ := each e he
      rw [h] at q
      have q' : (k' == k) = true := q
      rw [← beq_iff_eq.mp q']
      exact List.mem_map.mpr ⟨e.2, List.mem_map.mpr ⟨e, he, rfl⟩, by rw [h]; rfl⟩
    exact perm_of_sub nd sub (Nat.le_of_eq hl)
theorem sorted_stx {Q : Value → Shared → Prop} (R : STx P w s.heap a l) (hh : A.handled = none) (h64 : l.length < 64)
    (hq : ∀ s' p (out : Array Value) c ys, (∀ b o, s.heap.get? b = some o → s'.heap.get? b = some o) → s'.gens = s.gens → s'.os = s.os → s.heap.objs.size ≤ p → s'.heap.get? p = some (seqObj "list" out c) → StrsAre out.toList ys → ys.Perm l → sortedS ys = true → Q (.ref p) s') :
    wpAny (model P w) A (call (.builtin "sorted") [.ref a]) Q E s := by
  obtain ⟨D, ho, F, ris, led⟩ := R.ex
  obtain ⟨v1, v2⟩ := stx_vals F R.nd
  have lD : D.1.size = l.length := F.sz
  refine Calls.call_function_entry kind_sorted plain_sorted entry_sorted (args_sorted1 _) ?_; unfold Builtin.«sorted»
  refine wpAny_bind (m := checkCount "sorted" 1 1 _) (wpAny_pure (wpAny_bind (collect_set (A := A.in1) hh ⟨_, ho, rfl, rfl⟩ F.fit (by have := R.few; omega) ris led fun s1 vs k1 hz g1 o1 pm => ?_)))
  have vl : vs.length < 64 := by rw [pm.length_eq, List.length_map, Array.length_toList, lD]; exact h64
  obtain ⟨ss, hS, hss⟩ := strs_vals vs fun v hv => v1 v (pm.mem_iff.mp hv)
  have ps : ss.Perm l := by rw [hss unS fun _ _ => rfl]; exact (pm.map unS).trans v2
  refine wpAny_bind (wpAny_newList ?_ (by rw [sizeLine_eq]; omega))
  have hoL : (s1.heap.push (seqObj "list" vs.toArray 0)).get? s1.heap.objs.size = some (seqObj "list" vs.toArray 0) := Heap.get?_push_size _ rfl
  refine wpAny_bind (wpAny_holding (wpAny_call_entry slot_list_sort ⟨_, hoL, rfl⟩ entry_list_sort (list_sort_treeK strKind_oneLt hoL hS.keysOf (fun v₁ v₂ rest e => keyKind_strs (by rw [← e]; exact hS)) vl fun st' a1 a2 => ⟨_, rfl, ?_⟩) (args_list_sort _)))
  obtain ⟨ss', b1, b2, b3⟩ := sorted_out_str hS a1 a2
  obtain ⟨c, hc⟩ := sortedHeap_at (vs := vs) (out := (arrOf st').map (·.2)) hoL
  refine wpAny_pure ⟨_, rfl, hq _ s1.heap.objs.size _ c ss' (fun b u e => ?_) g1 o1 hz hc b1 (b2.trans ps) b3⟩
  have q := k1 b u e
  have lt := Heap.lt_size q
  exact (sortedHeap_old (Nat.ne_of_lt lt) (by rw [size_push']; exact Nat.lt_succ_of_lt lt)).trans (Heap.get?_push_of_some _ q)
end
section
variable {X : Cx}
def rSortSS (P : Program) (w : World) : List V → Hp → VK → Prop := fun vs H Q => ∃ (a : Addr) (l : List Str), vs = [V.ref a] ∧ H a = some (SetS P w a l) ∧ l.length < 64 ∧ ∀ (ys : List Str) (p : Addr), ys.Perm l → sortedS ys = true → H p = none → Q (.ref p) (upd H p (.lst (ys.map V.str)))
theorem cr_sortSS (hc : X.calm = true) : CallR X (.builtin "sorted") (rSortSS X.prog X.w) := by
  intro pins s σ H vs us Q I r h
  obtain ⟨a, l, rfl, ha, h64, q⟩ := h
  rw [Vals.ref1 r]
  refine sorted_stx (setS_get I ha) (I.ok.hd hc) h64 fun s' p out c ys k g o hp hg hS pm so => ?_
  have hn : H p = none := I.hok.fresh hp
  have hl : (ys.map V.str).length ≤ sizeLine := by rw [List.length_map, pm.length_eq, sizeLine_eq]; omega
  exact ⟨.ref p, upd H p (.lst (ys.map V.str)), I.call' (ch := []) o (Un.laid k hp hn) (I.hok.laid k hp ⟨hl, out.toList, c, vals_of_strs hS, hg⟩) (by rw [g]; exact I.bare) (fun _ z => nomatch z), rfl, q ys p pm so hn⟩
end
end R9S
namespace K01
open PySem PySem.Spec PyProof.Rows L2 R9 R9S
def insS (k : Str) (l : List Str) : List Str := if k ∈ l then l else k :: l
theorem insS_mem {k u : Str} {l : List Str} : u ∈ insS k l ↔ u = k ∨ u ∈ l := by
  unfold insS
  by_cases c : k ∈ l
  · rw [if_pos c]
    exact ⟨.inr, fun h => h.elim (fun e => e ▸ c) id⟩
  · rw [if_neg c]; exact List.mem_cons
theorem insS_nd {k : Str} {l : List Str} (h : l.Nodup) : (insS k l).Nodup := by
  unfold insS
  by_cases c : k ∈ l
  · rw [if_pos c]; exact h
  · rw [if_neg c]; exact List.nodup_cons.mpr ⟨c, h⟩
theorem insS_len {k : Str} {l : List Str} : (insS k l).length ≤ l.length + 1 := by
  unfold insS
  by_cases c : k ∈ l
  · rw [if_pos c]; exact Nat.le_succ _
  · rw [if_neg c]; exact Nat.le_refl _
/-! ### comprehensions of sets of texts, by what is known of the texts so far -/

theorem scg_list {P : Program} {w : World} {K : PySem.W.Frag} {a : Addr} {xs : List V} {g : TG} {tt : TT} {te : TE} {vs : List Nat} {σ : L2.St} {H1 : Hp} {D : Addr} {Qd : Hp → Prop} {S S1 : List Addr} {F0 H0 F : Hp}
    (J : Hp → Prop) (I : Nat → List Str → Prop) (u0 : Up S F0 H0 F H1) (j0 : J H1) (hD : H1 D = none) (hJ : ∀ H o, J H → J (upd H D o)) (hS : ∀ x ∈ S1, x ∈ S ∧ H0 x ≠ none) (hs : ∀ F2 H2, Up S F0 H0 F2 H2 → Fz F F2 → Up (D :: S1) F H1 F2 H2 → SqL K H2 a xs) (sz : xs.length ≤ 1000) (i0 : I 0 [])
    (turn : ∀ i x F2 H2 l, xs[i]? = some x → Up S F0 H0 F2 H2 → Fz F F2 → Up (D :: S1) F H1 F2 H2 → J H2 → I i l → ∀ (T : V → Hp → Prop) (N : Hp → Prop), (∀ k F5 H5, Up S1 F2 H2 F5 H5 → J H5 → I (i + 1) (insS k l) → T (.str k) H5) → (∀ F5 H5, Up S1 F2 H2 F5 H5 → J H5 → I (i + 1) l → N H5) →
      g x (wipe σ vs) H2 fun σ2 H3 => wipe σ2 vs = wipe σ vs ∧ tt σ2 H3 fun b H4 => if b = true then te σ2 H4 T else N H4)
    (after : ∀ l F2 H2, Up S F0 H0 F2 H2 → Fz F F2 → Up S1 F H1 F2 H2 → J H2 → Ow H0 F2 H2 D (SetS P w D l) → l.Nodup → l.length ≤ xs.length → I xs.length l → Qd H2) :
    ∃ W : Nat → Nat → Hp → Prop, (∃ m, W 0 m (upd H1 D ((famS P w).G D (famS P w).z))) ∧ ∀ i m H, W i m H →
      ((Itl K a).stop i H ∧ Qd H) ∨ ((Itl K a).go i H ∧ ∃ Nx : Hp → Prop, (∀ H', Nx H' → ∃ m', m' < m ∧ W (i + 1) m' H') ∧ ∀ x H', (Itl K a).yld i H x H' → g x (wipe σ vs) H' fun σ2 H2 => wipe σ2 vs = wipe σ vs ∧ tt σ2 H2 fun b H3 =>
        if b = true then te σ2 H3 fun y H4 => ∃ st, H4 D = some ((famS P w).G D st) ∧ (famS P w).ok st y ∧ Nx (upd H4 D ((famS P w).G D ((famS P w).nx st y))) else Nx H3) := by
  have sz2 : (1002 : Nat) < scanBound := by decide
  let Pv : Nat → Hp → Prop := fun i H => ∃ F2 l, Up S F0 H0 F2 H ∧ Fz F F2 ∧ Up (D :: S1) F H1 F2 H ∧ J H ∧ Ow H0 F2 H D (SetS P w D l) ∧ l.Nodup ∧ l.length ≤ i ∧ I i l
  refine ⟨fun i m H => m = xs.length - i ∧ i ≤ xs.length ∧ Pv i H, ⟨xs.length, rfl, Nat.zero_le _, ?_⟩, ?_⟩
  · obtain ⟨v, u, c⟩ := u0.begin hD (SetS P w D [])
    exact ⟨F, [], u, .refl F, v.of0, hJ _ _ j0, c, List.nodup_nil, Nat.le_refl _, i0⟩
  · rintro i m H2 ⟨rfl, hi, F2, l, u, f, v, j, c, nd, ll, inv⟩
    have q := hs F2 H2 u f v
    by_cases lt : i < xs.length
    · refine .inr ⟨⟨xs, xs[i], q, List.getElem?_eq_getElem lt⟩, Pv (i + 1), fun H' p' => ⟨xs.length - (i + 1), by omega, rfl, lt, p'⟩, fun x H' y => ?_⟩
      obtain ⟨rfl, y⟩ := y
      refine turn i x F2 _ l (y xs q) u f v j inv _ _ (fun k F5 H5 u5 j5 inv5 => ?_) (fun F5 H5 u5 j5 inv5 => ?_)
      · have c5 := c.up u5 fun x h => (hS x h).2
        have U5 := u.more u5 fun x h => (hS x h).1
        have V5 := v.more u5 fun x h => List.mem_cons_of_mem _ h
        obtain ⟨v6, u6, c6⟩ := U5.put c5 (SetS P w D (insS k l))
        exact ⟨l, c5.at_, ⟨Nat.lt_of_le_of_lt (show l.length + 1 ≤ 1002 by omega) sz2, k, rfl⟩, F5, insS k l, u6, f.trans u5.sub, V5.more v6 (fun x h => by rw [List.mem_singleton.mp h]; exact List.mem_cons_self), hJ _ _ j5, c6, insS_nd nd, Nat.le_trans insS_len (Nat.succ_le_succ ll), inv5⟩
      · exact ⟨F5, l, u.more u5 fun x h => (hS x h).1, f.trans u5.sub, v.more u5 fun x h => List.mem_cons_of_mem _ h, j5, c.up u5 fun x h => (hS x h).2, nd, Nat.le_succ_of_le ll, inv5⟩
    · have e : i = xs.length := by omega
      subst e
      exact .inl ⟨⟨xs, q, Nat.le_refl _⟩, after l F2 H2 u f (v.drop hD) j c nd ll inv⟩

theorem scg_tup {P : Program} {w : World} {K : PySem.W.Frag} {a : Addr} {xs : List V} {g : TG} {tt : TT} {te : TE} {vs : List Nat} {σ : L2.St} {H1 : Hp} {D : Addr} {Qd : Hp → Prop} {S S1 : List Addr} {F0 H0 F : Hp}
    (J : Hp → Prop) (I : Nat → List Str → Prop) (u0 : Up S F0 H0 F H1) (j0 : J H1) (hD : H1 D = none) (hJ : ∀ H o, J H → J (upd H D o)) (hS : ∀ x ∈ S1, x ∈ S ∧ H0 x ≠ none) (hs : ∀ F2 H2, Up S F0 H0 F2 H2 → Fz F F2 → Up (D :: S1) F H1 F2 H2 → SqT K H2 a xs) (sz : xs.length ≤ 1000) (i0 : I 0 [])
    (turn : ∀ i x F2 H2 l, xs[i]? = some x → Up S F0 H0 F2 H2 → Fz F F2 → Up (D :: S1) F H1 F2 H2 → J H2 → I i l → ∀ (T : V → Hp → Prop) (N : Hp → Prop), (∀ k F5 H5, Up S1 F2 H2 F5 H5 → J H5 → I (i + 1) (insS k l) → T (.str k) H5) → (∀ F5 H5, Up S1 F2 H2 F5 H5 → J H5 → I (i + 1) l → N H5) →
      g x (wipe σ vs) H2 fun σ2 H3 => wipe σ2 vs = wipe σ vs ∧ tt σ2 H3 fun b H4 => if b = true then te σ2 H4 T else N H4)
    (after : ∀ l F2 H2, Up S F0 H0 F2 H2 → Fz F F2 → Up S1 F H1 F2 H2 → J H2 → Ow H0 F2 H2 D (SetS P w D l) → l.Nodup → l.length ≤ xs.length → I xs.length l → Qd H2) :
    ∃ W : Nat → Nat → Hp → Prop, (∃ m, W 0 m (upd H1 D ((famS P w).G D (famS P w).z))) ∧ ∀ i m H, W i m H →
      ((Itt K a).stop i H ∧ Qd H) ∨ ((Itt K a).go i H ∧ ∃ Nx : Hp → Prop, (∀ H', Nx H' → ∃ m', m' < m ∧ W (i + 1) m' H') ∧ ∀ x H', (Itt K a).yld i H x H' → g x (wipe σ vs) H' fun σ2 H2 => wipe σ2 vs = wipe σ vs ∧ tt σ2 H2 fun b H3 =>
        if b = true then te σ2 H3 fun y H4 => ∃ st, H4 D = some ((famS P w).G D st) ∧ (famS P w).ok st y ∧ Nx (upd H4 D ((famS P w).G D ((famS P w).nx st y))) else Nx H3) := by
  have sz2 : (1002 : Nat) < scanBound := by decide
  let Pv : Nat → Hp → Prop := fun i H => ∃ F2 l, Up S F0 H0 F2 H ∧ Fz F F2 ∧ Up (D :: S1) F H1 F2 H ∧ J H ∧ Ow H0 F2 H D (SetS P w D l) ∧ l.Nodup ∧ l.length ≤ i ∧ I i l
  refine ⟨fun i m H => m = xs.length - i ∧ i ≤ xs.length ∧ Pv i H, ⟨xs.length, rfl, Nat.zero_le _, ?_⟩, ?_⟩
  · obtain ⟨v, u, c⟩ := u0.begin hD (SetS P w D [])
    exact ⟨F, [], u, .refl F, v.of0, hJ _ _ j0, c, List.nodup_nil, Nat.le_refl _, i0⟩
  · rintro i m H2 ⟨rfl, hi, F2, l, u, f, v, j, c, nd, ll, inv⟩
    have q := hs F2 H2 u f v
    by_cases lt : i < xs.length
    · refine .inr ⟨⟨xs, xs[i], q, List.getElem?_eq_getElem lt⟩, Pv (i + 1), fun H' p' => ⟨xs.length - (i + 1), by omega, rfl, lt, p'⟩, fun x H' y => ?_⟩
      obtain ⟨rfl, y⟩ := y
      refine turn i x F2 _ l (y xs q) u f v j inv _ _ (fun k F5 H5 u5 j5 inv5 => ?_) (fun F5 H5 u5 j5 inv5 => ?_)
      · have c5 := c.up u5 fun x h => (hS x h).2
        have U5 := u.more u5 fun x h => (hS x h).1
        have V5 := v.more u5 fun x h => List.mem_cons_of_mem _ h
        obtain ⟨v6, u6, c6⟩ := U5.put c5 (SetS P w D (insS k l))
        exact ⟨l, c5.at_, ⟨Nat.lt_of_le_of_lt (show l.length + 1 ≤ 1002 by omega) sz2, k, rfl⟩, F5, insS k l, u6, f.trans u5.sub, V5.more v6 (fun x h => by rw [List.mem_singleton.mp h]; exact List.mem_cons_self), hJ _ _ j5, c6, insS_nd nd, Nat.le_trans insS_len (Nat.succ_le_succ ll), inv5⟩
      · exact ⟨F5, l, u.more u5 fun x h => (hS x h).1, f.trans u5.sub, v.more u5 fun x h => List.mem_cons_of_mem _ h, j5, c.up u5 fun x h => (hS x h).2, nd, Nat.le_succ_of_le ll, inv5⟩
    · have e : i = xs.length := by omega
      subst e
      exact .inl ⟨⟨xs, q, Nat.le_refl _⟩, after l F2 H2 u f (v.drop hD) j c nd ll inv⟩
end K01
namespace R9S
open PySem PySem.Spec PyProof.Rows L2 R9
/-! ### len of an object of one's own -/
section
variable {X : Cx} {CX : CXT} {C f : Addr} {fd : FuncData} {ps : List Str} {sp : Sp} {E : XK} {n : Nat}
def rLenOwn (C : Addr) (sp : Sp) (E : XK) : List V → Hp → VK → Prop := fun xs H Q => ∃ a dx fs, xs = [.ref a] ∧ H a = some (.ins C dx fs) ∧ sp [.ref a] H (fun v H' => ∃ k : Int, v = .int k ∧ (0 ≤ k ∧ k < 2 ^ 63) ∧ Q (.int k) H') E
theorem call_lenOwn (F : FnOk X.prog X.w X.K X.mg X.base CX n f fd ps sp) (hr : Room (n + 1) X.A) (hs : PySem.W.findIn X.K (.ref C) "__len__" = some (some (.ref f))) (hf : PySem.W.isFn X.K (.ref f) = true) (hb : Binds X.K fd ps []) (hx : Passes CX X E) : CallR X (.builtin "len") (rLenOwn C sp E) := by
  intro pins s σ H xs us Q I r h
  obtain ⟨a, dx, fs, rfl, ha, hsp⟩ := h
  rw [Vals.ref1 r]
  obtain ⟨mA, J, _⟩ := ins_get I.hok ha
  obtain ⟨od, J, _⟩ := J.look
  obtain ⟨m, hF⟩ := I.fr
  refine PySem.W.len_K hF I.ok.mod.kin J hs hf ?_
  have e0 : Env0 X.prog X.w X.K X.mg X.base X.A.in1 X.stack s H := have e := I.env0; ⟨e.frames, e.mod, e.bs, e.bsz, e.funs, e.frf, e.hok, e.bare⟩
  have hl := F.len _ _ _ _ hsp
  have r2 : Vals [V.ref a] [Value.ref a] := .cons rfl .nil
  refine wpAny_call (codeAny_mono (F.run X.A.in1 X.stack s H ⟨[.ref a], []⟩ [.ref a] [.ref a] _ E hr.in1 e0 (by have := hb s [.ref a] I.kIn (by simpa using hl); simpa using this) r2 hsp) fun r s' hq => ?_)
  cases r with
  | error e => exact hx pins σ H s e s' I hq
  | ok fl =>
    cases fl with
    | ret w =>
      obtain ⟨z, H', I', rz, k, ez, kb, q⟩ := I.after hq
      subst ez
      obtain ⟨t, rfl⟩ := rz
      exact ⟨kb, .int k, H', I'.tok _, ⟨_, rfl⟩, q⟩
    | next => exact False.elim hq
    | brk => exact False.elim hq
    | cont => exact False.elim hq
theorem call_lenD {j k : Nat} {qual : Str} {st : Stmt} (D : Dm X.prog X.w X.K X.mg X.base k C "__len__" qual st ps sp) (hr : Room j X.A) (hk : k + 1 ≤ j) : CallR X (.builtin "len") (rLenOwn C sp E0) := by
  obtain ⟨f, fd, F, G, hc, me, b⟩ := D.ex
  exact call_lenOwn G (hr.mono hk) me.at_ me.fn b passL
end
/-! ### sorted of a list or a tuple of texts -/
section
variable {P : Program} {w : World} {A : Around} {E : Value → Shared → Prop} {s : Shared}
theorem sorted_seq {a : Addr} {T : String} {o : Obj} {items : Array Value} {n : Nat} {xs : List Str} {Q : Value → Shared → Prop} (hT : T = "list" ∨ T = "tuple") (ho : s.heap.get? a = some o) (hc : o.cls = .type T) (hd : o.data = .seq items n) (hS : StrsAre items.toList xs) (h64 : xs.length < 64)
    (hq : ∀ (h1 h' : Heap) (out : Array Value) c ys, (∀ b o, s.heap.get? b = some o → h1.get? b = some o) → (∀ b o, h1.get? b = some o → h'.get? b = some o) → h'.get? h1.objs.size = some (seqObj "list" out c) → StrsAre out.toList ys → ys.Perm xs → sortedS ys = true → Q (.ref h1.objs.size) { s with heap := h' }) :
    wpAny (model P w) A (call (.builtin "sorted") [.ref a]) Q E s := by
  have lx := hS.length
  rw [Array.length_toList] at lx
  refine Calls.call_function_entry kind_sorted plain_sorted entry_sorted (args_sorted1 _) ?_; unfold Builtin.«sorted»
  refine wpAny_bind (m := checkCount "sorted" 1 1 _) (wpAny_pure (wpAny_bind (wpAny_collect_seq (A := A.in1) a hT ho hc hd (fun h1 k1 => ?_) (by rw [sizeLine_eq]; omega))))
  refine wpAny_bind (wpAny_newList ?_ (by rw [sizeLine_eq, Array.length_toList]; omega))
  have hoL : (h1.push (seqObj "list" items.toList.toArray 0)).get? h1.objs.size = some (seqObj "list" items.toList.toArray 0) := Heap.get?_push_size _ rfl
  refine wpAny_bind (wpAny_holding (wpAny_call_entry slot_list_sort ⟨_, hoL, rfl⟩ entry_list_sort (list_sort_treeK strKind_oneLt hoL hS.keysOf (fun v₁ v₂ rest e => keyKind_strs (by rw [← e]; exact hS)) (by rw [Array.length_toList]; omega) fun st' a1 a2 => ⟨_, rfl, ?_⟩) (args_list_sort _)))
  obtain ⟨ss', b1, b2, b3⟩ := sorted_out_str hS a1 a2
  obtain ⟨c, hc'⟩ := sortedHeap_at (vs := items.toList) (out := (arrOf st').map (·.2)) hoL
  refine wpAny_pure ⟨_, rfl, hq h1 _ _ c ss' k1 (fun b u q => ?_) hc' b1 b2 b3⟩
  have lt := Heap.lt_size q
  exact (sortedHeap_old (Nat.ne_of_lt lt) (by rw [size_push']; exact Nat.lt_succ_of_lt lt)).trans (Heap.get?_push_of_some _ q)
end
section
variable {X : Cx}
def rSortSq (K : PySem.W.Frag) : List V → Hp → VK → Prop := fun vs H Q => ∃ (a : Addr) (xs : List Str), vs = [V.ref a] ∧ (SqL K H a (xs.map V.str) ∨ SqT K H a (xs.map V.str)) ∧ xs.length < 64 ∧ ∀ (ys : List Str) (p : Addr), ys.Perm xs → sortedS ys = true → H p = none → Q (.ref p) (upd H p (.lst (ys.map V.str)))
theorem cr_sortSq : CallR X (.builtin "sorted") (rSortSq X.K) := by
  intro pins s σ H vs us Q I r h
  obtain ⟨a, xs, rfl, hs, h64, q⟩ := h
  rw [Vals.ref1 r]
  have go : ∀ (h1 h' : Heap) (out : Array Value) c ys, (∀ b o, s.heap.get? b = some o → h1.get? b = some o) → (∀ b o, h1.get? b = some o → h'.get? b = some o) → h'.get? h1.objs.size = some (seqObj "list" out c) → StrsAre out.toList ys → ys.Perm xs → sortedS ys = true → EP X pins σ Q (.ref h1.objs.size) { s with heap := h' } := fun h1 h' out c ys k1 k2 hg hS pm so => by
    have I1 : Inv X pins σ H { s with heap := h1 } := I.kept (t' := s.toks) k1
    have hl : (ys.map V.str).length ≤ sizeLine := by rw [List.length_map, pm.length_eq, sizeLine_eq]; omega
    exact ⟨.ref h1.objs.size, upd H h1.objs.size (.lst (ys.map V.str)), I1.laid (t' := s.toks) k2 (Nat.le_refl _) ⟨hl, out.toList, c, vals_of_strs hS, hg⟩, rfl, q ys _ pm so (I1.hok.fresh (Nat.le_refl _))⟩
  rcases hs with hs | hs
  · obtain ⟨its, rv, pl, hz⟩ := I.list hs
    obtain ⟨o, ho, hc, n, hd⟩ := pl.isList
    exact sorted_seq (.inl rfl) ho hc hd rv.strs h64 go
  · obtain ⟨its, rv, pl, hz⟩ := I.tuple hs
    obtain ⟨o, ho, hc, n, hd⟩ := pl
    exact sorted_seq (.inr rfl) ho hc hd rv.strs h64 go
end
end R9S
namespace R9S
open PySem PySem.Spec PyProof.Rows L2 R9
/-! ### zip of two sources: lists, tuples, texts, in any mix -/
inductive Sk where
  | list | tup | txt
def signs (z : Str) : List V := z.cps.toList.map fun c => V.str ⟨#[c]⟩
def SrcV (K : PySem.W.Frag) (H : Hp) (k : Sk) (v : V) (xs : List V) : Prop := match k with
  | .list => ∃ a, v = .ref a ∧ SqL K H a xs
  | .tup => ∃ a, v = .ref a ∧ SqT K H a xs
  | .txt => ∃ z, v = .str z ∧ xs = signs z
/-- where the iterator of a source stands -/
def ItA (k : Sk) (u : Value) (it : Addr) (i : Nat) (h : Heap) : Prop := match k, u with
  | .list, .ref l => h.IsListIter it l i
  | .tup, .ref l => h.IsTupleIter it l i
  | .txt, .str x t => h.IsStrIter it (strIterType x) x t i
  | _, _ => False
theorem ItA.obj {k : Sk} {u : Value} {it : Addr} {i : Nat} {h : Heap} (a : ItA k u it i h) : ∃ o, h.get? it = some o ∧ ∀ v, o.data ≠ .cell v := by
  cases k <;> cases u <;> first | exact a.elim | (obtain ⟨o, ho, _, hd⟩ := a; exact ⟨o, ho, fun v q => by rw [hd] at q; cases q⟩)
theorem ItA.keep {k : Sk} {u : Value} {it : Addr} {i : Nat} {h h' : Heap} (a : ItA k u it i h) (q : ∀ o, h.get? it = some o → h'.get? it = some o) : ItA k u it i h' := by
  cases k <;> cases u <;> first | exact a.elim | (obtain ⟨o, ho, r⟩ := a; exact ⟨o, q o ho, r⟩)
theorem draw_of {X : Cx} {pins : List (Addr × Obj)} {σ : L2.St} {H : Hp} {s : Shared} (I : Inv X pins σ H s) (hc : X.calm = true) {k : Sk} {v : V} {u : Value} {xs : List V} {it : Addr} {i : Nat} (sv : SrcV X.K H k v xs) (rv : RelV v u) (st : ItA k u it i s.heap) (ne : ∀ l, u = .ref l → l ≠ it) :
    ∃ (fp : List Addr) (n : Nat) (Pd : Nat → Value → Prop) (St : Nat → Heap → Prop), Draws X.prog X.w X.A.in1 it fp n Pd St ∧ n = xs.length ∧ St i s.heap ∧ it ∈ fp ∧ (∀ b ∈ fp, b = it ∨ u = .ref b) ∧ (∀ j x', Pd j x' → ∃ x, xs[j]? = some x ∧ RelV x x') ∧ ∀ j h', St j h' → ItA k u it j h' := by
  have hh := I.ok.hd hc
  cases k with
  | list =>
    obtain ⟨a, rfl, sq⟩ := sv
    cases rv
    obtain ⟨its, r, pl, _⟩ := I.list sq
    refine ⟨_, _, _, _, Draws.list (A := X.A.in1) hh it a (ne a rfl) its.toArray, by rw [List.size_toArray]; exact r.length.symm, ⟨st, pl.isList⟩, by simp, fun b hb => ?_, fun j x' h => pair_left r (by simpa using h), fun j h' z => z.1⟩
    rcases (show b = it ∨ b = a by simpa using hb) with z | z
    · exact .inl z
    · exact .inr (by rw [z])
  | tup =>
    obtain ⟨a, rfl, sq⟩ := sv
    cases rv
    obtain ⟨its, r, pl, _⟩ := I.tuple sq
    refine ⟨_, _, _, _, Draws.tuple (A := X.A.in1) hh it a (ne a rfl) its.toArray, by rw [List.size_toArray]; exact r.length.symm, ⟨st, pl⟩, by simp, fun b hb => ?_, fun j x' h => pair_left r (by simpa using h), fun j h' z => z.1⟩
    rcases (show b = it ∨ b = a by simpa using hb) with z | z
    · exact .inl z
    · exact .inr (by rw [z])
  | txt =>
    obtain ⟨z, rfl, rfl⟩ := sv
    obtain ⟨t, rfl⟩ := rv
    refine ⟨_, _, _, _, Draws.text (A := X.A.in1) hh it z t, by unfold signs; rw [List.length_map, Array.length_toList], st, by simp, fun b hb => .inl (by simpa using hb), fun j x' h => ?_, fun j h' q => q⟩
    obtain ⟨c, w, hc, rfl⟩ := h
    exact ⟨.str ⟨#[c]⟩, by unfold signs; rw [List.getElem?_map, Array.getElem?_toList, hc]; rfl, ⟨w, rfl⟩⟩
/-- the sources as they stand at each turn, the items in new pairs -/
def ItzG (K : PySem.W.Frag) (k1 : Sk) (v1 : V) (k2 : Sk) (v2 : V) : It :=
  ⟨fun i H => ∃ (xs ys : List V) (x y : V), SrcV K H k1 v1 xs ∧ SrcV K H k2 v2 ys ∧ xs[i]? = some x ∧ ys[i]? = some y,
    fun i H v H' => ∃ T x y, v = .ref T ∧ H T = none ∧ H' = upd H T (.tup [x, y]) ∧ (∀ xs, SrcV K H k1 v1 xs → xs[i]? = some x) ∧ ∀ ys, SrcV K H k2 v2 ys → ys[i]? = some y,
    fun i H => ∃ xs ys : List V, SrcV K H k1 v1 xs ∧ SrcV K H k2 v2 ys ∧ i ≤ xs.length ∧ i ≤ ys.length ∧ (i = xs.length ∨ i = ys.length)⟩
theorem SrcV.inj {X : Cx} {pins : List (Addr × Obj)} {σ : L2.St} {H : Hp} {s : Shared} (I : Inv X pins σ H s) {k : Sk} {v : V} {xs ys : List V} (a : SrcV X.K H k v xs) (b : SrcV X.K H k v ys) : xs = ys := by
  cases k with
  | list => obtain ⟨p, e, h⟩ := a; obtain ⟨q, e', h'⟩ := b; rw [e] at e'; cases e'; exact I.list_inj h h'
  | tup => obtain ⟨p, e, h⟩ := a; obtain ⟨q, e', h'⟩ := b; rw [e] at e'; cases e'; exact I.tuple_inj h h'
  | txt => obtain ⟨p, e, h⟩ := a; obtain ⟨q, e', h'⟩ := b; rw [e] at e'; cases e'; rw [h, h']
structure Five (z TI TO i1 i2 : Addr) (u1 u2 : Value) : Prop where
  a : TI ≠ z ∧ TO ≠ z ∧ TI ≠ TO ∧ TI ≠ i1 ∧ TI ≠ i2 ∧ z ≠ i1 ∧ z ≠ i2 ∧ TO ≠ i1 ∧ TO ≠ i2 ∧ i1 ≠ i2
  b : ∀ l, u1 = .ref l ∨ u2 = .ref l → l ≠ z ∧ l ≠ TI ∧ l ≠ TO ∧ l ≠ i1 ∧ l ≠ i2
theorem Five.sep {z TI TO i1 i2 : Addr} {u1 u2 : Value} (F : Five z TI TO i1 i2 u1 u2) {fp1 fp2 : List Addr} (m1 : i1 ∈ fp1) (m2 : i2 ∈ fp2) (h1 : ∀ b ∈ fp1, b = i1 ∨ u1 = .ref b) (h2 : ∀ b ∈ fp2, b = i2 ∨ u2 = .ref b) : ZipSep2 z TI TO i1 i2 fp1 fp2 := by
  obtain ⟨a1, a2, a3, a4, a5, a6, a7, a8, a9, a10⟩ := F.a
  have n1 : ∀ c, c ≠ i1 → (∀ l, u1 = .ref l → l ≠ c) → c ∉ fp1 := fun c n q m => (h1 c m).elim n fun e => q c e rfl
  have n2 : ∀ c, c ≠ i2 → (∀ l, u2 = .ref l → l ≠ c) → c ∉ fp2 := fun c n q m => (h2 c m).elim n fun e => q c e rfl
  exact { TIz := a1, TOz := a2, TITO := a3, TIi1 := a4, mem1 := m1, zf1 := n1 z a6 fun l e => (F.b l (.inl e)).1, Tf1 := n1 TO a8 fun l e => (F.b l (.inl e)).2.2.1, TIi2 := a5, mem2 := m2, zf2 := n2 z a7 fun l e => (F.b l (.inr e)).1, Tf2 := n2 TO a9 fun l e => (F.b l (.inr e)).2.2.1, sep1_2 := n2 i1 a10 fun l e => (F.b l (.inr e)).2.2.2.1, sep2_1 := n1 i2 (Ne.symm a10) fun l e => (F.b l (.inl e)).2.2.2.2 }
theorem turn_zipG {P : Program} {w : World} {K : PySem.W.Frag} {elts : List Expr} {kk : Nat} {tpos : Pos} {k1 k2 : Sk} {v1 v2 : V} {u1 u2 : Value} {z TI TO i1 i2 : Addr} (D : Five z TI TO i1 i2 u1 u2) (r1 : RelV v1 u1) (r2 : RelV v2 u2) :
    Turn P w K (.Tuple elts kk tpos) (ItzG K k1 v1 k2 v2) [z, TI, TO, i1, i2] z (fun i h => IsZip h z TI TO .none ∧ IsTupOf2 h TI (.ref i1) (.ref i2) ∧ (∃ x y, IsTupOf2 h TO x y) ∧ ItA k1 u1 i1 i h ∧ ItA k2 u2 i2 i h) where
  mem := by simp
  obj := fun i h ⟨hz, hTI, ⟨x, y, hTO⟩, h1, h2⟩ c hc => by
    rcases (show c = z ∨ c = TI ∨ c = TO ∨ c = i1 ∨ c = i2 by simpa using hc) with q | q | q | q | q
    · rw [q]; exact ⟨_, hz, fun v q => nomatch q⟩
    · rw [q]; exact ⟨_, hTI, fun v q => nomatch q⟩
    · rw [q]; exact ⟨_, hTO, fun v q => nomatch q⟩
    · rw [q]; exact h1.obj
    · rw [q]; exact h2.obj
  keep := fun i h h' ⟨hz, hTI, ⟨x, y, hTO⟩, h1, h2⟩ k => ⟨k z (by simp) _ hz, k TI (by simp) _ hTI, ⟨x, y, k TO (by simp) _ hTO⟩, h1.keep (k i1 (by simp)), h2.keep (k i2 (by simp))⟩
  item := by
    intro X hP hw hK hc i pins s σ H E I hf ⟨hz, hTI, ⟨x0, y0, hTO⟩, h1, h2⟩ ⟨xs, ys, x, y, q1, q2, hx, hy⟩
    subst hP hw hK
    obtain ⟨a1, a2, a3, a4, a5, a6, a7, a8, a9, a10⟩ := D.a
    obtain ⟨fp1, n1, P1, S1, D1, e1, s1, m1, f1, g1, t1⟩ := draw_of I hc q1 r1 h1 fun l e => (D.b l (.inl e)).2.2.2.1
    obtain ⟨fp2, n2, P2, S2, D2, e2, s2, m2, f2, g2, t2⟩ := draw_of I hc q2 r2 h2 fun l e => (D.b l (.inr e)).2.2.2.2
    have zl := Heap.lt_size hz
    refine wpAny_pyNext_zipD2_item (D.sep m1 m2 f1 f2) D1 D2 hz hTI hTO s1 s2 (by rw [e1]; exact (List.getElem?_eq_some_iff.mp hx).1) (by rw [e2]; exact (List.getElem?_eq_some_iff.mp hy).1) fun x1 x2 h' tk p1 p2 z' TO' s1' s2' hT hsz hk => ?_
    obtain ⟨x', hx', rx⟩ := g1 i x1 p1
    obtain ⟨y', hy', ry⟩ := g2 i x2 p2
    rw [hx] at hx'; cases hx'
    rw [hy] at hy'; cases hy'
    refine ⟨_, rfl, wpAny_letOwnedTupleGo_zip (s := { s with heap := h', toks := tk }) z' fun h'' z'' sb => ?_⟩
    have hT2 : h''.get? s.heap.objs.size = some { cls := .type "tuple", data := .seq #[x1, x2] } := (sb.2 _ (Nat.ne_of_gt zl)).trans hT
    have nw : ObjOk X.prog X.w (upd H s.heap.objs.size (.tup [x, y])) h'' s.heap.objs.size (.tup [x, y]) := ⟨by show 2 ≤ sizeLine; decide, [x1, x2], .cons rx (.cons ry .nil), ⟨_, hT2, rfl, _, rfl⟩⟩
    have I1 : Inv X pins σ (upd H s.heap.objs.size (.tup [x, y])) { s with heap := h'', toks := tk } :=
      I.turnedNew (t' := tk) (ch := [z, TI, TO, i1, i2]) (fun c o hb q => (sb.2 c (fun e => hb (by simp [e]))).trans (hk c o (fun e => hb (by simp [e])) (fun e => hb (by simp [e])) (fun e => hb (by simp [e])) (fun e => hb (by simp [e])) q)) hf (Nat.le_refl _) nw
    refine ⟨.ref s.heap.objs.size, _, I1, rfl, ⟨_, x, y, rfl, I.hok.fresh (Nat.le_refl _), rfl, fun l hl => by rw [SrcV.inj I hl q1]; exact hx, fun l hl => by rw [SrcV.inj I hl q2]; exact hy⟩, ⟨z'', ?_, ⟨x1, x2, (sb.2 _ a2).trans TO'⟩, (t1 _ _ s1').keep fun o q => (sb.2 _ (Ne.symm a6)).trans q, (t2 _ _ s2').keep fun o q => (sb.2 _ (Ne.symm a7)).trans q⟩, fun c hcm => ?_⟩
    · exact (sb.2 _ a1).trans (hk _ _ a1 a3 a4 a5 hTI)
    · have lt : c < s.heap.objs.size := by
        rcases (show c = z ∨ c = TI ∨ c = TO ∨ c = i1 ∨ c = i2 by simpa using hcm) with q | q | q | q | q
        · rw [q]; exact zl
        · rw [q]; exact Heap.lt_size hTI
        · rw [q]; exact Heap.lt_size hTO
        · rw [q]; exact h1.obj.elim fun _ e => Heap.lt_size e.1
        · rw [q]; exact h2.obj.elim fun _ e => Heap.lt_size e.1
      rw [upd_ne (Nat.ne_of_lt lt)]; exact (hf c hcm).1
  done := by
    intro X hP hw hK hc i pins s σ H E I hf ⟨hz, hTI, ⟨x0, y0, hTO⟩, h1, h2⟩ ⟨xs, ys, q1, q2, l1, l2, hend⟩
    subst hP hw hK
    obtain ⟨fp1, n1, P1, S1, D1, e1, s1, m1, f1, g1, t1⟩ := draw_of I hc q1 r1 h1 fun l e => (D.b l (.inl e)).2.2.2.1
    obtain ⟨fp2, n2, P2, S2, D2, e2, s2, m2, f2, g2, t2⟩ := draw_of I hc q2 r2 h2 fun l e => (D.b l (.inr e)).2.2.2.2
    subst e1 e2
    exact wpAny_pyNext_zipD2_end (D.sep m1 m2 f1 f2) D1 D2 hz hTI hTO s1 s2 l1 l2 hend fun h' tk hk => ⟨rfl, I.turnedL (t' := tk) (ch := [z, TI, TO, i1, i2]) (fun c o hb q => hk c o (fun e => hb (by simp [e])) (fun e => hb (by simp [e])) (fun e => hb (by simp [e])) (fun e => hb (by simp [e])) q) hf⟩
  self := fun A i s Q E st h => wpAny_pyIter_zip st.1 h
theorem src_begins {X : Cx} {pins : List (Addr × Obj)} {σ : L2.St} {H : Hp} {s : Shared} (I : Inv X pins σ H s) {k : Sk} {v : V} {u : Value} {xs : List V} (sv : SrcV X.K H k v xs) (rv : RelV v u) :
    ∃ (o : Obj) (Hh : Heap → Prop), Begins u o Hh ∧ Hh s.heap ∧ (∀ it h, h.get? it = some o → ItA k u it 0 h) ∧ ∀ l, u = .ref l → l < s.heap.objs.size := by
  cases k with
  | list =>
    obtain ⟨a, rfl, sq⟩ := sv
    cases rv
    obtain ⟨its, r, pl, _⟩ := I.list sq
    exact ⟨_, _, begins_list a its.toArray, pl.isList, fun it h e => ⟨_, e, rfl, rfl⟩, fun l e => by cases e; exact pl.lt⟩
  | tup =>
    obtain ⟨a, rfl, sq⟩ := sv
    cases rv
    obtain ⟨its, r, pl, _⟩ := I.tuple sq
    refine ⟨_, _, begins_tuple a its.toArray, pl, fun it h e => ⟨_, e, rfl, rfl⟩, fun l e => ?_⟩
    cases e
    obtain ⟨o, ho, _⟩ := pl
    exact Heap.lt_size ho
  | txt =>
    obtain ⟨z, rfl, rfl⟩ := sv
    obtain ⟨t, rfl⟩ := rv
    exact ⟨_, _, begins_text z t, trivial, fun it h e => ⟨_, e, rfl, rfl⟩, fun l e => by cases e⟩
def iZipG (K : PySem.W.Frag) (ta : TA) : TI := fun σ H R => ta σ H fun vs H1 => ∃ k1 k2 v1 v2 xs ys, vs = [v1, v2] ∧ SrcV K H1 k1 v1 xs ∧ SrcV K H1 k2 v2 ys ∧ R (ItzG K k1 v1 k2 v2) H1
theorem pi_zipG {X : Cx} {e e2 : Expr} {ta : TA} {p pos tpos : Pos} {elts : List Expr} {kk : Nat} (hg : Gl X "zip") (hm : X.mg "zip" = none) (ha : PA X [e, e2] ta) (hs : starEach [e, e2] X.env = (false, eval e X.env) :: starEach [e2] X.env := by rfl) (hpl : (backTo pos (starEach [e2] X.env)).any (·.1) = false := by rfl) :
    PI X (.Tuple elts kk tpos) (.Call (.Name "zip" p) [e, e2] [] pos) (iZipG X.K ta) := by
  refine ⟨fun pins s σ H R I h => ?_⟩
  refine Call_ (ld_blt I hg hm PyProof.Rows.boot_zip (PyProof.Rows.callWith_type1 (thn (ha.run pos pins s σ H _ I h) fun us z1 ⟨vs, H1, I1, rr, k1, k2, v1, v2, xs, ys, ex, q1, q2, q⟩ => ?_) hs hpl))
  subst ex
  cases rr with
  | cons r1 rr =>
    cases rr with
    | cons r2 rr =>
      cases rr
      obtain ⟨o1, A1, b1, c1, d1, l1⟩ := src_begins I1 q1 r1
      obtain ⟨o2, A2, b2, c2, d2, l2⟩ := src_begins I1 q2 r2
      refine zip_begins2 b1 b2 c1 c2 fun h' hz hTI hTO g1 g2 sz hk => wpAny_pyIter_zip hz ?_
      have I2 : Inv X pins σ H1 { z1 with heap := h' } := I1.kept (t' := z1.toks) hk
      obtain ⟨N, hN⟩ : ∃ N : Nat, N = z1.heap.objs.size := ⟨_, rfl⟩
      rw [← hN] at hz hTI hTO g1 g2 ⊢
      have D : Five (N + 4) (N + 2) (N + 3) N (N + 1) _ _ := ⟨⟨(show (N + 2 : Nat) ≠ N + 4 by omega), (show (N + 3 : Nat) ≠ N + 4 by omega), (show (N + 2 : Nat) ≠ N + 3 by omega), (show (N + 2 : Nat) ≠ N by omega), (show (N + 2 : Nat) ≠ N + 1 by omega), (show (N + 4 : Nat) ≠ N by omega), (show (N + 4 : Nat) ≠ N + 1 by omega), (show (N + 3 : Nat) ≠ N by omega), (show (N + 3 : Nat) ≠ N + 1 by omega), (show (N : Nat) ≠ N + 1 by omega)⟩, fun l e => by
        have lt : (l : Nat) < N := by rw [hN]; exact e.elim (l1 l) (l2 l)
        refine ⟨?_, ?_, ?_, ?_, ?_⟩ <;> first | exact Nat.ne_of_lt lt | exact Nat.ne_of_lt (Nat.lt_of_lt_of_le lt (Nat.le_add_right _ _))⟩
      refine ⟨N + 4, [N + 4, N + 2, N + 3, N, N + 1], _, _, H1, rfl, I2, turn_zipG D r1 r2, ⟨hz, hTI, ⟨_, _, hTO⟩, d1 _ _ g1, d2 _ _ g2⟩, fun c hc => ?_, q⟩
      have le : z1.heap.objs.size ≤ c := by
        rw [← hN]
        rcases (show c = N + 4 ∨ c = N + 2 ∨ c = N + 3 ∨ c = N ∨ c = N + 1 by simpa using hc) with z | z | z | z | z <;> (rw [z]; first | exact Nat.le_refl _ | exact Nat.le_add_right _ _)
      exact I1.fpOk le (I1.hok.fresh le)
/-- a loop over zip of two sources of one length -/
theorem for_zipG {K : PySem.W.Frag} {k1 k2 : Sk} {v1 v2 : V} {xs ys : List V} {g : TG} {tb : TS} {D : Ends} {σ : L2.St} {H : Hp} (hl : xs.length = ys.length) (Pv : Nat → L2.St → Hp → Prop) (h0 : Pv 0 σ H) (hq : ∀ i σ H, Pv i σ H → SrcV K H k1 v1 xs ∧ SrcV K H k2 v2 ys)
    (hs : ∀ (i : Nat) (x y : V) (T : Addr) (σ : L2.St) (H : Hp), xs[i]? = some x → ys[i]? = some y → Pv i σ H → H T = none → g (.ref T) σ (upd H T (.tup [x, y])) fun σ2 H2 => tb { D with nx := Pv (i + 1), ct := Pv (i + 1), bk := D.nx } σ2 H2) (hd : ∀ σ H, Pv xs.length σ H → D.nx σ H) :
    ∃ W : Nat → Nat → L2.St → Hp → Prop, (∃ m, W 0 m σ H) ∧ ∀ i m σ H, W i m σ H → ((ItzG K k1 v1 k2 v2).stop i H ∧ D.nx σ H) ∨ ((ItzG K k1 v1 k2 v2).go i H ∧ ∃ N : L2.St → Hp → Prop, (∀ σ' H', N σ' H' → ∃ m', m' < m ∧ W (i + 1) m' σ' H') ∧ ∀ v H', (ItzG K k1 v1 k2 v2).yld i H v H' → g v σ H' fun σ2 H2 => tb { D with nx := N, ct := N, bk := D.nx } σ2 H2) := by
  refine ⟨fun i m σ H => m = xs.length - i ∧ i ≤ xs.length ∧ Pv i σ H, ⟨xs.length, rfl, Nat.zero_le _, h0⟩, fun i m σ H ⟨em, hi, p⟩ => ?_⟩
  subst em
  obtain ⟨qx, qy⟩ := hq i σ H p
  by_cases lt : i < xs.length
  · refine .inr ⟨⟨xs, ys, _, _, qx, qy, List.getElem?_eq_getElem lt, List.getElem?_eq_getElem (hl ▸ lt)⟩, Pv (i + 1), fun σ' H' p' => ⟨xs.length - (i + 1), by omega, rfl, lt, p'⟩, fun v H' ⟨T, x', y', e1, hT, e2, f1, f2⟩ => ?_⟩
    subst e1 e2
    exact hs i x' y' T σ H (f1 xs qx) (f2 ys qy) p hT
  · have e : i = xs.length := by omega
    subst e
    exact .inl ⟨⟨xs, ys, qx, qy, Nat.le_refl _, Nat.le_of_eq hl, .inl rfl⟩, hd σ H p⟩
end R9S
namespace K01
open PySem PySem.Spec PyProof.Rows L2 R9 R9M R9S
/-! ### rows of texts as data -/
theorem dp_strs {K : PySem.W.Frag} {H : Hp} : ∀ ss : List Str, DpAll K H (ss.map V.str) (ss.map PyData.str)
  | [] => .nil
  | s :: r => .cons (.str s) (dp_strs r)
theorem lays_strs : ∀ ss : List Str, (∀ s ∈ ss, PyData.strOk s = true) → PyData.canLayAll0 (ss.map PyData.str) = true
  | [], _ => by simp [PyData.canLayAll0]
  | s :: r, h => by simp [PyData.canLayAll0, PyData.canLay0, lays_strs r fun x hx => h x (List.mem_cons_of_mem _ hx), h s List.mem_cons_self]
theorem deep_strs : ∀ ss : List Str, PyData.depthAll (ss.map PyData.str) ≤ 1
  | [] => by simp [PyData.depthAll]
  | s :: r => by
    have := deep_strs r
    simp only [List.map_cons, PyData.depthAll, PyData.depth]
    omega
theorem lay_strs (ss : List Str) (h : ∀ s ∈ ss, PyData.strOk s = true) : PyData.canLay0 (.list (ss.map PyData.str)) = true := by simp only [PyData.canLay0]; exact lays_strs ss h
theorem sh_strs (ss : List Str) (h : ∀ s ∈ ss, PyData.strOk s = true) : SeqAt.shaped (.list (ss.map PyData.str)) = true := by
  have h1 := deep_strs ss
  refine Bool.and_eq_true_iff.mpr ⟨lay_strs ss h, decide_eq_true ?_⟩
  simp only [PyData.depth]
  omega
end K01
namespace K01
open PySem PySem.Spec PyProof.Rows L2 R9 R9M
open L2H (RoomH)
def topS (i : Nat) : Stmt := PySem.Challenge.pw_marktruly_k25_keys_by_numbers.main.body.getD i (.Pass ⟨0, 0, 0, 0⟩)
abbrev s_wall : Stmt := topS 0
abbrev s_kept : Stmt := topS 2
abbrev s_InvalidNumber_init : Stmt := inClass (topS 4) 0
abbrev s_InvalidPair_init : Stmt := inClass (topS 5) 0
abbrev s_InvalidKey_init : Stmt := inClass (topS 6) 0
abbrev s_is_integer : Stmt := topS 8
abbrev s_is_number_below : Stmt := topS 9
abbrev s_is_weight : Stmt := topS 10
abbrev s_block_of : Stmt := topS 11
abbrev s_Marking_init : Stmt := inClass (topS 13) 0
abbrev s_Marking_len : Stmt := inClass (topS 13) 1
abbrev s_Marking_key_of : Stmt := inClass (topS 13) 2
abbrev s_Marking_write : Stmt := inClass (topS 13) 3
abbrev s_Marking_accuses : Stmt := inClass (topS 13) 4
abbrev s_Marking_texts : Stmt := inClass (topS 13) 5
abbrev s_Marking_written_share : Stmt := inClass (topS 13) 6
abbrev s_Marking_accused_share : Stmt := inClass (topS 13) 7
abbrev s_Markingentry : Stmt := inClass (topS 13) 8
abbrev s_law_integer : Stmt := topS 15
abbrev s_law_start : Stmt := topS 16
abbrev s_law_draw : Stmt := topS 17
abbrev s_law_wide : Stmt := topS 18
abbrev s_law_signs : Stmt := topS 19
abbrev s_law_text : Stmt := topS 20
abbrev s_law_texts : Stmt := topS 21
abbrev s_law_weight : Stmt := topS 22
abbrev s_law_pool : Stmt := topS 23
abbrev s_law_some : Stmt := topS 24
abbrev s_law_entries : Stmt := topS 25
abbrev s_law_at : Stmt := topS 26
abbrev s_law_numbers : Stmt := topS 27
abbrev s_law_keys_are : Stmt := topS 28
abbrev s_law_counted : Stmt := topS 29
abbrev s_law_body : Stmt := topS 30
abbrev s_law : Stmt := topS 31
theorem sc_wall : FnScope ["k"] ["k"] (defScope s_wall) := ⟨rfl, rfl, rfl, by decide +kernel, rfl, by decide +kernel, by decide +kernel⟩
theorem sc_kept : FnScope ["value", "part"] ["value"] (defScope s_kept) := ⟨rfl, rfl, rfl, by decide +kernel, rfl, by decide +kernel, by decide +kernel⟩
theorem sc_InvalidNumber_init : FnScope ["self", "number"] ["self", "number"] (defScope s_InvalidNumber_init) := ⟨rfl, rfl, rfl, by decide +kernel, rfl, by decide +kernel, by decide +kernel⟩
theorem sc_InvalidPair_init : FnScope ["self", "at"] ["self", "at"] (defScope s_InvalidPair_init) := ⟨rfl, rfl, rfl, by decide +kernel, rfl, by decide +kernel, by decide +kernel⟩
theorem sc_InvalidKey_init : FnScope ["self", "key"] ["self", "key"] (defScope s_InvalidKey_init) := ⟨rfl, rfl, rfl, by decide +kernel, rfl, by decide +kernel, by decide +kernel⟩
theorem sc_is_integer : FnScope ["value"] ["value"] (defScope s_is_integer) := ⟨rfl, rfl, rfl, by decide +kernel, rfl, by decide +kernel, by decide +kernel⟩
theorem sc_is_number_below : FnScope ["value", "end"] ["value", "end"] (defScope s_is_number_below) := ⟨rfl, rfl, rfl, by decide +kernel, rfl, by decide +kernel, by decide +kernel⟩
theorem sc_is_weight : FnScope ["value"] ["value"] (defScope s_is_weight) := ⟨rfl, rfl, rfl, by decide +kernel, rfl, by decide +kernel, by decide +kernel⟩
theorem sc_block_of : FnScope ["number", "sizes", "at", "left"] ["number", "sizes"] (defScope s_block_of) := ⟨rfl, rfl, rfl, by decide +kernel, rfl, by decide +kernel, by decide +kernel⟩
theorem sc_Marking_init : FnScope ["self", "entries", "told", "at", "weight", "text", "accused", "entry"] ["self", "entries"] (defScope s_Marking_init) := ⟨rfl, rfl, rfl, by decide +kernel, rfl, by decide +kernel, by decide +kernel⟩
theorem sc_Marking_len : FnScope ["self"] ["self"] (defScope s_Marking_len) := ⟨rfl, rfl, rfl, by decide +kernel, rfl, by decide +kernel, by decide +kernel⟩
theorem sc_Marking_key_of : FnScope ["self", "number", "at", "_", "entry"] ["self", "number"] (defScope s_Marking_key_of) := ⟨rfl, rfl, rfl, by decide +kernel, rfl, by decide +kernel, by decide +kernel⟩
theorem sc_Marking_write : FnScope ["self", "key"] ["self", "key"] (defScope s_Marking_write) := ⟨rfl, rfl, rfl, by decide +kernel, rfl, by decide +kernel, by decide +kernel⟩
theorem sc_Marking_accuses : FnScope ["self", "key", "text"] ["self", "key", "text"] (defScope s_Marking_accuses) := ⟨rfl, rfl, rfl, by decide +kernel, rfl, by decide +kernel, by decide +kernel⟩
theorem sc_Marking_texts : FnScope ["self", "entry"] ["self"] (defScope s_Marking_texts) := ⟨rfl, rfl, rfl, by decide +kernel, rfl, by decide +kernel, by decide +kernel⟩
theorem sc_Marking_written_share : FnScope ["self", "text"] ["self", "text"] (defScope s_Marking_written_share) := ⟨rfl, rfl, rfl, by decide +kernel, rfl, by decide +kernel, by decide +kernel⟩
theorem sc_Marking_accused_share : FnScope ["self", "text"] ["self", "text"] (defScope s_Marking_accused_share) := ⟨rfl, rfl, rfl, by decide +kernel, rfl, by decide +kernel, by decide +kernel⟩
theorem sc_Markingentry : FnScope ["self", "key"] ["self", "key"] (defScope s_Markingentry) := ⟨rfl, rfl, rfl, by decide +kernel, rfl, by decide +kernel, by decide +kernel⟩
theorem sc_law_integer : FnScope ["value"] ["value"] (defScope s_law_integer) := ⟨rfl, rfl, rfl, by decide +kernel, rfl, by decide +kernel, by decide +kernel⟩
theorem sc_law_start : FnScope ["script"] ["script"] (defScope s_law_start) := ⟨rfl, rfl, rfl, by decide +kernel, rfl, by decide +kernel, by decide +kernel⟩
theorem sc_law_draw : FnScope ["state", "limit", "cell", "got"] ["state", "limit"] (defScope s_law_draw) := ⟨rfl, rfl, rfl, by decide +kernel, rfl, by decide +kernel, by decide +kernel⟩
theorem sc_law_wide : FnScope ["state", "number", "k", "limit"] ["state"] (defScope s_law_wide) := ⟨rfl, rfl, rfl, by decide +kernel, rfl, by decide +kernel, by decide +kernel⟩
theorem sc_law_signs : FnScope [] [] (defScope s_law_signs) := ⟨rfl, rfl, rfl, by decide +kernel, rfl, by decide +kernel, by decide +kernel⟩
theorem sc_law_text : FnScope ["state", "most", "kind", "size", "signs", "text", "k"] ["state", "most"] (defScope s_law_text) := ⟨rfl, rfl, rfl, by decide +kernel, rfl, by decide +kernel, by decide +kernel⟩
theorem sc_law_texts : FnScope ["state", "many", "most", "one_place", "base", "place", "found", "k", "text"] ["state", "many", "most"] (defScope s_law_texts) := ⟨rfl, rfl, rfl, by decide +kernel, rfl, by decide +kernel, by decide +kernel⟩
theorem sc_law_weight : FnScope ["state", "kind"] ["state", "kind"] (defScope s_law_weight) := ⟨rfl, rfl, rfl, by decide +kernel, rfl, by decide +kernel, by decide +kernel⟩
theorem sc_law_pool : FnScope ["state", "many"] ["state"] (defScope s_law_pool) := ⟨rfl, rfl, rfl, by decide +kernel, rfl, by decide +kernel, by decide +kernel⟩
theorem sc_law_some : FnScope ["state", "pool", "most", "found", "k", "text"] ["state", "pool", "most"] (defScope s_law_some) := ⟨rfl, rfl, rfl, by decide +kernel, rfl, by decide +kernel, by decide +kernel⟩
theorem sc_law_entries : FnScope ["state", "pool", "many", "kind", "most", "entries", "k", "text"] ["state", "pool"] (defScope s_law_entries) := ⟨rfl, rfl, rfl, by decide +kernel, rfl, by decide +kernel, by decide +kernel⟩
theorem sc_law_at : FnScope ["entries", "number", "key"] ["entries", "number"] (defScope s_law_at) := ⟨rfl, rfl, rfl, by decide +kernel, rfl, by decide +kernel, by decide +kernel⟩
theorem sc_law_numbers : FnScope ["state", "entries", "whole", "numbers", "first", "weight", "text", "accused", "k"] ["state", "entries", "whole"] (defScope s_law_numbers) := ⟨rfl, rfl, rfl, by decide +kernel, rfl, by decide +kernel, by decide +kernel⟩
theorem sc_law_keys_are : FnScope ["marking", "entries", "numbers", "number", "key"] ["marking", "entries", "numbers"] (defScope s_law_keys_are) := ⟨rfl, rfl, rfl, by decide +kernel, rfl, by decide +kernel, by decide +kernel⟩
theorem sc_law_counted : FnScope ["marking", "entries", "pool", "whole", "text", "written", "accused", "number", "key", "entry"] ["marking", "entries", "pool", "whole"] (defScope s_law_counted) := ⟨rfl, rfl, rfl, by decide +kernel, rfl, by decide +kernel, by decide +kernel⟩
theorem sc_law_body : FnScope ["script", "state", "pool", "entries", "handed", "marking", "whole", "numbers", "entry", "k"] ["script"] (defScope s_law_body) := ⟨rfl, rfl, rfl, by decide +kernel, rfl, by decide +kernel, by decide +kernel⟩
theorem sc_law : FnScope ["script"] ["script"] (defScope s_law) := ⟨rfl, rfl, rfl, by decide +kernel, rfl, by decide +kernel, by decide +kernel⟩
/-! ### what the text's top has made, as far as the bodies ask -/
structure Txt (K : PySem.W.Frag) (mg : Str → Option Value) (CS CI CT CP CM CK CU CC CN CE CA CH CB : Addr) : Prop where
  len : mg "len" = none
  abs : mg "abs" = none
  int : mg "int" = none
  bool : mg "bool" = none
  str : mg "str" = none
  list : mg "list" = none
  tuple : mg "tuple" = none
  ValueError : mg "ValueError" = none
  max : mg "max" = none
  min : mg "min" = none
  isinstance : mg "isinstance" = none
  range : mg "range" = none
  zip : mg "zip" = none
  sum : mg "sum" = none
  sorted : mg "sorted" = none
  enumerate : mg "enumerate" = none
  set : mg "set" = none
  dict : mg "dict" = none
  any : mg "any" = none
  all : mg "all" = none
  mgMarking : mg "Marking" = some (.ref CM)
  clM : Cls K CM
  nM_entries : NoAttr K CM "entries"
  nM_whole : NoAttr K CM "whole"
  mgInvalidNumber : mg "InvalidNumber" = some (.ref CI)
  oex : OexC K CI
  no_number : PySem.W.findIn K (.ref CI) "number" = some none
  mgInvalidPair : mg "InvalidPair" = some (.ref CP)
  oexP : OexC K CP
  no_at : PySem.W.findIn K (.ref CP) "at" = some none
  mgInvalidKey : mg "InvalidKey" = some (.ref CK)
  oexK : OexC K CK
  noK_key : PySem.W.findIn K (.ref CK) "key" = some none
section
variable {P : Program} {w : World} {K : PySem.W.Frag} {mg : Str → Option Value} {base : Heap} {CS CI CT CP CM CK CU CC CN CE CA CH CB : Addr}
section
variable {X : Cx} {j k : Nat} {sp : Sp} {ps : List Str} {st : Stmt} {qual : Str}
end
end

end K01
namespace K01
open PySem PySem.Spec PyProof.Rows L2 R9 R9M
open L2H (RoomH)
open R9S
local macro_rules | `(tactic| k_extra "fz") => `(tactic| first
  | with_reducible assumption
  | with_reducible exact upd_same
  | (with_reducible refine Up.at (by with_reducible assumption) ?_; k_extra "fz"))
local macro_rules | `(tactic| k_extra "hp") => `(tactic| first
  | assumption
  | exact upd_same
  | (with_reducible refine Wr.at (by with_reducible assumption) ?_; k_extra "fz")
  | (rw [upd_ne (by assumption)]; k_extra "hp")
  | (rw [upd_ne (Ne.symm (by assumption))]; k_extra "hp"))
local macro_rules | `(tactic| k_extra "sm") => `(tactic| first
  | assumption
  | exact Sm.lit (k := 200) (by decide)
  | exact Sm.mul (by k_extra "sm") (by k_extra "sm")
  | exact Sm.add (by k_extra "sm") (by k_extra "sm")
  | exact Sm.sub (by k_extra "sm") (by k_extra "sm"))
local macro_rules | `(tactic| k_extra "tx") => `(tactic| first
  | with_reducible assumption
  | (with_reducible apply Tx.one; assumption)
  | (with_reducible apply Tx.cut; k_extra "tx")
  | (with_reducible apply Tx.app <;> k_extra "tx"))
local macro_rules | `(tactic| k_extra "r1") => `(tactic| first
  | refine ⟨_, rfl, ?_⟩
  | refine ⟨_, _, rfl, rfl, ?_⟩
  | refine ⟨_, _, rfl, ?_⟩
  | refine And.intro rfl ?_
  | refine ⟨_, _, _, _, _, rfl, by k_extra "hp", Txt.cl (by assumption), Txt.nO (by assumption), sh_over _ _, ?_⟩
  | refine ⟨_, _, _, _, _, rfl, by k_extra "hp", Txt.cl (by assumption), Txt.nU (by assumption), sh_under _ _, ?_⟩
  | refine iteT ?_
  | refine iteF ?_
  | refine ⟨_, _, _, _, rfl, rfl, SqL.of (by k_extra "hp"), rfl, ?_⟩
  | refine ⟨_, _, rfl, .inl (SqL.of (by k_extra "hp")), ?_⟩
  | refine ⟨_, _, _, _, rfl, rfl, by k_extra "hp", rfl, ?_⟩
  | refine .inl ⟨_, rfl, ?_⟩
  | refine ⟨_, _, _, _, _, rfl, ClsV.ty _, .base (.int _), (by first | exact kt_ii | exact kt_ib | exact kt_il | exact kt_it), ?_⟩
  | refine ⟨_, _, _, _, _, rfl, ClsV.ty _, .base (.bl _), kt_bb, ?_⟩
  | refine ⟨_, _, _, _, _, rfl, ClsV.own _, .base (.ins (by k_extra "hp") (Txt.cl (by assumption)) (Txt.iCls (by assumption)) (Txt.iGet (by assumption)) (Txt.iTak (by assumption)) (Txt.iObj (by assumption))), Txt.kSS (by assumption), ?_⟩
  | (refine And.intro ?sm9 ?_; (case sm9 => (with_reducible show CMulW _ _); exact Sm.m (by k_extra "sm") (by k_extra "sm") (by decide) (by decide) (by decide)))
  | refine And.intro ⟨by decide, by decide, by decide⟩ ?_
  | refine And.intro (by first | omega | (dsimp only; omega)) ?_
  | refine And.intro (szl rfl) ?_
  | (refine ⟨_, _, ?c9, rfl, rfl, ?tx9, ?ix9, ?_⟩; (case ix9 => assumption); (case tx9 => (with_reducible show Str.length _ ≤ sizeLine); exact Tx.sz (by k_extra "tx") (by decide)))
  | (refine And.intro ?tx9 ?_; (case tx9 => (with_reducible show Str.length _ ≤ sizeLine); exact Tx.sz (by k_extra "tx") (by decide)))
  | (refine And.intro ?tx9 ?_; (case tx9 => (with_reducible show Str.length _ + Str.length _ ≤ sizeLine); exact Tx.sz2 (by k_extra "tx") (by k_extra "tx") (by decide))))
local macro_rules | `(tactic| k_extra "rd") => `(tactic| repeat k_extra "r1")
section
variable {P : Program} {w : World} {K : PySem.W.Frag} {mg : Str → Option Value} {base : Heap} {CS CI CT CP CM CK CU CC CN CE CA CH CB : Addr}
/-! ### _law_integer: asked of whole numbers -/
def sp_law_integer : Sp := sp1 fun a H Q _ => ∃ n, a = .int n ∧ Q (.bl true) H
theorem ok_law_integer {f : Addr} {fd : FuncData} (F : Fun K "_law_integer" "_law_integer" s_law_integer f fd) (T : Txt K mg CS CI CT CP CM CK CU CC CN CE CA CH CB)  : FnOk P w K mg base (L2.CX P w) 1 f fd ["value"] sp_law_integer := by
  have nd := sc_law_integer.nd
  refine F.okX sc_law_integer (fun vs H Q E h => ?_) (fun cdv A outer s H vs Q E hr h => ?_)
  · obtain ⟨_, rfl, _⟩ := h
    rfl
  · obtain ⟨_, rfl, n, rfl, k⟩ := h
    refine ⟨_, (pss_one (ps_ret (pe_and (pe_callB call_isi (by rfl) T.isinstance (by decide +kernel) (pa_cons (pv 0) (pa_cons (pe_bltn (v := .ty "int") (by rfl) T.int (by decide +kernel) rfl) pa_nil))) (pe_one (pe_not (pe_callB call_isi (by rfl) T.isinstance (by decide +kernel) (pa_cons (pv 0) (pa_cons (pe_bltn (v := .ty "bool") (by rfl) T.bool (by decide +kernel) rfl) pa_nil)))))))), ?_⟩
    k_extra "rd"
    exact k
/-! ### is_integer: asked of whole numbers -/
def sp_is_integer : Sp := sp1 fun a H Q _ => ∃ n, a = .int n ∧ Q (.bl true) H
theorem ok_is_integer {f : Addr} {fd : FuncData} (F : Fun K "is_integer" "is_integer" s_is_integer f fd) (T : Txt K mg CS CI CT CP CM CK CU CC CN CE CA CH CB)  : FnOk P w K mg base (L2.CX P w) 1 f fd ["value"] sp_is_integer := by
  have nd := sc_is_integer.nd
  refine F.okX sc_is_integer (fun vs H Q E h => ?_) (fun cdv A outer s H vs Q E hr h => ?_)
  · obtain ⟨_, rfl, _⟩ := h
    rfl
  · obtain ⟨_, rfl, n, rfl, k⟩ := h
    refine ⟨_, (pss_one (ps_ret (pe_and (pe_callB call_isi (by rfl) T.isinstance (by decide +kernel) (pa_cons (pv 0) (pa_cons (pe_bltn (v := .ty "int") (by rfl) T.int (by decide +kernel) rfl) pa_nil))) (pe_one (pe_not (pe_callB call_isi (by rfl) T.isinstance (by decide +kernel) (pa_cons (pv 0) (pa_cons (pe_bltn (v := .ty "bool") (by rfl) T.bool (by decide +kernel) rfl) pa_nil)))))))), ?_⟩
    k_extra "rd"
    exact k
def sp_law_start : Sp := sp1 fun a H Q _ => ∃ (s : Addr) (ns : List Int), a = .ref s ∧ SqL K H s (ns.map V.int) ∧ ns.length ≤ 63 ∧ ∀ p q H', H p = none → H q = none → But [] H H' → StA H' p q → Q (.ref p) H'
theorem ok_law_start {f : Addr} {fd : FuncData} (F : Fun K "_law_start" "_law_start" s_law_start f fd) (T : Txt K mg CS CI CT CP CM CK CU CC CN CE CA CH CB)  : FnOk P w K mg base (L2.CX P w) 1 f fd ["script"] (sp_law_start (K := K)) := by
  have nd := sc_law_start.nd
  refine F.okX sc_law_start (fun vs H Q E h => ?_) (fun cdv A outer s H vs Q E hr h => ?_)
  · obtain ⟨_, rfl, _⟩ := h
    rfl
  · obtain ⟨_, rfl, s, ns, rfl, hs, hl, k⟩ := h
    refine ⟨_, (pss_one (ps_ret (pe_lst (pa_cons (pe_callTy call_list_of (by rfl) T.list (by decide +kernel) (pa_cons (pv 0) pa_nil)) (pa_cons pe_int (pa_cons pe_int (pa_cons pe_int (pa_cons pe_int pa_nil)))))))), ?_⟩
    k_extra "rd"
    refine ⟨_, _, rfl, .inl hs, fun q hq => ?_⟩
    k_extra "rd"
    intro p hp
    obtain ⟨hp, hpq⟩ := upd_free hp
    refine k p q _ hp hq ((But.new hq).trans (But.new (by rw [upd_ne hpq]; exact hp))) ⟨ns, 0, 0, 0, 7, upd_same, by k_extra "hp", hl, ?_⟩
    omega
/-! ### is_weight: asked of whole numbers -/
def sp_is_weight : Sp := sp1 fun a H Q _ => ∃ n, a = .int n ∧ Q (.bl (decide (1 ≤ n))) H
theorem ok_is_weight {f : Addr} {fd : FuncData} (F : Fun K "is_weight" "is_weight" s_is_weight f fd) (T : Txt K mg CS CI CT CP CM CK CU CC CN CE CA CH CB) (D_is_integer : Df P w K mg base 1 "is_integer" s_is_integer ["value"] sp_is_integer) : FnOk P w K mg base (L2.CX P w) 2 f fd ["value"] sp_is_weight := by
  have nd := sc_is_weight.nd
  refine F.okX sc_is_weight (fun vs H Q E h => ?_) (fun cdv A outer s H vs Q E hr h => ?_)
  · obtain ⟨_, rfl, _⟩ := h
    rfl
  · obtain ⟨_, rfl, n, rfl, k⟩ := h
    refine ⟨_, (pss_one (ps_ret (pe_and (pe_d D_is_integer hr (by decide) (by rfl) passL (pa_cons (pv 0) pa_nil)) (pe_one (pe_cmpR op_ge (pv 0) pe_int (nomark _)))))), ?_⟩
    k_extra "rd"
    exact k
theorem int_eq {a b : Int} (h : V.int a = V.int b) : a = b := V.int.inj h
theorem fmod_bd {a b : Int} (h : 0 < b) : 0 ≤ a.fmod b ∧ a.fmod b < b := by
  rw [Int.fmod_eq_emod_of_nonneg a (by omega)]
  exact ⟨Int.emod_nonneg _ (by omega), Int.emod_lt_of_pos _ h⟩
theorem fdiv_nn {a b : Int} (ha : 0 ≤ a) (h : 0 < b) : 0 ≤ a.fdiv b := by
  rw [Int.fdiv_eq_ediv_of_nonneg a (by omega)]
  exact Int.ediv_nonneg ha (by omega)
theorem at_int {ns : List Int} {i : Int} (h0 : 0 ≤ i) (h : i < ((ns.map V.int).length : Int)) : ∃ x, atI (ns.map V.int) i = some (.int x) := by
  obtain ⟨n, rfl⟩ := Int.eq_ofNat_of_zero_le h0
  rw [List.length_map] at h
  have hn : n < ns.length := by omega
  exact ⟨ns[n], atI_nat (by rw [List.getElem?_map, List.getElem?_eq_getElem hn] <;> rfl)⟩
theorem mul_cell {d : Int} (h0 : 0 ≤ d) (h : d < 2147483647) {k : Int} (hk : Sm 20 k) : CMulW d k := Sm.m (j := 31) (k := 20) (by unfold Sm; omega) hk
def sp_law_draw : Sp := sp2 fun a b H Q _ => ∃ p q n, a = .ref p ∧ b = .int n ∧ StA H p q ∧ Sm 8000 n ∧ ∀ r H', 0 ≤ r → (r < n ∨ r = 0) → StA H' p q → But [p] H H' → Q (.int r) H'
theorem ok_law_draw {f : Addr} {fd : FuncData} (F : Fun K "_law_draw" "_law_draw" s_law_draw f fd) (T : Txt K mg CS CI CT CP CM CK CU CC CN CE CA CH CB)  : FnOk P w K mg base (L2.CX P w) 1 f fd ["state", "limit"] sp_law_draw := by
  have nd := sc_law_draw.nd
  refine F.okX sc_law_draw (fun vs H Q E h => ?_) (fun cdv A outer s H vs Q E hr h => ?_)
  · obtain ⟨_, _, rfl, _⟩ := h
    rfl
  · obtain ⟨_, _, rfl, p, q, n, rfl, rfl, hS, hn, k⟩ := h
    refine ⟨_, (pss_mid (ps_if (pt_cmpR op_lt (pv 1) pe_int (nomark _))
(pss_one (ps_set (i := 1) nd rfl (Or.inl rfl) pe_int))
pss_nil)
(pss_mid (ps_if (PW.pt (pw_and (pt_cmpR op_eq (pe_ix ix_list (pv 0) pe_int (fun _ _ => rfl)) pe_int (nomark _)) (pw_and1 (pt_cmpR op_lt (pe_ix ix_list (pv 0) pe_int (fun _ _ => rfl)) (pe_callB call_len_seq (by rfl) T.len (by decide +kernel) (pa_cons (pe_ix ix_list (pv 0) pe_int (fun _ _ => rfl)) pa_nil)) (nomark _)))))
(pss_cons (ps_set (i := 2) nd rfl (Or.inl rfl) (pe_callB call_abs (by rfl) T.abs (by decide +kernel) (pa_cons (pe_callTy call_int1 (by rfl) T.int (by decide +kernel) (pa_cons (pe_ix ix_list (pe_ix ix_list (pv 0) pe_int (fun _ _ => rfl)) (pe_ix ix_list (pv 0) pe_int (fun _ _ => rfl)) (fun _ _ => rfl)) pa_nil)) pa_nil)))
(pss_cons (ps_asg (pe_op op_add (pe_ix ix_list (pv 0) pe_int (fun _ _ => rfl)) pe_int) (pg_sub (pv 0) pe_int set_list))
(pss_cons (ps_asg pe_int (pg_sub (pv 0) pe_int set_list))
(pss_one (ps_if (pt_cmpR op_ge (pv 2) (pe_op op_pow pe_int pe_int) (nomark _))
(pss_cons (ps_asg (pv 2) (pg_sub (pv 0) pe_int set_list))
(pss_one (ps_asg pe_int (pg_sub (pv 0) pe_int set_list))))
(pss_one (ps_asg (pe_op op_modN (pe_callTy call_int1 (by rfl) T.int (by decide +kernel) (pa_cons (pe_op op_add (pe_op op_add (pe_op op_mulW (pe_ix ix_list (pv 0) pe_int (fun _ _ => rfl)) pe_int) (pv 2)) (pe_ix ix_list (pv 0) pe_int (fun _ _ => rfl))) pa_nil)) pe_int) (pg_sub (pv 0) pe_int set_list))))))))
pss_nil)
(pss_cons (ps_if (pt_cmpR op_gt (pe_ix ix_list (pv 0) pe_int (fun _ _ => rfl)) pe_int (nomark _))
(pss_cons (ps_set (i := 3) nd rfl (Or.inl rfl) (pe_op op_modN (pe_callTy call_int1 (by rfl) T.int (by decide +kernel) (pa_cons (pe_ix ix_list (pv 0) pe_int (fun _ _ => rfl)) pa_nil)) (pv 1)))
(pss_cons (ps_asg (pe_op op_fdivX (pe_ix ix_list (pv 0) pe_int (fun _ _ => rfl)) (pv 1)) (pg_sub (pv 0) pe_int set_list))
(pss_cons (ps_asg (pe_op op_sub (pe_ix ix_list (pv 0) pe_int (fun _ _ => rfl)) pe_int) (pg_sub (pv 0) pe_int set_list))
(pss_cons (ps_if (PW.pt (pw_or (pt_cmpR op_eq (pe_ix ix_list (pv 0) pe_int (fun _ _ => rfl)) pe_int (nomark _)) (pw_or1 (pt_cmpR op_eq (pe_ix ix_list (pv 0) pe_int (fun _ _ => rfl)) pe_int (nomark _)))))
(pss_cons (ps_asg pe_int (pg_sub (pv 0) pe_int set_list))
(pss_one (ps_asg pe_int (pg_sub (pv 0) pe_int set_list))))
pss_nil)
(pss_one (ps_ret (pv 3)))))))
pss_nil)
(pss_cons (ps_asg (pe_callB (call_max2 rfl) (by rfl) T.max (by decide +kernel) (pa_cons pe_int (pa_cons (pe_op op_sub (pe_ix ix_list (pv 0) pe_int (fun _ _ => rfl)) pe_int) pa_nil))) (pg_sub (pv 0) pe_int set_list))
(pss_cons (ps_asg (pe_op op_modN (pe_callTy call_int1 (by rfl) T.int (by decide +kernel) (pa_cons (pe_op op_add (pe_op op_mulW (pe_ix ix_list (pv 0) pe_int (fun _ _ => rfl)) pe_int) pe_int) pa_nil)) pe_int) (pg_sub (pv 0) pe_int set_list))
(pss_one (ps_ret (pe_op op_modN (pe_callTy call_int1 (by rfl) T.int (by decide +kernel) (pa_cons (pe_op op_modN (pe_callTy call_int1 (by rfl) T.int (by decide +kernel) (pa_cons (pe_op op_add (pe_op op_mulW (pe_ix ix_list (pv 0) pe_int (fun _ _ => rfl)) pe_int) pe_int) pa_nil)) pe_int) pa_nil)) (pv 1))))))))), ?_⟩
    refine ⟨fun σ H' => ∃ l, σ = [some (.ref p), some (.int l), none, none] ∧ H' = H ∧ 0 < l ∧ Sm 8000 l ∧ (l = n ∨ l = 1), ?_, ?_⟩
    · k_extra "rd"
      refine iteD (fun c => ?_) (fun c => ?_)
      · exact ⟨1, rfl, rfl, by omega, Nat.one_lt_two_pow (by decide), .inr rfl⟩
      · exact ⟨n, rfl, rfl, by omega, hn, .inl rfl⟩
    rintro σ H' ⟨l, rfl, rfl, hl, hls, hln⟩
    have kk : ∀ r H'', 0 ≤ r → r < l → StA H'' p q → But [p] H' H'' → Q (.int r) H'' := fun r H'' h0 h1 h2 h3 => by
      refine k r H'' h0 ?_ h2 h3
      clear hls hn
      omega
    clear k
    have mp : p ∈ [p] := List.mem_cons_self
    refine ⟨fun σ H1 => ∃ cell, σ = [some (.ref p), some (.int l), cell, none] ∧ StA H1 p q ∧ But [p] H' H1, ?_, ?_⟩
    · obtain ⟨ns, i, b, c, d, h1, h2, hl1, hi0, hi1, hb, hc1, hd0, hd1⟩ := id hS.ex
      have hqp := hS.ne
      k_extra "rd"
      refine iteD (fun hc => ?_) (fun hc => ?_)
      · k_extra "rd"
        refine iteD (fun hi => ?_) (fun hi => ?_)
        · k_extra "rd"
          obtain ⟨x, hx⟩ := at_int hi0 hi
          refine ⟨_, _, _, .int x, rfl, rfl, SqL.of h2, hx, ?_⟩
          k_extra "rd"
          have hlen : i < 63 := by
            rw [List.length_map] at hi
            omega
          generalize hy : (if x < 0 then -x else x) = y
          have hy0 : 0 ≤ y := by rw [← hy]; split <;> omega
          refine iteD (fun hg => ?_) (fun hg => ?_)
          · k_extra "rd"
            refine ⟨⟨ns, i + 1, y, 60, d, upd_same, by k_extra "hp", hl1, by omega⟩, ?_⟩
            exact (((But.put mp).trans (But.put mp)).trans (But.put mp)).trans (But.put mp)
          · k_extra "rd"
            refine ⟨mul_cell hd0 hd1 (by unfold Sm; decide), ?_⟩
            k_extra "rd"
            refine ⟨⟨ns, i + 1, b, 4, _, upd_same, by k_extra "hp", hl1, by omega, by omega, hb, by omega, (fmod_bd (by decide)).1, (fmod_bd (by decide)).2⟩, ?_⟩
            exact ((But.put mp).trans (But.put mp)).trans (But.put mp)
        · k_extra "rd"
          first | exact But.refl _ _ | exact ⟨hS, But.refl _ _⟩
      · k_extra "rd"
        first | exact But.refl _ _ | exact ⟨hS, But.refl _ _⟩
    rintro σ H1 ⟨cell, rfl, hS1, hB1⟩
    obtain ⟨ns, i, b, c, d, h1, h2, hl1, hi0, hi1, hb, hc1, hd0, hd1⟩ := id hS1.ex
    have hqp := hS1.ne
    k_extra "rd"
    refine iteD (fun hg => ?_) (fun hg => ?_)
    · have hm : b.fmod l < l := (fmod_bd hl).2
      have hm0 : 0 ≤ b.fmod l := (fmod_bd hl).1
      have hd : 0 ≤ b.fdiv l := fdiv_nn hb hl
      have hl0 : l ≠ 0 := by clear hls hn; omega
      k_extra "rd"
      refine ⟨hls.d hl0, ?_⟩
      k_extra "rd"
      refine iteD (fun z => ?_) (fun z => ?_)
      · k_extra "rd"
        refine kk _ _ hm0 hm ⟨ns, i, 0, 0, d, upd_same, by k_extra "hp", hl1, by omega⟩ ?_
        exact (((hB1.trans (But.put mp)).trans (But.put mp)).trans (But.put mp)).trans (But.put mp)
      · k_extra "rd"
        refine iteD (fun z2 => ?_) (fun z2 => ?_)
        · k_extra "rd"
          refine kk _ _ hm0 hm ⟨ns, i, 0, 0, d, upd_same, by k_extra "hp", hl1, by omega⟩ ?_
          exact (((hB1.trans (But.put mp)).trans (But.put mp)).trans (But.put mp)).trans (But.put mp)
        · k_extra "rd"
          have c1 : c - 1 ≠ 0 := fun e => z2 (congrArg V.int e)
          refine kk _ _ hm0 hm ⟨ns, i, b.fdiv l, c - 1, d, upd_same, by k_extra "hp", hl1, by omega⟩ ?_
          exact (hB1.trans (But.put mp)).trans (But.put mp)
    · k_extra "rd"
      refine ⟨mul_cell hd0 hd1 (by unfold Sm; decide), ?_⟩
      k_extra "rd"
      refine ⟨mul_cell (fmod_bd (by decide)).1 (fmod_bd (by decide)).2 (by unfold Sm; decide), ?_⟩
      k_extra "rd"
      generalize hz : (if c - 1 > 0 then c - 1 else 0) = z
      have hz0 : 0 ≤ z ∧ z ≤ 60 := by rw [← hz]; split <;> omega
      refine kk _ _ (fmod_bd hl).1 (fmod_bd hl).2 ⟨ns, i, b, z, _, upd_same, by k_extra "hp", hl1, by omega, by omega, hb, hz0.2, (fmod_bd (by decide)).1, (fmod_bd (by decide)).2⟩ ?_
      exact (hB1.trans (But.put mp)).trans (But.put mp)
def sp_kept : Sp := sp1 fun a H Q _ => ∃ n, a = .int n ∧ Q (.int n) H
theorem ok_kept {f : Addr} {fd : FuncData} (F : Fun K "_kept" "_kept" s_kept f fd) (T : Txt K mg CS CI CT CP CM CK CU CC CN CE CA CH CB)  : FnOk P w K mg base (L2.CX P w) 1 f fd ["value"] sp_kept := by
  have nd := sc_kept.nd
  refine F.okX sc_kept (fun vs H Q E h => ?_) (fun cdv A outer s H vs Q E hr h => ?_)
  · obtain ⟨_, rfl, _⟩ := h
    rfl
  · obtain ⟨_, rfl, n, rfl, k⟩ := h
    refine ⟨_, (pss_cons (ps_if (pt_val (pe_callB call_isi (by rfl) T.isinstance (by decide +kernel) (pa_cons (pv 0) (pa_cons (pe_bltn (v := .ty "list") (by rfl) T.list (by decide +kernel) rfl) pa_nil))))
(pss_one (ps_never))
pss_nil)
(pss_cons (ps_if (pt_val (pe_callB call_isi (by rfl) T.isinstance (by decide +kernel) (pa_cons (pv 0) (pa_cons (pe_bltn (v := .ty "tuple") (by rfl) T.tuple (by decide +kernel) rfl) pa_nil))))
(pss_one (ps_never))
pss_nil)
(pss_one (ps_ret (pv 0))))), ?_⟩
    k_extra "rd"
    exact k
def sp_InvalidNumber_init (CI : Addr) : Sp := sp2 fun a n H Q _ => ∃ e k, a = .ref e ∧ n = .int k ∧ H e = some (exo e CI none) ∧ ∀ dx, H dx = none → dx ≠ e → Q .non (upd (upd H dx (exd dx [(("number" : Str), V.int k)])) e (exo e CI (some dx)))
theorem ok_InvalidNumber_init {f : Addr} {fd : FuncData} (F : Fun K "__init__" "InvalidNumber.__init__" s_InvalidNumber_init f fd) (T : Txt K mg CS CI CT CP CM CK CU CC CN CE CA CH CB) (D_kept : Df P w K mg base 1 "_kept" s_kept ["value"] sp_kept) : FnOk P w K mg base (L2.CX P w) 2 f fd ["self", "number"] (sp_InvalidNumber_init CI) := by
  have nd := sc_InvalidNumber_init.nd
  refine F.okX sc_InvalidNumber_init (fun vs H Q E h => ?_) (fun cdv A outer s H vs Q E hr h => ?_)
  · obtain ⟨_, _, rfl, _⟩ := h
    rfl
  · obtain ⟨_, _, rfl, e, n, rfl, rfl, he, k⟩ := h
    refine ⟨_, (pss_one (ps_ost (pv 0) (pe_d D_kept hr (by decide) (by rfl) passL (pa_cons (pv 1) pa_nil)))), ?_⟩
    k_extra "rd"
    exact ⟨e, CI, rfl, T.oex, T.no_number, .inl ⟨he, fun dx hd hne => k dx hd hne⟩⟩
/-- at p stands a share that is worth o / u -/
def Val (CS : Addr) (H : Hp) (p : Addr) (o u : Int) : Prop := 0 < u ∧ ∃ n d, ShA CS H p n d ∧ n * u = o * d
theorem Val.but {CS : Addr} {S : List Addr} {H H' : Hp} {a : Addr} {o u : Int} (h : Val CS H a o u) (b : But S H H') (h1 : a ∉ S) : Val CS H' a o u := by
  obtain ⟨hu, n, d, s, e⟩ := h
  exact ⟨hu, n, d, s.but b h1, e⟩
theorem put2 (a b : V) : putF "under" b (putF "over" a []) = ([("over", a), ("under", b)] : List (Str × V)) := by
  show (if ("over" : Str) = "under" then _ else (("over" : Str), a) :: [(("under" : Str), b)]) = ([("over", a), ("under", b)] : List (Str × V))
  rw [if_neg (by decide +kernel)]
theorem sh_no {n d : Int} {m : Str} (h1 : ¬ m = "over") (h2 : ¬ m = "under") : (shF n d).lookup m = none := by
  unfold shF
  rw [lookup_put, if_neg h1, lookup_put, if_neg h2]
  rfl
theorem made_but {H H' : Hp} {x dx : Addr} {o o' : HO} (hx : H x = none) (hd : H dx = none) (b : But [x] (upd (upd H dx o) x o') H') : But [] H H' :=
  But.drop hx (((But.new (S := [x]) hd).trans (But.put List.mem_cons_self)).trans b)
/-- sizes of what a share is worth -/
theorem Val.sm {k : Nat} {n d o u : Int} (l : Low n d) (hu : 0 < u) (h : n * u = o * d) (ho : Sm k o) (hs : Sm k u) : Sm k n ∧ Sm k d := ⟨ho.le (low_le l hu h).1, hs.le (low_le l hu h).2⟩
theorem bits_eq (a : Nat) : Builtin.Int.intBits (a : Int) = bits a := by
  unfold Builtin.Int.intBits bits
  by_cases h : a = 0
  · subst h; rfl
  · rw [if_neg h, if_neg (by simpa using h), Int.natAbs_natCast]
theorem bits_le {a k : Nat} (h : a < 2 ^ k) : bits a ≤ k := by
  unfold bits
  split
  · omega
  · rename_i z
    have := (Nat.log2_lt z).mpr h
    omega
def sp_law_wide : Sp := sp1 fun x H Q _ => ∃ p q, x = .ref p ∧ StA H p q ∧ ∀ r H', 0 ≤ r → r < 10 ^ 40 → StA H' p q → But [p] H H' → Q (.int r) H'
theorem ok_law_wide {f : Addr} {fd : FuncData} (F : Fun K "_law_wide" "_law_wide" s_law_wide f fd) (T : Txt K mg CS CI CT CP CM CK CU CC CN CE CA CH CB) (D_law_draw : Df P w K mg base 1 "_law_draw" s_law_draw ["state", "limit"] sp_law_draw) : FnOk P w K mg base (L2.CX P w) 2 f fd ["state"] sp_law_wide := by
  have nd := sc_law_wide.nd
  refine F.okX sc_law_wide (fun vs H Q E h => ?_) (fun cdv A outer s H vs Q E hr h => ?_)
  · obtain ⟨_, rfl, _⟩ := h
    rfl
  · obtain ⟨_, rfl, p, q, rfl, hS, k⟩ := h
    refine ⟨_, (pss_cons (ps_set (i := 1) nd rfl (Or.inl rfl) pe_int)
(pss_cons (ps_for (passes_of rfl) rfl (pi_range1 (by rfl) T.range (pa_cons pe_int pa_nil)) (pg_name (i := 2) nd rfl (Or.inl rfl))
(pss_one (ps_set (i := 1) nd rfl (Or.inl rfl) (pe_op op_add (pe_op op_mulW (pv 1) (pe_op op_pow pe_int pe_int)) (pe_d D_law_draw hr (by decide) (by rfl) passL (pa_cons (pv 0) (pa_cons (pe_op op_pow pe_int pe_int) pa_nil)))))))
(pss_cons (ps_set (i := 3) nd rfl (Or.inl rfl) pe_int)
(pss_cons (ps_for (passes_of rfl) rfl (pi_range1 (by rfl) T.range (pa_cons (pe_d D_law_draw hr (by decide) (by rfl) passL (pa_cons (pv 0) (pa_cons pe_int pa_nil))) pa_nil)) (pg_name (i := 2) nd rfl (Or.inl rfl))
(pss_one (ps_set (i := 3) nd rfl (Or.inl rfl) (pe_op op_mulW (pv 3) pe_int))))
(pss_one (ps_ret (pe_op op_modN (pe_callTy call_int1 (by rfl) T.int (by decide +kernel) (pa_cons (pv 1) pa_nil)) (pv 3)))))))), ?_⟩
    k_extra "rd"
    refine for_range (lo := 0) (n := 5) (fun i σ H' => ∃ (n : Int) (y : Option V), σ = [some (.ref p), some (.int n), y, none] ∧ 0 ≤ n ∧ n < (10 ^ 9) ^ i ∧ StA H' p q ∧ But [p] H H') ⟨0, none, rfl, by omega, by decide, hS, But.refl _ _⟩ ?_ ?_
    · rintro i σ H' hi ⟨n, y, rfl, n0, n1, hS1, hB1⟩
      have nS : Sm 200 n := by
        have e5 : (10 ^ 9 : Int) ^ i ≤ 10 ^ 36 := by
          match i, hi with
          | 0, _ | 1, _ | 2, _ | 3, _ | 4, _ => decide
        unfold Sm
        omega
      have s9 : Sm 200 (10 ^ Int.toNat 9) := by unfold Sm; decide
      k_extra "rd"
      refine ⟨p, q, _, rfl, rfl, hS1, Sm.mono s9 (by decide), fun r H2 r0 r1 hS2 hB2 => ?_⟩
      k_extra "rd"
      have e9 : (10 : Int) ^ Int.toNat 9 = 1000000000 := by decide
      have r2 : r < 1000000000 := by rw [e9] at r1; omega
      refine ⟨?_, ?_, hS2, hB1.trans hB2⟩
      · rw [e9]; omega
      · rw [e9, Int.pow_succ]
        have e10 : (10 : Int) ^ 9 = 1000000000 := by decide
        rw [e10] at n1 ⊢
        generalize (1000000000 : Int) ^ i = P at *
        omega
    · rintro σ H1 ⟨n, y, rfl, n0, n1, hS1, hB1⟩
      k_extra "rd"
      refine ⟨p, q, 41, rfl, rfl, hS1, Sm.lit (by decide), fun r H2 r0 r1 hS2 hB2 => ?_⟩
      have r2 : r ≤ 40 := by omega
      k_extra "rd"
      refine for_range (lo := 0) (n := r.toNat) (fun i σ H' => ∃ (y : Option V), σ = [some (.ref p), some (.int n), y, some (.int (10 ^ i))] ∧ H' = H2) ⟨y, rfl, rfl⟩ ?_ ?_
      · rintro i σ H' hi ⟨y, rfl, rfl⟩
        have sp : Sm 200 ((10 : Int) ^ i) := by
          unfold Sm
          rw [Int.natAbs_pow]
          refine Nat.lt_of_le_of_lt (Nat.pow_le_pow_right (by decide) (show i ≤ 40 by omega)) (by decide)
        k_extra "rd"
        first | exact rfl | exact ⟨_, rfl, rfl⟩
      · rintro σ H' ⟨y, rfl, rfl⟩
        have pp : (0 : Int) < 10 ^ r.toNat := Int.pow_pos (by decide)
        have pl : (10 : Int) ^ r.toNat ≤ 10 ^ 40 := by
          have : (10 : Nat) ^ r.toNat ≤ 10 ^ 40 := Nat.pow_le_pow_right (by decide) (by omega)
          exact_mod_cast this
        k_extra "rd"
        exact k _ _ (fmod_bd pp).1 (Int.lt_of_lt_of_le (fmod_bd pp).2 pl) hS2 (hB1.trans hB2)
theorem abs_cast (x : Int) : (if x < 0 then -x else x) = (x.natAbs : Int) := by
  split <;> omega
def sp_law_signs : Sp := sp0 fun H Q _ => ∀ s : Str, s.length = 94 → PyData.strOk s = true → Q (.str s) H
theorem ok_law_signs {f : Addr} {fd : FuncData} (F : Fun K "_law_signs" "_law_signs" s_law_signs f fd) (T : Txt K mg CS CI CT CP CM CK CU CC CN CE CA CH CB)  : FnOk P w K mg base (L2.CX P w) 1 f fd [] sp_law_signs := by
  have nd := sc_law_signs.nd
  refine F.okX sc_law_signs (fun vs H Q E h => ?_) (fun cdv A outer s H vs Q E hr h => ?_)
  · obtain ⟨rfl, _⟩ := h
    rfl
  · obtain ⟨rfl, k⟩ := h
    refine ⟨_, (pss_one (ps_ret pe_str)), ?_⟩
    k_extra "rd"
    exact k _ (by decide +kernel) (by decide +kernel)
def sp_law_text : Sp := sp2 fun a b H Q _ => ∃ p q n, a = .ref p ∧ b = .int n ∧ StA H p q ∧ 0 ≤ n ∧ n ≤ 10 ∧ ∀ t H', Tx 10 t → StA H' p q → But [p] H H' → Q (.str t) H'
theorem ok_law_text {f : Addr} {fd : FuncData} (F : Fun K "_law_text" "_law_text" s_law_text f fd) (T : Txt K mg CS CI CT CP CM CK CU CC CN CE CA CH CB) (D_law_draw : Df P w K mg base 1 "_law_draw" s_law_draw ["state", "limit"] sp_law_draw) (D_law_signs : Df P w K mg base 1 "_law_signs" s_law_signs [] sp_law_signs) : FnOk P w K mg base (L2.CX P w) 2 f fd ["state", "most"] sp_law_text := by
  have nd := sc_law_text.nd
  refine F.okX sc_law_text (fun vs H Q E h => ?_) (fun cdv A outer s H vs Q E hr h => ?_)
  · obtain ⟨_, _, rfl, _⟩ := h
    rfl
  · obtain ⟨_, _, rfl, p, q, n, rfl, rfl, hS, n0, n1, k⟩ := h
    refine ⟨_, (pss_cons (ps_set (i := 2) nd rfl (Or.inl rfl) (pe_d D_law_draw hr (by decide) (by rfl) passL (pa_cons (pv 0) (pa_cons pe_int pa_nil))))
(pss_cons (ps_set (i := 3) nd rfl (Or.inl rfl) (pe_d D_law_draw hr (by decide) (by rfl) passL (pa_cons (pv 0) (pa_cons pe_int pa_nil))))
(pss_cons (ps_set (i := 4) nd rfl (Or.inl rfl) pe_str)
(pss_mid (ps_if (pt_cmpR op_eq (pv 2) pe_int (nomark _))
(pss_one (ps_set (i := 4) nd rfl (Or.inl rfl) pe_str))
pss_nil)
(pss_mid (ps_if (pt_cmpR op_eq (pv 2) pe_int (nomark _))
(pss_cons (ps_set (i := 4) nd rfl (Or.inl rfl) (pe_d0 D_law_signs hr (by decide) (by rfl) passL))
(pss_one (ps_set (i := 3) nd rfl (Or.inl rfl) (pe_d D_law_draw hr (by decide) (by rfl) passL (pa_cons (pv 0) (pa_cons (pe_op op_add (pv 1) pe_int) pa_nil))))))
pss_nil)
(pss_cons (ps_set (i := 5) nd rfl (Or.inl rfl) pe_str)
(pss_cons (ps_for (passes_of rfl) rfl (pi_range1 (by rfl) T.range (pa_cons (pe_callB (call_min2 rfl) (by rfl) T.min (by decide +kernel) (pa_cons (pv 3) (pa_cons (pv 1) pa_nil))) pa_nil)) (pg_name (i := 6) nd rfl (Or.inl rfl))
(pss_one (ps_set (i := 5) nd rfl (Or.inl rfl) (pe_op op_add_str (pv 5) (pe_ix ix_str (pv 4) (pe_d D_law_draw hr (by decide) (by rfl) passL (pa_cons (pv 0) (pa_cons (pe_callB call_len_str (by rfl) T.len (by decide +kernel) (pa_cons (pv 4) pa_nil)) pa_nil))) (fun _ _ => rfl))))))
(pss_one (ps_ret (pv 5)))))))))), ?_⟩
    k_extra "rd"
    refine ⟨p, q, 4, rfl, rfl, hS, Sm.lit (by decide), fun r1 H1 a0 a1 S1 B1 => ?_⟩
    k_extra "rd"
    refine ⟨p, q, 4, rfl, rfl, S1, Sm.lit (by decide), fun r2 H2 b0 b1 S2 B2 => ?_⟩
    have B2 := B1.trans B2
    k_extra "rd"
    refine ⟨fun σ H' => ∃ sg : Str, σ = [some (.ref p), some (.int n), some (.int r1), some (.int r2), some (.str sg), none, none] ∧ H' = H2 ∧ 1 ≤ sg.length ∧ Tx 100 sg, ?_, ?_⟩
    · k_extra "rd"
      refine iteD (fun _ => ?_) (fun _ => ?_)
      · k_extra "rd"
        exact ⟨by decide +kernel, Tx.lit (by decide +kernel)⟩
      · exact ⟨_, rfl, rfl, by decide +kernel, Tx.lit (by decide +kernel)⟩
    rintro σ H' ⟨sg, rfl, rfl, l1, l2⟩
    refine ⟨fun σ H1 => ∃ (sg : Str) (r2 : Int), σ = [some (.ref p), some (.int n), some (.int r1), some (.int r2), some (.str sg), none, none] ∧ 0 ≤ r2 ∧ r2 ≤ 20 ∧ StA H1 p q ∧ But [p] H H1 ∧ 1 ≤ sg.length ∧ Tx 100 sg, ?_, ?_⟩
    · k_extra "rd"
      refine iteD (fun _ => ?_) (fun _ => ?_)
      · k_extra "rd"
        intro s hs hso
        k_extra "rd"
        refine ⟨p, q, _, rfl, rfl, S2, Sm.small (by omega) (by omega), fun r3 H3 c0 c1 S3 B3 => ?_⟩
        exact ⟨s, r3, rfl, c0, by omega, S3, B2.trans B3, by omega, ⟨by omega, hso⟩⟩
      · exact ⟨sg, r2, rfl, b0, by omega, S2, B2, l1, l2⟩
    clear l1 l2 S2 B2 b0 b1
    rintro σ H3 ⟨sg, r3, rfl, c0, c1, S3, B3, l1, l2⟩
    k_extra "rd"
    have mb : (0 : Int) ≤ (if n < r3 then n else r3) ∧ (if n < r3 then n else r3) ≤ 10 := by split <;> omega
    generalize (if n < r3 then n else r3) = z at *
    refine for_range (lo := 0) (n := z.toNat) (fun i σ H' => ∃ (t : Str) (y : Option V), σ = [some (.ref p), some (.int n), some (.int r1), some (.int r3), some (.str sg), some (.str t), y] ∧ Tx i t ∧ StA H' p q ∧ But [p] H H') ⟨_, none, rfl, Tx.lit (by decide +kernel), S3, B3⟩ ?_ ?_
    · rintro i σ H4 hi ⟨t, y, rfl, ht, S4, B4⟩
      have h10 : Tx 10 t := ht.mono (by omega)
      k_extra "rd"
      refine ⟨p, q, _, rfl, rfl, S4, Sm.small (by omega) (by have := l2.1; omega), fun r5 H5 d0 d1 S5 B5 => ?_⟩
      obtain ⟨c, hc, hco⟩ := at_str (z := sg) (r := r5) d0 (by omega)
      have hco := hco l2.2
      k_extra "rd"
      first | exact ⟨ht.app (Tx.one hco), S5, B4.trans B5⟩ | exact ⟨_, _, rfl, ht.app (Tx.one hco), S5, B4.trans B5⟩ | exact ⟨_, rfl, ht.app (Tx.one hco), S5, B4.trans B5⟩
    · rintro σ H4 ⟨t, y, rfl, ht, S4, B4⟩
      k_extra "rd"
      exact k _ _ (ht.mono (by omega)) S4 B4
theorem inV_str {t : Str} {ts : List Str} : inV (.str t) (ts.map V.str) = decide (t ∈ ts) := by
  unfold inV
  rw [List.any_map, Bool.eq_iff_iff, decide_eq_true_iff, List.any_eq_true]
  constructor
  · rintro ⟨x, hx, e⟩
    have e' : (x == t) = true := e
    exact (beq_iff_eq.mp e') ▸ hx
  · intro h
    exact ⟨t, h, (beq_self_eq_true t : (t == t) = true)⟩
theorem flat_strs {ts : List Str} : (ts.map V.str).all flatV = true := by
  rw [List.all_map, List.all_eq_true]
  intro x _
  rfl
/-- distinct short texts in a list at l -/
structure Txs (H : Hp) (l : Addr) (ts : List Str) (n : Nat) : Prop where
  at_ : H l = some (.lst (ts.map V.str))
  nd : ts.Nodup
  len : ts.length ≤ n
  tx : ∀ t ∈ ts, Tx 30 t
def sp_law_texts : Sp := sp3 fun a b c H Q _ => ∃ p q n, a = .ref p ∧ b = .int n ∧ c = .int 10 ∧ StA H p q ∧ 1 ≤ n ∧ n ≤ 24 ∧ ∀ l ts H', H l = none → Txs H' l ts 24 → 1 ≤ ts.length → StA H' p q → But [p] H H' → Q (.ref l) H'
theorem ok_law_texts {f : Addr} {fd : FuncData} (F : Fun K "_law_texts" "_law_texts" s_law_texts f fd) (T : Txt K mg CS CI CT CP CM CK CU CC CN CE CA CH CB) (D_law_draw : Df P w K mg base 1 "_law_draw" s_law_draw ["state", "limit"] sp_law_draw) (D_law_text : Df P w K mg base 2 "_law_text" s_law_text ["state", "most"] sp_law_text) (D_law_signs : Df P w K mg base 1 "_law_signs" s_law_signs [] sp_law_signs) : FnOk P w K mg base (L2.CX P w) 3 f fd ["state", "many", "most"] sp_law_texts := by
  have nd := sc_law_texts.nd
  refine F.okX sc_law_texts (fun vs H Q E h => ?_) (fun cdv A outer s H vs Q E hr h => ?_)
  · obtain ⟨_, _, _, rfl, _⟩ := h
    rfl
  · obtain ⟨_, _, _, rfl, p, q, n, rfl, rfl, rfl, hS, n0, n1, k⟩ := h
    refine ⟨_, (pss_cons (ps_set (i := 3) nd rfl (Or.inl rfl) (pe_cmpR op_eq (pe_d D_law_draw hr (by decide) (by rfl) passL (pa_cons (pv 0) (pa_cons pe_int pa_nil))) pe_int (nomark _)))
(pss_cons (ps_set (i := 4) nd rfl (Or.inl rfl) (pe_d D_law_text hr (by decide) (by rfl) passL (pa_cons (pv 0) (pa_cons (pe_op op_sub (pv 2) pe_int) pa_nil))))
(pss_cons (ps_set (i := 5) nd rfl (Or.inl rfl) (pe_d D_law_draw hr (by decide) (by rfl) passL (pa_cons (pv 0) (pa_cons (pe_op op_add (pe_callB call_len_str (by rfl) T.len (by decide +kernel) (pa_cons (pv 4) pa_nil)) pe_int) pa_nil))))
(pss_cons (ps_set (i := 6) nd rfl (Or.inl rfl) (pe_lst pa_nil))
(pss_cons (ps_for (passes_of rfl) rfl (pi_range1 (by rfl) T.range (pa_cons (pv 1) pa_nil)) (pg_name (i := 7) nd rfl (Or.inl rfl))
(pss_mid (ps_if (pt_val (pv 3))
(pss_one (ps_set (i := 8) nd rfl (Or.inl rfl) (pe_op op_add_str (pe_op op_add_str (pe_slice sl_str (pv 4) po_none (po_some (pv 5))) (pe_ix ix_str (pe_d0 D_law_signs hr (by decide) (by rfl) passL) (pe_d D_law_draw hr (by decide) (by rfl) passL (pa_cons (pv 0) (pa_cons pe_int pa_nil))) (fun _ _ => rfl))) (pe_slice sl_str (pv 4) (po_some (pe_op op_add (pv 5) pe_int)) po_none))))
(pss_one (ps_set (i := 8) nd rfl (Or.inl rfl) (pe_d D_law_text hr (by decide) (by rfl) passL (pa_cons (pv 0) (pa_cons (pv 2) pa_nil))))))
(pss_one (ps_if (pt_cmpR op_notIn_seq (pv 8) (pv 6) (by rfl))
(pss_one (ps_expr (pe_bm PySem.F.plainAttrs_list PySem.F.slot_list_append PySem.F.type_list_append mt_append (pv 6) (pa_cons (pv 8) pa_nil))))
pss_nil))))
(pss_one (ps_ret (pv 6)))))))), ?_⟩
    k_extra "rd"
    refine ⟨p, q, 3, rfl, rfl, hS, Sm.lit (by decide), fun r1 H1 a0 a1 S1 B1 => ?_⟩
    k_extra "rd"
    refine ⟨p, q, _, rfl, rfl, S1, by decide, by decide, fun base H2 tb S2 B2 => ?_⟩
    have B2 := B1.trans B2
    k_extra "rd"
    refine ⟨p, q, _, rfl, rfl, S2, Sm.small (by omega) (by have := tb.1; omega), fun place H3 c0 c1 S3 B3 => ?_⟩
    have B3 := B2.trans B3
    k_extra "rd"
    intro l hl
    obtain ⟨lp, lq⟩ := S3.off hl
    have hl0 : H l = none := B3.nil_at (by simpa using lp) hl
    have S4 := S3.but (But.new (p := l) (o := .lst []) (S := []) hl) (by simp) (by simp)
    have B4 : But [l, p] H (upd H3 l (.lst [])) := (B3.trans (But.new hl)).mono (by simp)
    k_extra "rd"
    generalize decide (V.int r1 = V.int 0) = one at *
    refine for_range (lo := 0) (n := n.toNat) (fun i σ H' => ∃ (ts : List Str) (y z : Option V), σ = [some (.ref p), some (.int n), some (.int 10), some (.bl one), some (.str base), some (.int place), some (.ref l), y, z] ∧ Txs H' l ts i ∧ (0 < i → 1 ≤ ts.length) ∧ StA H' p q ∧ But [l, p] H H') ⟨[], none, none, rfl, ⟨upd_same, List.nodup_nil, Nat.le_refl _, fun _ z => by (cases z)⟩, fun z => by omega, S4, B4⟩ ?_ ?_
    · rintro i σ H5 hi ⟨ts, y, z, rfl, ht, h1, S5, B5⟩
      k_extra "rd"
      refine ⟨fun σ H' => ∃ (t : Str) (y : Option V), σ = [some (.ref p), some (.int n), some (.int 10), some (.bl one), some (.str base), some (.int place), some (.ref l), y, some (.str t)] ∧ Tx 30 t ∧ StA H' p q ∧ But [p] H5 H', ?_, ?_⟩
      · k_extra "rd"
        cases one
        · k_extra "rd"
          refine ⟨p, q, _, rfl, rfl, S5, by decide, by decide, fun t H6 ht S6 B6 => ?_⟩
          exact ⟨t, _, rfl, ht.mono (by decide), S6, B6⟩
        · k_extra "rd"
          intro sg hs hso
          have tsg : Tx 94 sg := ⟨Nat.le_of_eq hs, hso⟩
          k_extra "rd"
          refine ⟨p, q, 94, rfl, rfl, S5, Sm.lit (by decide), fun r5 H6 d0 d1 S6 B6 => ?_⟩
          obtain ⟨c, hc, hco⟩ := at_str (z := sg) (r := r5) d0 (by omega)
          have hco := hco hso
          k_extra "rd"
          first | exact ⟨Tx.mono (.app (.app tb.cut (.one hco)) tb.cut) (by decide), S6, B6⟩ | exact ⟨_, rfl, Tx.mono (.app (.app tb.cut (.one hco)) tb.cut) (by decide), S6, B6⟩
      rintro σ H6 ⟨t, y, rfl, htx, S6, B6⟩
      have ha6 := B6 _ _ ht.at_ (by simpa using lp)
      have B6' : But [l, p] H H6 := B5.trans (B6.mono (by simp))
      k_extra "rd"
      refine ⟨flat_strs, ?_⟩
      rw [inV_str]
      k_extra "rd"
      refine iteN (fun c => ?_) (fun c => ?_)
      · k_extra "rd"
        refine ⟨.inl ⟨rfl, _, SqL.of ha6⟩, ?_⟩
        k_extra "rd"
        have hn := ht.len
        refine ⟨l, _, _, rfl, rfl, ha6, szlt (by rw [List.length_map]; omega), ?_⟩
        have hnd : (ts ++ [t]).Nodup := List.nodup_append.mpr ⟨ht.nd, List.pairwise_singleton _ _, fun a ha b hb => by (rw [List.mem_singleton] at hb; exact fun z => c (by rw [← hb, ← z]; exact ha))⟩
        have := S6.but (But.put (S := [l]) (H := H6) (p := l) (o := .lst ((ts ++ [t]).map V.str)) (by simp)) (by simpa using Ne.symm lp) (by simpa using Ne.symm lq)
        refine ⟨ts ++ [t], _, _, rfl, ⟨?_, hnd, by (rw [List.length_append]; exact Nat.succ_le_succ hn), fun u hu => ?_⟩, fun _ => by (rw [List.length_append]; exact Nat.le_add_left _ _), ?_, ?_⟩
        · rw [List.map_append]; exact upd_same
        · rcases List.mem_append.mp hu with h | h
          · exact ht.tx u h
          · rw [List.mem_singleton.mp h]; exact htx
        · rw [List.map_append] at this; exact this
        · exact B6'.trans (But.put (by simp))
      · refine ⟨ts, _, _, rfl, ⟨ha6, ht.nd, Nat.le_succ_of_le ht.len, ht.tx⟩, fun _ => ?_, S6, B6'⟩
        exact List.length_pos_of_mem c
    · rintro σ H5 ⟨ts, y, z, rfl, ht, h1, S5, B5⟩
      k_extra "rd"
      exact k _ ts _ hl0 ⟨ht.at_, ht.nd, by have := ht.len; omega, ht.tx⟩ (h1 (by omega)) S5 (But.drop hl0 B5)
def sp_law_weight : Sp := sp2 fun a b H Q _ => ∃ p q n, a = .ref p ∧ b = .int n ∧ StA H p q ∧ ∀ r H', 1 ≤ r → r ≤ 10 ^ 40 → StA H' p q → But [p] H H' → Q (.int r) H'
theorem ok_law_weight {f : Addr} {fd : FuncData} (F : Fun K "_law_weight" "_law_weight" s_law_weight f fd) (T : Txt K mg CS CI CT CP CM CK CU CC CN CE CA CH CB) (D_law_draw : Df P w K mg base 1 "_law_draw" s_law_draw ["state", "limit"] sp_law_draw) (D_law_wide : Df P w K mg base 2 "_law_wide" s_law_wide ["state"] sp_law_wide) : FnOk P w K mg base (L2.CX P w) 3 f fd ["state", "kind"] sp_law_weight := by
  have nd := sc_law_weight.nd
  refine F.okX sc_law_weight (fun vs H Q E h => ?_) (fun cdv A outer s H vs Q E hr h => ?_)
  · obtain ⟨_, _, rfl, _⟩ := h
    rfl
  · obtain ⟨_, _, rfl, p, q, n, rfl, rfl, hS, k⟩ := h
    have big : (100 : Int) ≤ 10 ^ 40 := by decide
    refine ⟨_, (pss_cons (ps_if (pt_cmpR op_lt (pv 1) pe_int (nomark _))
(pss_one (ps_ret (pe_op op_add pe_int (pe_d D_law_draw hr (by decide) (by rfl) passL (pa_cons (pv 0) (pa_cons pe_int pa_nil))))))
pss_nil)
(pss_cons (ps_if (pt_cmpR op_lt (pv 1) pe_int (nomark _))
(pss_one (ps_ret (pe_op op_add pe_int (pe_d D_law_draw hr (by decide) (by rfl) passL (pa_cons (pv 0) (pa_cons pe_int pa_nil))))))
pss_nil)
(pss_cons (ps_if (pt_cmpR op_eq (pv 1) pe_int (nomark _))
(pss_one (ps_ret (pe_op op_add pe_int (pe_op op_mulW pe_int (pe_d D_law_draw hr (by decide) (by rfl) passL (pa_cons (pv 0) (pa_cons pe_int pa_nil)))))))
pss_nil)
(pss_one (ps_ret (pe_callB (call_max2 rfl) (by rfl) T.max (by decide +kernel) (pa_cons pe_int (pa_cons (pe_d D_law_wide hr (by decide) (by rfl) passL (pa_cons (pv 0) pa_nil)) pa_nil)))))))), ?_⟩
    k_extra "rd"
    refine iteD (fun c => ?_) (fun c => ?_)
    · k_extra "rd"
      refine ⟨p, q, 4, rfl, rfl, hS, Sm.lit (by decide), fun r H1 a0 a1 S1 B1 => ?_⟩
      k_extra "rd"
      exact k _ _ (by omega) (by omega) S1 B1
    k_extra "rd"
    refine iteD (fun c => ?_) (fun c => ?_)
    · k_extra "rd"
      refine ⟨p, q, 20, rfl, rfl, hS, Sm.lit (by decide), fun r H1 a0 a1 S1 B1 => ?_⟩
      k_extra "rd"
      exact k _ _ (by omega) (by omega) S1 B1
    k_extra "rd"
    refine iteD (fun c => ?_) (fun c => ?_)
    · k_extra "rd"
      refine ⟨p, q, 6, rfl, rfl, hS, Sm.lit (by decide), fun r H1 a0 a1 S1 B1 => ?_⟩
      have rs : Sm 10 r := Sm.small a0 (by omega)
      k_extra "rd"
      exact k _ _ (by omega) (by omega) S1 B1
    k_extra "rd"
    refine ⟨p, q, rfl, hS, fun r H1 a0 a1 S1 B1 => ?_⟩
    k_extra "rd"
    refine k _ _ ?_ ?_ S1 B1
    · split <;> omega
    · split <;> omega
theorem sql_but {K : PySem.W.Frag} {S : List Addr} {H H' : Hp} {a : Addr} {xs : List V} (h : SqL K H a xs) (b : But S H H') (n : a ∉ S) : SqL K H' a xs := by
  rcases h with (h | ⟨o, h⟩) | h
  · exact .inl (.inl (b _ _ h n))
  · exact .inl (.inr ⟨o, b _ _ h n⟩)
  · exact .inr h
theorem map_at {α : Type} {f : α → V} {as : List α} {i : Nat} {y : V} (h : (as.map f)[i]? = some y) : ∃ a, as[i]? = some a ∧ y = f a := by
  rw [List.getElem?_map] at h
  cases e : as[i]? with
  | none => rw [e] at h; cases h
  | some p => rw [e] at h; exact ⟨p, rfl, (Option.some.inj h).symm⟩
/-- the weight of a text -/
def wt : List (Str × Int) → Str → Int
  | [], _ => 0
  | (k, w) :: r, t => if k = t then w else wt r t
/-- a list at l of the pairs ps, as tuples at as -/
structure PrsA (H : Hp) (l : Addr) (as : List Addr) (ps : List (Str × Int)) : Prop where
  at_ : H l = some (.lst (as.map V.ref))
  len : as.length = ps.length
  it : ∀ (i : Nat) (a : Addr) (p : Str × Int), as[i]? = some a → ps[i]? = some p → H a = some (.tup [.str p.1, .int p.2])
theorem PrsA.ne {H : Hp} {l : Addr} {as : List Addr} {ps : List (Str × Int)} (h : PrsA H l as ps) {c : Addr} {xs : List V} (e : H c = some (.lst xs)) : c ∉ as := fun z => by
  obtain ⟨i, hi⟩ := List.mem_iff_getElem?.mp z
  have il : i < ps.length := by rw [← h.len]; exact (List.getElem?_eq_some_iff.mp hi).1
  have := h.it i c _ hi (List.getElem?_eq_getElem il)
  rw [this] at e
  cases e
theorem PrsA.but {S : List Addr} {H H' : Hp} {l : Addr} {as : List Addr} {ps : List (Str × Int)} (h : PrsA H l as ps) (b : But S H H') (n : l ∉ S) (hS : ∀ c ∈ S, ∀ xs, H c = some (.tup xs) → False) : PrsA H' l as ps :=
  ⟨b _ _ h.at_ n, h.len, fun i a p e1 e2 => b _ _ (h.it i a p e1 e2) fun z => hS a z _ (h.it i a p e1 e2)⟩
theorem wt_drop {ps : List (Str × Int)} {i : Nat} {k : Str} {w : Int} (h : ps[i]? = some (k, w)) (t : Str) : wt (ps.drop i) t = if k = t then w else wt (ps.drop (i + 1)) t := by
  obtain ⟨hi, e⟩ := List.getElem?_eq_some_iff.mp h
  rw [List.drop_eq_getElem_cons hi, e]
  rfl
/-- pairs as the law draws them -/
structure PsOk (ps : List (Str × Int)) : Prop where
  nd : (ps.map (·.1)).Nodup
  len : ps.length ≤ 24
  pos : 1 ≤ ps.length
  each : ∀ p ∈ ps, Tx 30 p.1 ∧ 1 ≤ p.2 ∧ p.2 ≤ 10 ^ 40
def sp_Marking_init (CM : Addr) : Sp := sp2 fun a b H Q _ => ∃ (m dx l : Addr) (vs : List V) (es : List Ent), a = .ref m ∧ b = .ref l ∧ H m = some (.ins CM dx []) ∧ EnsX H l vs es ∧ EnOk es ∧ ∀ t ws H', But [m] H H' → (∀ G : Hp, (∀ c, H c = none ∨ c = m → G c = H' c) → MarkA CM G m t ws es) → Q .non H'
theorem ok_Marking_init {f : Addr} {fd : FuncData} (F : Fun K "__init__" "Marking.__init__" s_Marking_init f fd) (T : Txt K mg CS CI CT CP CM CK CU CC CN CE CA CH CB) (D_is_weight : Df P w K mg base 2 "is_weight" s_is_weight ["value"] sp_is_weight) : FnOk P w K mg base (L2.CX P w) 3 f fd ["self", "entries"] (sp_Marking_init CM) := by
  have nd := sc_Marking_init.nd
  refine F.okX sc_Marking_init (fun vs H Q E h => ?_) (fun cdv A outer s H vs Q E hr h => ?_)
  · obtain ⟨_, _, rfl, _⟩ := h
    rfl
  · obtain ⟨_, _, rfl, m, dx, l, vs, es, rfl, rfl, em, hp, ok, k⟩ := h
    refine ⟨_, (pss_cons (ps_set (i := 2) nd rfl (Or.inl rfl) (pe_lst pa_nil))
(pss_mid (ps_for (passes_of rfl) rfl (pi_or (pi_enum (by rfl) T.enumerate (pa_cons (pv 1) pa_nil)) (pi_enumT (by rfl) T.enumerate (pa_cons (pv 1) pa_nil))) (pg_tup (n := 2) rfl (pgs_cons (pg_name (i := 3) nd rfl (Or.inl rfl)) (pgs_cons (pg_or (pg_tup (n := 3) rfl (pgs_cons (pg_name (i := 4) nd rfl (Or.inl rfl)) (pgs_cons (pg_name (i := 5) nd rfl (Or.inl rfl)) (pgs_cons (pg_name (i := 6) nd rfl (Or.inl rfl)) pgs_nil)))) (pg_unl (n := 3) rfl (pgs_cons (pg_name (i := 4) nd rfl (Or.inl rfl)) (pgs_cons (pg_name (i := 5) nd rfl (Or.inl rfl)) (pgs_cons (pg_name (i := 6) nd rfl (Or.inl rfl)) pgs_nil))))) pgs_nil)))
(pss_cons (ps_if (pt_not (pt_val (pe_d D_is_weight hr (by decide) (by rfl) passL (pa_cons (pv 4) pa_nil))))
(pss_one (ps_never))
pss_nil)
(pss_one (ps_expr (pe_bm PySem.F.plainAttrs_list PySem.F.slot_list_append PySem.F.type_list_append mt_append (pv 2) (pa_cons (pe_tup (pa_cons (pv 4) (pa_cons (pv 5) (pa_cons (pe_callTy call_tuple_of (by rfl) T.tuple (by decide +kernel) (pa_cons (pe_callB cr_sortSq (by rfl) T.sorted (by decide +kernel) (pa_cons (pv 6) pa_nil)) pa_nil)) pa_nil)))) pa_nil))))))
(pss_cons (ps_fld (pv 0) (pe_callTy call_tuple_of (by rfl) T.tuple (by decide +kernel) (pa_cons (pv 2) pa_nil)) rfl)
(pss_one (ps_fld (pv 0) (pe_callB (cr_sum rfl) (by rfl) T.sum (by decide +kernel) (pa_cons (pe_lc (own := [("entry", 7)]) (g := gName 7) (by rfl) nd (pi_list (pv 2)) (blkOk_by (N := ["self", "entries", "told", "at", "weight", "text", "accused", "entry"]) (sc := defScope s_Marking_init) (by decide +kernel)) (fun _ _ _ _ _ => (pg_name (i := 7) nd rfl (Or.inl rfl))) (fun _ _ _ _ _ => pts_nil) (fun _ _ _ _ _ => (pe_ix (ix_tup : IxR _ (rIxT K)) (pv 7) pe_int (fun _ _ => rfl)))) pa_nil)) rfl))))), ?_⟩
    have h60 := ok.len
    have hvl := hp.it.1
    k_extra "rd"
    intro d hd
    obtain ⟨b1, U1, c1⟩ := (Up.nil (S := []) H).begin hd (.lst [])
    generalize upd H d (.lst []) = H1 at *
    refine ⟨fun σ H' => ∃ (F' : Hp) (ws : List V) (x y z u : Option V), σ = [some (.ref m), some (.ref l), some (.ref d), x, y, z, u, none] ∧ Up [] Nil H F' H' ∧ Ow H F' H' d (.lst ws) ∧ Each (MkR F') es ws, ?_, ?_⟩
    · refine hp.src.elim (fun e => .inl ⟨_, rfl, l, _, rfl, SqL.of (U1.but _ _ e (by simp)), for_env env_l (fun i σ H' => ∃ (F' : Hp) (ws : List V) (x y z u : Option V), σ = [some (.ref m), some (.ref l), some (.ref d), x, y, z, u, none] ∧ Up [] Nil H F' H' ∧ Ow H F' H' d (.lst ws) ∧ Each (MkR F') (es.take i) ws) ⟨Nil, [], none, none, none, none, rfl, U1, c1, Each.nil⟩ (fun i σ H' ⟨_, _, _, _, _, _, _, u, _⟩ => SqL.of (u.but _ _ e (by simp))) ?t1 ?a1⟩)
        (fun e => .inr ⟨_, rfl, l, _, rfl, SqT.of (U1.but _ _ e (by simp)), for_env env_t (fun i σ H' => ∃ (F' : Hp) (ws : List V) (x y z u : Option V), σ = [some (.ref m), some (.ref l), some (.ref d), x, y, z, u, none] ∧ Up [] Nil H F' H' ∧ Ow H F' H' d (.lst ws) ∧ Each (MkR F') (es.take i) ws) ⟨Nil, [], none, none, none, none, rfl, U1, c1, Each.nil⟩ (fun i σ H' ⟨_, _, _, _, _, _, _, u, _⟩ => SqT.of (u.but _ _ e (by simp))) ?t2 ?a2⟩)
      case a1 => rintro σ H2 ⟨F2, ws, x, y, z, u, rfl, U2, c2, h2⟩; rw [hvl, List.take_length] at h2; exact ⟨F2, ws, x, y, z, u, rfl, U2, c2, h2⟩
      case a2 => rintro σ H2 ⟨F2, ws, x, y, z, u, rfl, U2, c2, h2⟩; rw [hvl, List.take_length] at h2; exact ⟨F2, ws, x, y, z, u, rfl, U2, c2, h2⟩
      all_goals
        rintro i σ H2 v T0 hv ⟨F2, ws, x, y, z, u, rfl, U2, c2, h2⟩ hT
        obtain ⟨en, hen, a, c, rfl, ha, hc⟩ := hp.it.back hv
        have il := lt_of_at hen
        have eo := ok.each en (List.mem_of_getElem? hen)
        obtain ⟨v3, U3, c3⟩ := U2.begin hT (.tup [.int (i : Nat), .ref a])
        have c3' := c2.up0 v3
        have eT := c3.at_
        generalize upd H2 T0 (.tup [.int (i : Nat), .ref a]) = H3 at *
        have hc3 : SqL K H3 c (en.acc.map V.str) ∨ SqT K H3 c (en.acc.map V.str) := hc.imp (fun e => SqL.of (U3.but _ _ e (by simp))) (fun e => SqT.of (U3.but _ _ e (by simp)))
        refine ⟨T0, _, rfl, SqT.of eT, rfl, _, _, rfl, _, _, rfl, ?_⟩
        refine ha.elim (fun e => .inl ⟨a, _, rfl, SqT.of (U3.but _ _ e (by simp)), rfl, ?_⟩) (fun e => .inr ⟨a, _, rfl, SqL.of (U3.but _ _ e (by simp)), rfl, ?_⟩)
        all_goals
          k_extra "rd"
          refine iteN (fun z => absurd eo.1 z) (fun _ => ?_)
          k_extra "rd"
          refine ⟨.inl ⟨rfl, _, SqL.of c3'.at_⟩, ?_⟩
          k_extra "rd"
          refine ⟨c, _, rfl, hc3, (by have := eo.2.2.2.1; omega), fun ys Y hy hys hY => ?_⟩
          obtain ⟨v4, U4, c4⟩ := U3.begin hY (.lst (ys.map V.str))
          have c4' := c3'.up0 v4
          have eY := c4.at_
          generalize upd H3 Y (.lst (ys.map V.str)) = H4 at *
          refine ⟨Y, _, rfl, .inl ⟨SqL.of eY, fun c5 hc5 => ?_⟩⟩
          obtain ⟨v5, U5, f5⟩ := U4.new0 hc5 (.tup (ys.map V.str))
          have c5' := c4'.up0 v5
          generalize upd H4 c5 (.tup (ys.map V.str)) = H5 at *
          generalize upd F2 c5 (.tup (ys.map V.str)) = F5 at *
          k_extra "rd"
          intro t6 ht6
          obtain ⟨v6, U6, f6⟩ := U5.new0 ht6 (.tup [.int en.w, .str en.t, .ref c5])
          have c6' := c5'.up0 v6
          have f56 := v6.at f5
          have s26 : Fz F2 (upd F5 t6 (.tup [.int en.w, .str en.t, .ref c5])) := v5.sub.trans v6.sub
          generalize upd H5 t6 (.tup [.int en.w, .str en.t, .ref c5]) = H6 at *
          generalize upd F5 t6 (.tup [.int en.w, .str en.t, .ref c5]) = F6 at *
          refine ⟨d, _, _, rfl, rfl, c6'.at_, szlt (by have := h2.1; rw [this, List.length_take]; omega), ?_⟩
          obtain ⟨v7, U7, c7⟩ := U6.put c6' (.lst (ws ++ [.ref t6]))
          exact ⟨F6, _, _, _, _, _, rfl, U7, c7, (h2.mono fun _ _ => MkR.fz s26).take hen ⟨t6, c5, ys, rfl, f6, f56, hy, hys⟩⟩
    · rintro σ H2 ⟨F2, ws, x, y, z, u, rfl, U2, c2, h2⟩
      have em2 := U2.but _ _ em (by simp)
      refine ⟨_, rfl, d, _, rfl, .inl ⟨SqL.of c2.at_, fun t ht => ?_⟩⟩
      obtain ⟨v3, U3, f3⟩ := U2.new0 ht (.tup ws)
      have c3 := c2.up0 v3
      have h3 := h2.mono fun _ _ => MkR.fz v3.sub
      have em3 := v3.but _ _ em2 (by simp)
      generalize upd H2 t (.tup ws) = H3 at *
      generalize upd F2 t (.tup ws) = F3 at *
      k_extra "rd"
      refine ⟨m, CM, dx, [], rfl, em3, T.clM, T.nM_entries, by decide, ?_⟩
      rw [putM1]
      have fm : F3 m = none := U3.nn rfl (by rw [em]; exact Option.some_ne_none _)
      obtain ⟨v4, U4⟩ := (U3.of0 (S := [m])).set List.mem_cons_self fm (.ins CM dx [("entries", .ref t)])
      have md : m ≠ d := fun z => by (rw [z, c2.new] at em; cases em)
      have c4 := c3.up v4 (fun s h => by rw [List.mem_singleton.mp h, em]; exact Option.some_ne_none _)
      have em4 : (upd H3 m (.ins CM dx [("entries", .ref t)])) m = some (.ins CM dx [("entries", .ref t)]) := upd_same
      generalize upd H3 m (.ins CM dx [("entries", .ref t)]) = H4 at *
      refine ⟨_, rfl, d, rfl, ⟨_, SqL.of c4.at_⟩, fun D hD => ?_⟩
      have Dd : d ≠ D := fun z => by (have := c4.at_; rw [z, hD] at this; cases this)
      refine lcg_list (K := K) (a := d) (xs := ws) (S := [m]) (S1 := []) (fun _ => True) (fun i ys _ => ys = ((es.take i).map (·.w)).map V.int) U4 trivial hD (fun _ _ h => h) (fun _ h => by cases h)
        (fun G2 H5 _ _ v => SqL.of (v.but _ _ c4.at_ (by simpa using Dd))) (by have := h2.1; omega) rfl (fun _ _ _ _ _ h => h) ?_ ?_
      · rintro i x G2 H5 acc hx U5 s5 v5 _ rfl T0 N fin _
        obtain ⟨en, hen, a, c, ys, rfl, ha, _⟩ := h3.back hx
        k_extra "rd"
        refine ⟨_, _, _, _, rfl, rfl, SqT.of (U5.on _ _ (s5 _ _ ha)), rfl, ?_⟩
        refine fin _ _ _ (.refl U5.on) trivial ?_
        rw [take_add hen, List.map_append, List.map_append]
        rfl
      · rintro ys G2 H5 U5 s5 v5 _ c5 _ rfl
        have em5 := v5.but _ _ em4 (by simp)
        rw [h2.1, List.take_length] at c5
        refine ⟨D, _, rfl, SqL.of c5.at_, ?_⟩
        k_extra "rd"
        refine ⟨m, CM, dx, _, rfl, em5, T.clM, T.nM_whole, (show 1 < 1000 by decide), ?_⟩
        rw [putM2]
        have fm5 : G2 m = none := U5.nn rfl (by rw [em]; exact Option.some_ne_none _)
        obtain ⟨v6, U6⟩ := U5.set List.mem_cons_self fm5 (.ins CM dx [("entries", .ref t), ("whole", .int (wsum es))])
        refine k t ws _ U6.but fun G hG => ?_
        have fz := U6.nw (G := G) fun a h => hG a (.inl h)
        exact ⟨⟨dx, (hG m (.inr rfl)).trans upd_same⟩, fz _ _ (s5 _ _ f3), h3.mono fun _ _ => MkR.fz (s5.trans fz)⟩
/-! ### is_number_below: of what lies there -/
def sp_is_number_below : Sp := sp2 fun a b H Q _ => ∃ x y, a = .int x ∧ b = .int y ∧ 0 ≤ x ∧ x < y ∧ Q (.bl true) H
theorem ok_is_number_below {f : Addr} {fd : FuncData} (F : Fun K "is_number_below" "is_number_below" s_is_number_below f fd) (T : Txt K mg CS CI CT CP CM CK CU CC CN CE CA CH CB) (D_is_integer : Df P w K mg base 1 "is_integer" s_is_integer ["value"] sp_is_integer) : FnOk P w K mg base (L2.CX P w) 2 f fd ["value", "end"] sp_is_number_below := by
  have nd := sc_is_number_below.nd
  refine F.okX sc_is_number_below (fun vs H Q E h => ?_) (fun cdv A outer s H vs Q E hr h => ?_)
  · obtain ⟨_, _, rfl, _⟩ := h
    rfl
  · obtain ⟨_, _, rfl, x, y, rfl, rfl, h0, h1, k⟩ := h
    refine ⟨_, (pss_one (ps_ret (pe_and (pe_d D_is_integer hr (by decide) (by rfl) passL (pa_cons (pv 0) pa_nil)) (pe_one (pe_chain op_le op_lt pe_int (pv 0) (pv 1)))))), ?_⟩
    k_extra "rd"
    rw [decide_eq_true h0]
    k_extra "rd"
    show Q (.bl (decide (x < y))) H
    rw [decide_eq_true h1]
    exact k
def sp_block_of (K : PySem.W.Frag) : Sp := sp2 fun a b H Q _ => ∃ (n : Int) (l : Addr) (ns : List Int), a = .int n ∧ b = .ref l ∧ SqL K H l (ns.map V.int) ∧ (∀ w ∈ ns, 1 ≤ w) ∧ 0 ≤ n ∧ n < ns.sum ∧ ∀ t, H t = none → Q (.ref t) (upd H t (.tup [.int (blk ns n).1, .int (blk ns n).2]))
theorem ok_block_of {f : Addr} {fd : FuncData} (F : Fun K "block_of" "block_of" s_block_of f fd) (T : Txt K mg CS CI CT CP CM CK CU CC CN CE CA CH CB)  : FnOk P w K mg base (L2.CX P w) 1 f fd ["number", "sizes"] (sp_block_of K) := by
  have nd := sc_block_of.nd
  refine F.okX sc_block_of (fun vs H Q E h => ?_) (fun cdv A outer s H vs Q E hr h => ?_)
  · obtain ⟨_, _, rfl, _⟩ := h
    rfl
  · obtain ⟨_, _, rfl, n, l, ns, rfl, rfl, hl, hp, n0, n1, k⟩ := h
    refine ⟨_, (pss_cons (ps_set (i := 2) nd rfl (Or.inl rfl) pe_int)
(pss_cons (ps_set (i := 3) nd rfl (Or.inl rfl) (pv 0))
(pss_cons (ps_while (passes_of rfl) (pt_cmpR op_ge (pv 3) (pe_ix ix_list (pv 1) (pv 2) (fun _ _ => rfl)) (nomark _))
(pss_cons (ps_set (i := 3) nd rfl (Or.inl rfl) (pe_op op_sub (pv 3) (pe_ix ix_list (pv 1) (pv 2) (fun _ _ => rfl))))
(pss_one (ps_set (i := 2) nd rfl (Or.inl rfl) (pe_op op_add (pv 2) pe_int)))))
(pss_one (ps_ret (pe_tup (pa_cons (pv 2) (pa_cons (pv 3) pa_nil)))))))), ?_⟩
    k_extra "rd"
    refine ⟨fun m σ H' => ∃ (j : Nat) (left : Int), σ = [some (.int n), some (.ref l), some (.int j), some (.int left)] ∧ H' = H ∧ m = ns.length - j ∧ blk ns n = (j + (blk (ns.drop j) left).1, (blk (ns.drop j) left).2) ∧ 0 ≤ left ∧ left < (ns.drop j).sum, ⟨ns.length, 0, n, rfl, rfl, rfl, by rw [List.drop_zero, Nat.zero_add], n0, by rw [List.drop_zero]; exact n1⟩, ?_⟩
    rintro m σ H' ⟨j, left, rfl, rfl, rfl, e, l0, l1⟩
    have jl : j < ns.length := by
      by_cases c : j < ns.length
      · exact c
      · rw [List.drop_eq_nil_of_le (by omega), List.sum_nil] at l1
        omega
    have hj : (ns.map V.int)[j]? = some (.int ns[j]) := by rw [List.getElem?_map, List.getElem?_eq_getElem jl]; rfl
    have dj : ns.drop j = ns[j] :: ns.drop (j + 1) := List.drop_eq_getElem_cons jl
    have pj := hp _ (List.getElem_mem jl)
    rw [dj] at e l1
    k_extra "rd"
    refine ⟨_, _, _, _, rfl, rfl, hl, atI_nat hj, ?_⟩
    k_extra "rd"
    refine iteD (fun c => ?_) (fun c => ?_)
    · refine ⟨fun σ H2 => σ = [some (.int n), some (.ref l), some (.int (j + 1)), some (.int (left - ns[j]))] ∧ H2 = H', ?_, ?_⟩
      · rintro σ H' ⟨rfl, rfl⟩
        refine ⟨ns.length - (j + 1), by omega, j + 1, left - ns[j], rfl, rfl, rfl, ?_, by omega, by rw [List.sum_cons] at l1; omega⟩
        rw [e, blk, if_neg (by omega)]
        refine Prod.ext ?_ rfl
        show j + ((blk (ns.drop (j + 1)) (left - ns[j])).1 + 1) = j + 1 + (blk (ns.drop (j + 1)) (left - ns[j])).1
        omega
      · k_extra "rd"
        refine ⟨_, _, _, _, rfl, rfl, hl, atI_nat hj, ?_⟩
        k_extra "rd"
        first | rfl | exact ⟨rfl, rfl⟩
    · k_extra "rd"
      intro t ht
      have z := k t ht
      rw [e, blk, if_pos (by omega)] at z
      exact z
def sp_Marking_len (CM : Addr) : Sp := sp1 fun a H Q _ => ∃ (m t : Addr) (vs : List V) (es : List Ent), a = .ref m ∧ MarkA CM H m t vs es ∧ Q (.int (es.length : Nat)) H
theorem ok_Marking_len {f : Addr} {fd : FuncData} (F : Fun K "__len__" "Marking.__len__" s_Marking_len f fd) (T : Txt K mg CS CI CT CP CM CK CU CC CN CE CA CH CB)  : FnOk P w K mg base (L2.CX P w) 1 f fd ["self"] (sp_Marking_len CM) := by
  have nd := sc_Marking_len.nd
  refine F.okX sc_Marking_len (fun vs H Q E h => ?_) (fun cdv A outer s H vs Q E hr h => ?_)
  · obtain ⟨_, rfl, _⟩ := h
    rfl
  · obtain ⟨_, rfl, m, t, vs, es, rfl, ⟨⟨dx, e1⟩, e2, e3⟩, k⟩ := h
    refine ⟨_, (pss_one (ps_ret (pe_callB call_len_seq (by rfl) T.len (by decide +kernel) (pa_cons (pe_fld (pv 0) rfl) pa_nil)))), ?_⟩
    refine ⟨_, rfl, m, CM, dx, _, _, rfl, e1, T.clM, T.nM_entries, mk_entries, ?_⟩
    refine ⟨t, _, rfl, .inr (SqT.of e2), ?_⟩
    rw [e3.1]
    exact k
def sp_Marking_entry (CM : Addr) : Sp := sp2 fun a b H Q _ => ∃ (m t : Addr) (vs : List V) (es : List Ent) (n : Nat) (v : V), a = .ref m ∧ b = .int n ∧ MarkA CM H m t vs es ∧ vs[n]? = some v ∧ Q v H
theorem ok_Markingentry {f : Addr} {fd : FuncData} (F : Fun K "_entry" "Marking._entry" s_Markingentry f fd) (T : Txt K mg CS CI CT CP CM CK CU CC CN CE CA CH CB) (D_is_number_below : Df P w K mg base 2 "is_number_below" s_is_number_below ["value", "end"] sp_is_number_below) : FnOk P w K mg base (L2.CX P w) 3 f fd ["self", "key"] (sp_Marking_entry CM) := by
  have nd := sc_Markingentry.nd
  refine F.okX sc_Markingentry (fun vs H Q E h => ?_) (fun cdv A outer s H vs Q E hr h => ?_)
  · obtain ⟨_, _, rfl, _⟩ := h
    rfl
  · obtain ⟨_, _, rfl, m, t, vs, es, n, v, rfl, rfl, ⟨⟨dx, e1⟩, e2, e3⟩, hv, k⟩ := h
    refine ⟨_, (pss_cons (ps_if (pt_not (pt_val (pe_d D_is_number_below hr (by decide) (by rfl) passL (pa_cons (pv 1) (pa_cons (pe_callB call_len_seq (by rfl) T.len (by decide +kernel) (pa_cons (pe_fld (pv 0) rfl) pa_nil)) pa_nil)))))
(pss_one (ps_never))
pss_nil)
(pss_one (ps_ret (pe_ix ix_tup (pe_fld (pv 0) rfl) (pv 1) (fun _ _ => rfl))))), ?_⟩
    have nl := lt_of_at hv
    refine ⟨_, rfl, _, rfl, m, CM, dx, _, _, rfl, e1, T.clM, T.nM_entries, mk_entries, ?_⟩
    refine ⟨t, _, rfl, .inr (SqT.of e2), ?_⟩
    refine ⟨_, _, rfl, _, _, rfl, rfl, by omega, by omega, ?_⟩
    k_extra "rd"
    refine ⟨m, CM, dx, _, _, rfl, e1, T.clM, T.nM_entries, mk_entries, ?_⟩
    k_extra "rd"
    exact ⟨_, _, _, _, rfl, rfl, SqT.of e2, atI_nat hv, k⟩
def sp_Marking_write (CM : Addr) : Sp := sp2 fun a b H Q _ => ∃ (m t : Addr) (vs : List V) (es : List Ent) (n : Nat) (en : Ent), a = .ref m ∧ b = .int n ∧ MarkA CM H m t vs es ∧ es[n]? = some en ∧ Q (.str en.t) H
theorem ok_Marking_write {f : Addr} {fd : FuncData} (F : Fun K "write" "Marking.write" s_Marking_write f fd) (T : Txt K mg CS CI CT CP CM CK CU CC CN CE CA CH CB) (D_Markingentry : Dm P w K mg base 3 CM "_entry" "Marking._entry" s_Markingentry ["self", "key"] (sp_Marking_entry CM)) : FnOk P w K mg base (L2.CX P w) 4 f fd ["self", "key"] (sp_Marking_write CM) := by
  have nd := sc_Marking_write.nd
  refine F.okX sc_Marking_write (fun vs H Q E h => ?_) (fun cdv A outer s H vs Q E hr h => ?_)
  · obtain ⟨_, _, rfl, _⟩ := h
    rfl
  · obtain ⟨_, _, rfl, m, t, vs, es, n, en, rfl, rfl, M, hn, k⟩ := h
    refine ⟨_, (pss_one (ps_ret (pe_ix ix_tup (pe_m D_Markingentry hr (by decide) passL (pv 0) (pa_cons (pv 1) pa_nil)) pe_int (fun _ _ => rfl)))), ?_⟩
    obtain ⟨dx, e1⟩ := M.at_
    obtain ⟨v, hv, a, c, ys, rfl, ha, _⟩ := M.it.get hn
    refine ⟨_, rfl, m, dx, _, rfl, e1, (by first | rfl | decide +kernel), _, rfl, _, _, rfl, m, t, vs, es, n, _, rfl, rfl, M, hv, ?_⟩
    k_extra "rd"
    exact ⟨_, _, _, _, rfl, rfl, SqT.of ha, rfl, k⟩
def sp_Marking_accuses (CM : Addr) : Sp := sp3 fun a b c H Q _ => ∃ (m t : Addr) (vs : List V) (es : List Ent) (n : Nat) (en : Ent) (u : Str), a = .ref m ∧ b = .int n ∧ c = .str u ∧ MarkA CM H m t vs es ∧ es[n]? = some en ∧ Q (.bl (decide (u ∈ en.acc))) H
theorem ok_Marking_accuses {f : Addr} {fd : FuncData} (F : Fun K "accuses" "Marking.accuses" s_Marking_accuses f fd) (T : Txt K mg CS CI CT CP CM CK CU CC CN CE CA CH CB) (D_Markingentry : Dm P w K mg base 3 CM "_entry" "Marking._entry" s_Markingentry ["self", "key"] (sp_Marking_entry CM)) : FnOk P w K mg base (L2.CX P w) 4 f fd ["self", "key", "text"] (sp_Marking_accuses CM) := by
  have nd := sc_Marking_accuses.nd
  refine F.okX sc_Marking_accuses (fun vs H Q E h => ?_) (fun cdv A outer s H vs Q E hr h => ?_)
  · obtain ⟨_, _, _, rfl, _⟩ := h
    rfl
  · obtain ⟨_, _, _, rfl, m, t, vs, es, n, en, u, rfl, rfl, rfl, M, hn, k⟩ := h
    refine ⟨_, (pss_one (ps_ret (pe_cmpR op_in_seq (pv 2) (pe_ix ix_tup (pe_m D_Markingentry hr (by decide) passL (pv 0) (pa_cons (pv 1) pa_nil)) pe_int (fun _ _ => rfl)) (by rfl)))), ?_⟩
    obtain ⟨dx, e1⟩ := M.at_
    obtain ⟨v, hv, a, c, ys, rfl, ha, hc, hy, _⟩ := M.it.get hn
    k_extra "rd"
    refine ⟨m, dx, _, rfl, e1, (by first | rfl | decide +kernel), _, rfl, _, _, rfl, m, t, vs, es, n, _, rfl, rfl, M, hv, ?_⟩
    k_extra "rd"
    refine ⟨_, _, _, _, rfl, rfl, SqT.of ha, rfl, ?_⟩
    refine ⟨c, _, rfl, .inr (SqT.of hc), rfl, flat_strs, ?_⟩
    rw [inV_str, decide_eq_decide.mpr hy.mem_iff]
    exact k
def sp_Marking_key_of (CM : Addr) : Sp := sp2 fun a b H Q _ => ∃ (m t : Addr) (vs : List V) (es : List Ent) (n : Int), a = .ref m ∧ b = .int n ∧ MarkA CM H m t vs es ∧ (∀ e ∈ es, 1 ≤ e.w) ∧ es.length ≤ 60 ∧ 0 ≤ n ∧ n < wsum es ∧ ∀ H', But [] H H' → Q (.int (blk (es.map (·.w)) n).1) H'
theorem ok_Marking_key_of {f : Addr} {fd : FuncData} (F : Fun K "key_of" "Marking.key_of" s_Marking_key_of f fd) (T : Txt K mg CS CI CT CP CM CK CU CC CN CE CA CH CB) (D_is_number_below : Df P w K mg base 2 "is_number_below" s_is_number_below ["value", "end"] sp_is_number_below) (D_block_of : Df P w K mg base 1 "block_of" s_block_of ["number", "sizes"] (sp_block_of K)) : FnOk P w K mg base (L2.CX P w) 3 f fd ["self", "number"] (sp_Marking_key_of CM) := by
  have nd := sc_Marking_key_of.nd
  refine F.okX sc_Marking_key_of (fun vs H Q E h => ?_) (fun cdv A outer s H vs Q E hr h => ?_)
  · obtain ⟨_, _, rfl, _⟩ := h
    rfl
  · obtain ⟨_, _, rfl, m, t, vs, es, n, rfl, rfl, M, ok, h60, n0, n1, k⟩ := h
    refine ⟨_, (pss_cons (ps_if (pt_not (pt_val (pe_d D_is_number_below hr (by decide) (by rfl) passL (pa_cons (pv 1) (pa_cons (pe_fld (pv 0) rfl) pa_nil)))))
(pss_one (ps_never))
pss_nil)
(pss_cons (ps_asg (pe_d D_block_of hr (by decide) (by rfl) passL (pa_cons (pv 1) (pa_cons (pe_lc (own := [("entry", 4)]) (g := gName 4) (by rfl) nd (pi_tup (pe_fld (pv 0) rfl)) (blkOk_by (N := ["self", "number", "at", "_", "entry"]) (sc := defScope s_Marking_key_of) (by decide +kernel)) (fun _ _ _ _ _ => (pg_name (i := 4) nd rfl (Or.inl rfl))) (fun _ _ _ _ _ => pts_nil) (fun _ _ _ _ _ => (pe_ix (ix_tup : IxR _ (rIxT K)) (pv 4) pe_int (fun _ _ => rfl)))) pa_nil))) (pg_tup (n := 2) rfl (pgs_cons (pg_name (i := 2) nd rfl (Or.inl rfl)) (pgs_cons (pg_name (i := 3) nd rfl (Or.inl rfl)) pgs_nil))))
(pss_one (ps_ret (pv 2))))), ?_⟩
    obtain ⟨dx, e1⟩ := M.at_
    k_extra "rd"
    refine ⟨m, CM, dx, _, _, rfl, e1, T.clM, T.nM_whole, mk_whole, ?_⟩
    refine ⟨_, _, rfl, _, _, rfl, rfl, n0, n1, ?_⟩
    k_extra "rd"
    refine ⟨m, CM, dx, _, _, rfl, e1, T.clM, T.nM_entries, mk_entries, ?_⟩
    refine ⟨t, rfl, ⟨_, SqT.of M.en⟩, fun D hD => ?_⟩
    refine lcg_tup (K := K) (a := t) (xs := vs) (S := []) (S1 := []) (fun _ => True) (fun i ys _ => ys = ((es.take i).map (·.w)).map V.int) (Up.nil H) trivial hD (fun _ _ h => h) (fun _ h => by cases h)
      (fun G2 H5 U _ _ => SqT.of (U.but _ _ M.en (by simp))) (by have := M.it.1; omega) rfl (fun _ _ _ _ _ h => h) ?_ ?_
    · rintro i x G2 H5 acc hx U5 _ v5 _ rfl T0 N fin _
      obtain ⟨en, hen, a, c, ys, rfl, ha, _⟩ := M.it.back hx
      k_extra "rd"
      refine ⟨_, _, _, _, rfl, rfl, SqT.of (U5.but _ _ ha (by simp)), rfl, ?_⟩
      refine fin _ _ _ (.refl U5.on) trivial ?_
      rw [take_add hen, List.map_append, List.map_append]
      rfl
    · rintro ys G2 H5 U5 _ v5 _ c5 _ rfl
      rw [M.it.1, List.take_length] at c5
      refine ⟨_, _, rfl, n, D, es.map (fun e : Ent => e.w), rfl, rfl, SqL.of c5.at_, fun w hw => ?_, n0, n1, fun x hx => ?_⟩
      · obtain ⟨e, he, rfl⟩ := List.mem_map.mp hw
        exact ok e he
      · obtain ⟨v6, U6, c6⟩ := U5.begin hx (.tup [.int (blk (es.map (·.w)) n).1, .int (blk (es.map (·.w)) n).2])
        refine ⟨x, _, rfl, SqT.of c6.at_, rfl, ?_⟩
        k_extra "rd"
        exact k _ U6.but
theorem ne_strs {H : Hp} {p q l : Addr} {ts : List Str} (S : StA H p q) (e : H l = some (.lst (ts.map V.str))) : l ≠ p := fun z => by
  obtain ⟨_, _, _, _, _, e1, _⟩ := S.ex
  rw [z, e1] at e
  have e2 := HO.lst.inj (Option.some.inj e)
  match ts, e2 with
  | [], e2 => cases e2
  | _ :: _, e2 => cases (List.cons.inj e2).1
theorem atI_strs {ts : List Str} {r : Int} (h0 : 0 ≤ r) (h : r < (ts.length : Int)) : ∃ t, t ∈ ts ∧ atI (ts.map V.str) r = some (.str t) := by
  obtain ⟨n, rfl⟩ := Int.eq_ofNat_of_zero_le h0
  have hn : n < ts.length := by omega
  exact ⟨ts[n], List.getElem_mem hn, atI_nat (by rw [List.getElem?_map, List.getElem?_eq_getElem hn] <;> rfl)⟩
def sp_law_pool : Sp := sp1 fun a H Q _ => ∃ p q, a = .ref p ∧ StA H p q ∧ ∀ l ts H', H l = none → Txs H' l ts 24 → 1 ≤ ts.length → StA H' p q → But [p] H H' → Q (.ref l) H'
theorem ok_law_pool {f : Addr} {fd : FuncData} (F : Fun K "_law_pool" "_law_pool" s_law_pool f fd) (T : Txt K mg CS CI CT CP CM CK CU CC CN CE CA CH CB) (D_law_draw : Df P w K mg base 1 "_law_draw" s_law_draw ["state", "limit"] sp_law_draw) (D_law_texts : Df P w K mg base 3 "_law_texts" s_law_texts ["state", "many", "most"] sp_law_texts) : FnOk P w K mg base (L2.CX P w) 4 f fd ["state"] sp_law_pool := by
  have nd := sc_law_pool.nd
  refine F.okX sc_law_pool (fun vs H Q E h => ?_) (fun cdv A outer s H vs Q E hr h => ?_)
  · obtain ⟨_, rfl, _⟩ := h
    rfl
  · obtain ⟨_, rfl, p, q, rfl, hS, k⟩ := h
    refine ⟨_, (pss_cons (ps_set (i := 1) nd rfl (Or.inl rfl) (pe_op op_add pe_int (pe_d D_law_draw hr (by decide) (by rfl) passL (pa_cons (pv 0) (pa_cons pe_int pa_nil)))))
(pss_mid (ps_if (pt_cmpR op_eq (pe_d D_law_draw hr (by decide) (by rfl) passL (pa_cons (pv 0) (pa_cons pe_int pa_nil))) pe_int (nomark _))
(pss_one (ps_set (i := 1) nd rfl (Or.inl rfl) (pe_op op_add pe_int (pe_d D_law_draw hr (by decide) (by rfl) passL (pa_cons (pv 0) (pa_cons pe_int pa_nil))))))
pss_nil)
(pss_one (ps_ret (pe_d D_law_texts hr (by decide) (by rfl) passL (pa_cons (pv 0) (pa_cons (pv 1) (pa_cons pe_int pa_nil)))))))), ?_⟩
    k_extra "rd"
    refine ⟨p, q, 6, rfl, rfl, hS, Sm.lit (by decide), fun r1 H1 a0 a1 S1 B1 => ?_⟩
    k_extra "rd"
    refine ⟨fun σ H' => ∃ m, σ = [some (.ref p), some (.int m)] ∧ 1 ≤ m ∧ m ≤ 24 ∧ StA H' p q ∧ But [p] H H', ?_, ?_⟩
    · k_extra "rd"
      refine ⟨p, q, 8, rfl, rfl, S1, Sm.lit (by decide), fun r2 H2 b0 b1 S2 B2 => ?_⟩
      k_extra "rd"
      refine iteD (fun c => ?_) (fun c => ?_)
      · k_extra "rd"
        refine ⟨p, q, 24, rfl, rfl, S2, Sm.lit (by decide), fun r3 H3 c0 c1 S3 B3 => ?_⟩
        k_extra "rd"
        first | exact (B1.trans B2).trans B3 | exact ⟨_, rfl, by omega, by omega, S3, (B1.trans B2).trans B3⟩
      · exact ⟨_, rfl, by omega, by omega, S2, B1.trans B2⟩
    rintro σ H2 ⟨m, rfl, m0, m1, S2, B2⟩
    k_extra "rd"
    refine ⟨_, _, _, rfl, p, q, m, rfl, rfl, rfl, S2, m0, m1, fun l ts H4 hl ht h1 S4 B4 => ?_⟩
    exact k l ts H4 (B2.nil_at (by simpa using (S2.off hl).1) hl) ht h1 S4 (B2.trans B4)
def sp_law_some : Sp := sp3 fun a b c H Q _ => ∃ (p q l : Addr) (ts : List Str) (n : Int), a = .ref p ∧ b = .ref l ∧ c = .int n ∧ StA H p q ∧ H l = some (.lst (ts.map V.str)) ∧ 1 ≤ ts.length ∧ ts.length ≤ 24 ∧ 0 ≤ n ∧ n ≤ 24 ∧ ∀ (o : Addr) (us : List Str) H', H o = none → H' o = some (.lst (us.map V.str)) → us.length ≤ 24 → (∀ u ∈ us, u ∈ ts) → us.Nodup → StA H' p q → But [p] H H' → Q (.ref o) H'
theorem ok_law_some {f : Addr} {fd : FuncData} (F : Fun K "_law_some" "_law_some" s_law_some f fd) (T : Txt K mg CS CI CT CP CM CK CU CC CN CE CA CH CB) (D_law_draw : Df P w K mg base 1 "_law_draw" s_law_draw ["state", "limit"] sp_law_draw) : FnOk P w K mg base (L2.CX P w) 2 f fd ["state", "pool", "most"] sp_law_some := by
  have nd := sc_law_some.nd
  refine F.okX sc_law_some (fun vs H Q E h => ?_) (fun cdv A outer s H vs Q E hr h => ?_)
  · obtain ⟨_, _, _, rfl, _⟩ := h
    rfl
  · obtain ⟨_, _, _, rfl, p, q, l, ts, n, rfl, rfl, rfl, hS, hl, t1, t2, n0, n1, k⟩ := h
    refine ⟨_, (pss_cons (ps_set (i := 3) nd rfl (Or.inl rfl) (pe_lst pa_nil))
(pss_cons (ps_for (passes_of rfl) rfl (pi_range1 (by rfl) T.range (pa_cons (pe_d D_law_draw hr (by decide) (by rfl) passL (pa_cons (pv 0) (pa_cons (pe_op op_add (pv 2) pe_int) pa_nil))) pa_nil)) (pg_name (i := 4) nd rfl (Or.inl rfl))
(pss_cons (ps_set (i := 5) nd rfl (Or.inl rfl) (pe_ix ix_list (pv 1) (pe_d D_law_draw hr (by decide) (by rfl) passL (pa_cons (pv 0) (pa_cons (pe_callB call_len_seq (by rfl) T.len (by decide +kernel) (pa_cons (pv 1) pa_nil)) pa_nil))) (fun _ _ => rfl)))
(pss_one (ps_if (pt_cmpR op_notIn_seq (pv 5) (pv 3) (by rfl))
(pss_one (ps_expr (pe_bm PySem.F.plainAttrs_list PySem.F.slot_list_append PySem.F.type_list_append mt_append (pv 3) (pa_cons (pv 5) pa_nil))))
pss_nil))))
(pss_one (ps_ret (pv 3))))), ?_⟩
    have lp := ne_strs hS hl
    k_extra "rd"
    intro o ho
    have W := Wr.start hS
    obtain ⟨-, W1, c1⟩ := W.begin ho (.lst [])
    generalize upd H o (.lst []) = H1 at *
    k_extra "rd"
    refine ⟨p, q, _, rfl, rfl, W1.st, Sm.small (by omega) (by omega), fun r H2 a0 a1 S2 B2 => ?_⟩
    have c2 := c1.st W1 (W1.draws S2 B2)
    have W2 := W1.draw S2 B2
    k_extra "rd"
    refine for_range (lo := 0) (n := r.toNat) (fun i σ H' => ∃ (us : List Str) (y z : Option V), σ = [some (.ref p), some (.ref l), some (.int n), some (.ref o), y, z] ∧ Wr Nil H Nil H' p q ∧ Ow H Nil H' o (.lst (us.map V.str)) ∧ us.length ≤ i ∧ (∀ u ∈ us, u ∈ ts) ∧ us.Nodup) ⟨[], _, _, rfl, W2, c2, Nat.le_refl _, (fun _ z => by cases z), List.nodup_nil⟩ ?_ ?_
    · rintro i σ H3 hi ⟨us, y, z, rfl, W3, c3, u1, u2, u3⟩
      have hl3 := W3.up.but _ _ hl (by simpa using lp)
      k_extra "rd"
      rw [List.length_map]
      k_extra "rd"
      refine ⟨p, q, _, rfl, rfl, W3.st, Sm.small (by omega) (by omega), fun r2 H4 b0 b1 S4 B4 => ?_⟩
      have c4 := c3.st W3 (W3.draws S4 B4)
      have W4 := W3.draw S4 B4
      have hl4 := W4.up.but _ _ hl (by simpa using lp)
      obtain ⟨u, hu, au⟩ := atI_strs (ts := ts) b0 (by omega)
      refine ⟨_, _, _, _, rfl, rfl, SqL.of hl4, au, ?_⟩
      k_extra "rd"
      refine ⟨o, _, rfl, .inl (SqL.of c4.at_), rfl, flat_strs, ?_⟩
      rw [inV_str]
      k_extra "rd"
      refine iteN (fun c => ?_) (fun c => ?_)
      · k_extra "rd"
        refine ⟨.inl ⟨rfl, _, SqL.of c4.at_⟩, ?_⟩
        k_extra "rd"
        refine ⟨o, _, _, rfl, rfl, c4.at_, szlt (by rw [List.length_map]; omega), ?_⟩
        obtain ⟨-, W5, c5⟩ := W4.put c4 (.lst (us.map V.str ++ [.str u]))
        rw [strs_snoc] at c5 W5 ⊢
        exact ⟨us ++ [u], _, _, rfl, W5, c5, by rw [List.length_append]; exact Nat.succ_le_succ u1, fun v hv => (List.mem_append.mp hv).elim (u2 v) fun h => by rw [List.mem_singleton.mp h]; exact hu, List.nodup_append.mpr ⟨u3, List.pairwise_singleton _ _, fun a ha b hb => by (rw [List.mem_singleton] at hb; exact fun z => c (by rw [← hb, ← z]; exact ha))⟩⟩
      · exact ⟨us, _, _, rfl, W4, c4, Nat.le_succ_of_le u1, u2, u3⟩
    · rintro σ H3 ⟨us, y, z, rfl, W3, c3, u1, u2, u3⟩
      k_extra "rd"
      exact k o us H3 ho c3.at_ (by omega) u2 u3 W3.st W3.up.but
def sp_law_entries : Sp := sp2 fun a b H Q _ => ∃ (p q l : Addr) (ts : List Str), a = .ref p ∧ b = .ref l ∧ StA H p q ∧ H l = some (.lst (ts.map V.str)) ∧ 1 ≤ ts.length ∧ ts.length ≤ 24 ∧ (∀ t ∈ ts, Tx 30 t) ∧ ∀ (e : Addr) (vs : List V) (es : List Ent) H', H e = none → StA H' p q → But [p] H H' → (∀ G, Nw H H' G → EnsA G e vs es) → EnOk es → (∀ e ∈ es, e.t ∈ ts ∧ (∀ u ∈ e.acc, u ∈ ts) ∧ e.acc.Nodup) → Q (.ref e) H'
theorem ok_law_entries {f : Addr} {fd : FuncData} (F : Fun K "_law_entries" "_law_entries" s_law_entries f fd) (T : Txt K mg CS CI CT CP CM CK CU CC CN CE CA CH CB) (D_law_draw : Df P w K mg base 1 "_law_draw" s_law_draw ["state", "limit"] sp_law_draw) (D_law_weight : Df P w K mg base 3 "_law_weight" s_law_weight ["state", "kind"] sp_law_weight) (D_law_some : Df P w K mg base 2 "_law_some" s_law_some ["state", "pool", "most"] sp_law_some) : FnOk P w K mg base (L2.CX P w) 4 f fd ["state", "pool"] sp_law_entries := by
  have nd := sc_law_entries.nd
  refine F.okX sc_law_entries (fun vs H Q E h => ?_) (fun cdv A outer s H vs Q E hr h => ?_)
  · obtain ⟨_, _, rfl, _⟩ := h
    rfl
  · obtain ⟨_, _, rfl, p, q, l, ts, rfl, rfl, hS, hl, t1, t2, tx, k⟩ := h
    refine ⟨_, (pss_cons (ps_set (i := 2) nd rfl (Or.inl rfl) (pe_op op_add pe_int (pe_d D_law_draw hr (by decide) (by rfl) passL (pa_cons (pv 0) (pa_cons pe_int pa_nil)))))
(pss_mid (ps_if (pt_cmpR op_eq (pe_d D_law_draw hr (by decide) (by rfl) passL (pa_cons (pv 0) (pa_cons pe_int pa_nil))) pe_int (nomark _))
(pss_one (ps_set (i := 2) nd rfl (Or.inl rfl) (pe_op op_add pe_int (pe_d D_law_draw hr (by decide) (by rfl) passL (pa_cons (pv 0) (pa_cons pe_int pa_nil))))))
pss_nil)
(pss_cons (ps_set (i := 3) nd rfl (Or.inl rfl) (pe_d D_law_draw hr (by decide) (by rfl) passL (pa_cons (pv 0) (pa_cons pe_int pa_nil))))
(pss_cons (ps_set (i := 4) nd rfl (Or.inl rfl) (pe_ix ix_list (pe_lst (pa_cons pe_int (pa_cons pe_int (pa_cons (pe_callB call_len_seq (by rfl) T.len (by decide +kernel) (pa_cons (pv 1) pa_nil)) pa_nil)))) (pe_d D_law_draw hr (by decide) (by rfl) passL (pa_cons (pv 0) (pa_cons pe_int pa_nil))) (fun _ _ => rfl)))
(pss_cons (ps_set (i := 5) nd rfl (Or.inl rfl) (pe_lst pa_nil))
(pss_cons (ps_for (passes_of rfl) rfl (pi_range1 (by rfl) T.range (pa_cons (pv 2) pa_nil)) (pg_name (i := 6) nd rfl (Or.inl rfl))
(pss_cons (ps_set (i := 7) nd rfl (Or.inl rfl) (pe_ix ix_list (pv 1) (pe_d D_law_draw hr (by decide) (by rfl) passL (pa_cons (pv 0) (pa_cons (pe_callB call_len_seq (by rfl) T.len (by decide +kernel) (pa_cons (pv 1) pa_nil)) pa_nil))) (fun _ _ => rfl)))
(pss_one (ps_expr (pe_bm PySem.F.plainAttrs_list PySem.F.slot_list_append PySem.F.type_list_append mt_append (pv 5) (pa_cons (pe_tup (pa_cons (pe_d D_law_weight hr (by decide) (by rfl) passL (pa_cons (pv 0) (pa_cons (pv 3) pa_nil))) (pa_cons (pv 7) (pa_cons (pe_d D_law_some hr (by decide) (by rfl) passL (pa_cons (pv 0) (pa_cons (pv 1) (pa_cons (pv 4) pa_nil)))) pa_nil)))) pa_nil))))))
(pss_one (ps_ret (pv 5))))))))), ?_⟩
    have lp := ne_strs hS hl
    have W := Wr.start hS
    k_extra "rd"
    refine ⟨p, q, 6, rfl, rfl, W.st, Sm.lit (by decide), fun r1 H1 a0 a1 S1 B1 => ?_⟩
    have W1 := W.draw S1 B1
    clear S1 B1
    k_extra "rd"
    refine ⟨fun σ H' => ∃ m, σ = [some (.ref p), some (.ref l), some (.int m), none, none, none, none, none] ∧ 1 ≤ m ∧ m ≤ 60 ∧ Wr Nil H Nil H' p q, ?_, ?_⟩
    · k_extra "rd"
      refine ⟨p, q, 8, rfl, rfl, W1.st, Sm.lit (by decide), fun r2 H2 b0 b1 S2 B2 => ?_⟩
      have W2 := W1.draw S2 B2
      k_extra "rd"
      refine iteD (fun c => ?_) (fun c => ?_)
      · k_extra "rd"
        refine ⟨p, q, 60, rfl, rfl, W2.st, Sm.lit (by decide), fun r3 H3 c0 c1 S3 B3 => ?_⟩
        have W3 := W2.draw S3 B3
        k_extra "rd"
        first | exact W3 | exact ⟨_, rfl, by omega, by omega, W3⟩
      · exact ⟨_, rfl, by omega, by omega, W2⟩
    clear W1
    rintro σ H2 ⟨m, rfl, m0, m1, W2⟩
    k_extra "rd"
    refine ⟨p, q, 8, rfl, rfl, W2.st, Sm.lit (by decide), fun kd H3 _ _ S3 B3 => ?_⟩
    have W3 := W2.draw S3 B3
    have hl3 := W3.up.but _ _ hl (by simpa using lp)
    clear S3 B3
    k_extra "rd"
    rw [List.length_map]
    intro x hx
    obtain ⟨-, W4, c4⟩ := W3.begin hx (.lst [.int 2, .int 4, .int (ts.length : Nat)])
    generalize upd H3 x _ = H4 at *
    k_extra "rd"
    refine ⟨p, q, 3, rfl, rfl, W4.st, Sm.lit (by decide), fun r5 H5 d0 d1 S5 B5 => ?_⟩
    have c5 := c4.st W4 (W4.draws S5 B5)
    have W5 := W4.draw S5 B5
    clear S5 B5
    obtain ⟨mo, am, mo0, mo1⟩ : ∃ mo : Int, atI [V.int 2, V.int 4, V.int (ts.length : Nat)] r5 = some (.int mo) ∧ 0 ≤ mo ∧ mo ≤ 24 := by
      have : r5 = 0 ∨ r5 = 1 ∨ r5 = 2 := by omega
      rcases this with rfl | rfl | rfl
      · exact ⟨2, rfl, by omega, by omega⟩
      · exact ⟨4, rfl, by omega, by omega⟩
      · exact ⟨(ts.length : Nat), rfl, by omega, by omega⟩
    refine ⟨_, _, _, _, rfl, rfl, SqL.of c5.at_, am, ?_⟩
    k_extra "rd"
    intro e he
    obtain ⟨-, W6, c6⟩ := W5.begin he (.lst [])
    generalize upd H5 e (.lst []) = H6 at *
    clear c4 c5 am
    k_extra "rd"
    refine for_range (lo := 0) (n := m.toNat) (fun i σ H' => ∃ (F' : Hp) (vs : List V) (es : List Ent) (y z : Option V), σ = [some (.ref p), some (.ref l), some (.int m), some (.int kd), some (.int mo), some (.ref e), y, z] ∧ Wr Nil H F' H' p q ∧ Ow H F' H' e (.lst vs) ∧ Each (EnR F') es vs ∧ es.length = i ∧ (∀ e ∈ es, (1 ≤ e.w ∧ e.w ≤ 10 ^ 40 ∧ Tx 30 e.t ∧ e.acc.length ≤ 30 ∧ ∀ u ∈ e.acc, Tx 30 u) ∧ e.t ∈ ts ∧ (∀ u ∈ e.acc, u ∈ ts) ∧ e.acc.Nodup)) ⟨Nil, [], [], _, _, rfl, W6, c6, Each.nil, rfl, fun _ z => by cases z⟩ ?_ ?_
    · rintro i σ H7 hi ⟨F7, vs, es, y, z, rfl, W7, c7, h7, l7, ok7⟩
      have hl7 := W7.up.but _ _ hl (by simpa using lp)
      k_extra "rd"
      rw [List.length_map]
      k_extra "rd"
      refine ⟨p, q, _, rfl, rfl, W7.st, Sm.small (by omega) (by omega), fun r2 H8 b0 b1 S8 B8 => ?_⟩
      have c8 := c7.st W7 (W7.draws S8 B8)
      have W8 := W7.draw S8 B8
      have hl8 := W8.up.but _ _ hl (by simpa using lp)
      clear S8 B8
      obtain ⟨u, hu, au⟩ := atI_strs (ts := ts) b0 (by omega)
      refine ⟨_, _, _, _, rfl, rfl, SqL.of hl8, au, ?_⟩
      k_extra "rd"
      refine ⟨.inl ⟨rfl, _, SqL.of c8.at_⟩, ?_⟩
      k_extra "rd"
      refine ⟨p, q, kd, rfl, rfl, W8.st, fun wt H9 w0 w1 S9 B9 => ?_⟩
      have c9 := c8.st W8 (W8.draws S9 B9)
      have W9 := W8.draw S9 B9
      have hl9 := W9.up.but _ _ hl (by simpa using lp)
      clear S9 B9
      k_extra "rd"
      refine ⟨_, _, _, rfl, p, q, l, ts, mo, rfl, rfl, rfl, W9.st, hl9, t1, t2, mo0, mo1, fun c us Ha hc hca u1 u2 u3 Sa Ba => ?_⟩
      obtain ⟨Fa, ua, Wa, na⟩ := W9.take Sa Ba
      have ca := c9.st W9 ua
      have fc := (na _ hc).trans hca
      clear Sa Ba na
      k_extra "rd"
      intro x8 hx8
      obtain ⟨ub, Wb, fb⟩ := Wa.new hx8 (.tup [.int wt, .str u, .ref c])
      have cb := ca.st Wa ub
      have fcb := ub.at fc
      have s7b := ua.sub.trans ub.sub
      generalize upd Ha x8 (.tup [.int wt, .str u, .ref c]) = Hb at *
      generalize upd Fa x8 (.tup [.int wt, .str u, .ref c]) = Fb at *
      refine ⟨e, _, _, rfl, rfl, cb.at_, szlt (by rw [h7.1, l7]; omega), ?_⟩
      obtain ⟨-, Wc, cc⟩ := Wb.put cb (.lst (vs ++ [.ref x8]))
      refine ⟨Fb, _, es ++ [⟨wt, u, us⟩], _, _, rfl, Wc, cc, (h7.mono fun _ _ => EnR.fz s7b).snoc ⟨x8, c, rfl, fb, fcb⟩, by rw [List.length_append, l7]; rfl, fun en hen => ?_⟩
      rcases List.mem_append.mp hen with h | h
      · exact ok7 en h
      · rw [List.mem_singleton.mp h]
        exact ⟨⟨w0, w1, tx u hu, Nat.le_trans u1 (by decide), fun v hv => tx v (u2 v hv)⟩, hu, u2, u3⟩
    · rintro σ H7 ⟨F7, vs, es, y, z, rfl, W7, c7, h7, l7, ok7⟩
      k_extra "rd"
      obtain ⟨W8, s8, e8⟩ := W7.keep c7
      refine k e vs es H7 c7.new W7.st W7.up.but (fun G n => ?_) ⟨by omega, by omega, fun en h => (ok7 en h).1⟩ fun en h => (ok7 en h).2
      have fz := W8.up.nw n
      exact ⟨fz _ _ e8, h7.mono fun _ _ => EnR.fz (s8.trans fz)⟩
def sp_law_at : Sp := sp2 fun a b H Q _ => ∃ (e : Addr) (vs : List V) (es : List Ent) (n : Int), a = .ref e ∧ b = .int n ∧ EnsA H e vs es ∧ (∀ e ∈ es, 1 ≤ e.w) ∧ es.length ≤ 60 ∧ 0 ≤ n ∧ n < wsum es ∧ Q (.int (blk (es.map (fun e : Ent => e.w)) n).1) H
theorem ok_law_at {f : Addr} {fd : FuncData} (F : Fun K "_law_at" "_law_at" s_law_at f fd) (T : Txt K mg CS CI CT CP CM CK CU CC CN CE CA CH CB)  : FnOk P w K mg base (L2.CX P w) 1 f fd ["entries", "number"] sp_law_at := by
  have nd := sc_law_at.nd
  refine F.okX sc_law_at (fun vs H Q E h => ?_) (fun cdv A outer s H vs Q E hr h => ?_)
  · obtain ⟨_, _, rfl, _⟩ := h
    rfl
  · obtain ⟨_, _, rfl, e, vs, es, n, rfl, rfl, E1, ok, h60, n0, n1, k⟩ := h
    refine ⟨_, (pss_cons (ps_for (passes_of rfl) rfl (pi_range1 (by rfl) T.range (pa_cons (pe_callB call_len_seq (by rfl) T.len (by decide +kernel) (pa_cons (pv 0) pa_nil)) pa_nil)) (pg_name (i := 2) nd rfl (Or.inl rfl))
(pss_cons (ps_if (pt_cmpR op_lt (pv 1) (pe_ix ix_tup (pe_ix ix_list (pv 0) (pv 2) (fun _ _ => rfl)) pe_int (fun _ _ => rfl)) (nomark _))
(pss_one (ps_ret (pv 2)))
pss_nil)
(pss_one (ps_set (i := 1) nd rfl (Or.inl rfl) (pe_op op_sub (pv 1) (pe_ix ix_tup (pe_ix ix_list (pv 0) (pv 2) (fun _ _ => rfl)) pe_int (fun _ _ => rfl)))))))
(pss_one (ps_ret (pe_op op_sub pe_int pe_int)))), ?_⟩
    have hv := E1.it.1
    k_extra "rd"
    refine ⟨e, _, rfl, .inl (SqL.of E1.at_), ?_⟩
    rw [hv]
    k_extra "rd"
    refine for_range (lo := 0) (n := es.length) (fun i σ H' => ∃ (left : Int) (y : Option V), σ = [some (.ref e), some (.int left), y] ∧ H' = H ∧ blk (es.map (fun e : Ent => e.w)) n = (i + (blk ((es.map (fun e : Ent => e.w)).drop i) left).1, (blk ((es.map (fun e : Ent => e.w)).drop i) left).2) ∧ 0 ≤ left ∧ left < ((es.map (fun e : Ent => e.w)).drop i).sum) ⟨n, _, rfl, rfl, by rw [List.drop_zero, Nat.zero_add], n0, by rw [List.drop_zero]; exact n1⟩ ?_ ?_
    · rintro i σ H2 hi ⟨left, y, rfl, rfl, eq, l0, l1⟩
      have hen : es[i]? = some es[i] := List.getElem?_eq_getElem hi
      obtain ⟨v, hvi, a, c, rfl, ha, _⟩ := E1.it.get hen
      have dj : (es.map (fun e : Ent => e.w)).drop i = es[i].w :: (es.map (fun e : Ent => e.w)).drop (i + 1) := by
        rw [List.drop_eq_getElem_cons (by rw [List.length_map]; exact hi), List.getElem_map]
      have pj := ok _ (List.getElem_mem hi)
      rw [dj] at eq l1
      have ai : atI vs (0 + (i : Int)) = some (.ref a) := by rw [Int.zero_add]; exact atI_nat hvi
      k_extra "rd"
      refine ⟨_, _, _, _, rfl, rfl, SqL.of E1.at_, ai, ?_⟩
      k_extra "rd"
      refine ⟨_, _, _, _, rfl, rfl, SqT.of ha, rfl, ?_⟩
      k_extra "rd"
      refine iteD (fun c => ?_) (fun c => ?_)
      · k_extra "rd"
        rw [eq, blk, if_pos c] at k
        rw [Int.zero_add]
        exact k
      · k_extra "rd"
        refine ⟨_, _, _, _, rfl, rfl, SqL.of E1.at_, ai, ?_⟩
        k_extra "rd"
        refine ⟨_, _, _, _, rfl, rfl, SqT.of ha, rfl, ?_⟩
        k_extra "rd"
        refine ⟨?_, by omega, by rw [List.sum_cons] at l1; omega⟩
        rw [eq, blk, if_neg c]
        refine Prod.ext ?_ rfl
        show i + ((blk _ (left - es[i].w)).1 + 1) = i + 1 + (blk _ (left - es[i].w)).1
        omega
    · rintro σ H2 ⟨left, y, rfl, rfl, eq, l0, l1⟩
      rw [List.drop_eq_nil_of_le (by rw [List.length_map]; exact Nat.le_refl _), List.sum_nil] at l1
      omega
def sp_law_numbers : Sp := sp3 fun a b c H Q _ => ∃ (p q e : Addr) (vs : List V) (es : List Ent), a = .ref p ∧ b = .ref e ∧ c = .int (wsum es) ∧ StA H p q ∧ EnsA H e vs es ∧ e ≠ p ∧ (∀ v ∈ vs, v ≠ .ref p) ∧ EnOk es ∧ ∀ (l : Addr) (ns : List Int) H', H l = none → H' l = some (.lst (ns.map V.int)) → (∀ n ∈ ns, 0 ≤ n ∧ n < wsum es) → 1 ≤ ns.length → ns.length ≤ 200 → StA H' p q → But [p] H H' → Q (.ref l) H'
theorem ok_law_numbers {f : Addr} {fd : FuncData} (F : Fun K "_law_numbers" "_law_numbers" s_law_numbers f fd) (T : Txt K mg CS CI CT CP CM CK CU CC CN CE CA CH CB) (D_law_wide : Df P w K mg base 2 "_law_wide" s_law_wide ["state"] sp_law_wide) : FnOk P w K mg base (L2.CX P w) 3 f fd ["state", "entries", "whole"] sp_law_numbers := by
  have nd := sc_law_numbers.nd
  refine F.okX sc_law_numbers (fun vs H Q E h => ?_) (fun cdv A outer s H vs Q E hr h => ?_)
  · obtain ⟨_, _, _, rfl, _⟩ := h
    rfl
  · obtain ⟨_, _, _, rfl, p, q, e, vs, es, rfl, rfl, rfl, hS, E1, ep, vp, ok, k⟩ := h
    refine ⟨_, (pss_cons (ps_if (pt_cmpR op_le (pv 2) pe_int (nomark _))
(pss_one (ps_ret (pe_listRg rfl (by rfl) T.list (prg_1 (by rfl) T.range (pv 2)))))
pss_nil)
(pss_cons (ps_set (i := 3) nd rfl (Or.inl rfl) (pe_lst pa_nil))
(pss_cons (ps_set (i := 4) nd rfl (Or.inl rfl) pe_int)
(pss_cons (ps_for (passes_of rfl) rfl (pi_list (pv 1)) (pg_tup (n := 3) rfl (pgs_cons (pg_name (i := 5) nd rfl (Or.inl rfl)) (pgs_cons (pg_name (i := 6) nd rfl (Or.inl rfl)) (pgs_cons (pg_name (i := 7) nd rfl (Or.inl rfl)) pgs_nil))))
(pss_cons (ps_expr (pe_bm PySem.F.plainAttrs_list PySem.F.slot_list_append PySem.F.type_list_append mt_append (pv 3) (pa_cons (pv 4) pa_nil)))
(pss_cons (ps_expr (pe_bm PySem.F.plainAttrs_list PySem.F.slot_list_append PySem.F.type_list_append mt_append (pv 3) (pa_cons (pe_op op_sub (pe_op op_add (pv 4) (pv 5)) pe_int) pa_nil)))
(pss_one (ps_set (i := 4) nd rfl (Or.inl rfl) (pe_op op_add (pv 4) (pv 5)))))))
(pss_cons (ps_for (passes_of rfl) rfl (pi_range1 (by rfl) T.range (pa_cons pe_int pa_nil)) (pg_name (i := 8) nd rfl (Or.inl rfl))
(pss_one (ps_expr (pe_bm PySem.F.plainAttrs_list PySem.F.slot_list_append PySem.F.type_list_append mt_append (pv 3) (pa_cons (pe_op op_modN (pe_callTy call_int1 (by rfl) T.int (by decide +kernel) (pa_cons (pe_d D_law_wide hr (by decide) (by rfl) passL (pa_cons (pv 0) pa_nil)) pa_nil)) (pv 2)) pa_nil)))))
(pss_one (ps_ret (pv 3)))))))), ?_⟩
    obtain ⟨s1, s2⟩ := ok.sum
    have h60 := ok.len
    have pos : ∀ e ∈ es, 1 ≤ e.w := fun e he => (ok.each e he).1
    generalize hw : wsum es = W at *
    k_extra "rd"
    refine iteD (fun c => ?_) (fun c => ?_)
    · k_extra "rd"
      refine (show RgOk 0 W ∧ _ from ⟨RgOk.of_le (by omega) (by omega) (by omega) (by omega), fun l hl => ?_⟩)
      rw [rgV_ints]
      refine k l (rgI W.toNat) _ hl upd_same (fun n hn => ?_) (by rw [rgI_len]; omega) (by rw [rgI_len]; omega) (hS.but (But.new (S := []) hl) (by simp) (by simp)) (But.new hl)
      have := rgI_mem hn
      omega
    k_extra "rd"
    intro l hl
    have W0 := Wr.start hS
    obtain ⟨-, W1, c1⟩ := W0.begin hl (.lst [])
    generalize upd H l (.lst []) = H1 at *
    k_extra "rd"
    have he1 := W1.up.but _ _ E1.at_ (by simpa using ep)
    refine ⟨⟨_, SqL.of he1⟩, for_list (K := K) (a := e) (xs := vs) (fun i σ H2 => ∃ (ns : List Int) (y z u x : Option V), σ = [some (.ref p), some (.ref e), some (.int W), some (.ref l), some (.int (wsum (es.take i))), y, z, u, x] ∧ Wr Nil H Nil H2 p q ∧ Ow H Nil H2 l (.lst (ns.map V.int)) ∧ (∀ n ∈ ns, 0 ≤ n ∧ n < W) ∧ ns.length = 2 * i) ⟨[], _, _, _, _, rfl, W1, c1, (fun _ z => by cases z), rfl⟩ (fun i σ H2 _ ⟨_, _, _, _, _, _, w2, _⟩ => SqL.of (w2.up.but _ _ E1.at_ (by simpa using ep))) ?_ ?_⟩
    · rintro i x σ H2 hx ⟨ns, y, z, u, x2, rfl, W2, c2, b2, l2⟩
      obtain ⟨en, hen, a, c, rfl, ha, _⟩ := E1.it.back hx
      have ap : a ≠ p := fun z => vp _ (List.mem_of_getElem? hx) (by rw [z])
      have ha2 := W2.up.but _ _ ha (by simpa using ap)
      have w1 := wsum_take hen
      have w2 := (wsum_le pos i).1
      have w3 := (wsum_le pos (i + 1)).2
      have w4 := pos en (List.mem_of_getElem? hen)
      have il := lt_of_at hen
      rw [hw] at w3
      refine ⟨a, _, rfl, SqT.of ha2, rfl, ?_⟩
      k_extra "rd"
      refine ⟨.inl ⟨rfl, _, SqL.of c2.at_⟩, ?_⟩
      k_extra "rd"
      refine ⟨l, _, _, rfl, rfl, c2.at_, szlt (by rw [List.length_map]; omega), ?_⟩
      obtain ⟨-, W3, c3⟩ := W2.put c2 (.lst (ns.map V.int ++ [.int (wsum (es.take i))]))
      rw [ints_snoc] at W3 c3 ⊢
      generalize upd H2 l _ = H3 at *
      k_extra "rd"
      refine ⟨.inl ⟨rfl, _, SqL.of c3.at_⟩, ?_⟩
      k_extra "rd"
      refine ⟨l, _, _, rfl, rfl, c3.at_, szlt (by rw [List.length_map, List.length_append]; exact Nat.le_trans (Nat.add_le_add_right (show ns.length ≤ 200 by omega) _) (show 200 + 1 ≤ 1000 by decide)), ?_⟩
      obtain ⟨-, W4, c4⟩ := W3.put c3 (.lst ((ns ++ [wsum (es.take i)]).map V.int ++ [.int (wsum (es.take i) + en.w - 1)]))
      rw [ints_snoc] at W4 c4 ⊢
      generalize upd H3 l _ = H4 at *
      k_extra "rd"
      refine ⟨_, _, _, _, _, by rw [w1]; rfl, W4, c4, fun n hn => ?_, by rw [List.length_append, List.length_append, l2]; simp only [List.length_singleton]; omega⟩
      rcases List.mem_append.mp hn with h | h
      · rcases List.mem_append.mp h with h | h
        · exact b2 n h
        · rw [List.mem_singleton.mp h]; omega
      · rw [List.mem_singleton.mp h]; omega
    · rintro σ H2 ⟨ns, y, z, u, x2, rfl, W2, c2, b2, l2⟩
      rw [E1.it.1] at l2
      have h1 := ok.pos
      k_extra "rd"
      refine for_range (lo := 0) (n := 6) (fun i σ H3 => ∃ (ns : List Int) (f y z u x : Option V), σ = [some (.ref p), some (.ref e), some (.int W), some (.ref l), f, y, z, u, x] ∧ Wr Nil H Nil H3 p q ∧ Ow H Nil H3 l (.lst (ns.map V.int)) ∧ (∀ n ∈ ns, 0 ≤ n ∧ n < W) ∧ 1 ≤ ns.length ∧ ns.length ≤ 120 + i) ⟨ns, _, _, _, _, _, rfl, W2, c2, b2, by omega, by omega⟩ ?_ ?_
      · rintro i σ H3 hi ⟨ns, f, y, z, u, x, rfl, W3, c3, b3, l3, l4⟩
        k_extra "rd"
        refine ⟨.inl ⟨rfl, _, SqL.of c3.at_⟩, ?_⟩
        k_extra "rd"
        refine ⟨p, q, rfl, W3.st, fun r H4 r0 r1 S4 B4 => ?_⟩
        have c4 := c3.st W3 (W3.draws S4 B4)
        have W4 := W3.draw S4 B4
        have rb := fmod_bd (a := r) (b := W) (by omega)
        k_extra "rd"
        refine ⟨l, _, _, rfl, rfl, c4.at_, szlt (by rw [List.length_map]; omega), ?_⟩
        obtain ⟨-, W5, c5⟩ := W4.put c4 (.lst (ns.map V.int ++ [.int (Int.fmod r W)]))
        rw [ints_snoc] at W5 c5 ⊢
        refine ⟨_, _, _, _, _, _, rfl, W5, c5, fun n hn => ?_, by rw [List.length_append]; exact Nat.le_add_left _ _, by rw [List.length_append]; exact Nat.succ_le_succ l4⟩
        rcases List.mem_append.mp hn with h | h
        · exact b3 n h
        · rw [List.mem_singleton.mp h]; exact rb
      · rintro σ H3 ⟨ns, f, y, z, u, x, rfl, W3, c3, b3, l3, l4⟩
        k_extra "rd"
        exact k l ns H3 c3.new c3.at_ b3 l3 (by omega) W3.st W3.up.but
def sp_law_keys_are (CM : Addr) : Sp := sp3 fun a b c H Q _ => ∃ (m t e l : Addr) (ws vs : List V) (es : List Ent) (ns : List Int), a = .ref m ∧ b = .ref e ∧ c = .ref l ∧ MarkA CM H m t ws es ∧ EnsA H e vs es ∧ EnOk es ∧ H l = some (.lst (ns.map V.int)) ∧ (∀ n ∈ ns, 0 ≤ n ∧ n < wsum es) ∧ ∀ H', But [] H H' → Q (.bl true) H'
theorem ok_law_keys_are {f : Addr} {fd : FuncData} (F : Fun K "_law_keys_are" "_law_keys_are" s_law_keys_are f fd) (T : Txt K mg CS CI CT CP CM CK CU CC CN CE CA CH CB) (D_Marking_key_of : Dm P w K mg base 3 CM "key_of" "Marking.key_of" s_Marking_key_of ["self", "number"] (sp_Marking_key_of CM)) (D_law_integer : Df P w K mg base 1 "_law_integer" s_law_integer ["value"] sp_law_integer) (D_law_at : Df P w K mg base 1 "_law_at" s_law_at ["entries", "number"] sp_law_at) : FnOk P w K mg base (L2.CX P w) 4 f fd ["marking", "entries", "numbers"] (sp_law_keys_are CM) := by
  have nd := sc_law_keys_are.nd
  refine F.okX sc_law_keys_are (fun vs H Q E h => ?_) (fun cdv A outer s H vs Q E hr h => ?_)
  · obtain ⟨_, _, _, rfl, _⟩ := h
    rfl
  · obtain ⟨_, _, _, rfl, m, t, e, l, ws, vs, es, ns, rfl, rfl, rfl, M, E1, ok, hl, bd, k⟩ := h
    refine ⟨_, (pss_cons (ps_for (passes_of rfl) rfl (pi_list (pv 2)) (pg_name (i := 3) nd rfl (Or.inl rfl))
(pss_cons (ps_set (i := 4) nd rfl (Or.inl rfl) (pe_m D_Marking_key_of hr (by decide) passL (pv 0) (pa_cons (pv 3) pa_nil)))
(pss_one (ps_if (PW.pt (pw_or (pt_not (pt_val (pe_d D_law_integer hr (by decide) (by rfl) passL (pa_cons (pv 4) pa_nil)))) (pw_or1 (pt_cmpR op_ne (pv 4) (pe_d D_law_at hr (by decide) (by rfl) passL (pa_cons (pv 1) (pa_cons (pv 3) pa_nil))) (nomark _)))))
(pss_one (ps_ret pe_bl))
pss_nil))))
(pss_one (ps_ret pe_bl))), ?_⟩
    have pos : ∀ e ∈ es, 1 ≤ e.w := fun e he => (ok.each e he).1
    refine ⟨_, rfl, l, rfl, ⟨_, SqL.of hl⟩, for_list (K := K) (a := l) (xs := ns.map V.int) (fun i σ H2 => ∃ (y z : Option V), σ = [some (.ref m), some (.ref e), some (.ref l), y, z] ∧ But [] H H2) ⟨_, _, rfl, But.refl _ _⟩ (fun i σ H2 _ ⟨_, _, _, b⟩ => SqL.of (b _ _ hl (by simp))) ?_ ?_⟩
    · rintro i x σ H2 hx ⟨y, z, rfl, B2⟩
      obtain ⟨n, hn, rfl⟩ := map_at hx
      obtain ⟨n0, n1⟩ := bd n (List.mem_of_getElem? hn)
      obtain ⟨dx, em⟩ := M.at_
      have M2 := M.fz (fun a o e => B2 a o e (by simp))
      have E2 := E1.fz (fun a o e => B2 a o e (by simp))
      k_extra "rd"
      refine ⟨m, dx, _, rfl, B2 _ _ em (by simp), (by first | rfl | decide +kernel), _, rfl, _, _, rfl, m, t, ws, es, n, rfl, rfl, M2, pos, ok.len, n0, n1, fun H3 B3 => ?_⟩
      have E3 := E2.fz (fun a o e => B3 a o e (by simp))
      k_extra "rd"
      refine ⟨e, vs, es, n, rfl, rfl, E3, pos, ok.len, n0, n1, ?_⟩
      k_extra "rd"
      refine iteN (fun z => absurd rfl z) (fun _ => ?_)
      exact ⟨_, _, rfl, B2.trans B3⟩
    · rintro σ H2 ⟨y, z, rfl, B2⟩
      k_extra "rd"
      exact k H2 B2
theorem cut_strs {ts : List Str} {lo hi : Option Int} {x : V} (h : x ∈ cutV (ts.map V.str) lo hi) : ∃ t, x = .str t := by
  unfold cutV at h
  obtain ⟨t, _, rfl⟩ := List.mem_map.mp (List.mem_of_mem_drop (List.mem_of_mem_take h))
  exact ⟨t, rfl⟩
def sp_law_counted (CM : Addr) : Sp := sp4 fun a b c d H Q _ => ∃ (m t e l : Addr) (ws vs : List V) (es : List Ent) (ts : List Str), a = .ref m ∧ b = .ref e ∧ c = .ref l ∧ d = .int (wsum es) ∧ MarkA CM H m t ws es ∧ EnsA H e vs es ∧ EnOk es ∧ wsum es ≤ 40 ∧ H l = some (.lst (ts.map V.str)) ∧ ∀ H', But [] H H' → Q (.bl true) H'
theorem ok_law_counted {f : Addr} {fd : FuncData} (F : Fun K "_law_counted" "_law_counted" s_law_counted f fd) (T : Txt K mg CS CI CT CP CM CK CU CC CN CE CA CH CB) (D_Marking_key_of : Dm P w K mg base 3 CM "key_of" "Marking.key_of" s_Marking_key_of ["self", "number"] (sp_Marking_key_of CM)) (D_Marking_write : Dm P w K mg base 4 CM "write" "Marking.write" s_Marking_write ["self", "key"] (sp_Marking_write CM)) (D_Marking_accuses : Dm P w K mg base 4 CM "accuses" "Marking.accuses" s_Marking_accuses ["self", "key", "text"] (sp_Marking_accuses CM)) : FnOk P w K mg base (L2.CX P w) 5 f fd ["marking", "entries", "pool", "whole"] (sp_law_counted CM) := by
  have nd := sc_law_counted.nd
  refine F.okX sc_law_counted (fun vs H Q E h => ?_) (fun cdv A outer s H vs Q E hr h => ?_)
  · obtain ⟨_, _, _, _, rfl, _⟩ := h
    rfl
  · obtain ⟨_, _, _, _, rfl, m, t, e, l, ws, vs, es, ts, rfl, rfl, rfl, rfl, M, E1, ok, w40, hl, k⟩ := h
    refine ⟨_, (pss_cons (ps_for (passes_of rfl) rfl (pi_list (pe_slice sl_list (pv 2) po_none (po_some pe_int))) (pg_name (i := 4) nd rfl (Or.inr rfl))
(pss_cons (ps_set (i := 5) nd rfl (Or.inl rfl) pe_int)
(pss_cons (ps_set (i := 6) nd rfl (Or.inl rfl) pe_int)
(pss_cons (ps_for (passes_of rfl) rfl (pi_range1 (by rfl) T.range (pa_cons (pe_callB (call_min2 rfl) (by rfl) T.min (by decide +kernel) (pa_cons (pv 3) (pa_cons pe_int pa_nil))) pa_nil)) (pg_name (i := 7) nd rfl (Or.inl rfl))
(pss_cons (ps_set (i := 8) nd rfl (Or.inl rfl) (pe_m D_Marking_key_of hr (by decide) passL (pv 0) (pa_cons (pv 7) pa_nil)))
(pss_cons (ps_if (pt_cmpR op_eq (pe_m D_Marking_write hr (by decide) passL (pv 0) (pa_cons (pv 8) pa_nil)) (pv 4) (nomark _))
(pss_one (ps_set (i := 5) nd rfl (Or.inl rfl) (pe_op op_add (pv 5) pe_int)))
pss_nil)
(pss_one (ps_if (pt_val (pe_m D_Marking_accuses hr (by decide) passL (pv 0) (pa_cons (pv 8) (pa_cons (pv 4) pa_nil))))
(pss_one (ps_set (i := 6) nd rfl (Or.inl rfl) (pe_op op_add (pv 6) pe_int)))
pss_nil)))))
(pss_cons (ps_if (pt_cmpR op_ne (pv 5) (pe_callB (cr_sum rfl) (by rfl) T.sum (by decide +kernel) (pa_cons (pe_lc (own := [("entry", 9)]) (g := gName 9) (by rfl) nd (pi_list (pv 1)) (blkOk_by (N := ["marking", "entries", "pool", "whole", "text", "written", "accused", "number", "key", "entry"]) (sc := defScope s_law_counted) (by decide +kernel)) (fun _ _ _ _ _ => (pg_name (i := 9) nd rfl (Or.inl rfl))) (fun _ _ _ _ _ => (pts_one (pt_cmpR op_eq (pe_ix (ix_tup : IxR _ (rIxT K)) (pv 9) pe_int (fun _ _ => rfl)) (pv 4) (nomark _)))) (fun _ _ _ _ _ => (pe_ix (ix_tup : IxR _ (rIxT K)) (pv 9) pe_int (fun _ _ => rfl)))) pa_nil)) (nomark _))
(pss_one (ps_ret pe_bl))
pss_nil)
(pss_one (ps_if (pt_cmpR op_ne (pv 6) (pe_callB (cr_sum rfl) (by rfl) T.sum (by decide +kernel) (pa_cons (pe_lc (own := [("entry", 9)]) (g := gName 9) (by rfl) nd (pi_list (pv 1)) (blkOk_by (N := ["marking", "entries", "pool", "whole", "text", "written", "accused", "number", "key", "entry"]) (sc := defScope s_law_counted) (by decide +kernel)) (fun _ _ _ _ _ => (pg_name (i := 9) nd rfl (Or.inl rfl))) (fun _ _ _ _ _ => (pts_one (pt_cmpR (op_in_seq : OpR _ (compareOp .In) (rIn K false)) (pv 4) (pe_ix (ix_tup : IxR _ (rIxT K)) (pv 9) pe_int (fun _ _ => rfl)) (by rfl)))) (fun _ _ _ _ _ => (pe_ix (ix_tup : IxR _ (rIxT K)) (pv 9) pe_int (fun _ _ => rfl)))) pa_nil)) (nomark _))
(pss_one (ps_ret pe_bl))
pss_nil)))))))
(pss_one (ps_ret pe_bl))), ?_⟩
    have pos : ∀ e ∈ es, 1 ≤ e.w := fun e he => (ok.each e he).1
    obtain ⟨w1, _⟩ := ok.sum
    obtain ⟨dx, em⟩ := M.at_
    have f0 : ∀ {H2 : Hp}, But [] H H2 → Fz H H2 := fun b a o e => b a o e (by simp)
    k_extra "rd"
    refine ⟨l, _, rfl, SqL.of hl, fun x hx => ?_⟩
    have B0 : But [] H (upd H x (.lst (cutV (ts.map V.str) none (some 4)))) := But.new hx
    have ex : (upd H x (.lst (cutV (ts.map V.str) none (some 4)))) x = some (.lst (cutV (ts.map V.str) none (some 4))) := upd_same
    generalize upd H x (.lst (cutV (ts.map V.str) none (some 4))) = H1 at *
    refine ⟨x, rfl, ⟨_, SqL.of ex⟩, for_list (K := K) (a := x) (xs := cutV (ts.map V.str) none (some 4)) (fun i σ H2 => ∃ (y z u v w : Option V), σ = [some (.ref m), some (.ref e), some (.ref l), some (.int (wsum es)), y, z, u, v, w, none] ∧ But [] H H2 ∧ But [] H1 H2) ⟨_, _, _, _, _, rfl, B0, But.refl _ _⟩ (fun i σ H2 _ ⟨_, _, _, _, _, _, _, b⟩ => SqL.of (b _ _ ex (by simp))) ?_ ?_⟩
    · rintro i x2 σ H2 hi ⟨y1, y2, y3, y4, y5, rfl, B2, C2⟩
      obtain ⟨u, rfl⟩ := cut_strs (List.mem_of_getElem? hi)
      k_extra "rd"
      generalize hz : (if (40 : Int) < wsum es then (40 : Int) else wsum es) = z
      have hz : z = wsum es := by rw [← hz]; split <;> omega
      subst hz
      refine for_range (lo := 0) (n := (wsum es).toNat) (fun i σ H3 => ∃ (y z : Option V), σ = [some (.ref m), some (.ref e), some (.ref l), some (.int (wsum es)), some (.str u), some (.int (hits (atF (fun en => decide (en.t = u)) es) (es.map (fun e : Ent => e.w)) i)), some (.int (hits (atF (fun en => decide (u ∈ en.acc)) es) (es.map (fun e : Ent => e.w)) i)), y, z, none] ∧ But [] H H3 ∧ But [] H2 H3) ⟨_, _, rfl, B2, But.refl _ _⟩ ?_ ?_
      · rintro i σ H3 hi ⟨y, z, rfl, B3, C3⟩
        have M3 := M.fz (f0 B3)
        k_extra "rd"
        refine ⟨m, dx, _, rfl, B3 _ _ em (by simp), (by first | rfl | decide +kernel), _, rfl, _, _, rfl, m, t, ws, es, _, rfl, rfl, M3, pos, ok.len, by omega, by omega, fun H4 B4 => ?_⟩
        have C4 := C3.trans B4
        have B4 := B3.trans B4
        have M4 := M.fz (f0 B4)
        rw [Int.zero_add]
        obtain ⟨bl, _⟩ := blk_lt (ws := es.map (fun e : Ent => e.w)) (n := (i : Int)) (fun w hw => by obtain ⟨e, he, rfl⟩ := List.mem_map.mp hw; exact pos e he) (by omega) (by show (i : Int) < wsum es; omega)
        rw [List.length_map] at bl
        have hen := List.getElem?_eq_getElem bl
        have ew : atF (fun en => decide (en.t = u)) es (blk (es.map (fun e : Ent => e.w)) (i : Int)).1 = decide ((es[(blk (es.map (fun e : Ent => e.w)) (i : Int)).1]).t = u) := by unfold atF; rw [hen]
        have ea : atF (fun en => decide (u ∈ en.acc)) es (blk (es.map (fun e : Ent => e.w)) (i : Int)).1 = decide (u ∈ (es[(blk (es.map (fun e : Ent => e.w)) (i : Int)).1]).acc) := by unfold atF; rw [hen]
        generalize es[(blk (es.map (fun e : Ent => e.w)) (i : Int)).1] = en at *
        k_extra "rd"
        refine ⟨m, dx, _, rfl, B4 _ _ em (by simp), (by first | rfl | decide +kernel), _, rfl, _, _, rfl, m, t, ws, es, _, en, rfl, rfl, M4, hen, ?_⟩
        have stp : ∀ f : Nat → Bool, hits f (es.map (fun e : Ent => e.w)) (i + 1) = hits f (es.map (fun e : Ent => e.w)) i + (if f (blk (es.map (fun e : Ent => e.w)) (i : Int)).1 = true then 1 else 0) := fun f => rfl
        simp only [stp, ew, ea, decide_eq_true_eq]
        k_extra "rd"
        refine iteD (fun c => ?_) (fun c => ?_)
        all_goals
          k_extra "rd"
          refine ⟨m, dx, _, rfl, B4 _ _ em (by simp), (by first | rfl | decide +kernel), _, rfl, _, rfl, _, _, _, rfl, m, t, ws, es, _, en, u, rfl, rfl, rfl, M4, hen, ?_⟩
          k_extra "rd"
          refine iteD (fun d => ?_) (fun d => ?_)
        all_goals k_extra "rd"
        · exact ⟨_, _, by rw [if_pos (V.str.inj c), if_pos d]; rfl, B4, C4⟩
        · exact ⟨_, _, by rw [if_pos (V.str.inj c), if_neg d, Int.add_zero]; rfl, B4, C4⟩
        · exact ⟨_, _, by rw [if_neg (fun z => c (by rw [z])), if_pos d, Int.add_zero]; rfl, B4, C4⟩
        · exact ⟨_, _, by rw [if_neg (fun z => c (by rw [z])), if_neg d, Int.add_zero, Int.add_zero]; rfl, B4, C4⟩
      · rintro σ H3 ⟨y, z, rfl, B3, C3⟩
        have E3 := E1.fz (f0 B3)
        rw [show (wsum es).toNat = ((es.map (fun e : Ent => e.w)).sum).toNat from rfl, hits_all (fun w hw => by obtain ⟨e, he, rfl⟩ := List.mem_map.mp hw; exact pos e he), hits_all (fun w hw => by obtain ⟨e, he, rfl⟩ := List.mem_map.mp hw; exact pos e he), wsel_filter, wsel_filter]
        k_extra "rd"
        refine ⟨⟨_, SqL.of E3.at_⟩, fun D hD => ?_⟩
        refine lcg_list (K := K) (a := e) (xs := vs) (S := []) (S1 := []) (fun _ => True) (fun i ys _ => ys = (((es.take i).filter (fun en => decide (en.t = u))).map (fun e : Ent => e.w)).map V.int) (Up.nil H3) trivial hD (fun _ _ h => h) (fun _ h => by cases h)
          (fun G2 H5 U _ _ => SqL.of (U.but _ _ E3.at_ (by simp))) (by have := E1.it.1; have := ok.len; omega) rfl (fun _ _ _ _ _ h => h) ?_ ?_
        · rintro i x G2 H5 acc hx U5 _ v5 _ rfl T0 N fin skp
          obtain ⟨en, hen, a, c, rfl, ha, _⟩ := E3.it.back hx
          have ha5 := U5.but _ _ ha (by simp)
          k_extra "rd"
          refine ⟨_, _, _, _, rfl, rfl, SqT.of ha5, rfl, ?_⟩
          k_extra "rd"
          refine iteD (fun c => ?_) (fun c => ?_)
          · k_extra "rd"
            refine ⟨_, _, _, _, rfl, rfl, SqT.of ha5, rfl, ?_⟩
            refine fin _ _ _ (.refl U5.on) trivial ?_
            rw [filter_take hen, if_pos (decide_eq_true (V.str.inj c)), List.map_append, List.map_append]
            rfl
          · refine skp _ _ (.refl U5.on) trivial ?_
            rw [filter_take hen, if_neg (by rw [decide_eq_true_eq]; exact fun z => c (by rw [z])), List.append_nil]
        rintro ys G2 H5 U5 _ v5 _ c5 _ rfl
        rw [E1.it.1, List.take_length] at c5
        have E5 := E3.fz (fun a o e => U5.but a o e (by simp))
        refine ⟨D, _, rfl, SqL.of c5.at_, ?_⟩
        k_extra "rd"
        refine iteN (fun z => absurd rfl z) (fun _ => ?_)
        k_extra "rd"
        refine ⟨⟨_, SqL.of E5.at_⟩, fun D2 hD2 => ?_⟩
        refine lcg_list (K := K) (a := e) (xs := vs) (S := []) (S1 := []) (fun _ => True) (fun i ys _ => ys = (((es.take i).filter (fun en => decide (u ∈ en.acc))).map (fun e : Ent => e.w)).map V.int) (Up.nil H5) trivial hD2 (fun _ _ h => h) (fun _ h => by cases h)
          (fun G2 H5 U _ _ => SqL.of (U.but _ _ E5.at_ (by simp))) (by have := E1.it.1; have := ok.len; omega) rfl (fun _ _ _ _ _ h => h) ?_ ?_
        · rintro i x G2 H6 acc hx U6 _ v6 _ rfl T0 N fin skp
          obtain ⟨en, hen, a, c, rfl, ha, hc⟩ := E5.it.back hx
          have ha5 := U6.but _ _ ha (by simp)
          k_extra "rd"
          refine ⟨_, _, _, _, rfl, rfl, SqT.of ha5, rfl, ?_⟩
          refine ⟨c, _, rfl, .inl (SqL.of (U6.but _ _ hc (by simp))), rfl, flat_strs, ?_⟩
          rw [inV_str]
          k_extra "rd"
          refine iteD (fun d => ?_) (fun d => ?_)
          · k_extra "rd"
            refine ⟨_, _, _, _, rfl, rfl, SqT.of ha5, rfl, ?_⟩
            refine fin _ _ _ (.refl U6.on) trivial ?_
            rw [filter_take hen, if_pos (decide_eq_true d), List.map_append, List.map_append]
            rfl
          · refine skp _ _ (.refl U6.on) trivial ?_
            rw [filter_take hen, if_neg (by rw [decide_eq_true_eq]; exact d), List.append_nil]
        rintro ys G2 H6 U6 _ v6 _ c6 _ rfl
        rw [E1.it.1, List.take_length] at c6
        refine ⟨D2, _, rfl, SqL.of c6.at_, ?_⟩
        k_extra "rd"
        refine iteN (fun z => absurd rfl z) (fun _ => ?_)
        exact ⟨_, _, _, _, _, rfl, (B3.trans U5.but).trans U6.but, ((C2.trans C3).trans U5.but).trans U6.but⟩
    · rintro σ H2 ⟨y1, y2, y3, y4, y5, rfl, B2, C2⟩
      k_extra "rd"
      exact k H2 B2
def sp_law_body (K : PySem.W.Frag) : Sp := sp1 fun a H Q _ => ∃ (s : Addr) (ns : List Int), a = .ref s ∧ SqL K H s (ns.map V.int) ∧ ns.length ≤ 63 ∧ ∀ H', Q (.bl true) H'
theorem ok_law_body {f : Addr} {fd : FuncData} (F : Fun K "_law_body" "_law_body" s_law_body f fd) (T : Txt K mg CS CI CT CP CM CK CU CC CN CE CA CH CB) (D_law_start : Df P w K mg base 1 "_law_start" s_law_start ["script"] (sp_law_start (K := K))) (D_law_pool : Df P w K mg base 4 "_law_pool" s_law_pool ["state"] sp_law_pool) (D_law_entries : Df P w K mg base 4 "_law_entries" s_law_entries ["state", "pool"] sp_law_entries) (D_Marking_init : Dk P w K mg base 3 CM "Marking" "Marking.__init__" s_Marking_init ["self", "entries"] (sp_Marking_init CM)) (D_law_integer : Df P w K mg base 1 "_law_integer" s_law_integer ["value"] sp_law_integer) (D_law_numbers : Df P w K mg base 3 "_law_numbers" s_law_numbers ["state", "entries", "whole"] sp_law_numbers) (D_law_keys_are : Df P w K mg base 4 "_law_keys_are" s_law_keys_are ["marking", "entries", "numbers"] (sp_law_keys_are CM)) (D_law_counted : Df P w K mg base 5 "_law_counted" s_law_counted ["marking", "entries", "pool", "whole"] (sp_law_counted CM)) : FnOk P w K mg base (L2.CX P w) 6 f fd ["script"] (sp_law_body K) := by
  have nd := sc_law_body.nd
  refine F.okX sc_law_body (fun vs H Q E h => ?_) (fun cdv A outer s H vs Q E hr h => ?_)
  · obtain ⟨_, rfl, _⟩ := h
    rfl
  · obtain ⟨_, rfl, sc, scn, rfl, hs, hl, k⟩ := h
    refine ⟨_, (pss_cons (ps_set (i := 1) nd rfl (Or.inl rfl) (pe_d D_law_start hr (by decide) (by rfl) passL (pa_cons (pv 0) pa_nil)))
(pss_cons (ps_set (i := 2) nd rfl (Or.inl rfl) (pe_d D_law_pool hr (by decide) (by rfl) passL (pa_cons (pv 1) pa_nil)))
(pss_cons (ps_set (i := 3) nd rfl (Or.inl rfl) (pe_d D_law_entries hr (by decide) (by rfl) passL (pa_cons (pv 1) (pa_cons (pv 2) pa_nil))))
(pss_cons (ps_setLc (i := 4) (own := [("entry", 8)]) (g := gName 8) (by rfl) nd rfl rfl (sw_true rfl rfl rfl (by decide +kernel)) (pi_list (pv 3)) (blkOk_by (N := ["script", "state", "pool", "entries", "handed", "marking", "whole", "numbers", "entry", "k"]) (sc := defScope s_law_body) (by decide +kernel)) (fun _ _ _ _ _ => (pg_name (i := 8) nd rfl (Or.inl rfl))) (fun _ _ _ _ _ => pts_nil) (fun _ _ _ _ _ => (pe_lst (pa_cons (pe_ix (ix_tup : IxR _ (rIxT K)) (pv 8) pe_int (fun _ _ => rfl)) (pa_cons (pe_ix (ix_tup : IxR _ (rIxT K)) (pv 8) pe_int (fun _ _ => rfl)) (pa_cons (pe_callTy (list_ofK : CallR _ (.type "list") (rListOf K)) (by rfl) T.list (by decide +kernel) (pa_cons (pe_ix (ix_tup : IxR _ (rIxT K)) (pv 8) pe_int (fun _ _ => rfl)) pa_nil)) pa_nil))))))
(pss_cons (ps_set (i := 5) nd rfl (Or.inl rfl) (pe_k D_Marking_init hr (by decide) (by rfl) passL (pa_cons (pv 4) pa_nil)))
(pss_cons (ps_asg (pe_op op_add (pe_ix ix_list (pe_ix ix_list (pv 4) pe_int (fun _ _ => rfl)) pe_int (fun _ _ => rfl)) pe_int) (pg_sub (pe_ix ix_list (pv 4) pe_int (fun _ _ => rfl)) pe_int set_list))
(pss_cons (ps_expr (pe_bm PySem.F.plainAttrs_list PySem.F.slot_list_append PySem.F.type_list_append mt_append (pe_ix ix_list (pe_ix ix_list (pv 4) (pe_op op_sub (pe_callB call_len_seq (by rfl) T.len (by decide +kernel) (pa_cons (pv 4) pa_nil)) pe_int) (fun _ _ => rfl)) pe_int (fun _ _ => rfl)) (pa_cons pe_str pa_nil)))
(pss_cons (ps_expr (pe_bm PySem.F.plainAttrs_list PySem.F.slot_list_append PySem.F.type_list_append mt_append (pv 4) (pa_cons (pe_lst (pa_cons pe_int (pa_cons pe_str (pa_cons (pe_lst pa_nil) pa_nil)))) pa_nil)))
(pss_cons (ps_set (i := 6) nd rfl (Or.inl rfl) (pe_callB (cr_sum rfl) (by rfl) T.sum (by decide +kernel) (pa_cons (pe_lc (own := [("entry", 8)]) (g := gName 8) (by rfl) nd (pi_list (pv 3)) (blkOk_by (N := ["script", "state", "pool", "entries", "handed", "marking", "whole", "numbers", "entry", "k"]) (sc := defScope s_law_body) (by decide +kernel)) (fun _ _ _ _ _ => (pg_name (i := 8) nd rfl (Or.inl rfl))) (fun _ _ _ _ _ => pts_nil) (fun _ _ _ _ _ => (pe_ix (ix_tup : IxR _ (rIxT K)) (pv 8) pe_int (fun _ _ => rfl)))) pa_nil)))
(pss_cons (ps_if (PW.pt (pw_or (pt_not (pt_val (pe_d D_law_integer hr (by decide) (by rfl) passL (pa_cons (pe_fld (pv 5) rfl) pa_nil)))) (pw_or1 (pt_cmpR op_ne (pe_fld (pv 5) rfl) (pv 6) (nomark _)))))
(pss_one (ps_ret pe_bl))
pss_nil)
(pss_cons (ps_set (i := 7) nd rfl (Or.inr rfl) (pe_d D_law_numbers hr (by decide) (by rfl) passL (pa_cons (pv 1) (pa_cons (pv 3) (pa_cons (pv 6) pa_nil)))))
(pss_cons (ps_if (pt_not (pt_val (pe_d D_law_keys_are hr (by decide) (by rfl) passL (pa_cons (pv 5) (pa_cons (pv 3) (pa_cons (pv 7) pa_nil))))))
(pss_one (ps_ret pe_bl))
pss_nil)
(pss_cons (ps_if (PW.pt (pw_and (pt_cmpR op_le (pv 6) pe_int (nomark _)) (pw_and1 (pt_not (pt_val (pe_d D_law_counted hr (by decide) (by rfl) passL (pa_cons (pv 5) (pa_cons (pv 3) (pa_cons (pv 2) (pa_cons (pv 6) pa_nil))))))))))
(pss_one (ps_ret pe_bl))
pss_nil)
(pss_one (ps_ret (pe_d D_law_keys_are hr (by decide) (by rfl) passL (pa_cons (pv 5) (pa_cons (pv 3) (pa_cons (pe_lc (own := [("k", 9)]) (g := gName 9) (by rfl) nd (pi_range1 (by rfl) T.range (pa_cons (pe_callB call_len_seq (by rfl) T.len (by decide +kernel) (pa_cons (pv 7) pa_nil)) pa_nil)) (blkOk_by (N := ["script", "state", "pool", "entries", "handed", "marking", "whole", "numbers", "entry", "k"]) (sc := defScope s_law_body) (by decide +kernel)) (fun _ _ _ _ _ => (pg_name (i := 9) nd rfl (Or.inl rfl))) (fun _ _ _ _ _ => pts_nil) (fun _ _ _ _ _ => (pe_ix (ix_list : IxR _ (rIxL K)) (pv 7) (pe_op op_sub (pe_op op_sub (pe_callB (len_seqK : CallR _ (.builtin "len") (rLenSeq K)) (by rfl) T.len (by decide +kernel) (pa_cons (pv 7) pa_nil)) pe_int) (pv 9)) (fun _ _ => rfl)))) pa_nil))))))))))))))))))), ?_⟩
    k_extra "rd"
    refine ⟨sc, scn, rfl, hs, hl, fun p q H1 _ _ _ S1 => ?_⟩
    have W1 := Wr.start S1
    k_extra "rd"
    refine ⟨p, q, rfl, S1, fun l ts H2 hl ht t1 S2 B2 => ?_⟩
    obtain ⟨F2, u2, W2, n2⟩ := W1.take S2 B2
    have f2 : F2 l = some (.lst (ts.map V.str)) := (n2 _ hl).trans ht.at_
    clear S2 B2 n2 hs
    k_extra "rd"
    refine ⟨p, q, l, ts, rfl, rfl, W2.st, W2.at f2, t1, ht.len, ht.tx, fun e vs es H3 _ S3 B3 hE ok _ => ?_⟩
    obtain ⟨F3, u3, W3, n3⟩ := W2.take S3 B3
    have E3 := hE F3 n3
    have f3 := u3.at f2
    clear S3 B3 hE n3
    have h60 := ok.len
    have hvl := E3.it.1
    refine ⟨_, rfl, e, rfl, ⟨_, SqL.of (W3.at E3.at_)⟩, fun D hD => ?_⟩
    obtain ⟨-, W4, c4⟩ := W3.begin hD (.lst [])
    refine lc_list (K := K) (a := e) (xs := vs) (fun i H' => ∃ hs, Wr Nil H1 F3 H' p q ∧ Ow H1 F3 H' D (.lst hs) ∧ Each (HnE H1 F3 H' D) (es.take i) hs) ⟨[], W4, c4, Each.nil⟩ (fun i H' _ ⟨_, w, _⟩ => SqL.of (w.at E3.at_)) ?_ ?_
    · rintro i x H5 hx ⟨hs, W5, c5, h5⟩
      obtain ⟨en, hen, a0, c0, rfl, ha0, hc0⟩ := E3.it.back hx
      have il := lt_of_at hen
      k_extra "rd"
      refine ⟨_, _, _, _, rfl, rfl, SqT.of (W5.at ha0), rfl, ?_⟩
      k_extra "rd"
      refine ⟨_, _, _, _, rfl, rfl, SqT.of (W5.at ha0), rfl, ?_⟩
      k_extra "rd"
      refine ⟨_, _, _, _, rfl, rfl, SqT.of (W5.at ha0), rfl, ?_⟩
      refine ⟨c0, _, rfl, .inl (SqL.of (W5.at hc0)), fun c hc => ?_⟩
      have cD : c ≠ D := fun z => by (rw [z, c5.at_] at hc; cases hc)
      obtain ⟨u6, W6, c6⟩ := W5.begin hc (.lst (en.acc.map V.str))
      have d6 := c5.st W5 u6
      have h6 := h5.mono fun _ _ h => h.st W5 u6
      clear u6 h5 c5
      generalize upd H5 c (.lst (en.acc.map V.str)) = H6 at *
      k_extra "rd"
      intro a ha
      have aD : a ≠ D := fun z => by (rw [z, d6.at_] at ha; cases ha)
      obtain ⟨u7, W7, c7⟩ := W6.begin ha (.lst [.int en.w, .str en.t, .ref c])
      have d7 := d6.st W6 u7
      have h7 := h6.mono fun _ _ h => h.st W6 u7
      have e7 := c6.st W6 u7
      clear u7 h6 c6 d6
      generalize upd H6 a (.lst [.int en.w, .str en.t, .ref c]) = H7 at *
      obtain ⟨u8, W8, c8⟩ := W7.put d7 (.lst (hs ++ [.ref a]))
      refine ⟨hs, d7.at_, szlt (by rw [h7.1, List.length_take]; omega), _, W8, c8, ?_⟩
      exact (h7.mono fun _ _ h => h.put d7 u8).take hen ⟨a, c, rfl, c7.ne d7 u8 aD, e7.ne d7 u8 cD, aD, cD⟩
    rintro H5 ⟨hs, W5, c5, h5⟩
    rw [hvl, List.take_length] at h5
    clear W4 c4 hD
    k_extra "rd"
    intro x dx hx hd hne
    have bm := made_but (o := .own x) (o' := .ins CM dx []) hx hd (But.refl _ _)
    refine ⟨_, _, rfl, x, dx, D, hs, es, rfl, rfl, upd_same, ⟨.inl (bm _ _ c5.at_ (by simp)), h5.mono fun en v h => ?_⟩, ok, fun t ws H9 b9 hM => ⟨rfl, ?_⟩⟩
    · obtain ⟨a, c, e1, e2, e3⟩ := h.x
      exact ⟨a, c, e1, e2.imp (fun z => bm _ _ z (by simp)) (fun z => bm _ _ z (by simp)), e3.imp (fun z => bm _ _ z (by simp)) (fun z => bm _ _ z (by simp))⟩
    obtain ⟨F9, u9, W9, n9⟩ := W5.take0 (made_but hx hd b9)
    have M9 := hM F9 (made_nw hx n9)
    have E9 := E3.fz u9.sub
    have f9 := u9.at f3
    have c9 := c5.st W5 u9
    have h9 := h5.mono fun _ _ h => h.st W5 u9
    clear h5 c5 hM n9 b9 bm u9 hx hd hne W5
    -- what was handed in is changed
    obtain ⟨en0, he0⟩ : ∃ en, es[0]? = some en := ⟨_, List.getElem?_eq_getElem (Nat.lt_of_lt_of_le Nat.zero_lt_one ok.pos)⟩
    obtain ⟨v0, hv0, a0, k0, rfl, ca0, ck0, a0D, k0D⟩ := h9.get he0
    have at0 : atI hs 0 = some (.ref a0) := atI_nat (j := 0) hv0
    k_extra "rd"
    refine ⟨_, _, _, _, rfl, rfl, SqL.of c9.at_, at0, ?_⟩
    refine ⟨_, _, _, _, rfl, rfl, SqL.of ca0.at_, rfl, ?_⟩
    k_extra "rd"
    refine ⟨_, _, _, _, rfl, rfl, SqL.of c9.at_, at0, ?_⟩
    refine ⟨a0, _, 0, 0, rfl, rfl, ca0.at_, rfl, ?_⟩
    rw [show ([V.int en0.w, V.str en0.t, V.ref k0].set 0 (V.int (en0.w + 3))) = [V.int (en0.w + 3), V.str en0.t, V.ref k0] from rfl]
    obtain ⟨uA, WA, cA0⟩ := W9.put ca0 (.lst [.int (en0.w + 3), .str en0.t, .ref k0])
    have dA := c9.ne ca0 uA (Ne.symm a0D)
    have hsl : hs.length = es.length := h9.1
    have es1 := ok.pos
    obtain ⟨en1, he1⟩ : ∃ en, es[es.length - 1]? = some en := ⟨_, List.getElem?_eq_getElem (by omega)⟩
    obtain ⟨v1, hv1, a1, k1, rfl, ca1, ck1, a1D, k1D⟩ := h9.get he1
    have lA : ∃ x y, Ow H1 F9 (upd H9 a0 (.lst [.int (en0.w + 3), .str en0.t, .ref k0])) a1 (.lst [x, y, .ref k1]) := by
      by_cases z : a1 = a0
      · subst z
        have e := HO.lst.inj (Option.some.inj (ca1.at_.symm.trans ca0.at_))
        have e2 : k1 = k0 := V.ref.inj (List.cons.inj (List.cons.inj (List.cons.inj e).2).2).1
        subst e2
        exact ⟨_, _, cA0⟩
      · exact ⟨_, _, ca1.ne ca0 uA z⟩
    obtain ⟨x1, y1, lA⟩ := lA
    have kA := ck1.ne ca0 uA (fun z => by (have e := ck1.at_; rw [z, ca0.at_] at e; exact strs_ne (Option.some.inj e).symm))
    clear uA cA0 ca0 ck0 ca1 ck1 c9 h9
    generalize upd H9 a0 (.lst [.int (en0.w + 3), .str en0.t, .ref k0]) = HA at *
    k_extra "rd"
    refine ⟨D, _, rfl, .inl (SqL.of dA.at_), ?_⟩
    rw [hsl]
    k_extra "rd"
    have at1 : atI hs ((es.length : Nat) - 1 : Int) = some (.ref a1) := by
      rw [show ((es.length : Nat) - 1 : Int) = ((es.length - 1 : Nat) : Int) by omega]
      exact atI_nat hv1
    refine ⟨_, _, _, _, rfl, rfl, SqL.of dA.at_, at1, ?_⟩
    k_extra "rd"
    refine ⟨_, _, _, _, rfl, rfl, SqL.of lA.at_, rfl, ?_⟩
    refine ⟨.inl ⟨rfl, _, SqL.of kA.at_⟩, ?_⟩
    k_extra "rd"
    have acc1 := (ok.each en1 (List.mem_of_getElem? he1)).2.2.2.1
    refine ⟨k1, _, _, rfl, rfl, kA.at_, szlt (by rw [List.length_map]; omega), ?_⟩
    obtain ⟨uB, WB, kB⟩ := WA.put kA (.lst (en1.acc.map V.str ++ [.str "later"]))
    have dB := dA.ne kA uB (Ne.symm k1D)
    clear uB kB kA lA dA
    generalize upd HA k1 (.lst (en1.acc.map V.str ++ [.str "later"])) = HB at *
    refine ⟨_, rfl, .inl ⟨rfl, _, SqL.of dB.at_⟩, ?_⟩
    k_extra "rd"
    intro y2 hy2
    obtain ⟨uC, WC, -⟩ := WB.begin hy2 (.lst [])
    have dC := dB.st WB uC
    clear uC
    generalize upd HB y2 (.lst []) = HC at *
    k_extra "rd"
    intro y3 hy3
    obtain ⟨uE, WE, -⟩ := WC.begin hy3 (.lst [.int 2, .str "other", .ref y2])
    have dE := dC.st WC uE
    clear uE
    generalize upd HC y3 (.lst [.int 2, .str "other", .ref y2]) = HE at *
    refine ⟨D, _, _, rfl, rfl, dE.at_, szlt (by rw [hsl]; omega), ?_⟩
    obtain ⟨-, WG, -⟩ := WE.put dE (.lst (hs ++ [.ref y3]))
    generalize upd HE D (.lst (hs ++ [.ref y3])) = HG at *
    clear dE dC dB WE WC WB WA W9 hv0 hv1 at0 at1
    -- the sum
    refine ⟨_, rfl, e, rfl, ⟨_, SqL.of (WG.at E9.at_)⟩, fun D2 hD2 => ?_⟩
    refine lcg_list (K := K) (a := e) (xs := vs) (S := [p]) (S1 := []) (fun _ => True) (fun i ys _ => ys = ((es.take i).map (fun e : Ent => e.w)).map V.int) WG.up trivial hD2 (fun _ _ h => h) (fun _ h => by cases h)
      (fun G2 H5 U f _ => SqL.of (U.on _ _ (f _ _ E9.at_))) (by omega) rfl (fun _ _ _ _ _ h => h) ?_ ?_
    · rintro i x G2 H6 acc hx U6 f6 v6 _ rfl T0 N fin _
      obtain ⟨en, hen, a, c, rfl, ha, _⟩ := E9.it.back hx
      k_extra "rd"
      refine ⟨_, _, _, _, rfl, rfl, SqT.of (U6.on _ _ (f6 _ _ ha)), rfl, ?_⟩
      refine fin _ _ _ (.refl U6.on) trivial ?_
      rw [take_add hen, List.map_append, List.map_append]
      rfl
    rintro ys FI HI UI sI vI _ cI _ rfl
    rw [hvl, List.take_length] at cI
    have WI := WG.step0 vI
    have EI := E9.fz sI
    have MI := M9.fz sI
    have fI := sI _ _ f9
    refine ⟨D2, _, rfl, SqL.of cI.at_, ?_⟩
    have hw : (es.map (fun e : Ent => e.w)).sum = wsum es := rfl
    rw [hw]
    clear vI UI sI cI WG E9 M9 f9 hD2
    obtain ⟨mdx, em⟩ := MI.at_
    k_extra "rd"
    refine ⟨x, CM, mdx, _, _, rfl, WI.at em, T.clM, T.nM_whole, mk_whole, ?_⟩
    k_extra "rd"
    refine ⟨x, CM, mdx, _, _, rfl, WI.at em, T.clM, T.nM_whole, mk_whole, ?_⟩
    k_extra "rd"
    refine iteN (fun z => absurd rfl z) (fun _ => ?_)
    k_extra "rd"
    refine ⟨_, _, _, rfl, p, q, e, vs, es, rfl, rfl, rfl, WI.st, EI.fz WI.fz, WI.off EI.at_, fun v hv => ?_, ok, fun ln ns HJ hl1 hl2 bd nl1 nl2 SJ BJ => ?_⟩
    · obtain ⟨j, hj⟩ := List.mem_iff_getElem?.mp hv
      obtain ⟨en, _, a, c, rfl, ha, _⟩ := EI.it.back hj
      exact fun z => WI.off ha (V.ref.inj z)
    obtain ⟨FJ, uJ, WJ, nJ⟩ := WI.take SJ BJ
    have EJ := EI.fz uJ.sub
    have MJ := MI.fz uJ.sub
    have fJ := uJ.at fI
    have lJ : FJ ln = some (.lst (ns.map V.int)) := (nJ _ hl1).trans hl2
    clear hl1 hl2 SJ BJ nJ uJ EI MI fI WI em
    k_extra "rd"
    refine ⟨_, _, _, rfl, x, t, e, ln, ws, vs, es, ns, rfl, rfl, rfl, MJ.fz WJ.fz, EJ.fz WJ.fz, ok, WJ.at lJ, bd, fun HK BK => ?_⟩
    obtain ⟨FK, uK, WK, -⟩ := WJ.take0 BK
    have EK := EJ.fz uK.sub
    have MK := MJ.fz uK.sub
    have fK := uK.at fJ
    have lK := uK.at lJ
    clear uK BK EJ MJ fJ lJ WJ
    k_extra "rd"
    have pns : ∀ {i : Int}, 0 ≤ i → i < (ns.length : Int) → ∃ m, m ∈ ns ∧ atI (ns.map V.int) i = some (.int m) := fun {i} h0 h1 => by
      obtain ⟨j, rfl⟩ := Int.eq_ofNat_of_zero_le h0
      have hj : j < ns.length := by omega
      exact ⟨ns[j], List.getElem_mem hj, atI_nat (by rw [List.getElem?_map, List.getElem?_eq_getElem hj]; rfl)⟩
    refine iteD (fun c40 => ?_) (fun c40 => ?_)
    · k_extra "rd"
      refine ⟨_, _, _, _, rfl, x, t, e, l, ws, vs, es, ts, rfl, rfl, rfl, rfl, MK.fz WK.fz, EK.fz WK.fz, ok, c40, WK.at fK, fun HL BL => ?_⟩
      obtain ⟨FL, uL, WL, -⟩ := WK.take0 BL
      have EL := EK.fz uL.sub
      have ML := MK.fz uL.sub
      have lL := uL.at lK
      clear uL BL EK MK fK lK WK
      k_extra "rd"
      refine ⟨by rw [List.length_map]; omega, fun D3 hD3 => ?_⟩
      refine lcg_range (S := [p]) (S1 := []) (fun _ => True) (fun i ys _ => ∃ ms : List Int, ys = ms.map V.int ∧ ms.length = i ∧ ∀ m ∈ ms, 0 ≤ m ∧ m < wsum es) WL.up trivial hD3 (fun _ _ h => h) (fun _ h => by cases h)
        (by rw [List.length_map]; omega) ⟨[], rfl, rfl, fun _ z => by cases z⟩ (fun _ _ _ _ _ h => h) ?_ ?_
      · rintro i G2 H6 acc hi U6 f6 v6 _ ⟨ms, rfl, ml, mb⟩ T0 N fin _
        have ls := SqL.of (K := K) (U6.on _ _ (f6 _ _ lL))
        rw [List.length_map] at hi
        obtain ⟨m, hm, am⟩ := pns (i := (ns.length : Int) - 1 - (0 + (i : Int))) (by omega) (by omega)
        k_extra "rd"
        refine ⟨ln, _, rfl, .inl ls, ?_⟩
        rw [List.length_map]
        k_extra "rd"
        refine ⟨_, _, _, _, rfl, rfl, ls, am, ?_⟩
        exact fin _ _ _ (.refl U6.on) trivial ⟨ms ++ [m], ints_snoc _ _, by rw [List.length_append, ml]; rfl, fun z hz => (List.mem_append.mp hz).elim (mb z) fun h => by rw [List.mem_singleton.mp h]; exact bd m hm⟩
      rintro ys FM HM UM sM vM _ cM _ ⟨ms, rfl, ml, mb⟩
      refine ⟨_, _, _, rfl, x, t, e, D3, ws, vs, es, ms, rfl, rfl, rfl, (ML.fz sM).fz UM.on, (EL.fz sM).fz UM.on, ok, cM.at_, mb, fun HN _ => k HN⟩
    · k_extra "rd"
      refine ⟨by rw [List.length_map]; omega, fun D3 hD3 => ?_⟩
      refine lcg_range (S := [p]) (S1 := []) (fun _ => True) (fun i ys _ => ∃ ms : List Int, ys = ms.map V.int ∧ ms.length = i ∧ ∀ m ∈ ms, 0 ≤ m ∧ m < wsum es) WK.up trivial hD3 (fun _ _ h => h) (fun _ h => by cases h)
        (by rw [List.length_map]; omega) ⟨[], rfl, rfl, fun _ z => by cases z⟩ (fun _ _ _ _ _ h => h) ?_ ?_
      · rintro i G2 H6 acc hi U6 f6 v6 _ ⟨ms, rfl, ml, mb⟩ T0 N fin _
        have ls := SqL.of (K := K) (U6.on _ _ (f6 _ _ lK))
        rw [List.length_map] at hi
        obtain ⟨m, hm, am⟩ := pns (i := (ns.length : Int) - 1 - (0 + (i : Int))) (by omega) (by omega)
        k_extra "rd"
        refine ⟨ln, _, rfl, .inl ls, ?_⟩
        rw [List.length_map]
        k_extra "rd"
        refine ⟨_, _, _, _, rfl, rfl, ls, am, ?_⟩
        exact fin _ _ _ (.refl U6.on) trivial ⟨ms ++ [m], ints_snoc _ _, by rw [List.length_append, ml]; rfl, fun z hz => (List.mem_append.mp hz).elim (mb z) fun h => by rw [List.mem_singleton.mp h]; exact bd m hm⟩
      rintro ys FM HM UM sM vM _ cM _ ⟨ms, rfl, ml, mb⟩
      refine ⟨_, _, _, rfl, x, t, e, D3, ws, vs, es, ms, rfl, rfl, rfl, (MK.fz sM).fz UM.on, (EK.fz sM).fz UM.on, ok, cM.at_, mb, fun HN _ => k HN⟩
def sp_law (K : PySem.W.Frag) : Sp := fun vs H Q _ => ∃ (s : Addr) (ns : List Int), vs = [.ref s] ∧ SqL K H s (ns.map V.int) ∧ ns.length ≤ 63 ∧ ∀ H', Q (.bl true) H'
theorem ok_law {f : Addr} {fd : FuncData} (F : Fun K "law" "law" s_law f fd) (D_law_body : Df P w K mg base 6 "_law_body" s_law_body ["script"] (sp_law_body K)) : FnOk P w K mg base CX0 7 f fd ["script"] (sp_law K) := by
  have nd := sc_law.nd
  refine F.ok sc_law (fun vs H Q E h => ?_) (fun cdv A outer s H vs Q E hr h => ?_)
  · obtain ⟨_, _, rfl, _⟩ := h
    rfl
  · obtain ⟨sc, ns, rfl, hs, hl, k⟩ := h
    refine ⟨_, (pss_one (ps_try_thru0 (pss_one (ps_ret (pe_d D_law_body hr (by decide) (by rfl) passL (pa_cons (pv 0) pa_nil)))))), ?_⟩
    k_extra "rd"
    exact ⟨sc, ns, rfl, hs, hl, k⟩
end
theorem k1_self {K : PySem.W.Frag} {C : Addr} : PySem.W.kitOne K (.ref C) (.ref C) = some true := by
  unfold PySem.W.kitOne
  exact if_pos (beq_self_eq_true _)
theorem k1_ref {K : PySem.W.Frag} {C : Addr} {s : String} {b : Bool} (hd : PySem.W.hasDictIn K C = true) (ht : PySem.W.typeIn K (.ref C) = some (.type "type")) (h : PySem.W.subIn K (.type s) (.ref C) = some b) : PySem.W.kitOne K (.type s) (.ref C) = some b := by
  obtain ⟨cd, hc, _⟩ := PySem.W.any_some hd
  have e2 : ((PySem.W.clsIn K C).isSome && PySem.W.typeIn K (.ref C) == some (.type "type")) = true := by rw [hc, ht] <;> rfl
  have e1 : ¬ (Value.type s == Value.ref C) = true := fun z => Value.noConfusion (beq_iff_eq.mp z)
  unfold PySem.W.kitOne PySem.W.kitCls
  rw [if_neg e1]
  show (if ((PySem.W.clsIn K C).isSome && PySem.W.typeIn K (.ref C) == some (.type "type")) = true then PySem.W.subIn K (.type s) (.ref C) else none) = some b
  rw [if_pos e2]
  exact h
theorem k1_ve {K : PySem.W.Frag} {C : Addr} {b : Bool} (h : PySem.W.subIn K (.ref C) (.type "ValueError") = some b) : PySem.W.kitOne K (.ref C) (.type "ValueError") = some b := by
  have e1 : ¬ (Value.ref C == Value.type "ValueError") = true := fun z => Value.noConfusion (beq_iff_eq.mp z)
  have e2 : PySem.W.kitMeta "ValueError" = true := by decide +kernel
  unfold PySem.W.kitOne PySem.W.kitCls
  rw [if_neg e1]
  show (if PySem.W.kitMeta "ValueError" = true then PySem.W.subIn K (.ref C) (.type "ValueError") else none) = some b
  rw [if_pos e2]
  exact h
theorem all_mk {P : Program} {w : World} {K : PySem.W.Frag} {h : Heap} {mg : Str → Option Value} {fa CR CM CI CP CK : Addr} (X : K.In h) (G : h.Ns mainGlobals mg) (hfa : mg "law" = some (.ref fa))
    {nm_CI q_CI : Str} {N_CI : Addr} {bs_CI : List Value} {sn_CI : List Str} {sub_CI : List Value} {ab_CI : Bool} {col_CI : Option Bool} {dd_CI : Option Addr} {m0_CI m1_CI m2_CI m3_CI m5_CI : Option Value} {nm_CP q_CP : Str} {N_CP : Addr} {bs_CP : List Value} {sn_CP : List Str} {sub_CP : List Value} {ab_CP : Bool} {col_CP : Option Bool} {dd_CP : Option Addr} {m0_CP m1_CP m2_CP m3_CP m5_CP : Option Value} {nm_CK q_CK : Str} {N_CK : Addr} {bs_CK : List Value} {sn_CK : List Str} {sub_CK : List Value} {ab_CK : Bool} {col_CK : Option Bool} {dd_CK : Option Addr} {m0_CK m1_CK m2_CK m3_CK m5_CK : Option Value}
    {f_is_integer f_is_number_below f_is_weight f_block_of f_Marking_init f_Marking_key_of f_Marking_write f_Marking_accuses f_Markingentry f_law_integer f_law_start f_law_draw f_law_wide f_law_signs f_law_text f_law_texts f_law_weight f_law_pool f_law_some f_law_entries f_law_at f_law_numbers f_law_keys_are f_law_counted f_law_body f_law : Addr} {od_is_integer an_is_integer od_is_number_below an_is_number_below od_is_weight an_is_weight od_block_of an_block_of od_Marking_init an_Marking_init od_Marking_key_of an_Marking_key_of od_Marking_write an_Marking_write od_Marking_accuses an_Marking_accuses od_Markingentry an_Markingentry od_law_integer an_law_integer od_law_start an_law_start od_law_draw an_law_draw od_law_wide an_law_wide od_law_signs an_law_signs od_law_text an_law_text od_law_texts an_law_texts od_law_weight an_law_weight od_law_pool an_law_pool od_law_some an_law_some od_law_entries an_law_entries od_law_at an_law_at od_law_numbers an_law_numbers od_law_keys_are an_law_keys_are od_law_counted an_law_counted od_law_body an_law_body od_law an_law : Option Addr} {sl_is_integer sl_is_number_below sl_is_weight sl_block_of sl_Marking_init sl_Marking_key_of sl_Marking_write sl_Marking_accuses sl_Markingentry sl_law_integer sl_law_start sl_law_draw sl_law_wide sl_law_signs sl_law_text sl_law_texts sl_law_weight sl_law_pool sl_law_some sl_law_entries sl_law_at sl_law_numbers sl_law_keys_are sl_law_counted sl_law_body sl_law : Array (Option Value)} {oc_is_integer kV_is_integer dc_is_integer pm_is_integer cd_is_integer ct_is_integer oc_is_number_below kV_is_number_below dc_is_number_below pm_is_number_below cd_is_number_below ct_is_number_below oc_is_weight kV_is_weight dc_is_weight pm_is_weight cd_is_weight ct_is_weight oc_block_of kV_block_of dc_block_of pm_block_of cd_block_of ct_block_of oc_Marking_init kV_Marking_init dc_Marking_init pm_Marking_init cd_Marking_init ct_Marking_init oc_Marking_key_of kV_Marking_key_of dc_Marking_key_of pm_Marking_key_of cd_Marking_key_of ct_Marking_key_of oc_Marking_write kV_Marking_write dc_Marking_write pm_Marking_write cd_Marking_write ct_Marking_write oc_Marking_accuses kV_Marking_accuses dc_Marking_accuses pm_Marking_accuses cd_Marking_accuses ct_Marking_accuses oc_Markingentry kV_Markingentry dc_Markingentry pm_Markingentry cd_Markingentry ct_Markingentry oc_law_integer kV_law_integer dc_law_integer pm_law_integer cd_law_integer ct_law_integer oc_law_start kV_law_start dc_law_start pm_law_start cd_law_start ct_law_start oc_law_draw kV_law_draw dc_law_draw pm_law_draw cd_law_draw ct_law_draw oc_law_wide kV_law_wide dc_law_wide pm_law_wide cd_law_wide ct_law_wide oc_law_signs kV_law_signs dc_law_signs pm_law_signs cd_law_signs ct_law_signs oc_law_text kV_law_text dc_law_text pm_law_text cd_law_text ct_law_text oc_law_texts kV_law_texts dc_law_texts pm_law_texts cd_law_texts ct_law_texts oc_law_weight kV_law_weight dc_law_weight pm_law_weight cd_law_weight ct_law_weight oc_law_pool kV_law_pool dc_law_pool pm_law_pool cd_law_pool ct_law_pool oc_law_some kV_law_some dc_law_some pm_law_some cd_law_some ct_law_some oc_law_entries kV_law_entries dc_law_entries pm_law_entries cd_law_entries ct_law_entries oc_law_at kV_law_at dc_law_at pm_law_at cd_law_at ct_law_at oc_law_numbers kV_law_numbers dc_law_numbers pm_law_numbers cd_law_numbers ct_law_numbers oc_law_keys_are kV_law_keys_are dc_law_keys_are pm_law_keys_are cd_law_keys_are ct_law_keys_are oc_law_counted kV_law_counted dc_law_counted pm_law_counted cd_law_counted ct_law_counted oc_law_body kV_law_body dc_law_body pm_law_body cd_law_body ct_law_body oc_law kV_law dc_law pm_law cd_law ct_law : Value}
    (a_CM : PySem.W.nsIn K mainGlobals "Marking" = some (some (.ref CM)))
    (a_CI : PySem.W.nsIn K mainGlobals "InvalidNumber" = some (some (.ref CI)))
    (a_CP : PySem.W.nsIn K mainGlobals "InvalidPair" = some (some (.ref CP)))
    (a_CK : PySem.W.nsIn K mainGlobals "InvalidKey" = some (some (.ref CK)))
    (a_is_integer : PySem.W.nsIn K mainGlobals "is_integer" = some (some (.ref f_is_integer)))
    (l_is_integer : K.lookup f_is_integer = some ⟨oc_is_integer, od_is_integer, .func (PySem.W.fnOf "is_integer" "is_integer" (defArgs s_is_integer) (defBody s_is_integer) (defScope s_is_integer) .none kV_is_integer dc_is_integer pm_is_integer an_is_integer cd_is_integer ct_is_integer), sl_is_integer⟩)
    (c_is_integer : PySem.W.codeIn K cd_is_integer "is_integer" = true)
    (k_is_integer : PySem.W.keepIn K (.ref f_is_integer) = true)
    (a_is_number_below : PySem.W.nsIn K mainGlobals "is_number_below" = some (some (.ref f_is_number_below)))
    (l_is_number_below : K.lookup f_is_number_below = some ⟨oc_is_number_below, od_is_number_below, .func (PySem.W.fnOf "is_number_below" "is_number_below" (defArgs s_is_number_below) (defBody s_is_number_below) (defScope s_is_number_below) .none kV_is_number_below dc_is_number_below pm_is_number_below an_is_number_below cd_is_number_below ct_is_number_below), sl_is_number_below⟩)
    (c_is_number_below : PySem.W.codeIn K cd_is_number_below "is_number_below" = true)
    (k_is_number_below : PySem.W.keepIn K (.ref f_is_number_below) = true)
    (a_is_weight : PySem.W.nsIn K mainGlobals "is_weight" = some (some (.ref f_is_weight)))
    (l_is_weight : K.lookup f_is_weight = some ⟨oc_is_weight, od_is_weight, .func (PySem.W.fnOf "is_weight" "is_weight" (defArgs s_is_weight) (defBody s_is_weight) (defScope s_is_weight) .none kV_is_weight dc_is_weight pm_is_weight an_is_weight cd_is_weight ct_is_weight), sl_is_weight⟩)
    (c_is_weight : PySem.W.codeIn K cd_is_weight "is_weight" = true)
    (k_is_weight : PySem.W.keepIn K (.ref f_is_weight) = true)
    (a_block_of : PySem.W.nsIn K mainGlobals "block_of" = some (some (.ref f_block_of)))
    (l_block_of : K.lookup f_block_of = some ⟨oc_block_of, od_block_of, .func (PySem.W.fnOf "block_of" "block_of" (defArgs s_block_of) (defBody s_block_of) (defScope s_block_of) .none kV_block_of dc_block_of pm_block_of an_block_of cd_block_of ct_block_of), sl_block_of⟩)
    (c_block_of : PySem.W.codeIn K cd_block_of "block_of" = true)
    (k_block_of : PySem.W.keepIn K (.ref f_block_of) = true)
    (a_Marking_init : PySem.W.findIn K (.ref CM) "__init__" = some (some (.ref f_Marking_init)))
    (i_Marking_init : PySem.W.isFn K (.ref f_Marking_init) = true)
    (l_Marking_init : K.lookup f_Marking_init = some ⟨oc_Marking_init, od_Marking_init, .func (PySem.W.fnOf "__init__" "Marking.__init__" (defArgs s_Marking_init) (defBody s_Marking_init) (defScope s_Marking_init) .none kV_Marking_init dc_Marking_init pm_Marking_init an_Marking_init cd_Marking_init ct_Marking_init), sl_Marking_init⟩)
    (c_Marking_init : PySem.W.codeIn K cd_Marking_init "Marking.__init__" = true)
    (k_Marking_init : PySem.W.keepIn K (.ref f_Marking_init) = true)
    (a_Marking_key_of : PySem.W.findIn K (.ref CM) "key_of" = some (some (.ref f_Marking_key_of)))
    (i_Marking_key_of : PySem.W.isFn K (.ref f_Marking_key_of) = true)
    (l_Marking_key_of : K.lookup f_Marking_key_of = some ⟨oc_Marking_key_of, od_Marking_key_of, .func (PySem.W.fnOf "key_of" "Marking.key_of" (defArgs s_Marking_key_of) (defBody s_Marking_key_of) (defScope s_Marking_key_of) .none kV_Marking_key_of dc_Marking_key_of pm_Marking_key_of an_Marking_key_of cd_Marking_key_of ct_Marking_key_of), sl_Marking_key_of⟩)
    (c_Marking_key_of : PySem.W.codeIn K cd_Marking_key_of "Marking.key_of" = true)
    (k_Marking_key_of : PySem.W.keepIn K (.ref f_Marking_key_of) = true)
    (a_Marking_write : PySem.W.findIn K (.ref CM) "write" = some (some (.ref f_Marking_write)))
    (i_Marking_write : PySem.W.isFn K (.ref f_Marking_write) = true)
    (l_Marking_write : K.lookup f_Marking_write = some ⟨oc_Marking_write, od_Marking_write, .func (PySem.W.fnOf "write" "Marking.write" (defArgs s_Marking_write) (defBody s_Marking_write) (defScope s_Marking_write) .none kV_Marking_write dc_Marking_write pm_Marking_write an_Marking_write cd_Marking_write ct_Marking_write), sl_Marking_write⟩)
    (c_Marking_write : PySem.W.codeIn K cd_Marking_write "Marking.write" = true)
    (k_Marking_write : PySem.W.keepIn K (.ref f_Marking_write) = true)
    (a_Marking_accuses : PySem.W.findIn K (.ref CM) "accuses" = some (some (.ref f_Marking_accuses)))
    (i_Marking_accuses : PySem.W.isFn K (.ref f_Marking_accuses) = true)
    (l_Marking_accuses : K.lookup f_Marking_accuses = some ⟨oc_Marking_accuses, od_Marking_accuses, .func (PySem.W.fnOf "accuses" "Marking.accuses" (defArgs s_Marking_accuses) (defBody s_Marking_accuses) (defScope s_Marking_accuses) .none kV_Marking_accuses dc_Marking_accuses pm_Marking_accuses an_Marking_accuses cd_Marking_accuses ct_Marking_accuses), sl_Marking_accuses⟩)
    (c_Marking_accuses : PySem.W.codeIn K cd_Marking_accuses "Marking.accuses" = true)
    (k_Marking_accuses : PySem.W.keepIn K (.ref f_Marking_accuses) = true)
    (a_Markingentry : PySem.W.findIn K (.ref CM) "_entry" = some (some (.ref f_Markingentry)))
    (i_Markingentry : PySem.W.isFn K (.ref f_Markingentry) = true)
    (l_Markingentry : K.lookup f_Markingentry = some ⟨oc_Markingentry, od_Markingentry, .func (PySem.W.fnOf "_entry" "Marking._entry" (defArgs s_Markingentry) (defBody s_Markingentry) (defScope s_Markingentry) .none kV_Markingentry dc_Markingentry pm_Markingentry an_Markingentry cd_Markingentry ct_Markingentry), sl_Markingentry⟩)
    (c_Markingentry : PySem.W.codeIn K cd_Markingentry "Marking._entry" = true)
    (k_Markingentry : PySem.W.keepIn K (.ref f_Markingentry) = true)
    (a_law_integer : PySem.W.nsIn K mainGlobals "_law_integer" = some (some (.ref f_law_integer)))
    (l_law_integer : K.lookup f_law_integer = some ⟨oc_law_integer, od_law_integer, .func (PySem.W.fnOf "_law_integer" "_law_integer" (defArgs s_law_integer) (defBody s_law_integer) (defScope s_law_integer) .none kV_law_integer dc_law_integer pm_law_integer an_law_integer cd_law_integer ct_law_integer), sl_law_integer⟩)
    (c_law_integer : PySem.W.codeIn K cd_law_integer "_law_integer" = true)
    (k_law_integer : PySem.W.keepIn K (.ref f_law_integer) = true)
    (a_law_start : PySem.W.nsIn K mainGlobals "_law_start" = some (some (.ref f_law_start)))
    (l_law_start : K.lookup f_law_start = some ⟨oc_law_start, od_law_start, .func (PySem.W.fnOf "_law_start" "_law_start" (defArgs s_law_start) (defBody s_law_start) (defScope s_law_start) .none kV_law_start dc_law_start pm_law_start an_law_start cd_law_start ct_law_start), sl_law_start⟩)
    (c_law_start : PySem.W.codeIn K cd_law_start "_law_start" = true)
    (k_law_start : PySem.W.keepIn K (.ref f_law_start) = true)
    (a_law_draw : PySem.W.nsIn K mainGlobals "_law_draw" = some (some (.ref f_law_draw)))
    (l_law_draw : K.lookup f_law_draw = some ⟨oc_law_draw, od_law_draw, .func (PySem.W.fnOf "_law_draw" "_law_draw" (defArgs s_law_draw) (defBody s_law_draw) (defScope s_law_draw) .none kV_law_draw dc_law_draw pm_law_draw an_law_draw cd_law_draw ct_law_draw), sl_law_draw⟩)
    (c_law_draw : PySem.W.codeIn K cd_law_draw "_law_draw" = true)
    (k_law_draw : PySem.W.keepIn K (.ref f_law_draw) = true)
    (a_law_wide : PySem.W.nsIn K mainGlobals "_law_wide" = some (some (.ref f_law_wide)))
    (l_law_wide : K.lookup f_law_wide = some ⟨oc_law_wide, od_law_wide, .func (PySem.W.fnOf "_law_wide" "_law_wide" (defArgs s_law_wide) (defBody s_law_wide) (defScope s_law_wide) .none kV_law_wide dc_law_wide pm_law_wide an_law_wide cd_law_wide ct_law_wide), sl_law_wide⟩)
    (c_law_wide : PySem.W.codeIn K cd_law_wide "_law_wide" = true)
    (k_law_wide : PySem.W.keepIn K (.ref f_law_wide) = true)
    (a_law_signs : PySem.W.nsIn K mainGlobals "_law_signs" = some (some (.ref f_law_signs)))
    (l_law_signs : K.lookup f_law_signs = some ⟨oc_law_signs, od_law_signs, .func (PySem.W.fnOf "_law_signs" "_law_signs" (defArgs s_law_signs) (defBody s_law_signs) (defScope s_law_signs) .none kV_law_signs dc_law_signs pm_law_signs an_law_signs cd_law_signs ct_law_signs), sl_law_signs⟩)
    (c_law_signs : PySem.W.codeIn K cd_law_signs "_law_signs" = true)
    (k_law_signs : PySem.W.keepIn K (.ref f_law_signs) = true)
    (a_law_text : PySem.W.nsIn K mainGlobals "_law_text" = some (some (.ref f_law_text)))
    (l_law_text : K.lookup f_law_text = some ⟨oc_law_text, od_law_text, .func (PySem.W.fnOf "_law_text" "_law_text" (defArgs s_law_text) (defBody s_law_text) (defScope s_law_text) .none kV_law_text dc_law_text pm_law_text an_law_text cd_law_text ct_law_text), sl_law_text⟩)
    (c_law_text : PySem.W.codeIn K cd_law_text "_law_text" = true)
    (k_law_text : PySem.W.keepIn K (.ref f_law_text) = true)
    (a_law_texts : PySem.W.nsIn K mainGlobals "_law_texts" = some (some (.ref f_law_texts)))
    (l_law_texts : K.lookup f_law_texts = some ⟨oc_law_texts, od_law_texts, .func (PySem.W.fnOf "_law_texts" "_law_texts" (defArgs s_law_texts) (defBody s_law_texts) (defScope s_law_texts) .none kV_law_texts dc_law_texts pm_law_texts an_law_texts cd_law_texts ct_law_texts), sl_law_texts⟩)
    (c_law_texts : PySem.W.codeIn K cd_law_texts "_law_texts" = true)
    (k_law_texts : PySem.W.keepIn K (.ref f_law_texts) = true)
    (a_law_weight : PySem.W.nsIn K mainGlobals "_law_weight" = some (some (.ref f_law_weight)))
    (l_law_weight : K.lookup f_law_weight = some ⟨oc_law_weight, od_law_weight, .func (PySem.W.fnOf "_law_weight" "_law_weight" (defArgs s_law_weight) (defBody s_law_weight) (defScope s_law_weight) .none kV_law_weight dc_law_weight pm_law_weight an_law_weight cd_law_weight ct_law_weight), sl_law_weight⟩)
    (c_law_weight : PySem.W.codeIn K cd_law_weight "_law_weight" = true)
    (k_law_weight : PySem.W.keepIn K (.ref f_law_weight) = true)
    (a_law_pool : PySem.W.nsIn K mainGlobals "_law_pool" = some (some (.ref f_law_pool)))
    (l_law_pool : K.lookup f_law_pool = some ⟨oc_law_pool, od_law_pool, .func (PySem.W.fnOf "_law_pool" "_law_pool" (defArgs s_law_pool) (defBody s_law_pool) (defScope s_law_pool) .none kV_law_pool dc_law_pool pm_law_pool an_law_pool cd_law_pool ct_law_pool), sl_law_pool⟩)
    (c_law_pool : PySem.W.codeIn K cd_law_pool "_law_pool" = true)
    (k_law_pool : PySem.W.keepIn K (.ref f_law_pool) = true)
    (a_law_some : PySem.W.nsIn K mainGlobals "_law_some" = some (some (.ref f_law_some)))
    (l_law_some : K.lookup f_law_some = some ⟨oc_law_some, od_law_some, .func (PySem.W.fnOf "_law_some" "_law_some" (defArgs s_law_some) (defBody s_law_some) (defScope s_law_some) .none kV_law_some dc_law_some pm_law_some an_law_some cd_law_some ct_law_some), sl_law_some⟩)
    (c_law_some : PySem.W.codeIn K cd_law_some "_law_some" = true)
    (k_law_some : PySem.W.keepIn K (.ref f_law_some) = true)
    (a_law_entries : PySem.W.nsIn K mainGlobals "_law_entries" = some (some (.ref f_law_entries)))
    (l_law_entries : K.lookup f_law_entries = some ⟨oc_law_entries, od_law_entries, .func (PySem.W.fnOf "_law_entries" "_law_entries" (defArgs s_law_entries) (defBody s_law_entries) (defScope s_law_entries) .none kV_law_entries dc_law_entries pm_law_entries an_law_entries cd_law_entries ct_law_entries), sl_law_entries⟩)
    (c_law_entries : PySem.W.codeIn K cd_law_entries "_law_entries" = true)
    (k_law_entries : PySem.W.keepIn K (.ref f_law_entries) = true)
    (a_law_at : PySem.W.nsIn K mainGlobals "_law_at" = some (some (.ref f_law_at)))
    (l_law_at : K.lookup f_law_at = some ⟨oc_law_at, od_law_at, .func (PySem.W.fnOf "_law_at" "_law_at" (defArgs s_law_at) (defBody s_law_at) (defScope s_law_at) .none kV_law_at dc_law_at pm_law_at an_law_at cd_law_at ct_law_at), sl_law_at⟩)
    (c_law_at : PySem.W.codeIn K cd_law_at "_law_at" = true)
    (k_law_at : PySem.W.keepIn K (.ref f_law_at) = true)
    (a_law_numbers : PySem.W.nsIn K mainGlobals "_law_numbers" = some (some (.ref f_law_numbers)))
    (l_law_numbers : K.lookup f_law_numbers = some ⟨oc_law_numbers, od_law_numbers, .func (PySem.W.fnOf "_law_numbers" "_law_numbers" (defArgs s_law_numbers) (defBody s_law_numbers) (defScope s_law_numbers) .none kV_law_numbers dc_law_numbers pm_law_numbers an_law_numbers cd_law_numbers ct_law_numbers), sl_law_numbers⟩)
    (c_law_numbers : PySem.W.codeIn K cd_law_numbers "_law_numbers" = true)
    (k_law_numbers : PySem.W.keepIn K (.ref f_law_numbers) = true)
    (a_law_keys_are : PySem.W.nsIn K mainGlobals "_law_keys_are" = some (some (.ref f_law_keys_are)))
    (l_law_keys_are : K.lookup f_law_keys_are = some ⟨oc_law_keys_are, od_law_keys_are, .func (PySem.W.fnOf "_law_keys_are" "_law_keys_are" (defArgs s_law_keys_are) (defBody s_law_keys_are) (defScope s_law_keys_are) .none kV_law_keys_are dc_law_keys_are pm_law_keys_are an_law_keys_are cd_law_keys_are ct_law_keys_are), sl_law_keys_are⟩)
    (c_law_keys_are : PySem.W.codeIn K cd_law_keys_are "_law_keys_are" = true)
    (k_law_keys_are : PySem.W.keepIn K (.ref f_law_keys_are) = true)
    (a_law_counted : PySem.W.nsIn K mainGlobals "_law_counted" = some (some (.ref f_law_counted)))
    (l_law_counted : K.lookup f_law_counted = some ⟨oc_law_counted, od_law_counted, .func (PySem.W.fnOf "_law_counted" "_law_counted" (defArgs s_law_counted) (defBody s_law_counted) (defScope s_law_counted) .none kV_law_counted dc_law_counted pm_law_counted an_law_counted cd_law_counted ct_law_counted), sl_law_counted⟩)
    (c_law_counted : PySem.W.codeIn K cd_law_counted "_law_counted" = true)
    (k_law_counted : PySem.W.keepIn K (.ref f_law_counted) = true)
    (a_law_body : PySem.W.nsIn K mainGlobals "_law_body" = some (some (.ref f_law_body)))
    (l_law_body : K.lookup f_law_body = some ⟨oc_law_body, od_law_body, .func (PySem.W.fnOf "_law_body" "_law_body" (defArgs s_law_body) (defBody s_law_body) (defScope s_law_body) .none kV_law_body dc_law_body pm_law_body an_law_body cd_law_body ct_law_body), sl_law_body⟩)
    (c_law_body : PySem.W.codeIn K cd_law_body "_law_body" = true)
    (k_law_body : PySem.W.keepIn K (.ref f_law_body) = true)
    (a_law : PySem.W.nsIn K mainGlobals "law" = some (some (.ref f_law)))
    (l_law : K.lookup f_law = some ⟨oc_law, od_law, .func (PySem.W.fnOf "law" "law" (defArgs s_law) (defBody s_law) (defScope s_law) .none kV_law dc_law pm_law an_law cd_law ct_law), sl_law⟩)
    (c_law : PySem.W.codeIn K cd_law "law" = true)
    (k_law : PySem.W.keepIn K (.ref f_law) = true)
    (z_len : PySem.W.nsIn K mainGlobals "len" = some none)
    (z_abs : PySem.W.nsIn K mainGlobals "abs" = some none)
    (z_int : PySem.W.nsIn K mainGlobals "int" = some none)
    (z_bool : PySem.W.nsIn K mainGlobals "bool" = some none)
    (z_str : PySem.W.nsIn K mainGlobals "str" = some none)
    (z_list : PySem.W.nsIn K mainGlobals "list" = some none)
    (z_tuple : PySem.W.nsIn K mainGlobals "tuple" = some none)
    (z_ValueError : PySem.W.nsIn K mainGlobals "ValueError" = some none)
    (z_max : PySem.W.nsIn K mainGlobals "max" = some none)
    (z_min : PySem.W.nsIn K mainGlobals "min" = some none)
    (z_isinstance : PySem.W.nsIn K mainGlobals "isinstance" = some none)
    (z_range : PySem.W.nsIn K mainGlobals "range" = some none)
    (z_zip : PySem.W.nsIn K mainGlobals "zip" = some none)
    (z_sum : PySem.W.nsIn K mainGlobals "sum" = some none)
    (z_sorted : PySem.W.nsIn K mainGlobals "sorted" = some none)
    (z_enumerate : PySem.W.nsIn K mainGlobals "enumerate" = some none)
    (z_set : PySem.W.nsIn K mainGlobals "set" = some none)
    (z_dict : PySem.W.nsIn K mainGlobals "dict" = some none)
    (z_any : PySem.W.nsIn K mainGlobals "any" = some none)
    (z_all : PySem.W.nsIn K mainGlobals "all" = some none)
    (pg_CM : PySem.W.plainGet K CM Str.empty = true)
    (hd_CM : PySem.W.hasDictIn K CM = true)
    (po_CM : PySem.W.plainOver K CM = true)
    (sa_CM : PySem.W.findIn K (.ref CM) "__setattr__" = some (some (.builtin "object.__setattr__")))
    (mk_CM : PySem.W.makesIn K CM = true)
    (kc_CM : PySem.W.keepIn K (.ref CM) = true)
    (nCM_entries : PySem.W.findIn K (.ref CM) "entries" = some none)
    (nCM_whole : PySem.W.findIn K (.ref CM) "whole" = some none)
    (xL_CI : K.lookup CI = some (excClassObj nm_CI q_CI CI N_CI bs_CI [.ref CR, .type "ValueError", .type "Exception", .type "BaseException", .type "object"] true sn_CI sub_CI ab_CI col_CI dd_CI m0_CI m1_CI m2_CI m3_CI m5_CI "ValueError.__new__"))
    (xsa_CI : PySem.W.findIn K (.ref CI) "__setattr__" = some (some (.builtin "object.__setattr__")))
    (xex_CI : PySem.W.subIn K (.ref CI) (.type "BaseException") = some true)
    (xty_CI : PySem.W.typeIn K (.ref CI) = some (.type "type"))
    (xk_CI : PySem.W.keepIn K (.ref CI) = true)
    (xCI_number : PySem.W.findIn K (.ref CI) "number" = some none)
    (xL_CP : K.lookup CP = some (excClassObj nm_CP q_CP CP N_CP bs_CP [.ref CR, .type "ValueError", .type "Exception", .type "BaseException", .type "object"] true sn_CP sub_CP ab_CP col_CP dd_CP m0_CP m1_CP m2_CP m3_CP m5_CP "ValueError.__new__"))
    (xsa_CP : PySem.W.findIn K (.ref CP) "__setattr__" = some (some (.builtin "object.__setattr__")))
    (xex_CP : PySem.W.subIn K (.ref CP) (.type "BaseException") = some true)
    (xty_CP : PySem.W.typeIn K (.ref CP) = some (.type "type"))
    (xk_CP : PySem.W.keepIn K (.ref CP) = true)
    (xCP_at : PySem.W.findIn K (.ref CP) "at" = some none)
    (xL_CK : K.lookup CK = some (excClassObj nm_CK q_CK CK N_CK bs_CK [.ref CR, .type "ValueError", .type "Exception", .type "BaseException", .type "object"] true sn_CK sub_CK ab_CK col_CK dd_CK m0_CK m1_CK m2_CK m3_CK m5_CK "ValueError.__new__"))
    (xsa_CK : PySem.W.findIn K (.ref CK) "__setattr__" = some (some (.builtin "object.__setattr__")))
    (xex_CK : PySem.W.subIn K (.ref CK) (.type "BaseException") = some true)
    (xty_CK : PySem.W.typeIn K (.ref CK) = some (.type "type"))
    (xk_CK : PySem.W.keepIn K (.ref CK) = true)
    (xCK_key : PySem.W.findIn K (.ref CK) "key" = some none) :
    ∃ fd : FuncData, (∀ (s : Shared) (v : Value), BindsTo s fd ⟨[v], []⟩ [("script", v)]) ∧ ∀ base : Heap, K.In base → base.Ns mainGlobals mg → FnOk P w K mg base CX0 7 fa fd ["script"] (sp_law K) := by
  let CS : Addr := fa
  let CT : Addr := fa
  let CU : Addr := fa
  let CC : Addr := fa
  let CN : Addr := fa
  let CE : Addr := fa
  let CA : Addr := fa
  let CH : Addr := fa
  let CB : Addr := fa
  have e := hfa.symm.trans (PySem.W.mg_of X G a_law)
  cases e
  have ox_CI : OexC K CI := ⟨⟨nm_CI, q_CI, N_CI, bs_CI, _, sn_CI, sub_CI, ab_CI, col_CI, dd_CI, m0_CI, m1_CI, m2_CI, m3_CI, m5_CI, xL_CI, rfl⟩, xsa_CI, xex_CI, xty_CI, xk_CI⟩
  have ox_CP : OexC K CP := ⟨⟨nm_CP, q_CP, N_CP, bs_CP, _, sn_CP, sub_CP, ab_CP, col_CP, dd_CP, m0_CP, m1_CP, m2_CP, m3_CP, m5_CP, xL_CP, rfl⟩, xsa_CP, xex_CP, xty_CP, xk_CP⟩
  have ox_CK : OexC K CK := ⟨⟨nm_CK, q_CK, N_CK, bs_CK, _, sn_CK, sub_CK, ab_CK, col_CK, dd_CK, m0_CK, m1_CK, m2_CK, m3_CK, m5_CK, xL_CK, rfl⟩, xsa_CK, xex_CK, xty_CK, xk_CK⟩
  have cl_CM : Cls K CM := ⟨pg_CM, hd_CM, po_CM, sa_CM⟩
  have T : Txt K mg CS CI CT CP CM CK CU CC CN CE CA CH CB :=
    { len := PySem.W.mg_none_of X G z_len,
      abs := PySem.W.mg_none_of X G z_abs,
      int := PySem.W.mg_none_of X G z_int,
      bool := PySem.W.mg_none_of X G z_bool,
      str := PySem.W.mg_none_of X G z_str,
      list := PySem.W.mg_none_of X G z_list,
      tuple := PySem.W.mg_none_of X G z_tuple,
      ValueError := PySem.W.mg_none_of X G z_ValueError,
      max := PySem.W.mg_none_of X G z_max,
      min := PySem.W.mg_none_of X G z_min,
      isinstance := PySem.W.mg_none_of X G z_isinstance,
      range := PySem.W.mg_none_of X G z_range,
      zip := PySem.W.mg_none_of X G z_zip,
      sum := PySem.W.mg_none_of X G z_sum,
      sorted := PySem.W.mg_none_of X G z_sorted,
      enumerate := PySem.W.mg_none_of X G z_enumerate,
      set := PySem.W.mg_none_of X G z_set,
      dict := PySem.W.mg_none_of X G z_dict,
      any := PySem.W.mg_none_of X G z_any,
      all := PySem.W.mg_none_of X G z_all,
      mgMarking := PySem.W.mg_of X G a_CM,
      clM := ⟨pg_CM, hd_CM, po_CM, sa_CM⟩,
      nM_entries := nCM_entries,
      nM_whole := nCM_whole,
      mgInvalidNumber := PySem.W.mg_of X G a_CI,
      oex := ox_CI,
      no_number := xCI_number,
      mgInvalidPair := PySem.W.mg_of X G a_CP,
      oexP := ox_CP,
      no_at := xCP_at,
      mgInvalidKey := PySem.W.mg_of X G a_CK,
      oexK := ox_CK,
      noK_key := xCK_key }
  have F_is_integer := fun_mk (st := s_is_integer) l_is_integer c_is_integer k_is_integer
  have b_is_integer := F_is_integer.binds (ps := ["value"]) fun _ _ _ _ _ _ us hl => match us, hl with | [_], _ => rfl
  have F_is_number_below := fun_mk (st := s_is_number_below) l_is_number_below c_is_number_below k_is_number_below
  have b_is_number_below := F_is_number_below.binds (ps := ["value", "end"]) fun _ _ _ _ _ _ us hl => match us, hl with | [_, _], _ => rfl
  have F_is_weight := fun_mk (st := s_is_weight) l_is_weight c_is_weight k_is_weight
  have b_is_weight := F_is_weight.binds (ps := ["value"]) fun _ _ _ _ _ _ us hl => match us, hl with | [_], _ => rfl
  have F_block_of := fun_mk (st := s_block_of) l_block_of c_block_of k_block_of
  have b_block_of := F_block_of.binds (ps := ["number", "sizes"]) fun _ _ _ _ _ _ us hl => match us, hl with | [_, _], _ => rfl
  have F_Marking_init := fun_mk (st := s_Marking_init) l_Marking_init c_Marking_init k_Marking_init
  have b_Marking_init := F_Marking_init.binds (ps := ["self", "entries"]) fun _ _ _ _ _ _ us hl => match us, hl with | [_, _], _ => rfl
  have F_Marking_key_of := fun_mk (st := s_Marking_key_of) l_Marking_key_of c_Marking_key_of k_Marking_key_of
  have b_Marking_key_of := F_Marking_key_of.binds (ps := ["self", "number"]) fun _ _ _ _ _ _ us hl => match us, hl with | [_, _], _ => rfl
  have F_Marking_write := fun_mk (st := s_Marking_write) l_Marking_write c_Marking_write k_Marking_write
  have b_Marking_write := F_Marking_write.binds (ps := ["self", "key"]) fun _ _ _ _ _ _ us hl => match us, hl with | [_, _], _ => rfl
  have F_Marking_accuses := fun_mk (st := s_Marking_accuses) l_Marking_accuses c_Marking_accuses k_Marking_accuses
  have b_Marking_accuses := F_Marking_accuses.binds (ps := ["self", "key", "text"]) fun _ _ _ _ _ _ us hl => match us, hl with | [_, _, _], _ => rfl
  have F_Markingentry := fun_mk (st := s_Markingentry) l_Markingentry c_Markingentry k_Markingentry
  have b_Markingentry := F_Markingentry.binds (ps := ["self", "key"]) fun _ _ _ _ _ _ us hl => match us, hl with | [_, _], _ => rfl
  have F_law_integer := fun_mk (st := s_law_integer) l_law_integer c_law_integer k_law_integer
  have b_law_integer := F_law_integer.binds (ps := ["value"]) fun _ _ _ _ _ _ us hl => match us, hl with | [_], _ => rfl
  have F_law_start := fun_mk (st := s_law_start) l_law_start c_law_start k_law_start
  have b_law_start := F_law_start.binds (ps := ["script"]) fun _ _ _ _ _ _ us hl => match us, hl with | [_], _ => rfl
  have F_law_draw := fun_mk (st := s_law_draw) l_law_draw c_law_draw k_law_draw
  have b_law_draw := F_law_draw.binds (ps := ["state", "limit"]) fun _ _ _ _ _ _ us hl => match us, hl with | [_, _], _ => rfl
  have F_law_wide := fun_mk (st := s_law_wide) l_law_wide c_law_wide k_law_wide
  have b_law_wide := F_law_wide.binds (ps := ["state"]) fun _ _ _ _ _ _ us hl => match us, hl with | [_], _ => rfl
  have F_law_signs := fun_mk (st := s_law_signs) l_law_signs c_law_signs k_law_signs
  have b_law_signs := F_law_signs.binds (ps := []) fun _ _ _ _ _ _ us hl => match us, hl with | [], _ => rfl
  have F_law_text := fun_mk (st := s_law_text) l_law_text c_law_text k_law_text
  have b_law_text := F_law_text.binds (ps := ["state", "most"]) fun _ _ _ _ _ _ us hl => match us, hl with | [_, _], _ => rfl
  have F_law_texts := fun_mk (st := s_law_texts) l_law_texts c_law_texts k_law_texts
  have b_law_texts := F_law_texts.binds (ps := ["state", "many", "most"]) fun _ _ _ _ _ _ us hl => match us, hl with | [_, _, _], _ => rfl
  have F_law_weight := fun_mk (st := s_law_weight) l_law_weight c_law_weight k_law_weight
  have b_law_weight := F_law_weight.binds (ps := ["state", "kind"]) fun _ _ _ _ _ _ us hl => match us, hl with | [_, _], _ => rfl
  have F_law_pool := fun_mk (st := s_law_pool) l_law_pool c_law_pool k_law_pool
  have b_law_pool := F_law_pool.binds (ps := ["state"]) fun _ _ _ _ _ _ us hl => match us, hl with | [_], _ => rfl
  have F_law_some := fun_mk (st := s_law_some) l_law_some c_law_some k_law_some
  have b_law_some := F_law_some.binds (ps := ["state", "pool", "most"]) fun _ _ _ _ _ _ us hl => match us, hl with | [_, _, _], _ => rfl
  have F_law_entries := fun_mk (st := s_law_entries) l_law_entries c_law_entries k_law_entries
  have b_law_entries := F_law_entries.binds (ps := ["state", "pool"]) fun _ _ _ _ _ _ us hl => match us, hl with | [_, _], _ => rfl
  have F_law_at := fun_mk (st := s_law_at) l_law_at c_law_at k_law_at
  have b_law_at := F_law_at.binds (ps := ["entries", "number"]) fun _ _ _ _ _ _ us hl => match us, hl with | [_, _], _ => rfl
  have F_law_numbers := fun_mk (st := s_law_numbers) l_law_numbers c_law_numbers k_law_numbers
  have b_law_numbers := F_law_numbers.binds (ps := ["state", "entries", "whole"]) fun _ _ _ _ _ _ us hl => match us, hl with | [_, _, _], _ => rfl
  have F_law_keys_are := fun_mk (st := s_law_keys_are) l_law_keys_are c_law_keys_are k_law_keys_are
  have b_law_keys_are := F_law_keys_are.binds (ps := ["marking", "entries", "numbers"]) fun _ _ _ _ _ _ us hl => match us, hl with | [_, _, _], _ => rfl
  have F_law_counted := fun_mk (st := s_law_counted) l_law_counted c_law_counted k_law_counted
  have b_law_counted := F_law_counted.binds (ps := ["marking", "entries", "pool", "whole"]) fun _ _ _ _ _ _ us hl => match us, hl with | [_, _, _, _], _ => rfl
  have F_law_body := fun_mk (st := s_law_body) l_law_body c_law_body k_law_body
  have b_law_body := F_law_body.binds (ps := ["script"]) fun _ _ _ _ _ _ us hl => match us, hl with | [_], _ => rfl
  have F_law := fun_mk (st := s_law) l_law c_law k_law
  have b_law := F_law.binds (ps := ["script"]) fun _ _ _ _ _ _ us hl => match us, hl with | [_], _ => rfl
  refine ⟨PySem.W.fnOf "law" "law" (defArgs s_law) (defBody s_law) (defScope s_law) .none kV_law dc_law pm_law an_law cd_law ct_law, fun s v => .of_eq rfl, fun base _ _ => ?_⟩
  have D_law_start : Df P w K mg base 1 "_law_start" s_law_start ["script"] (sp_law_start (K := K)) := ⟨⟨_, _, F_law_start, ok_law_start F_law_start T, PySem.W.mg_of X G a_law_start, b_law_start⟩⟩
  have D_law_draw : Df P w K mg base 1 "_law_draw" s_law_draw ["state", "limit"] sp_law_draw := ⟨⟨_, _, F_law_draw, ok_law_draw F_law_draw T, PySem.W.mg_of X G a_law_draw, b_law_draw⟩⟩
  have D_law_signs : Df P w K mg base 1 "_law_signs" s_law_signs [] sp_law_signs := ⟨⟨_, _, F_law_signs, ok_law_signs F_law_signs T, PySem.W.mg_of X G a_law_signs, b_law_signs⟩⟩
  have D_law_text : Df P w K mg base 2 "_law_text" s_law_text ["state", "most"] sp_law_text := ⟨⟨_, _, F_law_text, ok_law_text F_law_text T D_law_draw D_law_signs, PySem.W.mg_of X G a_law_text, b_law_text⟩⟩
  have D_law_texts : Df P w K mg base 3 "_law_texts" s_law_texts ["state", "many", "most"] sp_law_texts := ⟨⟨_, _, F_law_texts, ok_law_texts F_law_texts T D_law_draw D_law_text D_law_signs, PySem.W.mg_of X G a_law_texts, b_law_texts⟩⟩
  have D_law_pool : Df P w K mg base 4 "_law_pool" s_law_pool ["state"] sp_law_pool := ⟨⟨_, _, F_law_pool, ok_law_pool F_law_pool T D_law_draw D_law_texts, PySem.W.mg_of X G a_law_pool, b_law_pool⟩⟩
  have D_law_wide : Df P w K mg base 2 "_law_wide" s_law_wide ["state"] sp_law_wide := ⟨⟨_, _, F_law_wide, ok_law_wide F_law_wide T D_law_draw, PySem.W.mg_of X G a_law_wide, b_law_wide⟩⟩
  have D_law_weight : Df P w K mg base 3 "_law_weight" s_law_weight ["state", "kind"] sp_law_weight := ⟨⟨_, _, F_law_weight, ok_law_weight F_law_weight T D_law_draw D_law_wide, PySem.W.mg_of X G a_law_weight, b_law_weight⟩⟩
  have D_law_some : Df P w K mg base 2 "_law_some" s_law_some ["state", "pool", "most"] sp_law_some := ⟨⟨_, _, F_law_some, ok_law_some F_law_some T D_law_draw, PySem.W.mg_of X G a_law_some, b_law_some⟩⟩
  have D_law_entries : Df P w K mg base 4 "_law_entries" s_law_entries ["state", "pool"] sp_law_entries := ⟨⟨_, _, F_law_entries, ok_law_entries F_law_entries T D_law_draw D_law_weight D_law_some, PySem.W.mg_of X G a_law_entries, b_law_entries⟩⟩
  have D_is_integer : Df P w K mg base 1 "is_integer" s_is_integer ["value"] sp_is_integer := ⟨⟨_, _, F_is_integer, ok_is_integer F_is_integer T, PySem.W.mg_of X G a_is_integer, b_is_integer⟩⟩
  have D_is_weight : Df P w K mg base 2 "is_weight" s_is_weight ["value"] sp_is_weight := ⟨⟨_, _, F_is_weight, ok_is_weight F_is_weight T D_is_integer, PySem.W.mg_of X G a_is_weight, b_is_weight⟩⟩
  have D_Marking_init : Dk P w K mg base 3 CM "Marking" "Marking.__init__" s_Marking_init ["self", "entries"] (sp_Marking_init CM) := ⟨⟨_, _, F_Marking_init, ok_Marking_init F_Marking_init T D_is_weight, ⟨mk_CM, a_Marking_init, i_Marking_init, kc_CM⟩, PySem.W.mg_of X G a_CM, b_Marking_init⟩⟩
  have D_law_integer : Df P w K mg base 1 "_law_integer" s_law_integer ["value"] sp_law_integer := ⟨⟨_, _, F_law_integer, ok_law_integer F_law_integer T, PySem.W.mg_of X G a_law_integer, b_law_integer⟩⟩
  have D_law_numbers : Df P w K mg base 3 "_law_numbers" s_law_numbers ["state", "entries", "whole"] sp_law_numbers := ⟨⟨_, _, F_law_numbers, ok_law_numbers F_law_numbers T D_law_wide, PySem.W.mg_of X G a_law_numbers, b_law_numbers⟩⟩
  have D_is_number_below : Df P w K mg base 2 "is_number_below" s_is_number_below ["value", "end"] sp_is_number_below := ⟨⟨_, _, F_is_number_below, ok_is_number_below F_is_number_below T D_is_integer, PySem.W.mg_of X G a_is_number_below, b_is_number_below⟩⟩
  have D_block_of : Df P w K mg base 1 "block_of" s_block_of ["number", "sizes"] (sp_block_of K) := ⟨⟨_, _, F_block_of, ok_block_of F_block_of T, PySem.W.mg_of X G a_block_of, b_block_of⟩⟩
  have D_Marking_key_of : Dm P w K mg base 3 CM "key_of" "Marking.key_of" s_Marking_key_of ["self", "number"] (sp_Marking_key_of CM) := ⟨⟨_, _, F_Marking_key_of, ok_Marking_key_of F_Marking_key_of T D_is_number_below D_block_of, cl_CM, ⟨a_Marking_key_of, i_Marking_key_of, k_Marking_key_of⟩, b_Marking_key_of⟩⟩
  have D_law_at : Df P w K mg base 1 "_law_at" s_law_at ["entries", "number"] sp_law_at := ⟨⟨_, _, F_law_at, ok_law_at F_law_at T, PySem.W.mg_of X G a_law_at, b_law_at⟩⟩
  have D_law_keys_are : Df P w K mg base 4 "_law_keys_are" s_law_keys_are ["marking", "entries", "numbers"] (sp_law_keys_are CM) := ⟨⟨_, _, F_law_keys_are, ok_law_keys_are F_law_keys_are T D_Marking_key_of D_law_integer D_law_at, PySem.W.mg_of X G a_law_keys_are, b_law_keys_are⟩⟩
  have D_Markingentry : Dm P w K mg base 3 CM "_entry" "Marking._entry" s_Markingentry ["self", "key"] (sp_Marking_entry CM) := ⟨⟨_, _, F_Markingentry, ok_Markingentry F_Markingentry T D_is_number_below, cl_CM, ⟨a_Markingentry, i_Markingentry, k_Markingentry⟩, b_Markingentry⟩⟩
  have D_Marking_write : Dm P w K mg base 4 CM "write" "Marking.write" s_Marking_write ["self", "key"] (sp_Marking_write CM) := ⟨⟨_, _, F_Marking_write, ok_Marking_write F_Marking_write T D_Markingentry, cl_CM, ⟨a_Marking_write, i_Marking_write, k_Marking_write⟩, b_Marking_write⟩⟩
  have D_Marking_accuses : Dm P w K mg base 4 CM "accuses" "Marking.accuses" s_Marking_accuses ["self", "key", "text"] (sp_Marking_accuses CM) := ⟨⟨_, _, F_Marking_accuses, ok_Marking_accuses F_Marking_accuses T D_Markingentry, cl_CM, ⟨a_Marking_accuses, i_Marking_accuses, k_Marking_accuses⟩, b_Marking_accuses⟩⟩
  have D_law_counted : Df P w K mg base 5 "_law_counted" s_law_counted ["marking", "entries", "pool", "whole"] (sp_law_counted CM) := ⟨⟨_, _, F_law_counted, ok_law_counted F_law_counted T D_Marking_key_of D_Marking_write D_Marking_accuses, PySem.W.mg_of X G a_law_counted, b_law_counted⟩⟩
  have D_law_body : Df P w K mg base 6 "_law_body" s_law_body ["script"] (sp_law_body K) := ⟨⟨_, _, F_law_body, ok_law_body F_law_body T D_law_start D_law_pool D_law_entries D_Marking_init D_law_integer D_law_numbers D_law_keys_are D_law_counted, PySem.W.mg_of X G a_law_body, b_law_body⟩⟩
  exact ok_law F_law D_law_body
end K01
open PySem PySem.W PyProof.Rows
set_option maxRecDepth 100000 in
set_option maxHeartbeats 0 in
theorem PySem.Challenge.cw_marktruly_k25_keys_by_numbers_holds : PySem.Challenge.rw_marktruly_k25_keys_by_numbers.Holds := by
  w_on; o_law; k_head; (case hw => w_witness2)
  k_fill
  refine L2.walk_of (l := PySem.Challenge.rw_marktruly_k25_keys_by_numbers) (n := 63) (k := 7) (x := "script") (CX := fun _ => L2.CX0) (sp := fun w => K01.sp_law _) rfl (by decide) rfl ⟨rfl, by decide, by decide⟩ (fun w h Y => PySem.W.kIn_of Y) ?F (fun _ _ a ns hl _ hS => ⟨a, ns, rfl, hS, hl, fun _ => rfl⟩) (fun _ _ _ _ _ z => z)
  case F =>
    intro w mg fa h KX G hmg
    refine' K01.all_mk KX G hmg ?a_CM ?a_CI ?a_CP ?a_CK ?a_is_integer ?l_is_integer ?c_is_integer ?k_is_integer ?a_is_number_below ?l_is_number_below ?c_is_number_below ?k_is_number_below ?a_is_weight ?l_is_weight ?c_is_weight ?k_is_weight ?a_block_of ?l_block_of ?c_block_of ?k_block_of ?a_Marking_init ?i_Marking_init ?l_Marking_init ?c_Marking_init ?k_Marking_init ?a_Marking_key_of ?i_Marking_key_of ?l_Marking_key_of ?c_Marking_key_of ?k_Marking_key_of ?a_Marking_write ?i_Marking_write ?l_Marking_write ?c_Marking_write ?k_Marking_write ?a_Marking_accuses ?i_Marking_accuses ?l_Marking_accuses ?c_Marking_accuses ?k_Marking_accuses ?a_Markingentry ?i_Markingentry ?l_Markingentry ?c_Markingentry ?k_Markingentry ?a_law_integer ?l_law_integer ?c_law_integer ?k_law_integer ?a_law_start ?l_law_start ?c_law_start ?k_law_start ?a_law_draw ?l_law_draw ?c_law_draw ?k_law_draw ?a_law_wide ?l_law_wide ?c_law_wide ?k_law_wide ?a_law_signs ?l_law_signs ?c_law_signs ?k_law_signs ?a_law_text ?l_law_text ?c_law_text ?k_law_text ?a_law_texts ?l_law_texts ?c_law_texts ?k_law_texts ?a_law_weight ?l_law_weight ?c_law_weight ?k_law_weight ?a_law_pool ?l_law_pool ?c_law_pool ?k_law_pool ?a_law_some ?l_law_some ?c_law_some ?k_law_some ?a_law_entries ?l_law_entries ?c_law_entries ?k_law_entries ?a_law_at ?l_law_at ?c_law_at ?k_law_at ?a_law_numbers ?l_law_numbers ?c_law_numbers ?k_law_numbers ?a_law_keys_are ?l_law_keys_are ?c_law_keys_are ?k_law_keys_are ?a_law_counted ?l_law_counted ?c_law_counted ?k_law_counted ?a_law_body ?l_law_body ?c_law_body ?k_law_body ?a_law ?l_law ?c_law ?k_law ?z_len ?z_abs ?z_int ?z_bool ?z_str ?z_list ?z_tuple ?z_ValueError ?z_max ?z_min ?z_isinstance ?z_range ?z_zip ?z_sum ?z_sorted ?z_enumerate ?z_set ?z_dict ?z_any ?z_all ?pg_CM ?hd_CM ?po_CM ?sa_CM ?mk_CM ?kc_CM ?nCM_entries ?nCM_whole ?xL_CI ?xsa_CI ?xex_CI ?xty_CI ?xk_CI ?xCI_number ?xL_CP ?xsa_CP ?xex_CP ?xty_CP ?xk_CP ?xCP_at ?xL_CK ?xsa_CK ?xex_CK ?xty_CK ?xk_CK ?xCK_key
    (case a_CM => k_is)
    (case a_CI => k_is)
    (case a_CP => k_is)
    (case a_CK => k_is)
    (case a_is_integer => k_is)
    (case l_is_integer => k_is)
    (case c_is_integer => k_is)
    (case k_is_integer => k_is)
    (case a_is_number_below => k_is)
    (case l_is_number_below => k_is)
    (case c_is_number_below => k_is)
    (case k_is_number_below => k_is)
    (case a_is_weight => k_is)
    (case l_is_weight => k_is)
    (case c_is_weight => k_is)
    (case k_is_weight => k_is)
    (case a_block_of => k_is)
    (case l_block_of => k_is)
    (case c_block_of => k_is)
    (case k_block_of => k_is)
    (case a_Marking_init => k_is)
    (case i_Marking_init => k_is)
    (case l_Marking_init => k_is)
    (case c_Marking_init => k_is)
    (case k_Marking_init => k_is)
    (case a_Marking_key_of => k_is)
    (case i_Marking_key_of => k_is)
    (case l_Marking_key_of => k_is)
    (case c_Marking_key_of => k_is)
    (case k_Marking_key_of => k_is)
    (case a_Marking_write => k_is)
    (case i_Marking_write => k_is)
    (case l_Marking_write => k_is)
    (case c_Marking_write => k_is)
    (case k_Marking_write => k_is)
    (case a_Marking_accuses => k_is)
    (case i_Marking_accuses => k_is)
    (case l_Marking_accuses => k_is)
    (case c_Marking_accuses => k_is)
    (case k_Marking_accuses => k_is)
    (case a_Markingentry => k_is)
    (case i_Markingentry => k_is)
    (case l_Markingentry => k_is)
    (case c_Markingentry => k_is)
    (case k_Markingentry => k_is)
    (case a_law_integer => k_is)
    (case l_law_integer => k_is)
    (case c_law_integer => k_is)
    (case k_law_integer => k_is)
    (case a_law_start => k_is)
    (case l_law_start => k_is)
    (case c_law_start => k_is)
    (case k_law_start => k_is)
    (case a_law_draw => k_is)
    (case l_law_draw => k_is)
    (case c_law_draw => k_is)
    (case k_law_draw => k_is)
    (case a_law_wide => k_is)
    (case l_law_wide => k_is)
    (case c_law_wide => k_is)
    (case k_law_wide => k_is)
    (case a_law_signs => k_is)
    (case l_law_signs => k_is)
    (case c_law_signs => k_is)
    (case k_law_signs => k_is)
    (case a_law_text => k_is)
    (case l_law_text => k_is)
    (case c_law_text => k_is)
    (case k_law_text => k_is)
    (case a_law_texts => k_is)
    (case l_law_texts => k_is)
    (case c_law_texts => k_is)
    (case k_law_texts => k_is)
    (case a_law_weight => k_is)
    (case l_law_weight => k_is)
    (case c_law_weight => k_is)
    (case k_law_weight => k_is)
    (case a_law_pool => k_is)
    (case l_law_pool => k_is)
    (case c_law_pool => k_is)
    (case k_law_pool => k_is)
    (case a_law_some => k_is)
    (case l_law_some => k_is)
    (case c_law_some => k_is)
    (case k_law_some => k_is)
    (case a_law_entries => k_is)
    (case l_law_entries => k_is)
    (case c_law_entries => k_is)
    (case k_law_entries => k_is)
    (case a_law_at => k_is)
    (case l_law_at => k_is)
    (case c_law_at => k_is)
    (case k_law_at => k_is)
    (case a_law_numbers => k_is)
    (case l_law_numbers => k_is)
    (case c_law_numbers => k_is)
    (case k_law_numbers => k_is)
    (case a_law_keys_are => k_is)
    (case l_law_keys_are => k_is)
    (case c_law_keys_are => k_is)
    (case k_law_keys_are => k_is)
    (case a_law_counted => k_is)
    (case l_law_counted => k_is)
    (case c_law_counted => k_is)
    (case k_law_counted => k_is)
    (case a_law_body => k_is)
    (case l_law_body => k_is)
    (case c_law_body => k_is)
    (case k_law_body => k_is)
    (case a_law => k_is)
    (case l_law => k_is)
    (case c_law => k_is)
    (case k_law => k_is)
    (case z_len => k_is)
    (case z_abs => k_is)
    (case z_int => k_is)
    (case z_bool => k_is)
    (case z_str => k_is)
    (case z_list => k_is)
    (case z_tuple => k_is)
    (case z_ValueError => k_is)
    (case z_max => k_is)
    (case z_min => k_is)
    (case z_isinstance => k_is)
    (case z_range => k_is)
    (case z_zip => k_is)
    (case z_sum => k_is)
    (case z_sorted => k_is)
    (case z_enumerate => k_is)
    (case z_set => k_is)
    (case z_dict => k_is)
    (case z_any => k_is)
    (case z_all => k_is)
    (case pg_CM => k_is)
    (case hd_CM => k_is)
    (case po_CM => k_is)
    (case sa_CM => k_is)
    (case mk_CM => k_is)
    (case kc_CM => k_is)
    (case nCM_entries => k_is)
    (case nCM_whole => k_is)
    (case xL_CI => k_is)
    (case xsa_CI => k_is)
    (case xex_CI => k_is)
    (case xty_CI => k_is)
    (case xk_CI => k_is)
    (case xCI_number => k_is)
    (case xL_CP => k_is)
    (case xsa_CP => k_is)
    (case xex_CP => k_is)
    (case xty_CP => k_is)
    (case xk_CP => k_is)
    (case xCP_at => k_is)
    (case xL_CK => k_is)
    (case xsa_CK => k_is)
    (case xex_CK => k_is)
    (case xty_CK => k_is)
    (case xk_CK => k_is)
    (case xCK_key => k_is)
