/- Plain functions: the order of names. No program. -/
import Derived.WalkKit
namespace Go.Proofs.YtmicjadbahicfaaDoor

def isD (c : UInt8) : Bool := decide (48 ≤ c.toNat) && decide (c.toNat ≤ 57)
def val : List UInt8 → Nat
  | [] => 0
  | c :: l => (c.toNat - 48) * 10 ^ l.length + val l
def run (l : List UInt8) : List UInt8 := l.takeWhile isD
def AllD (l : List UInt8) : Prop := ∀ c ∈ l, isD c = true

theorem isD_iff {c : UInt8} : isD c = true ↔ 48 ≤ c.toNat ∧ c.toNat ≤ 57 := by simp [isD]
theorem run_all (l : List UInt8) : AllD (run l) := fun c hc => by
  unfold run at hc
  induction l with
  | nil => simp at hc
  | cons x l ih =>
    rw [List.takeWhile_cons] at hc
    split at hc
    · rcases List.mem_cons.1 hc with rfl | h
      · assumption
      · exact ih h
    · simp at hc
theorem AllD.tail {c : UInt8} {l : List UInt8} (h : AllD (c :: l)) : isD c = true ∧ AllD l := ⟨h c (by simp), fun d hd => h d (by simp [hd])⟩
theorem val_lt {l : List UInt8} (h : AllD l) : val l < 10 ^ l.length := by
  induction l with
  | nil => simp [val]
  | cons c l ih =>
    have h1 := ih h.tail.2
    have h2 := isD_iff.1 h.tail.1
    simp only [val, List.length_cons, Nat.pow_succ]
    have h3 : (c.toNat - 48) * 10 ^ l.length ≤ 9 * 10 ^ l.length := Nat.mul_le_mul_right _ (by omega)
    omega

/-- three ways -/
def c3 (x y : Nat) : Int := if x < y then -1 else if y < x then 1 else 0
theorem c3_neg (x y : Nat) : c3 x y = - c3 y x := by unfold c3; split <;> split <;> (try split) <;> omega
theorem c3_lt {x y : Nat} : c3 x y < 0 ↔ x < y := by unfold c3; split <;> (try split) <;> omega
theorem c3_zero {x y : Nat} : c3 x y = 0 ↔ x = y := by unfold c3; split <;> (try split) <;> omega
theorem c3_gt {x y : Nat} : 0 < c3 x y ↔ y < x := by unfold c3; split <;> (try split) <;> omega

/-- lexicographic, of three -/
def cT (t u : Nat × Nat × Nat) : Int := if c3 t.1 u.1 ≠ 0 then c3 t.1 u.1 else if c3 t.2.1 u.2.1 ≠ 0 then c3 t.2.1 u.2.1 else c3 t.2.2 u.2.2
theorem cT_neg (t u : Nat × Nat × Nat) : cT t u = - cT u t := by
  unfold cT
  rw [c3_neg t.1 u.1, c3_neg t.2.1 u.2.1, c3_neg t.2.2 u.2.2]
  split <;> split <;> (try split) <;> (try split) <;> omega
theorem cT_lt {t u : Nat × Nat × Nat} : cT t u < 0 ↔ t.1 < u.1 ∨ (t.1 = u.1 ∧ (t.2.1 < u.2.1 ∨ (t.2.1 = u.2.1 ∧ t.2.2 < u.2.2))) := by
  have a1 := @c3_lt t.1 u.1; have a2 := @c3_zero t.1 u.1
  have b1 := @c3_lt t.2.1 u.2.1; have b2 := @c3_zero t.2.1 u.2.1
  have d1 := @c3_lt t.2.2 u.2.2
  unfold cT
  split
  · rw [a1]; omega
  · split
    · rw [b1]; omega
    · rw [d1]; omega
theorem cT_zero {t u : Nat × Nat × Nat} : cT t u = 0 ↔ t = u := by
  have a2 := @c3_zero t.1 u.1
  have b2 := @c3_zero t.2.1 u.2.1
  have d2 := @c3_zero t.2.2 u.2.2
  constructor
  · intro h
    unfold cT at h
    split at h
    · rename_i n1; exact absurd h n1
    · rename_i n1
      split at h
      · rename_i n2; exact absurd h n2
      · rename_i n2
        exact Prod.ext (a2.1 (Classical.not_not.1 n1)) (Prod.ext (b2.1 (Classical.not_not.1 n2)) (d2.1 h))
  · rintro rfl; unfold cT; simp [c3]

def tok (l : List UInt8) : Nat × Nat × Nat :=
  match l with
  | [] => (0, 0, 0)
  | x :: l' => if isD x then (48, val (run (x :: l')), (run (x :: l')).length) else (x.toNat, 0, 0)
def tlen (l : List UInt8) : Nat :=
  match l with
  | [] => 1
  | x :: l' => if isD x then (run (x :: l')).length else 1
theorem tlen_pos (l : List UInt8) : 1 ≤ tlen l := by
  unfold tlen
  split
  · omega
  · rename_i x l'
    split
    · rename_i h; unfold run; rw [List.takeWhile_cons, if_pos h]; simp
    · omega
theorem tlen_le {l : List UInt8} (h : l ≠ []) : tlen l ≤ l.length := by
  unfold tlen
  split
  · exact absurd rfl h
  · split
    · exact List.Sublist.length_le (List.takeWhile_sublist _)
    · simp

def cmpF : Nat → List UInt8 → List UInt8 → Int
  | 0, _, _ => 0
  | n + 1, a, b => if a = [] then (if b = [] then 0 else -1) else if b = [] then 1 else if cT (tok a) (tok b) ≠ 0 then cT (tok a) (tok b) else cmpF n (a.drop (tlen a)) (b.drop (tlen b))
theorem cmpF_fuel : ∀ (n m : Nat) (a b : List UInt8), a.length < n → a.length < m → cmpF n a b = cmpF m a b := by
  intro n
  induction n with
  | zero => intro m a b h; omega
  | succ n ih =>
    intro m a b h1 h2
    match m, h2 with
    | m + 1, h2 =>
      simp only [cmpF]
      split
      · rfl
      · rename_i ha
        split
        · rfl
        · split
          · rfl
          · have hp := tlen_pos a
            have hl := tlen_le ha
            exact ih m _ _ (by rw [List.length_drop]; omega) (by rw [List.length_drop]; omega)
def cmpS (a b : List UInt8) : Int := cmpF (a.length + 1) a b
theorem cmpS_nil (b : List UInt8) : cmpS [] b = if b = [] then 0 else -1 := by simp [cmpS, cmpF]
theorem cmpS_nil' {a : List UInt8} (h : a ≠ []) : cmpS a [] = 1 := by simp [cmpS, cmpF, h]
theorem cmpS_step {a b : List UInt8} (ha : a ≠ []) (hb : b ≠ []) : cmpS a b = if cT (tok a) (tok b) ≠ 0 then cT (tok a) (tok b) else cmpS (a.drop (tlen a)) (b.drop (tlen b)) := by
  have hp := tlen_pos a
  have hl := tlen_le ha
  rw [cmpS, cmpF, if_neg ha, if_neg hb]
  split
  · rfl
  · exact cmpF_fuel _ _ _ _ (by rw [List.length_drop]; omega) (by omega)

theorem cmpF_neg : ∀ n a b, cmpF n a b = - cmpF n b a := by
  intro n
  induction n with
  | zero => intro a b; rfl
  | succ n ih =>
    intro a b
    simp only [cmpF]
    by_cases ha : a = [] <;> by_cases hb : b = [] <;> simp only [ha, hb, if_true, if_false] <;> try omega
    have h1 := cT_neg (tok a) (tok b)
    have h2 := ih (a.drop (tlen a)) (b.drop (tlen b))
    split <;> split <;> omega
theorem cmpF_more {n : Nat} {a b : List UInt8} (ha : a.length < n) : cmpF n a b = cmpS a b := cmpF_fuel _ _ _ _ ha (Nat.lt_succ_self _)
theorem cmpS_neg (a b : List UInt8) : cmpS a b = - cmpS b a := by
  have h1 := cmpF_more (n := a.length + b.length + 1) (a := a) (b := b) (by omega)
  have h2 := cmpF_more (n := a.length + b.length + 1) (a := b) (b := a) (by omega)
  rw [← h1, ← h2, cmpF_neg]

theorem val_inj {p q : List UInt8} (hp : AllD p) (hq : AllD q) (hl : p.length = q.length) (hv : val p = val q) : p = q := by
  induction p generalizing q with
  | nil => cases q with
    | nil => rfl
    | cons => simp at hl
  | cons c p ih => cases q with
    | nil => simp at hl
    | cons d q =>
      have hl' : p.length = q.length := by simpa using hl
      have v1 := val_lt hp.tail.2
      have v2 := val_lt hq.tail.2
      have i1 := isD_iff.1 hp.tail.1
      have i2 := isD_iff.1 hq.tail.1
      simp only [val, hl'] at hv
      rw [hl'] at v1
      have hcd : c.toNat - 48 = d.toNat - 48 := by
        rcases Nat.lt_trichotomy (c.toNat - 48) (d.toNat - 48) with h | h | h
        · exfalso
          have : (c.toNat - 48 + 1) * 10 ^ q.length ≤ (d.toNat - 48) * 10 ^ q.length := Nat.mul_le_mul_right _ h
          rw [Nat.succ_mul] at this; omega
        · exact h
        · exfalso
          have : (d.toNat - 48 + 1) * 10 ^ q.length ≤ (c.toNat - 48) * 10 ^ q.length := Nat.mul_le_mul_right _ h
          rw [Nat.succ_mul] at this; omega
      have hc : c = d := UInt8.toNat_inj.1 (by omega)
      subst hc
      rw [ih hp.tail.2 hq.tail.2 hl' (by omega)]

theorem tok_digit {x : UInt8} {l : List UInt8} (h : isD x = true) : tok (x :: l) = (48, val (run (x :: l)), (run (x :: l)).length) ∧ tlen (x :: l) = (run (x :: l)).length := by
  simp [tok, tlen, h]
theorem tok_other {x : UInt8} {l : List UInt8} (h : isD x = false) : tok (x :: l) = (x.toNat, 0, 0) ∧ tlen (x :: l) = 1 := by
  simp [tok, tlen, h]
theorem run_pre (l : List UInt8) : l.take (run l).length = run l := by
  unfold run
  induction l with
  | nil => rfl
  | cons x l ih =>
    rw [List.takeWhile_cons]
    split
    · simp [ih]
    · simp
/-- equal first parts are the same bytes -/
theorem tok_eq {a b : List UInt8} (ha : a ≠ []) (hb : b ≠ []) (h : tok a = tok b) : tlen a = tlen b ∧ a.take (tlen a) = b.take (tlen b) := by
  cases a with
  | nil => exact absurd rfl ha
  | cons x a => cases b with
    | nil => exact absurd rfl hb
    | cons y b =>
      cases hx : isD x
      · cases hy : isD y
        · rw [(tok_other hx).1, (tok_other hy).1] at h
          have : x = y := UInt8.toNat_inj.1 (by simpa using h)
          rw [(tok_other hx).2, (tok_other hy).2, this]; exact ⟨rfl, by simp⟩
        · rw [(tok_other hx).1, (tok_digit hy).1] at h
          simp only [Prod.mk.injEq] at h
          have : isD x = true := isD_iff.2 (by omega)
          rw [hx] at this; cases this
      · cases hy : isD y
        · rw [(tok_digit hx).1, (tok_other hy).1] at h
          simp only [Prod.mk.injEq] at h
          have : isD y = true := isD_iff.2 (by omega)
          rw [hy] at this; cases this
        · rw [(tok_digit hx).1, (tok_digit hy).1] at h
          simp only [Prod.mk.injEq] at h
          rw [(tok_digit hx).2, (tok_digit hy).2]
          refine ⟨h.2.2, ?_⟩
          rw [run_pre, run_pre]
          exact val_inj (run_all _) (run_all _) h.2.2 h.2.1

theorem cmpF_zero : ∀ n a b, a.length < n → b.length < n → (cmpF n a b = 0 ↔ a = b) := by
  intro n
  induction n with
  | zero => intro a b h; omega
  | succ n ih =>
    intro a b h1 h2
    simp only [cmpF]
    by_cases ha : a = []
    · by_cases hb : b = []
      · simp [ha, hb]
      · simp [ha, hb]
    · by_cases hb : b = []
      · simp [ha, hb]
      · simp only [ha, hb, if_false]
        have hz := @cT_zero (tok a) (tok b)
        have p1 := tlen_pos a
        have p2 := tlen_pos b
        have q1 := tlen_le ha
        have q2 := tlen_le hb
        have hi := ih (a.drop (tlen a)) (b.drop (tlen b)) (by rw [List.length_drop]; omega) (by rw [List.length_drop]; omega)
        by_cases ht : tok a = tok b
        · obtain ⟨e1, e2⟩ := tok_eq ha hb ht
          rw [if_neg (by simp [hz.2 ht]), hi]
          constructor
          · intro h
            rw [← List.take_append_drop (tlen a) a, ← List.take_append_drop (tlen b) b, e2, h]
          · rintro rfl; rfl
        · have hne : cT (tok a) (tok b) ≠ 0 := fun h => ht (hz.1 h)
          rw [if_pos hne]
          constructor
          · intro h; exact absurd h hne
          · rintro rfl; exact absurd rfl ht
theorem cmpS_zero (a b : List UInt8) : cmpS a b = 0 ↔ a = b := by
  rw [← cmpF_more (n := a.length + b.length + 1) (by omega)]
  exact cmpF_zero _ a b (by omega) (by omega)

theorem cmpF_trans : ∀ n a b c, a.length < n → b.length < n → c.length < n → cmpF n a b ≤ 0 → cmpF n b c ≤ 0 → cmpF n a c ≤ 0 := by
  intro n
  induction n with
  | zero => intro a b c h; omega
  | succ n ih =>
    intro a b c l1 l2 l3 h1 h2
    simp only [cmpF] at h1 h2 ⊢
    by_cases ha : a = []
    · by_cases hc : c = [] <;> simp [ha, hc]
    · by_cases hb : b = []
      · simp [ha, hb] at h1
      · by_cases hc : c = []
        · simp [hb, hc] at h2
        · simp only [ha, hb, hc, if_false] at h1 h2 ⊢
          have z1 := @cT_zero (tok a) (tok b)
          have z2 := @cT_zero (tok b) (tok c)
          have z3 := @cT_zero (tok a) (tok c)
          have t1 := @cT_lt (tok a) (tok b)
          have t2 := @cT_lt (tok b) (tok c)
          have t3 := @cT_lt (tok a) (tok c)
          have p1 := tlen_pos a
          have p2 := tlen_pos b
          have p3 := tlen_pos c
          have q1 := tlen_le ha
          have q2 := tlen_le hb
          have q3 := tlen_le hc
          by_cases e1 : tok a = tok b
          · by_cases e2 : tok b = tok c
            · rw [if_neg (by simp [z1.2 e1])] at h1
              rw [if_neg (by simp [z2.2 e2])] at h2
              rw [if_neg (by simp [z3.2 (e1.trans e2)])]
              exact ih _ _ _ (by rw [List.length_drop]; omega) (by rw [List.length_drop]; omega) (by rw [List.length_drop]; omega) h1 h2
            · have n2 : cT (tok b) (tok c) ≠ 0 := fun h => e2 (z2.1 h)
              rw [if_pos n2] at h2
              rw [e1, if_pos n2]; exact h2
          · have n1 : cT (tok a) (tok b) ≠ 0 := fun h => e1 (z1.1 h)
            rw [if_pos n1] at h1
            by_cases e2 : tok b = tok c
            · rw [← e2, if_pos n1]; exact h1
            · have n2 : cT (tok b) (tok c) ≠ 0 := fun h => e2 (z2.1 h)
              rw [if_pos n2] at h2
              have k1 := t1.1 (by omega)
              have k2 := t2.1 (by omega)
              have k3 : cT (tok a) (tok c) < 0 := t3.2 (by omega)
              rw [if_pos (by omega)]; omega
theorem cmpS_trans {a b c : List UInt8} (h1 : cmpS a b ≤ 0) (h2 : cmpS b c ≤ 0) : cmpS a c ≤ 0 := by
  rw [← cmpF_more (n := a.length + b.length + c.length + 1) (by omega)] at h1 h2 ⊢
  exact cmpF_trans _ a b c (by omega) (by omega) (by omega) h1 h2

end Go.Proofs.YtmicjadbahicfaaDoor
