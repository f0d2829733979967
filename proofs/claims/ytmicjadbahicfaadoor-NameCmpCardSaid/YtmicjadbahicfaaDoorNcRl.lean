/- The reference's order: part, less, Digit. -/
import Derived.Test.YtmicjadbahicfaaDoorNcOl
namespace Go.Proofs.YtmicjadbahicfaaDoor
open Go.RowKit

set_option maxHeartbeats 400000 in
theorem digitR (c : Int) (w : World) : Calls Tryd.prog 32 #[.int .u8 c] w fun e w' => e = .returned (.bool (digB c)) ∧ w = w' := by
  go_enter Tryd.func32, Tryd.ntmps32
  go_wp2
  all_goals go_ret
  all_goals (refine ⟨ret_bool ?_, rfl⟩; rw [Bool.eq_iff_iff]; simp [digB]; try omega)

theorem ext_self (s : ByteArray) : s.extract 0 s.size = s := ba_inj (by rw [ext_list]; exact List.take_of_length_le (Nat.le_refl _))
theorem part_list {l : List UInt8} {k : Nat} (hl : l ≠ []) (hk : k ≤ l.length) (h1 : ∀ j (hj : j < l.length), j < k → isD l[j] = true) (h2 : ∀ h : k < l.length, isD l[k] = false) : l.take (if k = 0 then 1 else k) = l.take (tlen l) := by
  have hr := run_stop hk h1 h2
  cases l with
  | nil => exact absurd rfl hl
  | cons x l =>
    cases hx : isD x
    · have hk0 : k = 0 := by
        rcases Nat.eq_zero_or_pos k with h | h
        · exact h
        · have := h1 0 (by simp) h; simp only [List.getElem_cons_zero] at this; rw [hx] at this; cases this
      rw [hk0, (tok_other hx).2]; rfl
    · have hk0 : k ≠ 0 := by
        rintro rfl
        have := h2 (by simp); simp only [List.getElem_cons_zero] at this; rw [hx] at this; cases this
      rw [if_neg hk0, (tok_digit hx).2, hr, List.length_take, Nat.min_eq_left hk]

set_option maxHeartbeats 1000000 in
theorem partR (s p : ByteArray) (w : World) (hs : s.size ≤ maxLen) (hne : 0 < s.size) (hp : p.data.toList = s.data.toList.take (tlen s.data.toList)) :
    Calls Tryd.prog 31 #[.string s] w fun e w' => e = .returned (.string p) ∧ w = w' := by
  unfold maxLen at hs
  have HP := Lib.hid hp
  have hnl : s.data.toList ≠ [] := fun e => by
    have : s.data.toList.length = s.size := rfl
    rw [e] at this; simp at this; omega
  have HL := Lib.hid hnl
  clear hp hnl
  go_enter Tryd.func31, Tryd.ntmps31
  go_wp2
  go_loop [3] (fun i => ∃ k : Nat, k ≤ s.size ∧ i = .int .i64 k ∧ ∀ j (hj : j < s.data.toList.length), j < k → isD s.data.toList[j] = true) (fun i => s.size - (intOf i).toNat)
  case atStart => exact ⟨0, Nat.zero_le _, rfl, fun j _ hj => by omega⟩
  case round =>
    obtain ⟨k, hk, rfl, hall⟩ := hrel
    have HA := Lib.hid hall
    clear hall
    have hend : (∀ h : k < s.data.toList.length, isD s.data.toList[k] = false) → Hid (s.extract 0 (if k = 0 then 1 else k) = p) := fun h2 => by
      show _ = _
      refine ba_inj ?_
      rw [HP.out, ← part_list HL.out hk HA.out h2, ext_list]; simp
    by_cases hlt : k < s.size
    · have hbk := bt_eq s k hlt
      have hgd : digB (bt s k) = isD (s.data.toList[k]'hlt) := isD_bt hlt
      cases hd : digB (bt s k)
      · have HE := hend (fun h => by rw [← hgd]; exact hd)
        clear hgd hend
        by_cases hk0 : k = 0
        · subst hk0
          go_wp2_with (go_at_call 32; refine (digitR _ _).mono ?_; rintro e w' ⟨rfl, rfl⟩)
          go_ret
          exact ⟨by rw [← HE.out]; rfl, rfl⟩
        · have hkb : ((k : Int) == 0) = false := by rw [beq_eq_false_iff_ne]; omega
          have HK := Lib.hid hk0
          clear hk0
          go_wp2_with (go_at_call 32; refine (digitR _ _).mono ?_; rintro e w' ⟨rfl, rfl⟩)
          go_ret
          exact ⟨by rw [← HE.out, if_neg HK.out]; rfl, rfl⟩
      · have HD := Lib.hid (hgd.symm.trans hd)
        clear hgd hend
        go_wp2_with (go_at_call 32; refine (digitR _ _).mono ?_; rintro e w' ⟨rfl, rfl⟩)
        go_round
        case rel =>
          refine ⟨k + 1, by omega, by go_num, fun j hj hjk => ?_⟩
          rcases Nat.lt_or_ge j k with h' | h'
          · exact HA.out j hj h'
          · obtain rfl : j = k := by omega
            exact HD.out
        case measure => simp [intOf]; omega
    · have HE := hend (fun h => absurd h hlt)
      clear hend
      obtain rfl : k = s.size := by omega
      have hkb : ((s.size : Int) == 0) = false := by rw [beq_eq_false_iff_ne]; omega
      have HK : Hid (¬ s.size = 0) := by show ¬ _; omega
      go_wp2_with fail
      go_ret
      exact ⟨by rw [← HE.out, if_neg HK.out, ext_self]; rfl, rfl⟩

/-- zeros ahead -/
def pad (n : Nat) (p : List UInt8) : List UInt8 := List.replicate (n - p.length) 48 ++ p
theorem pad_len {n : Nat} {p : List UInt8} (h : p.length ≤ n) : (pad n p).length = n := by simp [pad]; omega
theorem val_zeros (k : Nat) (p : List UInt8) : val (List.replicate k 48 ++ p) = val p := by
  induction k with
  | zero => simp
  | succ k ih => rw [List.replicate_succ, List.cons_append, val, ih]; simp
theorem pad_val (n : Nat) (p : List UInt8) : val (pad n p) = val p := val_zeros _ p
theorem pad_all {n : Nat} {p : List UInt8} (h : AllD p) : AllD (pad n p) := fun c hc => by
  rcases List.mem_append.1 hc with h' | h'
  · rw [(List.mem_replicate.1 h').2]; decide
  · exact h c h'
theorem cmp_diff {x y : List UInt8} {i : Nat} (hl : x.length = y.length) (hi : i < x.length) (he : ∀ j (h1 : j < x.length) (h2 : j < y.length), j < i → x[j] = y[j]) (hd : x[i] ≠ y[i]'(hl ▸ hi)) :
    Lib.compareBytes x y = if x[i].toNat < (y[i]'(hl ▸ hi)).toNat then -1 else 1 := by
  induction x generalizing y i with
  | nil => simp at hi
  | cons c x ih => cases y with
    | nil => simp at hl
    | cons d y =>
      cases i with
      | zero =>
        simp only [List.getElem_cons_zero] at hd ⊢
        have hne : c.toNat ≠ d.toNat := fun e => hd (UInt8.toNat_inj.1 e)
        simp only [Lib.compareBytes, UInt8.lt_iff_toNat_lt]
        split
        · rfl
        · rw [if_pos (by omega)]
      | succ i =>
        have h0 := he 0 (by simp) (by simp) (by omega)
        simp only [List.getElem_cons_zero] at h0
        subst h0
        simp only [List.getElem_cons_succ] at hd ⊢
        simp only [Lib.compareBytes, UInt8.lt_iff_toNat_lt, Nat.lt_irrefl, if_false]
        exact ih (by simpa using hl) (by simpa using hi) (fun j h1 h2 hj => by have := he (j + 1) (by simp; omega) (by simp; omega) (by omega); simpa using this) hd
/-- a byte of the padded run -/
theorem pad_get0 {n : Nat} {p : ByteArray} (h : p.size ≤ n) {i : Nat} (hi : i < n) : (((pad n p.data.toList)[i]'(by rw [pad_len h]; exact hi)).toNat : Int) = (if n - p.size ≤ i then bt p (i - (n - p.size)) else 48) := by
  have hl : p.data.toList.length = p.size := rfl
  split
  · rename_i hc
    have hlt : i - (n - p.size) < p.data.toList.length := by omega
    rw [bt_get p _ hlt]
    have : (pad n p.data.toList)[i]'(by rw [pad_len h]; exact hi) = p.data.toList[i - (n - p.size)] := by
      unfold pad
      rw [List.getElem_append_right (by simp; omega)]
      simp [hl]
    rw [this]
  · rename_i hc
    have : (pad n p.data.toList)[i]'(by rw [pad_len h]; exact hi) = 48 := by
      unfold pad
      rw [List.getElem_append_left (by simp; omega)]
      simp
    rw [this]; rfl

/-- a byte of a run with zeros ahead, up to so many -/
def gx (n : Nat) (s : ByteArray) (j : Nat) : Int := if n - s.size ≤ j then bt s (j - (n - s.size)) else 48
theorem gx_top (s : ByteArray) (j : Nat) : gx s.size s j = bt s j := by unfold gx; simp
theorem pad_get {n : Nat} {p : ByteArray} (h : p.size ≤ n) {i : Nat} (hi : i < n) : (((pad n p.data.toList)[i]'(by rw [pad_len h]; exact hi)).toNat : Int) = gx n p i := pad_get0 h hi
theorem all_snoc {P : Nat → Prop} {k : Nat} (h : ∀ j, j < k → P j) (hk : P k) : ∀ j, j < k + 1 → P j := by
  intro j hj
  rcases Nat.lt_or_ge j k with h' | h'
  · exact h j h'
  · obtain rfl : j = k := by omega
    exact hk
/-- is a run ahead of another one? -/
def lessV (p q : List UInt8) : Bool := decide (cT (48, val p, p.length) (48, val q, q.length) < 0)
theorem less_diff {p q : ByteArray} {n i : Nat} (hp : p.size ≤ n) (hq : q.size ≤ n) (hi : i < n) (ap : AllD p.data.toList) (aq : AllD q.data.toList)
    (he : ∀ j, j < i → gx n p j = gx n q j)
    (hd : gx n p i ≠ gx n q i) :
    lessV p.data.toList q.data.toList = decide (gx n p i < gx n q i) := by
  have lp := pad_len (n := n) (p := p.data.toList) hp
  have lq := pad_len (n := n) (p := q.data.toList) hq
  have e1 := pad_get hp hi
  have e2 := pad_get hq hi
  have hc := cmp_diff (x := pad n p.data.toList) (y := pad n q.data.toList) (i := i) (by rw [lp, lq]) (by rw [lp]; exact hi) (fun j h1 h2 hj => by
    have f1 := pad_get hp (i := j) (by omega)
    have f2 := pad_get hq (i := j) (by omega)
    have f3 := he j hj
    exact UInt8.toNat_inj.1 (by omega)) (fun e => hd (by rw [← e1, ← e2, e]))
  rw [lex_val (pad_all ap) (pad_all aq) (by rw [lp, lq]), pad_val, pad_val] at hc
  rw [← e1, ← e2]
  have h0 : c3 48 48 = 0 := by decide
  unfold lessV cT
  simp only [h0, ne_eq, not_true_eq_false, if_false]
  rw [hc]
  split
  · rename_i hlt; simp; omega
  · rename_i hlt; simp; omega
theorem less_same {p q : ByteArray} {n : Nat} (hp : p.size ≤ n) (hq : q.size ≤ n)
    (he : ∀ j, j < n → gx n p j = gx n q j) :
    lessV p.data.toList q.data.toList = decide ((p.size : Int) < (q.size : Int)) := by
  have lp := pad_len (n := n) (p := p.data.toList) hp
  have lq := pad_len (n := n) (p := q.data.toList) hq
  have hpq : pad n p.data.toList = pad n q.data.toList := by
    refine List.ext_getElem (by rw [lp, lq]) fun j h1 h2 => ?_
    have f1 := pad_get hp (i := j) (by omega)
    have f2 := pad_get hq (i := j) (by omega)
    have f3 := he j (by omega)
    exact UInt8.toNat_inj.1 (by omega)
  have hv : val p.data.toList = val q.data.toList := by rw [← pad_val n, hpq, pad_val]
  have h0 : c3 48 48 = 0 := by decide
  have h1 : c3 (val p.data.toList) (val q.data.toList) = 0 := c3_zero.2 hv
  have h2 := @c3_lt p.data.toList.length q.data.toList.length
  have s1 : p.data.toList.length = p.size := rfl
  have s2 : q.data.toList.length = q.size := rfl
  unfold lessV cT
  simp only [h0, h1, ne_eq, not_true_eq_false, if_false]
  rw [Bool.eq_iff_iff]
  simp only [decide_eq_true_eq]
  rw [h2]; omega

set_option maxHeartbeats 4000000 in
theorem lessR (p q : ByteArray) (w : World) (hp : p.size ≤ maxLen) (hq : q.size ≤ maxLen) (ap : AllD p.data.toList) (aq : AllD q.data.toList) :
    Calls Tryd.prog 33 #[.string p, .string q] w fun e w' => e = .returned (.bool (lessV p.data.toList q.data.toList)) ∧ w = w' := by
  unfold maxLen at hp hq
  obtain ⟨n, hpn, hqn, hn⟩ : ∃ n : Nat, p.size ≤ n ∧ q.size ≤ n ∧ ((q.size ≤ p.size ∧ n = p.size) ∨ (p.size < q.size ∧ n = q.size)) := by
    rcases Nat.lt_or_ge p.size q.size with h | h
    · exact ⟨q.size, by omega, by omega, Or.inr ⟨h, rfl⟩⟩
    · exact ⟨p.size, by omega, by omega, Or.inl ⟨h, rfl⟩⟩
  have HD := Lib.hid (fun i (hi : i < n) => less_diff hpn hqn hi ap aq)
  have HS := Lib.hid (less_same hpn hqn)
  clear ap aq
  rcases hn with ⟨hle, rfl⟩ | ⟨hle, rfl⟩
  · go_enter Tryd.func33, Tryd.ntmps33
    go_wp2
    go_loop [6] (fun i => ∃ k : Nat, k ≤ p.size ∧ i = .int .i64 k ∧ ∀ j, j < k → gx p.size p j = gx p.size q j) (fun i => p.size - (intOf i).toNat)
    case atStart => exact ⟨0, Nat.zero_le _, rfl, fun j hj => by omega⟩
    case round =>
      obtain ⟨k, hk, rfl, hall⟩ := hrel
      have HA := Lib.hid hall
      clear hall
      by_cases hlt : k < p.size
      · have hbk := bt_eq p k hlt
        have GX := Lib.hid (gx_top p k)
        by_cases hin : p.size - q.size ≤ k
        · obtain ⟨m, hm⟩ : ∃ m, k - (p.size - q.size) = m := ⟨_, rfl⟩
          have hmq : m < q.size := by omega
          have hbq := bt_eq q m hmq
          have e5 : ((k : Int) - ((p.size : Int) - (q.size : Int))).toNat = m := by omega
          have e6 : (0 : Int) ≤ (k : Int) - ((p.size : Int) - (q.size : Int)) := by omega
          have e7 : (k : Int) - ((p.size : Int) - (q.size : Int)) < (q.size : Int) := by omega
          have e8 : (p.size : Int) - (q.size : Int) ≤ (k : Int) := by omega
          have GY := Lib.hid (show gx p.size q k = bt q m by unfold gx; rw [if_pos hin, hm])
          clear hm hin
          cases hne : (bt p k != bt q m)
          · go_wp2
            go_round
            case rel => exact ⟨k + 1, by omega, by go_num, all_snoc HA.out (by rw [GX.out, GY.out]; simpa using hne)⟩
            case measure => simp [intOf]; omega
          · have HV := Lib.hid (HD.out k hlt HA.out (by rw [GX.out, GY.out]; simpa using hne))
            go_wp2
            go_ret
            exact ⟨ret_bool (by rw [HV.out, GX.out, GY.out]), rfl⟩
        · have e8 : (k : Int) < (p.size : Int) - (q.size : Int) := by omega
          have GY := Lib.hid (show gx p.size q k = 48 by unfold gx; rw [if_neg hin])
          clear hin
          cases hne : (bt p k != 48)
          · go_wp2
            go_round
            case rel => exact ⟨k + 1, by omega, by go_num, all_snoc HA.out (by rw [GX.out, GY.out]; simpa using hne)⟩
            case measure => simp [intOf]; omega
          · have HV := Lib.hid (HD.out k hlt HA.out (by rw [GX.out, GY.out]; simpa using hne))
            go_wp2
            go_ret
            exact ⟨ret_bool (by rw [HV.out, GX.out, GY.out]), rfl⟩
      · obtain rfl : k = p.size := by omega
        have HV := Lib.hid (HS.out HA.out)
        go_wp2
        go_ret
        first
          | exact ⟨ret_bool (a := decide (p.size < q.size)) (by rw [HV.out]; exact decide_eq_decide.2 (by omega)), rfl⟩
          | exact ⟨ret_bool (a := decide ((p.size : Int) < (q.size : Int))) (by rw [HV.out]), rfl⟩
          | exact ⟨ret_bool (a := false) (by rw [HV.out]; exact (decide_eq_false (by omega)).symm), rfl⟩
          | exact ⟨ret_bool (a := true) (by rw [HV.out]; exact (decide_eq_true (by omega)).symm), rfl⟩
  · go_enter Tryd.func33, Tryd.ntmps33
    go_wp2
    go_loop [6] (fun i => ∃ k : Nat, k ≤ q.size ∧ i = .int .i64 k ∧ ∀ j, j < k → gx q.size p j = gx q.size q j) (fun i => q.size - (intOf i).toNat)
    case atStart => exact ⟨0, Nat.zero_le _, rfl, fun j hj => by omega⟩
    case round =>
      obtain ⟨k, hk, rfl, hall⟩ := hrel
      have HA := Lib.hid hall
      clear hall
      by_cases hlt : k < q.size
      · have hbk := bt_eq q k hlt
        have GY := Lib.hid (gx_top q k)
        by_cases hin : q.size - p.size ≤ k
        · obtain ⟨m, hm⟩ : ∃ m, k - (q.size - p.size) = m := ⟨_, rfl⟩
          have hmq : m < p.size := by omega
          have hbq := bt_eq p m hmq
          have e5 : ((k : Int) - ((q.size : Int) - (p.size : Int))).toNat = m := by omega
          have e6 : (0 : Int) ≤ (k : Int) - ((q.size : Int) - (p.size : Int)) := by omega
          have e7 : (k : Int) - ((q.size : Int) - (p.size : Int)) < (p.size : Int) := by omega
          have e8 : (q.size : Int) - (p.size : Int) ≤ (k : Int) := by omega
          have GX := Lib.hid (show gx q.size p k = bt p m by unfold gx; rw [if_pos hin, hm])
          clear hm hin
          cases hne : (bt p m != bt q k)
          · go_wp2
            go_round
            case rel => exact ⟨k + 1, by omega, by go_num, all_snoc HA.out (by rw [GX.out, GY.out]; simpa using hne)⟩
            case measure => simp [intOf]; omega
          · have HV := Lib.hid (HD.out k hlt HA.out (by rw [GX.out, GY.out]; simpa using hne))
            go_wp2
            go_ret
            exact ⟨ret_bool (by rw [HV.out, GX.out, GY.out]), rfl⟩
        · have e8 : (k : Int) < (q.size : Int) - (p.size : Int) := by omega
          have GX := Lib.hid (show gx q.size p k = 48 by unfold gx; rw [if_neg hin])
          clear hin
          cases hne : ((48 : Int) != bt q k)
          · go_wp2
            go_round
            case rel => exact ⟨k + 1, by omega, by go_num, all_snoc HA.out (by rw [GX.out, GY.out]; simpa using hne)⟩
            case measure => simp [intOf]; omega
          · have HV := Lib.hid (HD.out k hlt HA.out (by rw [GX.out, GY.out]; simpa using hne))
            go_wp2
            go_ret
            exact ⟨ret_bool (by rw [HV.out, GX.out, GY.out]), rfl⟩
      · obtain rfl : k = q.size := by omega
        have HV := Lib.hid (HS.out HA.out)
        go_wp2
        go_ret
        first
          | exact ⟨ret_bool (a := decide (p.size < q.size)) (by rw [HV.out]; exact decide_eq_decide.2 (by omega)), rfl⟩
          | exact ⟨ret_bool (a := decide ((p.size : Int) < (q.size : Int))) (by rw [HV.out]), rfl⟩
          | exact ⟨ret_bool (a := false) (by rw [HV.out]; exact (decide_eq_false (by omega)).symm), rfl⟩
          | exact ⟨ret_bool (a := true) (by rw [HV.out]; exact (decide_eq_true (by omega)).symm), rfl⟩

end Go.Proofs.YtmicjadbahicfaaDoor
