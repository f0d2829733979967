/- The small calls of the order of names: what each answers. -/
import Derived.Test.YtmicjadbahicfaaDoorNcPr
import Derived.Test.YtmicjadbahicfaaDoorShelf
import Derived.Lib.Hide
namespace Go.Proofs.YtmicjadbahicfaaDoor
open Go.RowKit

theorem ret_int {k : IntKind} {a b : Int} (h : a = b) : Ending.returned (.int k a) = .returned (.int k b) := by rw [h]
theorem ret_str {a b : List UInt8} (h : a = b) : Ending.returned (.string ⟨a.toArray⟩) = .returned (.string ⟨b.toArray⟩) := by rw [h]
theorem ret_ba {a : ByteArray} {b : List UInt8} (h : a.data.toList = b) : Ending.returned (.string a) = .returned (.string ⟨b.toArray⟩) := by
  rw [← h]
theorem ba_inj {x y : ByteArray} (h : x.data.toList = y.data.toList) : x = y := by
  cases x; cases y; congr 1; exact Array.toList_inj.1 h
theorem ext_list (s : ByteArray) (i j : Nat) : (s.extract i j).data.toList = (s.data.toList.drop i).take (j - i) := by
  rw [ByteArray.data_extract, Array.toList_extract]; first | done | rfl
theorem ret_bool {a b : Bool} (h : a = b) : Ending.returned (.bool a) = .returned (.bool b) := by rw [h]
def digB (c : Int) : Bool := decide (48 ≤ c) && decide (c ≤ 57)
def cI (x y : Int) : Int := if x < y then -1 else if y < x then 1 else 0

/-- the byte at a place -/
def bt (s : ByteArray) (i : Nat) : Int := ((s.data.toList.getD i 0).toNat : Int)
theorem bt_eq (s : ByteArray) (i : Nat) (h : i < s.size) : ((s[i]'h).toNat : Int) = bt s i := by
  have h' : i < s.data.toList.length := h
  simp only [bt, List.getD_eq_getElem?_getD, List.getElem?_eq_getElem h', Option.getD_some]
  rfl
theorem bt_bd (s : ByteArray) (i : Nat) : 0 ≤ bt s i ∧ bt s i < 256 := by
  have := (s.data.toList.getD i 0).toNat_lt
  simp only [bt]; omega
theorem bt_get (s : ByteArray) (k : Nat) (h : k < s.data.toList.length) : bt s k = ((s.data.toList[k]).toNat : Int) := by
  simp [bt, List.getD_eq_getElem?_getD, List.getElem?_eq_getElem h]
theorem digB_isD (c : UInt8) : digB (c.toNat : Int) = isD c := by
  rw [Bool.eq_iff_iff]; simp [digB, isD]; omega

set_option maxHeartbeats 400000 in
theorem digitC (c : Int) (w : World) : Calls Tryd.prog 27 #[.int .u8 c] w fun e w' => e = .returned (.bool (digB c)) ∧ w = w' := by
  go_enter Tryd.func27, Tryd.ntmps27
  go_wp2
  all_goals go_ret
  all_goals (refine ⟨ret_bool ?_, rfl⟩; rw [Bool.eq_iff_iff]; simp [digB]; try omega)

set_option maxHeartbeats 400000 in
theorem cmpByte (x y : Int) (w : World) : Calls Tryd.prog 26 #[.int .u8 x, .int .u8 y] w fun e w' => e = .returned (.int .i64 (cI x y)) ∧ w' = w := by
  have HC := Lib.hid (show cI x y = if x < y then -1 else if y < x then 1 else 0 from rfl)
  by_cases h1 : x < y
  · go_enter Tryd.func26, Tryd.ntmps26
    go_wp2
    go_ret
    exact ⟨ret_int (by rw [HC.out, if_pos h1]), rfl⟩
  · by_cases h2 : y < x
    · go_enter Tryd.func26, Tryd.ntmps26
      go_wp2
      go_ret
      exact ⟨ret_int (by rw [HC.out, if_neg (by omega), if_pos h2]), rfl⟩
    · go_enter Tryd.func26, Tryd.ntmps26
      go_wp2
      go_ret
      exact ⟨ret_int (by rw [HC.out, if_neg (by omega), if_neg (by omega)]), rfl⟩

theorem cmpInt (x y : Int) (w : World) : Calls Tryd.prog 30 #[.int .i64 x, .int .i64 y] w fun e w' => e = .returned (.int .i64 (cI x y)) ∧ w = w' := by
  refine (Tryd.cmp_Compare_int x y w).mono ?_
  rintro e w' ⟨rfl, hw⟩
  exact ⟨rfl, hw.symm⟩
theorem cI_nat (x y : Nat) : cI (x : Int) (y : Int) = c3 x y := by
  unfold cI c3; split <;> split <;> (try split) <;> (try split) <;> omega

theorem run_stop {l : List UInt8} {k : Nat} (hk : k ≤ l.length) (h1 : ∀ j (hj : j < l.length), j < k → isD l[j] = true) (h2 : ∀ h : k < l.length, isD l[k] = false) : run l = l.take k := by
  unfold run
  induction l generalizing k with
  | nil => simp
  | cons x l ih =>
    cases k with
    | zero =>
      have := h2 (by simp)
      simp only [List.getElem_cons_zero] at this
      rw [List.takeWhile_cons, this]; simp
    | succ k =>
      have hx := h1 0 (by simp) (by omega)
      simp only [List.getElem_cons_zero] at hx
      rw [List.takeWhile_cons, if_pos hx, List.take_succ_cons, ih (by simpa using hk) (fun j hj hjk => by have := h1 (j + 1) (by simp; omega) (by omega); simpa using this) (fun h => by have := h2 (by simp; omega); simpa using this)]

set_option maxHeartbeats 1000000 in
theorem leadDigits (s : ByteArray) (w : World) (hs : s.size ≤ maxLen) : Calls Tryd.prog 28 #[.string s] w fun e w' => e = .returned (.string ⟨(run s.data.toList).toArray⟩) ∧ w = w' := by
  unfold maxLen at hs
  go_enter Tryd.func28, Tryd.ntmps28
  go_wp2
  go_loop [6] (fun i => ∃ k : Nat, k ≤ s.size ∧ i = .int .i64 k ∧ ∀ j (hj : j < s.data.toList.length), j < k → isD s.data.toList[j] = true) (fun i => s.size - (intOf i).toNat)
  case atStart => exact ⟨0, Nat.zero_le _, rfl, fun j _ hj => by omega⟩
  case round =>
    obtain ⟨k, hk, rfl, hall⟩ := hrel
    have HA := Lib.hid hall
    clear hall
    by_cases hlt : k < s.size
    · have hbk := bt_eq s k hlt
      have hgd : digB (bt s k) = isD (s.data.toList[k]'hlt) := by rw [bt_get s k hlt, digB_isD]
      cases hd : digB (bt s k)
      · have HR := Lib.hid (run_stop hk HA.out (fun h => by rw [← hgd]; exact hd))
        clear hgd
        go_wp2_with fail
        refine (digitC _ _).mono ?_
        rintro e w' ⟨rfl, rfl⟩
        go_wp2_with fail
        go_ret
        exact ⟨ret_ba (by rw [ext_list, HR.out]; simp), rfl⟩
      · have HD := Lib.hid (hgd.symm.trans hd)
        clear hgd
        go_wp2_with fail
        refine (digitC _ _).mono ?_
        rintro e w' ⟨rfl, rfl⟩
        go_wp2_with fail
        go_round
        case rel =>
          refine ⟨k + 1, by omega, by go_num, fun j hj hjk => ?_⟩
          rcases Nat.lt_or_ge j k with h' | h'
          · exact HA.out j hj h'
          · obtain rfl : j = k := by omega
            exact HD.out
        case measure => simp [intOf]; omega
    · obtain rfl : k = s.size := by omega
      have HR := Lib.hid (run_stop hk HA.out (fun h => absurd h (Nat.lt_irrefl _)))
      go_wp2_with fail
      go_ret
      exact ⟨ret_ba (by rw [HR.out]; exact (List.take_of_length_le (Nat.le_refl _)).symm), rfl⟩

theorem trimZ (s : ByteArray) (w : World) : Calls Tryd.prog 50 #[.string s, .string ⟨#[48]⟩] w fun e w' => ∃ x : ByteArray, e = .returned (.string x) ∧ x.data.toList = Lib.trimLeftB s.data.toList 48 ∧ w = w' := by
  refine (Tryd.strings_TrimLeft_one s 48 (by decide) w).mono ?_
  rintro e w' ⟨rfl, hw⟩
  exact ⟨_, rfl, by simp, hw.symm⟩
theorem trim_len (l : List UInt8) : (Lib.trimLeftB l 48).length ≤ l.length := List.Sublist.length_le (List.dropWhile_sublist _)
theorem cmpBytes (a b : ByteArray) (w : World) : Calls Tryd.prog 51 #[.string a, .string b] w fun e w' => e = .returned (.int .i64 (Lib.compareBytes a.data.toList b.data.toList)) ∧ w = w' := by
  refine (Tryd.strings_Compare a b w).mono ?_
  rintro e w' ⟨rfl, hw⟩
  exact ⟨rfl, hw.symm⟩
theorem cI_size (x y : ByteArray) {p q : List UInt8} (hx : x.data.toList = p) (hy : y.data.toList = q) : cI (x.size : Int) (y.size : Int) = c3 p.length q.length := by
  rw [cI_nat, ← hx, ← hy]; rfl

set_option maxHeartbeats 1000000 in
theorem cmpRuns (p q : ByteArray) (w : World) : Calls Tryd.prog 29 #[.string p, .string q] w fun e w' => e = .returned (.int .i64 (runCode p.data.toList q.data.toList)) ∧ w = w' := by
  obtain ⟨x, hx⟩ : ∃ x : ByteArray, x.data.toList = Lib.trimLeftB p.data.toList 48 := ⟨⟨(Lib.trimLeftB p.data.toList 48).toArray⟩, by simp⟩
  obtain ⟨y, hy⟩ : ∃ y : ByteArray, y.data.toList = Lib.trimLeftB q.data.toList 48 := ⟨⟨(Lib.trimLeftB q.data.toList 48).toArray⟩, by simp⟩
  have T1 : Hid (∀ w, Calls Tryd.prog 50 #[.string p, .string ⟨#[48]⟩] w fun e w' => e = .returned (.string x) ∧ w = w') := fun w => by
    refine (trimZ p w).mono ?_
    rintro e w' ⟨x', rfl, hx', rfl⟩
    obtain rfl : x' = x := ba_inj (hx'.trans hx.symm)
    exact ⟨rfl, rfl⟩
  have T2 : Hid (∀ w, Calls Tryd.prog 50 #[.string q, .string ⟨#[48]⟩] w fun e w' => e = .returned (.string y) ∧ w = w') := fun w => by
    refine (trimZ q w).mono ?_
    rintro e w' ⟨y', rfl, hy', rfl⟩
    obtain rfl : y' = y := ba_inj (hy'.trans hy.symm)
    exact ⟨rfl, rfl⟩
  have hxs : x.size ≤ p.size := by
    have := trim_len p.data.toList; rw [← hx] at this; exact this
  have hys : y.size ≤ q.size := by
    have := trim_len q.data.toList; rw [← hy] at this; exact this
  have e1 := cI_size x y hx hy
  have e2 := cI_size p q rfl rfl
  have HC : Hid (runCode p.data.toList q.data.toList = if cI x.size y.size ≠ 0 then cI x.size y.size else if Lib.compareBytes x.data.toList y.data.toList ≠ 0 then Lib.compareBytes x.data.toList y.data.toList else cI p.size q.size) := by
    show _ = _
    rw [e1, e2, hx, hy]; rfl
  clear e1 e2 hx hy
  by_cases h1 : cI x.size y.size ≠ 0
  · have h1b : (cI x.size y.size != 0) = true := by simpa using h1
    go_enter Tryd.func29, Tryd.ntmps29
    go_wp2_with fail
    refine (T1.out _).mono ?_
    rintro e w' ⟨rfl, rfl⟩
    go_wp2_with fail
    refine (T2.out _).mono ?_
    rintro e w' ⟨rfl, rfl⟩
    go_wp2_with fail
    refine (cmpInt _ _ _).mono ?_
    rintro e w' ⟨rfl, rfl⟩
    go_wp2_with fail
    go_ret
    exact ⟨ret_int (by rw [HC.out, if_pos h1]), rfl⟩
  · have h1b : (cI x.size y.size != 0) = false := by simpa using h1
    have H1 := Lib.hid h1
    clear h1
    by_cases h2 : Lib.compareBytes x.data.toList y.data.toList ≠ 0
    · have h2b : (Lib.compareBytes x.data.toList y.data.toList != 0) = true := by simpa using h2
      go_enter Tryd.func29, Tryd.ntmps29
      go_wp2_with fail
      refine (T1.out _).mono ?_
      rintro e w' ⟨rfl, rfl⟩
      go_wp2_with fail
      refine (T2.out _).mono ?_
      rintro e w' ⟨rfl, rfl⟩
      go_wp2_with fail
      refine (cmpInt _ _ _).mono ?_
      rintro e w' ⟨rfl, rfl⟩
      go_wp2_with fail
      refine (cmpBytes _ _ _).mono ?_
      rintro e w' ⟨rfl, rfl⟩
      go_wp2_with fail
      go_ret
      exact ⟨ret_int (by rw [HC.out, if_neg H1.out, if_pos h2]), rfl⟩
    · have h2b : (Lib.compareBytes x.data.toList y.data.toList != 0) = false := by simpa using h2
      have H2 := Lib.hid h2
      clear h2
      go_enter Tryd.func29, Tryd.ntmps29
      go_wp2_with fail
      refine (T1.out _).mono ?_
      rintro e w' ⟨rfl, rfl⟩
      go_wp2_with fail
      refine (T2.out _).mono ?_
      rintro e w' ⟨rfl, rfl⟩
      go_wp2_with fail
      refine (cmpInt _ _ _).mono ?_
      rintro e w' ⟨rfl, rfl⟩
      go_wp2_with fail
      refine (cmpBytes _ _ _).mono ?_
      rintro e w' ⟨rfl, rfl⟩
      go_wp2_with fail
      refine (cmpInt _ _ _).mono ?_
      rintro e w' ⟨rfl, rfl⟩
      go_wp2_with fail
      go_ret
      exact ⟨ret_int (by rw [HC.out, if_neg H1.out, if_neg H2.out]), rfl⟩

end Go.Proofs.YtmicjadbahicfaaDoor
