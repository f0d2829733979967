/- rex.letter, sign, set, one. -/
import Derived.Test.YtjnhmcgjeljcmaaGc
namespace Go.Proofs.Ytjnhmcgjeljcmaa
open Go.RowKit

theorem at_any (b k : Nat) (s : ByteArray) (w : World) (hc : Cur w b s k) :
    Calls Try.prog 56 #[.pointer (some ⟨b, 0, none⟩)] w fun e w' => e = .returned (.int .i64 k) ∧ w' = w := by
  have c1 := hc.c1
  go_enter Try.func56, Try.ntmps56
  go_wp2
  go_ret
  exact ⟨rfl, rfl⟩

def alnumB (d : Int) : Bool := decide ((97 ≤ d ∧ d ≤ 122) ∨ (65 ≤ d ∧ d ≤ 90) ∨ (48 ≤ d ∧ d ≤ 57))
def asLetB (d : Int) : Bool := decide ((97 ≤ d ∧ d ≤ 122) ∨ (65 ≤ d ∧ d ≤ 90))
def asDigB (d : Int) : Bool := decide (48 ≤ d ∧ d ≤ 57)
theorem alnum_as (d : Int) : alnumB d = (asLetB d || asDigB d) := by unfold alnumB asLetB asDigB; rw [Bool.eq_iff_iff]; simp; omega
theorem asl_any (d : Int) (w : World) :
    Calls Try.prog 144 #[.int .u8 d] w fun e w' => e = .returned (.bool (asLetB d)) ∧ w' = w := by
  go_enter Try.func144, Try.ntmps144
  go_wp2
  all_goals (go_ret; refine ⟨?_, rfl⟩; show Ending.returned (Value.bool _) = Ending.returned (Value.bool _); congr 2; rw [Bool.eq_iff_iff]; simp [asLetB]; try omega)
theorem asd_any (d : Int) (w : World) :
    Calls Try.prog 160 #[.int .u8 d] w fun e w' => e = .returned (.bool (asDigB d)) ∧ w' = w := by
  go_enter Try.func160, Try.ntmps160
  go_wp2
  all_goals (go_ret; refine ⟨?_, rfl⟩; show Ending.returned (Value.bool _) = Ending.returned (Value.bool _); congr 2; rw [Bool.eq_iff_iff]; simp [asDigB]; try omega)
theorem bX_true {s : ByteArray} {k : Nat} {c : UInt8} (h : byteAt s k = c) : (((byteAt s k).toNat : Int) == (c.toNat : Int)) = true := by rw [h]; simp
theorem bX_false {s : ByteArray} {k : Nat} {c : UInt8} (h : byteAt s k ≠ c) : (((byteAt s k).toNat : Int) == (c.toNat : Int)) = false := by
  rw [beq_eq_false_iff_ne]; intro e; exact h (UInt8.toNat_inj.mp (by omega))

/-- rex.letter: a byte, or a backslash and a byte. -/
def letterX : List UInt8 → Lr
  | [] => .err 31 0
  | c :: t => if c = 92 then (match t with
      | [] => .err 31 1
      | d :: _ => if d = 110 then .ok 10 2 else if d = 116 then .ok 9 2 else if alnumB d.toNat then .err 30 0 else .ok d 2) else .ok c 1
theorem good_letterX : GoodL letterX := by
  intro l
  match l with
  | [] => exact ⟨fun c n h => by simp [letterX] at h, fun c o h => by simp [letterX] at h; omega⟩
  | [x] =>
    by_cases hx : x = 92
    · exact ⟨fun c n h => by simp [letterX, hx] at h, fun c o h => by simp [letterX, hx] at h; simp; omega⟩
    · exact ⟨fun c n h => by simp [letterX, hx] at h; simp; omega, fun c o h => by simp [letterX, hx] at h⟩
  | x :: y :: t =>
    by_cases hx : x = 92
    · by_cases h1 : y = 110
      · exact ⟨fun c n h => by simp [letterX, hx, h1] at h; simp; omega, fun c o h => by simp [letterX, hx, h1] at h⟩
      · by_cases h2 : y = 116
        · exact ⟨fun c n h => by simp [letterX, hx, h2] at h; simp; omega, fun c o h => by simp [letterX, hx, h2] at h⟩
        · by_cases h3 : alnumB y.toNat = true
          · exact ⟨fun c n h => by simp [letterX, hx, h1, h2, h3] at h, fun c o h => by simp [letterX, hx, h1, h2, h3] at h; simp; omega⟩
          · exact ⟨fun c n h => by simp [letterX, hx, h1, h2, h3] at h; simp; omega, fun c o h => by simp [letterX, hx, h1, h2, h3] at h⟩
    · exact ⟨fun c n h => by simp [letterX, hx] at h; simp; omega, fun c o h => by simp [letterX, hx] at h⟩

theorem Lr_cong {w w' : World} {b k : Nat} {s : ByteArray} {r r' : Lr} {e : Ending} (h : r = r') : LPost w b s k r' e w' → LPost w b s k r e w' := fun x => h ▸ x

set_option maxHeartbeats 400000 in
theorem xLetter_any (b k : Nat) (s : ByteArray) (w : World) (hc : Cur w b s k) (hk : k ≤ s.size) (hs : s.size ≤ maxLen) :
    Calls Try.prog 155 #[.pointer (some ⟨b, 0, none⟩)] w (LPost w b s k (letterX (restL s k))) := by
  have hs' := hs
  unfold maxLen at hs'
  by_cases h : k < s.size
  · by_cases h92 : byteAt s k = 92
    · have hB : isB [92] s k = true := by rw [isB_one _ _ _ h]; simp [h92]
      by_cases h1 : k + 1 < s.size
      · have hr : letterX (restL s k) = if byteAt s (k + 1) = 110 then .ok 10 2 else if byteAt s (k + 1) = 116 then .ok 9 2 else if alnumB (byteAt s (k + 1)).toNat then .err 30 0 else .ok (byteAt s (k + 1)) 2 := by
          rw [rest_cons s k h, rest_cons s (k + 1) h1]; simp [letterX, h92]
        rw [hr]
        clear hr h92
        have enter : ∀ Q : Ending → World → Prop,
            (∀ w1, Cur w1 b s (k + 2) → w.grownBy w1 (some b) → (byteAt s (k + 1) = 110 → Q (.returned (.int .u8 10)) w1) ∧ (byteAt s (k + 1) = 116 → Q (.returned (.int .u8 9)) w1) ∧
              (byteAt s (k + 1) ≠ 110 → byteAt s (k + 1) ≠ 116 → alnumB (byteAt s (k + 1)).toNat = true → Q (flawE 30 k) w1) ∧ (byteAt s (k + 1) ≠ 110 → byteAt s (k + 1) ≠ 116 → alnumB (byteAt s (k + 1)).toNat = false → Q (.returned (.int .u8 (byteAt s (k + 1)).toNat)) w1)) →
            Calls Try.prog 155 #[.pointer (some ⟨b, 0, none⟩)] w Q := by
          intro Q hQ
          go_enter Try.func155, Try.ntmps155
          go_wp2_with fail
          refine (at_any b k s _ hc).mono ?_
          rintro e w0 ⟨rfl, rfl⟩
          go_wp2_with fail
          refine (skip_yes b k s ⟨#[92]⟩ _ hc hk hs hB).mono ?_
          rintro e w1 ⟨rfl, hc1, g1⟩
          go_wp2_with fail
          refine (take_yes b (k + 1) s _ hc1 h1 hs).mono ?_
          rintro e w2 ⟨rfl, hc2, g2⟩
          have HQ := Lib.hid (hQ w2 hc2 (gb_trans g1 g2))
          clear hQ
          by_cases d1 : byteAt s (k + 1) = 110
          · have e1 : (((byteAt s (k + 1)).toNat : Int) == 110) = true := bX_true d1
            have HZ := Lib.hid (HQ.out.1 d1)
            clear HQ d1
            go_wp2
            exact HZ.out
          · have e1 : (((byteAt s (k + 1)).toNat : Int) == 110) = false := bX_false d1
            by_cases d2 : byteAt s (k + 1) = 116
            · have e2 : (((byteAt s (k + 1)).toNat : Int) == 116) = true := bX_true d2
              have HZ := Lib.hid (HQ.out.2.1 d2)
              clear HQ d1 d2
              go_wp2
              exact HZ.out
            · have e2 : (((byteAt s (k + 1)).toNat : Int) == 116) = false := bX_false d2
              cases d3 : alnumB (byteAt s (k + 1)).toNat with
              | true =>
                have HZ := Lib.hid (HQ.out.2.2.1 d1 d2 d3)
                clear HQ d1 d2
                rw [alnum_as] at d3
                cases l1 : asLetB (byteAt s (k + 1)).toNat with
                | true =>
                  have L := fun W => Lib.hid (asl_any (byteAt s (k + 1)).toNat W)
                  rw [l1] at L
                  clear l1 d3
                  go_wp2_with fail
                  refine (L _).out.mono ?_
                  rintro e w3 ⟨rfl, rfl⟩
                  go_wp2
                  exact ⟨rfl, HZ.out⟩
                | false =>
                  have L := fun W => Lib.hid (asl_any (byteAt s (k + 1)).toNat W)
                  have M := fun W => Lib.hid (asd_any (byteAt s (k + 1)).toNat W)
                  rw [l1] at L d3
                  rw [Bool.false_or] at d3
                  rw [d3] at M
                  clear l1 d3
                  go_wp2_with fail
                  refine (L _).out.mono ?_
                  rintro e w3 ⟨rfl, rfl⟩
                  go_wp2_with fail
                  refine (M _).out.mono ?_
                  rintro e w3 ⟨rfl, rfl⟩
                  go_wp2
                  exact ⟨rfl, HZ.out⟩
              | false =>
                have HZ := Lib.hid (HQ.out.2.2.2 d1 d2 d3)
                clear HQ d1 d2
                have L := fun W => Lib.hid (asl_any (byteAt s (k + 1)).toNat W)
                have M := fun W => Lib.hid (asd_any (byteAt s (k + 1)).toNat W)
                rw [alnum_as, Bool.or_eq_false_iff] at d3
                rw [d3.1] at L
                rw [d3.2] at M
                clear d3
                go_wp2_with fail
                refine (L _).out.mono ?_
                rintro e w3 ⟨rfl, rfl⟩
                go_wp2_with fail
                refine (M _).out.mono ?_
                rintro e w3 ⟨rfl, rfl⟩
                go_wp2
                exact HZ.out
        by_cases d1 : byteAt s (k + 1) = 110
        · rw [if_pos d1]
          exact enter _ fun w1 hc1 g1 => ⟨fun _ => ⟨rfl, hc1, g1⟩, fun d => absurd (d1.symm.trans d) (by decide), fun d => absurd d1 d, fun d => absurd d1 d⟩
        · rw [if_neg d1]
          by_cases d2 : byteAt s (k + 1) = 116
          · rw [if_pos d2]
            exact enter _ fun w1 hc1 g1 => ⟨fun d => absurd d d1, fun _ => ⟨rfl, hc1, g1⟩, fun _ d => absurd d2 d, fun _ d => absurd d2 d⟩
          · rw [if_neg d2]
            cases d3 : alnumB (byteAt s (k + 1)).toNat with
            | true =>
              rw [if_pos rfl]
              exact enter _ fun w1 hc1 g1 => ⟨fun d => absurd d d1, fun d => absurd d d2, fun _ _ _ => ⟨rfl, g1⟩, fun _ _ d => absurd (d3.symm.trans d) (by decide)⟩
            | false =>
              rw [if_neg (by decide)]
              exact enter _ fun w1 hc1 g1 => ⟨fun d => absurd d d1, fun d => absurd d d2, fun _ _ d => absurd (d3.symm.trans d) (by decide), fun _ _ _ => ⟨rfl, hc1, g1⟩⟩
      · have hr : letterX (restL s k) = .err 31 1 := by rw [rest_cons s k h, rest_nil s (k + 1) (by omega)]; simp [letterX, h92]
        rw [hr]
        clear hr h92
        go_enter Try.func155, Try.ntmps155
        go_wp2_with fail
        refine (at_any b k s _ hc).mono ?_
        rintro e w0 ⟨rfl, rfl⟩
        go_wp2_with fail
        refine (skip_yes b k s ⟨#[92]⟩ _ hc hk hs hB).mono ?_
        rintro e w1 ⟨rfl, hc1, g1⟩
        go_wp2_with fail
        refine (take_no b (k + 1) s _ hc1 (by omega)).mono ?_
        rintro e w2 ⟨rfl, hc2, g2⟩
        go_wp2
        exact ⟨rfl, rfl, gb_trans g1 g2⟩
    · have hB : isB [92] s k = false := by rw [isB_one _ _ _ h]; simp [h92]
      have hr : letterX (restL s k) = .ok (byteAt s k) 1 := by rw [rest_cons s k h]; simp [letterX, h92]
      rw [hr]
      clear hr h92
      go_enter Try.func155, Try.ntmps155
      go_wp2_with fail
      refine (at_any b k s _ hc).mono ?_
      rintro e w0 ⟨rfl, rfl⟩
      go_wp2_with fail
      refine (skip_no b k s ⟨#[92]⟩ _ hc hk hB).mono ?_
      rintro e w1 ⟨rfl, hc1, g1⟩
      go_wp2_with fail
      refine (take_yes b k s _ hc1 h hs).mono ?_
      rintro e w2 ⟨rfl, hc2, g2⟩
      go_wp2
      go_ret
      exact ⟨rfl, hc2, gb_trans g1 g2⟩
  · have hr : letterX (restL s k) = .err 31 0 := by rw [rest_nil s k (by omega)]; rfl
    rw [hr]
    go_enter Try.func155, Try.ntmps155
    go_wp2_with fail
    refine (at_any b k s _ hc).mono ?_
    rintro e w0 ⟨rfl, rfl⟩
    go_wp2_with fail
    refine (skip_no b k s ⟨#[92]⟩ _ hc hk (isB_nil _ _ _ _ (by omega))).mono ?_
    rintro e w1 ⟨rfl, hc1, g1⟩
    go_wp2_with fail
    refine (take_no b k s _ hc1 (by omega)).mono ?_
    rintro e w2 ⟨rfl, hc2, g2⟩
    go_wp2
    exact ⟨rfl, rfl, gb_trans g1 g2⟩

theorem xLetter_is : IsLetter 155 letterX := ⟨fun args W => by kernel_rfl, xLetter_any⟩

theorem xset_any (A : Option Addr) (n c : Nat) (w : World) :
    Calls Try.prog 154 #[.slice A n c] w fun e w' => e = .returned (.agg #[.int .i64 1, .slice A n c, .slice none 0 0]) ∧ Below w.heap.size w w' := by
  go_enter Try.func154, Try.ntmps154
  go_wp2
  refine bodyPost_ret (v := .agg #[.int .i64 1, .slice A n c, .slice none 0 0]) (by simp [results, Try.results154, go_sem]) rfl ⟨rfl, ?_⟩
  exact (Below.refl _ w).alloc (Nat.le_refl _) _
theorem xone_any (c : UInt8) (w : World) :
    Calls Try.prog 92 #[.int .u8 c.toNat] w fun e w' => e = .returned (.agg #[.int .u8 c.toNat, .int .u8 c.toNat]) ∧ Below w.heap.size w w' := by
  go_enter Try.func92, Try.ntmps92
  go_wp2
  refine bodyPost_ret (v := .agg #[.int .u8 c.toNat, .int .u8 c.toNat]) (by simp [results, Try.results92, go_sem]) rfl ⟨rfl, ?_⟩
  exact (Below.refl _ w).alloc (Nat.le_refl _) _
end Go.Proofs.Ytjnhmcgjeljcmaa
