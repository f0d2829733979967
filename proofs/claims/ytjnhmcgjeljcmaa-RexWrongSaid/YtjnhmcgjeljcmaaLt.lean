/- glob.letter and Cursor.Range. -/
import Derived.Test.YtjnhmcgjeljcmaaCu
import Derived.Test.YtjnhmcgjeljcmaaPp
namespace Go.Proofs.Ytjnhmcgjeljcmaa
open Go.RowKit

def LPost (w : World) (b : Nat) (s : ByteArray) (k : Nat) (r : Lr) (e : Ending) (w' : World) : Prop :=
  match r with
  | .ok c n => e = .returned (.int .u8 c.toNat) ∧ Cur w' b s (k + n) ∧ w.grownBy w' (some b)
  | .err code off => e = flawE code (k + off) ∧ w.grownBy w' (some b)
structure IsLetter (fl : FuncId) (L : List UInt8 → Lr) : Prop where
  enters : ∀ (args : Array Value) (W : World), (callFunc fl args).run Try.prog W = .ok (.enter fl args) W
  calls : ∀ (b k : Nat) (s : ByteArray) (w : World), Cur w b s k → k ≤ s.size → s.size ≤ maxLen → Calls Try.prog fl #[.pointer (some ⟨b, 0, none⟩)] w (LPost w b s k (L (restL s k)))

theorem isB_one (c : UInt8) (s : ByteArray) (k : Nat) (h : k < s.size) : isB [c] s k = (byteAt s k == c) := by
  unfold isB preB
  rw [rest_cons s k h, Bool.eq_iff_iff, List.isPrefixOf_iff_prefix]
  rw [List.cons_prefix_cons, beq_iff_eq]
  exact ⟨fun h => h.1.symm, fun h => ⟨h.symm, List.nil_prefix⟩⟩
theorem isB_nil (c : UInt8) (t : List UInt8) (s : ByteArray) (k : Nat) (h : s.size ≤ k) : isB (c :: t) s k = false := by
  unfold isB preB; rw [rest_nil s k h]; rfl

set_option maxHeartbeats 400000 in
theorem gLetter_any (b k : Nat) (s : ByteArray) (w : World) (hc : Cur w b s k) (hk : k ≤ s.size) (hs : s.size ≤ maxLen) :
    Calls Try.prog 138 #[.pointer (some ⟨b, 0, none⟩)] w (LPost w b s k (letterG (restL s k))) := by
  have hs' := hs
  unfold maxLen at hs'
  by_cases h : k < s.size
  · by_cases h92 : byteAt s k = 92
    · have hB : isB [92] s k = true := by rw [isB_one _ _ _ h]; simp [h92]
      by_cases h1 : k + 1 < s.size
      · have hr : letterG (restL s k) = .ok (byteAt s (k + 1)) 2 := by rw [rest_cons s k h, rest_cons s (k + 1) h1]; simp [letterG, h92]
        rw [hr]
        clear hr h92
        go_enter Try.func138, Try.ntmps138
        go_wp2_with fail
        refine (skip_yes b k s ⟨#[92]⟩ _ hc hk hs hB).mono ?_
        rintro e w1 ⟨rfl, hc1, g1⟩
        go_wp2_with fail
        refine (take_yes b (k + 1) s _ hc1 h1 hs).mono ?_
        rintro e w2 ⟨rfl, hc2, g2⟩
        go_wp2
        go_ret
        exact ⟨rfl, hc2, gb_trans g1 g2⟩
      · have hr : letterG (restL s k) = .err 31 1 := by rw [rest_cons s k h, rest_nil s (k + 1) (by omega)]; simp [letterG, h92]
        rw [hr]
        clear hr h92
        go_enter Try.func138, Try.ntmps138
        go_wp2_with fail
        refine (skip_yes b k s ⟨#[92]⟩ _ hc hk hs hB).mono ?_
        rintro e w1 ⟨rfl, hc1, g1⟩
        go_wp2_with fail
        refine (take_no b (k + 1) s _ hc1 (by omega)).mono ?_
        rintro e w2 ⟨rfl, hc2, g2⟩
        go_wp2
        exact ⟨rfl, rfl, gb_trans g1 g2⟩
    · have hB : isB [92] s k = false := by rw [isB_one _ _ _ h]; simp [h92]
      have hr : letterG (restL s k) = .ok (byteAt s k) 1 := by rw [rest_cons s k h]; simp [letterG, h92]
      rw [hr]
      clear hr h92
      go_enter Try.func138, Try.ntmps138
      go_wp2_with fail
      refine (skip_no b k s ⟨#[92]⟩ _ hc hk hB).mono ?_
      rintro e w1 ⟨rfl, hc1, g1⟩
      go_wp2_with fail
      refine (take_yes b k s _ hc1 h hs).mono ?_
      rintro e w2 ⟨rfl, hc2, g2⟩
      go_wp2
      go_ret
      exact ⟨rfl, hc2, gb_trans g1 g2⟩
  · have hr : letterG (restL s k) = .err 31 0 := by rw [rest_nil s k (by omega)]; rfl
    rw [hr]
    go_enter Try.func138, Try.ntmps138
    go_wp2_with fail
    refine (skip_no b k s ⟨#[92]⟩ _ hc hk (isB_nil _ _ _ _ (by omega))).mono ?_
    rintro e w1 ⟨rfl, hc1, g1⟩
    go_wp2_with fail
    refine (take_no b k s _ hc1 (by omega)).mono ?_
    rintro e w2 ⟨rfl, hc2, g2⟩
    go_wp2
    exact ⟨rfl, rfl, gb_trans g1 g2⟩

theorem gLetter_is : IsLetter 138 letterG := ⟨fun args W => by kernel_rfl, gLetter_any⟩

def RPost (w : World) (b : Nat) (s : ByteArray) (k : Nat) (r : Rr) (e : Ending) (w' : World) : Prop :=
  match r with
  | .ok lo hi n => e = .returned (.agg #[.int .u8 lo.toNat, .int .u8 hi.toNat]) ∧ Cur w' b s (k + n) ∧ w.grownBy w' (some b)
  | .err code off => e = flawE code (k + off) ∧ w.grownBy w' (some b)
theorem LPost.ok_ {w : World} {b k n : Nat} {s : ByteArray} {r : Lr} {c : UInt8} {e : Ending} {w' : World} (h : LPost w b s k r e w') (hr : r = .ok c n) :
    e = .returned (.int .u8 c.toNat) ∧ Cur w' b s (k + n) ∧ w.grownBy w' (some b) := by subst hr; exact h
theorem LPost.err_ {w : World} {b k n : Nat} {s : ByteArray} {r : Lr} {c : Int} {e : Ending} {w' : World} (h : LPost w b s k r e w') (hr : r = .err c n) :
    e = flawE c (k + n) ∧ w.grownBy w' (some b) := by subst hr; exact h
theorem rest_drop (s : ByteArray) (k n : Nat) : (restL s k).drop n = restL s (k + n) := by unfold restL; rw [List.drop_drop]
theorem rest_len (s : ByteArray) (k : Nat) : (restL s k).length = s.size - k := by unfold restL; rw [List.length_drop]; rfl
set_option maxHeartbeats 400000 in
theorem range_any (fl : FuncId) (L : List UInt8 → Lr) (hL : IsLetter fl L) (gL : GoodL L) (b k : Nat) (s : ByteArray) (w : World) (hc : Cur w b s k) (hk : k ≤ s.size) (hs : s.size ≤ maxLen) :
    Calls Try.prog 157 #[.pointer (some ⟨b, 0, none⟩), .func (.func fl) #[] #[]] w (RPost w b s k (rangeP L (restL s k))) := by
  have c1 := hc.c1
  have hlt : b < w.heap.size := Blk.lt hc
  have hen := hL.enters
  cases hl1 : L (restL s k) with
  | err c o =>
    have hr : rangeP L (restL s k) = .err c o := by unfold rangeP; rw [hl1]
    rw [hr]
    have H1 := Lib.hid hl1
    clear hl1 hr
    go_enter Try.func157, Try.ntmps157
    go_wp2_with fail
    refine (hL.calls b k s _ (Blk.alloc hc _) hk hs).mono ?_
    intro e w1 hp
    obtain ⟨rfl, g1⟩ := hp.err_ H1.out
    go_wp2
    exact ⟨rfl, rfl, gb_trans (gb_alloc (gb_refl _ _) _) g1⟩
  | ok lo n =>
    have a1 := (gL _).1 _ _ hl1
    rw [rest_len] at a1
    have hd0 : rangeP L (restL s k) = if dashB (restL s (k + n)) then (match L (restL s (k + n + 1)) with
        | .err c o => .err c (n + 1 + o) | .ok hi m => if hi < lo then .err 32 0 else .ok lo hi (n + 1 + m)) else .ok lo lo n := by
      unfold rangeP; rw [hl1]; simp only [rest_drop]; rfl
    have H1 := Lib.hid hl1
    clear hl1
    have hkn : k + n ≤ s.size := by omega
    cases hd : dashB (restL s (k + n)) with
    | false =>
      rw [hd0, hd]
      clear hd0
      have hww : isB [45, 93] s (k + n) = true ∨ (isB [45, 93] s (k + n) = false ∧ isB [45] s (k + n) = false) := by
        unfold isB preB
        unfold dashB starts at hd
        cases h1 : [45, 93].isPrefixOf (restL s (k + n))
        · right; rw [h1] at hd; simpa using hd
        · exact Or.inl rfl
      clear hd
      simp only [Bool.false_eq_true, if_false]
      rcases hww with h2 | ⟨h2, h3⟩
      · go_enter Try.func157, Try.ntmps157
        go_wp2_with fail
        refine (hL.calls b k s _ (Blk.alloc hc _) hk hs).mono ?_
        intro e w1 hp
        obtain ⟨rfl, hc1, g1⟩ := hp.ok_ H1.out
        go_wp2_with fail
        refine (is_any b (k + n) s ⟨#[45, 93]⟩ _ hc1 hkn).mono ?_
        rintro e w2 ⟨rfl, nq, rfl⟩
        obtain ⟨r0, r1, z0, z1⟩ := blk2 ((Blk.new w 37 _).grown g1 (by simp; omega))
        go_wp2
        refine bodyPost_ret (v := .agg #[.int .u8 lo.toNat, .int .u8 lo.toNat]) (by simp [results, Try.results157, go_sem, *]) rfl ⟨rfl, ?_, ?_⟩
        · exact ((hc1.drewN nq).far (by simp; omega) _).far (by simp; omega) _
        · exact gb_set (gb_set (gb_drewN (gb_trans (gb_alloc (gb_refl _ _) _) g1) _) (.inr (Nat.le_refl _)) _) (.inr (Nat.le_refl _)) _
      · go_enter Try.func157, Try.ntmps157
        go_wp2_with fail
        refine (hL.calls b k s _ (Blk.alloc hc _) hk hs).mono ?_
        intro e w1 hp
        obtain ⟨rfl, hc1, g1⟩ := hp.ok_ H1.out
        go_wp2_with fail
        refine (is_any b (k + n) s ⟨#[45, 93]⟩ _ hc1 hkn).mono ?_
        rintro e w2 ⟨rfl, nq, rfl⟩
        go_wp2_with fail
        refine (skip_no b (k + n) s ⟨#[45]⟩ _ (hc1.drewN nq) hkn h3).mono ?_
        rintro e w3 ⟨rfl, hc3, g3⟩
        have g4 := gb_trans (gb_drewN g1 nq) g3
        obtain ⟨r0, r1, z0, z1⟩ := blk2 ((Blk.new w 37 _).grown g4 (by simp; omega))
        go_wp2
        refine bodyPost_ret (v := .agg #[.int .u8 lo.toNat, .int .u8 lo.toNat]) (by simp [results, Try.results157, go_sem, *]) rfl ⟨rfl, ?_, ?_⟩
        · exact (Blk.far hc3 (by simp; omega) _).far (by simp; omega) _
        · exact gb_set (gb_set (gb_trans (gb_alloc (gb_refl _ _) _) g4) (.inr (Nat.le_refl _)) _) (.inr (Nat.le_refl _)) _
    | true =>
      rw [hd0, hd]
      clear hd0
      have h2 : isB [45, 93] s (k + n) = false := by
        unfold isB preB
        simp only [dashB, starts, Bool.and_eq_true, Bool.not_eq_true'] at hd
        exact hd.2
      have h3 : isB [45] s (k + n) = true := by
        unfold isB preB
        simp only [dashB, starts, Bool.and_eq_true, Bool.not_eq_true'] at hd
        exact hd.1
      have h4 : k + n + 1 ≤ s.size := by have := isB_le h3; simp at this; omega
      clear hd
      simp only [if_true]
      cases hl2 : L (restL s (k + n + 1)) with
      | err c o =>
        have H2 := Lib.hid hl2
        clear hl2
        have E2 := Lib.hid (show k + (n + 1 + o) = k + n + 1 + o by omega)
        go_enter Try.func157, Try.ntmps157
        go_wp2_with fail
        refine (hL.calls b k s _ (Blk.alloc hc _) hk hs).mono ?_
        intro e w1 hp
        obtain ⟨rfl, hc1, g1⟩ := hp.ok_ H1.out
        go_wp2_with fail
        refine (is_any b (k + n) s ⟨#[45, 93]⟩ _ hc1 hkn).mono ?_
        rintro e w2 ⟨rfl, nq, rfl⟩
        go_wp2_with fail
        refine (skip_yes b (k + n) s ⟨#[45]⟩ _ (hc1.drewN nq) hkn hs h3).mono ?_
        rintro e w3 ⟨rfl, hc3, g3⟩
        go_wp2_with fail
        refine (hL.calls b (k + n + 1) s _ hc3 h4 hs).mono ?_
        intro e w4 hp4
        obtain ⟨rfl, g4⟩ := hp4.err_ H2.out
        go_wp2
        exact ⟨rfl, flaw_eq E2.out.symm, gb_trans (gb_trans (gb_drewN (gb_trans (gb_alloc (gb_refl _ _) _) g1) nq) g3) g4⟩
      | ok hi m =>
        have a2 := (gL _).1 _ _ hl2
        rw [rest_len] at a2
        have H2 := Lib.hid hl2
        clear hl2
        have E2 := Lib.hid (show k + (n + 1 + m) = k + n + 1 + m by omega)
        by_cases hlh : hi < lo
        · simp only [hlh, if_true]
          have hlt' : (hi.toNat : Int) < (lo.toNat : Int) := by have := UInt8.lt_iff_toNat_lt.1 hlh; omega
          clear hlh
          go_enter Try.func157, Try.ntmps157
          go_wp2_with fail
          refine (hL.calls b k s _ (Blk.alloc hc _) hk hs).mono ?_
          intro e w1 hp
          obtain ⟨rfl, hc1, g1⟩ := hp.ok_ H1.out
          go_wp2_with fail
          refine (is_any b (k + n) s ⟨#[45, 93]⟩ _ hc1 hkn).mono ?_
          rintro e w2 ⟨rfl, nq, rfl⟩
          go_wp2_with fail
          refine (skip_yes b (k + n) s ⟨#[45]⟩ _ (hc1.drewN nq) hkn hs h3).mono ?_
          rintro e w3 ⟨rfl, hc3, g3⟩
          go_wp2_with fail
          refine (hL.calls b (k + n + 1) s _ hc3 h4 hs).mono ?_
          intro e w4 hp4
          obtain ⟨rfl, hc4, g4⟩ := hp4.ok_ H2.out
          go_wp2
          exact ⟨rfl, rfl, gb_trans (gb_trans (gb_drewN (gb_trans (gb_alloc (gb_refl _ _) _) g1) nq) g3) g4⟩
        · simp only [hlh, if_false]
          have hlt' : ¬ (hi.toNat : Int) < (lo.toNat : Int) := by
            have h5 : ¬ hi.toNat < lo.toNat := fun h => hlh (UInt8.lt_iff_toNat_lt.2 h)
            omega
          clear hlh
          go_enter Try.func157, Try.ntmps157
          go_wp2_with fail
          refine (hL.calls b k s _ (Blk.alloc hc _) hk hs).mono ?_
          intro e w1 hp
          obtain ⟨rfl, hc1, g1⟩ := hp.ok_ H1.out
          go_wp2_with fail
          refine (is_any b (k + n) s ⟨#[45, 93]⟩ _ hc1 hkn).mono ?_
          rintro e w2 ⟨rfl, nq, rfl⟩
          go_wp2_with fail
          refine (skip_yes b (k + n) s ⟨#[45]⟩ _ (hc1.drewN nq) hkn hs h3).mono ?_
          rintro e w3 ⟨rfl, hc3, g3⟩
          go_wp2_with fail
          refine (hL.calls b (k + n + 1) s _ hc3 h4 hs).mono ?_
          intro e w4 hp4
          obtain ⟨rfl, hc4, g4⟩ := hp4.ok_ H2.out
          have g5 := gb_trans (gb_trans (gb_drewN g1 nq) g3) g4
          obtain ⟨r0, r1, z0, z1⟩ := blk2 ((Blk.new w 37 _).grown g5 (by simp; omega))
          go_wp2
          refine bodyPost_ret (v := .agg #[.int .u8 lo.toNat, .int .u8 hi.toNat]) (by simp [results, Try.results157, go_sem, *]) rfl ⟨rfl, ?_, ?_⟩
          · rw [E2.out]; exact (Blk.far hc4 (by simp; omega) _).far (by simp; omega) _
          · exact gb_set (gb_set (gb_trans (gb_alloc (gb_refl _ _) _) g5) (.inr (Nat.le_refl _)) _) (.inr (Nat.le_refl _)) _
end Go.Proofs.Ytjnhmcgjeljcmaa
