/- PackNeeds' functions. -/
import Derived.Test.YtldngpgkoohbmaaPf
namespace Go.Proofs.Ytldngpgkoohbmaa
open Go.RowKit

section
variable {w : World} {rp : Nat} {X : Nat → Prop} {bs : List UInt8}
theorem rdNeed_yes (h : RdAt w rp X bs false) : Calls Try.prog 45 #[.pointer (some ⟨rp, 0, none⟩), .bool true] w (RdRes w rp X bs (.tuple #[])) := by
  obtain ⟨A, m, c, hb, hby, hmc, hml, hap⟩ := h.ex
  refine (need_yes hb).mono ?_
  rintro e w' ⟨rfl, hb2, kp⟩
  exact ⟨rfl, ⟨⟨A, m, c, hb2, hby.kept kp (fun b o e h' => h.nx (by rw [← show b = rp from h']; exact hap b o e)), hmc, hml, hap⟩, h.nx⟩, kp⟩
theorem rdNeed_no (h : RdAt w rp X bs false) : Calls Try.prog 45 #[.pointer (some ⟨rp, 0, none⟩), .bool false] w (RdNot w rp X bs) := by
  obtain ⟨A, m, c, hb, hby, hmc, hml, hap⟩ := h.ex
  refine (need_no hb).mono ?_
  rintro e w' ⟨rfl, hb2, kp⟩
  exact ⟨rfl, ⟨⟨A, m, c, hb2, hby.kept kp (fun b o e h' => h.nx (by rw [← show b = rp from h']; exact hap b o e)), hmc, hml, hap⟩, h.nx⟩, kp⟩
end
def NdInv (w : World) (rp nb : Nat) (i : Value) (wr : World) (q : Nat) : Prop := ∃ j : Nat, j ≤ q ∧ i = .int .i64 (j : Nat) ∧ RdAt wr rp (fun _ => False) [] false ∧ Blk wr nb 3 #[.int .i64 (j : Nat)] ∧ Kept (fun j => j = rp ∨ j = nb) w wr
set_option maxHeartbeats 2000000 in
set_option maxRecDepth 100000 in
theorem needs1_ret {w : World} {rp ab nb : Nat} {at_ : Int} (h : RdAt w rp (fun _ => False) [] false) (ha : Blk w ab 3 #[.int .i64 at_]) (hn : Blk w nb 3 #[.int .i64 0]) (h1 : ab ≠ rp) (h2 : nb ≠ rp) (h3 : ab ≠ nb) (hat : at_ < 0 ∨ 20 ≤ at_) :
    Calls Try.prog 44 #[.pointer (some ⟨rp, 0, none⟩), .pointer (some ⟨ab, 0, none⟩), .pointer (some ⟨nb, 0, none⟩)] w fun e w' => e = .returned (.tuple #[]) ∧ RdAt w' rp (fun _ => False) [] false ∧ Blk w' nb 3 #[.int .i64 20] ∧ Kept (fun j => j = rp ∨ j = nb) w w' := by
  have HA := Lib.hid ha
  have HH := Lib.hid h
  have HN := Lib.hid hn
  clear h ha hn
  go_enter Try.func44, Try.ntmps44
  go_wp2_with fail
  go_loopw [4] (fun i wr => NdInv w rp nb i wr 20) (fun i _ => 20 - (intOf i).toNat)
  case atStart => exact ⟨0, by omega, rfl, HH.out, HN.out, Kept.refl _ _⟩
  case round =>
    obtain ⟨j, hj, rfl, hr, hnb, kp⟩ := hrel
    by_cases hlt : j < 20
    · have hlt' : (j : Int) < 20 := by omega
      have ha1 : wr.cell? ⟨ab, 0, none⟩ = some (.int .i64 at_) := (HA.out.kept kp (by rintro (e | e); exact h1 e; exact h3 e)).cell 0
      have hne : ((j : Int) != at_) = true := by rw [bne_iff_ne]; omega
      have C := Lib.hid (rdNeed_yes hr)
      have HNB := Lib.hid hnb
      have KP := Lib.hid kp
      clear hr hnb kp
      go_wp2_with fail
      refine C.out.mono ?_
      rintro e w1 ⟨rfl, hr1, k1⟩
      have hn1 := HNB.out.kept k1 h2
      have q0 : w1.cell? ⟨nb, 0, none⟩ = some (.int .i64 (j : Nat)) := hn1.cell 0
      have q1 : w1.frozen? ⟨nb, 0, none⟩ = false := hn1.frozen 0
      have HR := Lib.hid (hr1.set_ (p := ⟨nb, 0, none⟩) h2 (fun e => e) (.int .i64 ((j : Int) + 1)))
      have HN1 := Lib.hid (hn1.set_ 0 (.int .i64 ((j : Int) + 1)))
      have K1 := Lib.hid ((KP.out.trans k1 (fun j hj => .inl (.inl hj))).set_ (p := ⟨nb, 0, none⟩) (.inl (.inr rfl)) (.int .i64 ((j : Int) + 1)))
      clear hr1 hn1 k1 C
      go_wp2
      go_roundw
      case rel => exact ⟨j + 1, by omega, by go_num, HR.out, HN1.out, K1.out⟩
      case measure => simp [intOf]; omega
    · obtain rfl : j = 20 := by omega
      clear hlt
      go_wp2
      go_end0
      exact ⟨rfl, hr, hnb, kp⟩
set_option maxHeartbeats 2000000 in
set_option maxRecDepth 100000 in
theorem needs1_pan {w : World} {rp ab nb : Nat} {q : Nat} (h : RdAt w rp (fun _ => False) [] false) (ha : Blk w ab 3 #[.int .i64 (q : Nat)]) (hn : Blk w nb 3 #[.int .i64 0]) (h1 : ab ≠ rp) (h2 : nb ≠ rp) (h3 : ab ≠ nb) (hq : q < 20) :
    Calls Try.prog 44 #[.pointer (some ⟨rp, 0, none⟩), .pointer (some ⟨ab, 0, none⟩), .pointer (some ⟨nb, 0, none⟩)] w fun e w' => e = refusE rp ∧ RdAt w' rp (fun _ => False) [] true ∧ Blk w' nb 3 #[.int .i64 (q : Nat)] ∧ Kept (fun j => j = rp ∨ j = nb) w w' := by
  have HA := Lib.hid ha
  have HH := Lib.hid h
  have HN := Lib.hid hn
  clear h ha hn
  go_enter Try.func44, Try.ntmps44
  go_wp2_with fail
  go_loopw [4] (fun i wr => NdInv w rp nb i wr q) (fun i _ => q - (intOf i).toNat)
  case atStart => exact ⟨0, by omega, rfl, HH.out, HN.out, Kept.refl _ _⟩
  case round =>
    obtain ⟨j, hj, rfl, hr, hnb, kp⟩ := hrel
    have hlt' : (j : Int) < 20 := by omega
    have ha1 : wr.cell? ⟨ab, 0, none⟩ = some (.int .i64 (q : Nat)) := (HA.out.kept kp (by rintro (e | e); exact h1 e; exact h3 e)).cell 0
    have HNB := Lib.hid hnb
    have KP := Lib.hid kp
    by_cases hlt : j < q
    · have hne : ((j : Int) != (q : Int)) = true := by rw [bne_iff_ne]; omega
      have C := Lib.hid (rdNeed_yes hr)
      clear hr hnb kp
      go_wp2_with fail
      refine C.out.mono ?_
      rintro e w1 ⟨rfl, hr1, k1⟩
      have hn1 := HNB.out.kept k1 h2
      have q0 : w1.cell? ⟨nb, 0, none⟩ = some (.int .i64 (j : Nat)) := hn1.cell 0
      have q1 : w1.frozen? ⟨nb, 0, none⟩ = false := hn1.frozen 0
      have HR := Lib.hid (hr1.set_ (p := ⟨nb, 0, none⟩) h2 (fun e => e) (.int .i64 ((j : Int) + 1)))
      have HN1 := Lib.hid (hn1.set_ 0 (.int .i64 ((j : Int) + 1)))
      have K1 := Lib.hid ((KP.out.trans k1 (fun j hj => .inl (.inl hj))).set_ (p := ⟨nb, 0, none⟩) (.inl (.inr rfl)) (.int .i64 ((j : Int) + 1)))
      clear hr1 hn1 k1 C
      go_wp2
      go_roundw
      case rel => exact ⟨j + 1, by omega, by go_num, HR.out, HN1.out, K1.out⟩
      case measure => simp [intOf]; omega
    · obtain rfl : j = q := by omega
      have hne : ((j : Int) != (j : Int)) = false := by simp
      have C := Lib.hid (rdNeed_no hr)
      clear hr hnb kp hlt
      go_wp2_with fail
      refine C.out.mono ?_
      rintro e w1 ⟨rfl, hr1, k1⟩
      have HN1 := Lib.hid (HNB.out.kept k1 h2)
      have K1 := Lib.hid (KP.out.trans k1 (fun j hj => .inl (.inl hj)))
      have HR1 := Lib.hid hr1
      clear hr1 k1
      unfold refusE
      go_wp2
      exact ⟨rfl, rfl, HR1.out, HN1.out, K1.out⟩
end Go.Proofs.Ytldngpgkoohbmaa
