/- Reader.Int. -/
import Derived.Test.YteokiaeojgjpdaaPr
namespace Go.Proofs.Yteokiaeojgjpdaa
open Go.RowKit

section
variable {w : World} {rp : Nat} {X : Nat → Prop} {bs : List UInt8}
set_option maxHeartbeats 1000000 in
set_option maxRecDepth 100000 in
theorem rdInt_yes (h : RdAt w rp X bs false) {n k : Nat} (hg : getL bs = (n, k)) (hk : 0 < k) {most : Int} (hmost : (n : Int) ≤ most) : Calls Try.prog 38 #[.pointer (some ⟨rp, 0, none⟩), .int .i64 most] w (RdRes w rp X (bs.drop k) (.int .i64 (n : Nat))) := by
  obtain ⟨A, m, c, hb, hby, hmc, hml, hap⟩ := h.ex
  have hbd := getL_bd bs
  rw [hg] at hbd
  have hbl := hby.1
  obtain ⟨_, hk9, hkm, hn⟩ : 0 < k ∧ k ≤ 9 ∧ k ≤ bs.length ∧ n ≤ 4611686018427387904 := by
    rcases hbd with h0 | h0
    · injection h0 with _ h1; omega
    · exact h0
  obtain ⟨b, o, rfl, hbw, _⟩ := hby.2 (by omega)
  have C0 := Lib.hid (number_any (c := c) hby hml)
  rw [hg, show numV (n, k) = .tuple #[.int .i64 (n : Nat), .int .i64 (k : Nat)] from rfl] at C0
  have hkI : (0 : Int) < (k : Int) := by omega
  have HBY := Lib.hid hby
  have HB := Lib.hid hb
  have hxb : X b := hap b o rfl
  have hne : b ≠ rp := fun e => h.nx (by rw [← e]; exact hxb)
  have HNX := Lib.hid h.nx
  have HXB := Lib.hid hxb
  clear hxb
  obtain ⟨c0, c1, c2, f0, f1, f2⟩ := blk3 hb
  clear hby hbd hg h hb hap
  unfold maxLen at hml
  by_cases hcap : c = k
  · subst hcap
    go_enter Try.func38, Try.ntmps38
    go_wp2_with fail
    ((with_reducible refine C0.out.mono ?_))
    rintro e w' ⟨rfl, rfl⟩
    go_wp2_with fail
    ((with_reducible refine (need_yes HB.out).mono ?_))
    rintro e w' ⟨rfl, hb2, kp⟩
    obtain ⟨d0, d1, d2, g0, g1, g2⟩ := blk3 hb2
    have HB2 := Lib.hid hb2
    clear hb2
    have HF := Lib.hid (fun (W : World) => (⟨by rw [List.length_drop, hbl]; omega, fun h => by omega⟩ : BytesAt W (some ⟨b, o, none⟩) 0 (bs.drop c)))
    go_wp2
    go_ret
    exact ⟨rfl, ⟨⟨_, _, _, HB2.out.set_ 0 _, HF.out _, by omega, by unfold maxLen; omega, fun b' o' e => by injection e with e; injection e with e _ _; rw [← e]; exact HXB.out⟩, HNX.out⟩, kp.set_ (p := ⟨rp, 0, none⟩) (.inl rfl) _⟩
  · go_enter Try.func38, Try.ntmps38
    go_wp2_with fail
    ((with_reducible refine C0.out.mono ?_))
    rintro e w' ⟨rfl, rfl⟩
    go_wp2_with fail
    ((with_reducible refine (need_yes HB.out).mono ?_))
    rintro e w' ⟨rfl, hb2, kp⟩
    obtain ⟨d0, d1, d2, g0, g1, g2⟩ := blk3 hb2
    have HB2 := Lib.hid hb2
    clear hb2
    have HF := Lib.hid ((HBY.out.drop_ (k := k) (by omega)).kept kp (fun b' o' e => by injection e with e; injection e with e _ _; omega))
    go_wp2
    go_ret
    refine ⟨rfl, ⟨⟨_, _, _, HB2.out.set_ 0 _, HF.out.keep (fun _ b' o' e _ => Below.heap_setCell _ _ _ _ ?_) (by simp [World.setCell]), by omega, by unfold maxLen; omega, fun b' o' e => ?_⟩, HNX.out⟩, kp.set_ (p := ⟨rp, 0, none⟩) (.inl rfl) _⟩
    · injection e with e; injection e with e _ _; show b' ≠ rp; omega
    · injection e with e; injection e with e _ _; rw [← e]; exact HXB.out
set_option maxHeartbeats 1000000 in
set_option maxRecDepth 100000 in
theorem rdInt_no (h : RdAt w rp X bs false) (hg : getL bs = (0, 0)) {most : Int} : Calls Try.prog 38 #[.pointer (some ⟨rp, 0, none⟩), .int .i64 most] w (RdNot w rp X bs) := by
  obtain ⟨A, m, c, hb, hby, hmc, hml, hap⟩ := h.ex
  have C0 := Lib.hid (number_any (c := c) hby hml)
  rw [hg, show numV (0, 0) = .tuple #[.int .i64 0, .int .i64 0] from rfl] at C0
  have HBY := Lib.hid hby
  have HB := Lib.hid hb
  have HAP := Lib.hid hap
  have HNX := Lib.hid h.nx
  obtain ⟨c0, c1, c2, f0, f1, f2⟩ := blk3 hb
  clear hby hg h hb hap
  go_enter Try.func38, Try.ntmps38
  go_wp2_with fail
  ((with_reducible refine C0.out.mono ?_))
  rintro e w' ⟨rfl, rfl⟩
  go_wp2_with fail
  ((with_reducible refine (need_no HB.out).mono ?_))
  rintro e w' ⟨rfl, hb2, kp⟩
  unfold refusE
  go_wp2
  exact ⟨rfl, rfl, ⟨⟨A, m, c, hb2, HBY.out.kept kp (fun b o e h => HNX.out (by rw [← show b = rp from h]; exact HAP.out b o e)), hmc, hml, HAP.out⟩, HNX.out⟩, kp⟩
set_option maxHeartbeats 1000000 in
set_option maxRecDepth 100000 in
theorem rdInt_big (h : RdAt w rp X bs false) {n k : Nat} (hg : getL bs = (n, k)) (hk : 0 < k) {most : Int} (hmost : most < (n : Int)) : Calls Try.prog 38 #[.pointer (some ⟨rp, 0, none⟩), .int .i64 most] w (RdNot w rp X bs) := by
  obtain ⟨A, m, c, hb, hby, hmc, hml, hap⟩ := h.ex
  have C0 := Lib.hid (number_any (c := c) hby hml)
  rw [hg, show numV (n, k) = .tuple #[.int .i64 (n : Nat), .int .i64 (k : Nat)] from rfl] at C0
  have hkI : (0 : Int) < (k : Int) := by omega
  have hmd : decide ((n : Int) ≤ most) = false := by simp; omega
  have HBY := Lib.hid hby
  have HB := Lib.hid hb
  have HAP := Lib.hid hap
  have HNX := Lib.hid h.nx
  obtain ⟨c0, c1, c2, f0, f1, f2⟩ := blk3 hb
  clear hby hg h hb hap
  go_enter Try.func38, Try.ntmps38
  go_wp2_with fail
  ((with_reducible refine C0.out.mono ?_))
  rintro e w' ⟨rfl, rfl⟩
  go_wp2_with fail
  ((with_reducible refine (need_no HB.out).mono ?_))
  rintro e w' ⟨rfl, hb2, kp⟩
  unfold refusE
  go_wp2
  exact ⟨rfl, rfl, ⟨⟨A, m, c, hb2, HBY.out.kept kp (fun b o e h => HNX.out (by rw [← show b = rp from h]; exact HAP.out b o e)), hmc, hml, HAP.out⟩, HNX.out⟩, kp⟩
end
end Go.Proofs.Yteokiaeojgjpdaa
