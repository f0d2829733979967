/- Reader.Text, where it finds no text; PackBack's function. -/
import Derived.Test.YteokiaeojgjpdaaPf
import Derived.Test.YteokiaeojgjpdaaQa
namespace Go.Proofs.Yteokiaeojgjpdaa
open Go.RowKit

section
variable {w : World} {rp : Nat} {X : Nat → Prop} {bs : List UInt8}
set_option maxHeartbeats 4000000 in
set_option maxRecDepth 100000 in
theorem rdText_no (h : RdAt w rp X bs false) (most : Int) (hm0 : most ≤ 1000000) (hm1 : 0 ≤ most) (hg : getT most bs = ([], 0)) : Calls Try.prog 39 #[.pointer (some ⟨rp, 0, none⟩), .int .i64 most] w (RdNot w rp X bs) := by
  obtain ⟨A, m, c, hb, hby, hmc, hml, hap⟩ := h.ex
  have hbl := hby.1
  obtain ⟨n, k, hgl⟩ : ∃ n k, getL bs = (n, k) := ⟨_, _, rfl⟩
  have C0 := Lib.hid (number_any (c := c) hby hml)
  rw [hgl, show numV (n, k) = .tuple #[.int .i64 (n : Nat), .int .i64 (k : Nat)] from rfl] at C0
  have hbd := getL_bd bs
  unfold getT at hg
  rw [hgl] at hg hbd
  simp only at hg hbd
  have hcon : k = 0 ∨ most < (n : Int) ∨ bs.length < k + n := by
    split at hg
    · rename_i h; exact h
    · injection hg with _ hq
      exact .inl (by omega)
  have hbd2 : (n = 0 ∧ k = 0) ∨ (0 < k ∧ k ≤ 9 ∧ k ≤ bs.length ∧ n ≤ 4611686018427387904) := by
    rcases hbd with h0 | h0
    · injection h0 with h1 h2; exact .inl ⟨h1, h2⟩
    · exact .inr h0
  have HBY := Lib.hid hby
  have HB := Lib.hid hb
  have HAP := Lib.hid hap
  have HNX := Lib.hid h.nx
  have FIN := Lib.hid (fun (w' : World) (hb2 : Blk w' rp 144 #[.slice A m c, .bool true, .bool true]) (kp : Kept (· = rp) w w') => (⟨⟨A, m, c, hb2, hby.kept kp (fun b o e h' => h.nx (by rw [← show b = rp from h']; exact hap b o e)), hmc, hml, hap⟩, h.nx⟩ : RdAt w' rp X bs true))
  obtain ⟨c0, c1, c2, f0, f1, f2⟩ := blk3 hb
  clear hby hbd hgl h hb hap hg
  unfold maxLen at hml
  rcases hbd2 with ⟨rfl, rfl⟩ | ⟨hk, hk9, hkm, hn4⟩
  · clear hcon
    go_enter Try.func39, Try.ntmps39
    go_wp2_with fail
    ((with_reducible refine C0.out.mono ?_))
    rintro e w' ⟨rfl, rfl⟩
    go_wp2_with fail
    ((with_reducible refine (need_no HB.out).mono ?_))
    rintro e w' ⟨rfl, hb2, kp⟩
    unfold refusE
    go_wp2
    exact ⟨rfl, rfl, FIN.out w' hb2 kp, kp⟩
  · have hkI : (0 : Int) < (k : Int) := by omega
    rcases Int.lt_or_le ((m : Int) - (k : Int)) most with hmin | hmin
    · have hn2 : decide ((n : Int) ≤ (m : Int) - (k : Int)) = false := decide_eq_false (by omega)
      clear hcon
      go_enter Try.func39, Try.ntmps39
      go_wp2_with fail
      ((with_reducible refine C0.out.mono ?_))
      rintro e w' ⟨rfl, rfl⟩
      go_wp2_with fail
      ((with_reducible refine (need_no HB.out).mono ?_))
      rintro e w' ⟨rfl, hb2, kp⟩
      unfold refusE
      go_wp2
      exact ⟨rfl, rfl, FIN.out w' hb2 kp, kp⟩
    · have hn2 : decide ((n : Int) ≤ most) = false := decide_eq_false (by omega)
      clear hcon
      go_enter Try.func39, Try.ntmps39
      go_wp2_with fail
      ((with_reducible refine C0.out.mono ?_))
      rintro e w' ⟨rfl, rfl⟩
      go_wp2_with fail
      ((with_reducible refine (need_no HB.out).mono ?_))
      rintro e w' ⟨rfl, hb2, kp⟩
      unfold refusE
      go_wp2
      exact ⟨rfl, rfl, FIN.out w' hb2 kp, kp⟩
end
/-- A slice of texts in memory. -/
def StrsAt (w : World) (A : Option Addr) (n : Nat) (ss : List ByteArray) : Prop :=
  ss.length = n ∧ (0 < n → ∃ b o, A = some ⟨b, o, none⟩ ∧ b < w.heap.size ∧ ∀ i s, ss[i]? = some s → w.cell? ⟨b, o + i, none⟩ = some (.string s))
end Go.Proofs.Yteokiaeojgjpdaa
