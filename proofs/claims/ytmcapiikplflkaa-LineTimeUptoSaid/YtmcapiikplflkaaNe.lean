/- The document's example of a session (alive). -/
import Derived.Test.YtmcapiikplflkaaNd
namespace Go.Proofs.Ytmcapiikplflkaa
open Go.RowKit Go.Maps

def a0 : Ls := ⟨[(2, [97]), (3, [])], 1, 0, 0, 0, []⟩
def a1 : Ls := ⟨[(2, [97]), (3, [])], 1, 0, 0, 1, []⟩
def a2 : Ls := ⟨[(3, [])], 1, 0, 2, 2, []⟩
def a3 : Ls := ⟨[(3, [])], 1, 0, 2, 4, []⟩
def a4 : Ls := ⟨[], 1, 0, 5, 5, []⟩
def a5 : Ls := ⟨[], 1, 0, 5, 5, [104, 105]⟩
theorem an1 : nextS a0 1 = (4, [], a1) := by kernel_rfl
theorem an2 : nextS a1 9 = (1, [97], a2) := by kernel_rfl
theorem an3 : nextS a2 4 = (4, [], a3) := by kernel_rfl
theorem an4 : nextS a3 9 = (1, [], a4) := by kernel_rfl
theorem an5 : nextS a4 9 = (2, [], a4) := by kernel_rfl
set_option maxHeartbeats 4000000 in
set_option maxRecDepth 100000 in
theorem lalive_any (w : World) : Calls Try.prog 36 #[] w fun e w' => e = .returned (.bool true) ∧ Below w.heap.size w w' := by
  have hcv := conv_const
  have b0 : Below w.heap.size w ((w.alloc (.cells #[.int .u8 97] 5 (1, 2))).alloc (.cells #[.int .i64 2, .slice (some ⟨w.heap.size, 0, none⟩) 1 1, .int .i64 3, .slice none 0 0] 72)) := ((Below.refl _ w).alloc (Nat.le_refl _) _).alloc (by simp) _
  have hA : ArgCh ((w.alloc (.cells #[.int .u8 97] 5 (1, 2))).alloc (.cells #[.int .i64 2, .slice (some ⟨w.heap.size, 0, none⟩) 1 1, .int .i64 3, .slice none 0 0] 72)) (some ⟨w.heap.size + 1, 0, none⟩) 2 [⟨2, some ⟨w.heap.size, 0, none⟩, 1, 1, [97]⟩, ⟨3, none, 0, 0, []⟩] := by
    have hb := Blk.new (w.alloc (.cells #[.int .u8 97] 5 (1, 2))) 72 #[.int .i64 2, .slice (some ⟨w.heap.size, 0, none⟩) 1 1, .int .i64 3, .slice none 0 0]
    rw [show (w.alloc (.cells #[.int .u8 97] 5 (1, 2))).heap.size = w.heap.size + 1 by simp] at hb
    refine ⟨rfl, by decide, fun k hk => ?_, fun _ => ⟨w.heap.size + 1, 0, rfl, hb.lt, fun i k hi => ?_⟩⟩
    · rcases List.mem_cons.1 hk with rfl | hk
      · exact ⟨(bytes_new w [97] (1, 2)).below ((Below.refl _ _).alloc (Nat.le_refl _) _), (by decide : 1 ≤ 140737488355328)⟩
      · rcases List.mem_cons.1 hk with rfl | hk
        · exact ⟨nil_at _, (by decide : 0 ≤ 140737488355328)⟩
        · cases hk
    · match i, hi with
      | 0, hi => simp at hi; subst hi; exact ⟨hb.cell 0, hb.cell 1⟩
      | 1, hi => simp at hi; subst hi; exact ⟨hb.cell 2, hb.cell 3⟩
      | i + 2, hi => simp at hi
  have C := Lib.hid (show Calls _ _ _ _ (OpenP _ a0) from open_any (c := 2) 1 0 hA)
  have B0 := Lib.hid b0
  clear b0 hA
  go_enter Try.func36, Try.ntmps36
  go_wp2_with fail
  ((with_reducible refine C.out.mono ?_))
  rintro e w1 ⟨lp, X, R, rfl, h0⟩
  have OLD := Lib.hid (fun (V : World) (h : Below ((w.alloc (.cells #[.int .u8 97] 5 (1, 2))).alloc (.cells #[.int .i64 2, .slice (some ⟨w.heap.size, 0, none⟩) 1 1, .int .i64 3, .slice none 0 0] 72)).heap.size ((w.alloc (.cells #[.int .u8 97] 5 (1, 2))).alloc (.cells #[.int .i64 2, .slice (some ⟨w.heap.size, 0, none⟩) 1 1, .int .i64 3, .slice none 0 0] 72)) V) => show Below w.heap.size w V from B0.out.trans (h.mono B0.out.size))
  have C := h0.next (by decide) (by decide) 1
  rw [an1] at C
  have C := Lib.hid C
  clear h0 B0
  go_wp2_with fail
  ((with_reducible refine C.out.mono ?_))
  rintro e w2 ⟨B2, m2, d2, rfl, -, h1, -, -⟩
  have C := h1.next (by decide) (by decide) 9
  rw [an2] at C
  have C := Lib.hid C
  clear h1
  go_wp2_with fail
  ((with_reducible refine C.out.mono ?_))
  rintro e w3 ⟨B3, m3, d3, rfl, hb3, h2, -, hR3⟩
  have hm3 : 1 = m3 := hb3.1
  subst hm3
  have C := Lib.hid (show Calls _ _ _ _ (fun e w' => e = .returned (.int .i64 2) ∧ w' = w3) from h2.now_)
  have HNX := Lib.hid (fun (b o : Nat) (e : B3 = some ⟨b, o, none⟩) (hx : X b) => h2.dis b hx (hR3 b ⟨o, e⟩))
  have HB3 := Lib.hid hb3
  have H2 := Lib.hid h2
  clear hb3 h2 hR3
  go_wp2_with fail
  ((with_reducible refine C.out.mono ?_))
  rintro e w4 ⟨rfl, rfl⟩
  have C := H2.out.next (by decide) (by decide) 4
  rw [an3] at C
  have C := Lib.hid C
  go_wp2_with fail
  ((with_reducible refine C.out.mono ?_))
  rintro e w5 ⟨B5, m5, d5, rfl, -, h5, k5, -⟩
  have HB5 := Lib.hid (HB3.out.kept k5 HNX.out)
  have C := h5.next (by decide) (by decide) 9
  rw [an4] at C
  have C := Lib.hid C
  clear h5 k5 HB3 H2
  go_wp2_with fail
  ((with_reducible refine C.out.mono ?_))
  rintro e w6 ⟨B6, m6, d6, rfl, -, h6, k6, -⟩
  have HB6 := Lib.hid (HB5.out.kept k6 HNX.out)
  have C := h6.next (by decide) (by decide) 9
  rw [an5] at C
  have C := Lib.hid C
  clear h6 k6 HB5
  go_wp2_with fail
  ((with_reducible refine C.out.mono ?_))
  rintro e w7 ⟨B7, m7, d7, rfl, -, h7, k7, -⟩
  have HB7 := Lib.hid (HB6.out.kept k7 HNX.out)
  have C := h7.next (by decide) (by decide) 9
  rw [an5] at C
  have C := Lib.hid C
  clear h7 k7 HB6
  go_wp2_with fail
  ((with_reducible refine C.out.mono ?_))
  rintro e w8 ⟨B8, m8, d8, rfl, -, h8, k8, -⟩
  have hb8 := HB7.out.kept k8 HNX.out
  have bal : Below w8.heap.size w8 (w8.alloc (.cells #[.int .u8 104, .int .u8 105] 5 (2, 3))) := (Below.refl _ w8).alloc (Nat.le_refl _) _
  have C := Lib.hid (show Calls _ _ _ _ (fun e w' => e = .returned (.tuple #[]) ∧ AftL _ _ lp X R a5 w') from (h8.below bal).send (d := 2) (bytes_new w8 [104, 105] (2, 3)) (by decide))
  have HB8 := Lib.hid (hb8.below bal)
  clear h8 k8 hb8 bal HB7
  go_wp2_with fail
  refine C.out.mono ?_
  rintro e w9 ⟨rfl, X9, h9, k9, -⟩
  have hb9 := HB8.out.kept k9 HNX.out
  have hst : (convert 30 9 (.slice B3 1 d3)).run Try.prog w9 = .ok (.string ⟨#[97]⟩) w9 := conv_str hb9 d3
  have C := Lib.hid (show Calls _ _ _ _ (fun e w' => e = .returned (.int .i64 5) ∧ w' = w9) from h9.now_)
  have H9 := Lib.hid h9
  clear h9 k9 hb9 HB8
  go_wp2_with fail
  ((with_reducible refine C.out.mono ?_))
  rintro e w10 ⟨rfl, rfl⟩
  clear hst
  have C := Lib.hid (show Calls _ _ _ _ (CloneP w10 2 [104, 105]) from H9.out.sent_ (by decide))
  go_wp2_with fail
  ((with_reducible refine C.out.mono ?_))
  rintro e w11 ⟨B11, d11, rfl, r11, -, b11⟩
  have hst : (convert 30 9 (.slice B11 2 d11)).run Try.prog w11 = .ok (.string ⟨#[104, 105]⟩) w11 := conv_str r11.bytes d11
  have h11 := H9.out.below b11
  have C := Lib.hid (show Calls _ _ _ _ (fun e w' => e = .returned (.int .i64 0) ∧ w' = w11) from h11.rest)
  have HB := Lib.hid (OLD.out _ h11.old)
  clear r11 b11 h11 H9
  go_wp2_with fail
  ((with_reducible refine C.out.mono ?_))
  rintro e w12 ⟨rfl, rfl⟩
  go_wp2
  go_ret
  exact ⟨rfl, HB.out⟩
end Go.Proofs.Ytmcapiikplflkaa
