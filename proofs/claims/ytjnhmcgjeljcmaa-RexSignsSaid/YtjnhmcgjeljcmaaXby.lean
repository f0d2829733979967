/- RexBytes answers true. -/
import Derived.Test.YtjnhmcgjeljcmaaXtl
import Derived.Test.YtjnhmcgjeljcmaaXz
import Derived.OpenShut
import Derived.Deep.RegionHeld3
namespace Go.Proofs.Ytjnhmcgjeljcmaa
open Go.RowKit

/-- The calls that the law makes of a set: its text, and that text read. -/
structure SetCalls (lo hi : UInt8) (s : ByteArray) : Prop where
  tx : ∀ (W W0 : World), Below (W0.alloc (.cells #[.int .u8 lo.toNat, .int .u8 hi.toNat] 37)).heap.size (W0.alloc (.cells #[.int .u8 lo.toNat, .int .u8 hi.toNat] 37)) W →
    Calls Try.prog 17 #[.agg #[.int .i64 1, .slice (some ⟨W0.heap.size, 0, none⟩) 1 1, .slice none 0 0]] W fun e w' => e = .returned (.string s) ∧ Below W.heap.size W w'
  ps : ∀ W, Calls Try.prog 16 #[.string s] W (TreePost W (.mk 2 [] [.mk 1 [(lo, hi)] []], 0, 0))
theorem leaf_tree {W0 W : World} (lo hi : UInt8) (hb : Below (W0.alloc (.cells #[.int .u8 lo.toNat, .int .u8 hi.toNat] 37)).heap.size (W0.alloc (.cells #[.int .u8 lo.toNat, .int .u8 hi.toNat] 37)) W) :
    TreeAt W (· < W.heap.size) 1 (.mk 1 [(lo, hi)] []) [.int .i64 1, .slice (some ⟨W0.heap.size, 0, none⟩) 1 1, .slice none 0 0] :=
  (tree_leaf (k := 1) (c := 1) (by decide) (leaf_new lo hi hb) 0).mono fun j hj => hj.2
theorem setCalls {lo hi : UInt8} (h : lo.toNat ≤ hi.toNat) : SetCalls lo hi ⟨(setTx [(lo, hi)]).toArray⟩ := by
  have hbd : bodyT (.mk 1 [(lo, hi)] []) = setTx [(lo, hi)] := by simp [bodyT]
  refine ⟨fun W W0 hb => ?_, fun W => ?_⟩
  · have := text_any (.mk 1 [(lo, hi)] []) 1 1 _ 1 1 none 0 0 W (leaf_tree lo hi hb) (by rw [hbd]; have := setT_len [(lo, hi)]; omega) (by simp [stepsT])
    rw [hbd] at this
    exact this
  · have := xparse_any ⟨(setTx [(lo, hi)]).toArray⟩ W
    rw [show (⟨(setTx [(lo, hi)]).toArray⟩ : ByteArray).data.toList = setTx [(lo, hi)] by simp, back_any h] at this
    exact this
/-- A Cat of one set, as Parse gives it: where its kid lies. -/
theorem one_kid {w : World} {X : Nat → Prop} {d : Nat} {t : Tr} {k : Int} {A : Option Addr} {n c : Nat} {A' : Option Addr} {n' c' : Nat} (h : TreeAt w X d (.mk 2 [] [t]) [.int .i64 k, .slice A n c, .slice A' n' c']) :
    n' = 1 ∧ ∃ d' bb oo k1 B1 m1 g1 B2 m2 g2, d = d' + 1 ∧ A' = some ⟨bb, oo, none⟩ ∧ X bb ∧ w.cell? ⟨bb, oo, none⟩ = some (.int .i64 k1) ∧ w.cell? ⟨bb, oo + 1, none⟩ = some (.slice B1 m1 g1) ∧ w.cell? ⟨bb, oo + 2, none⟩ = some (.slice B2 m2 g2) ∧ TreeAt w X d' t [.int .i64 k1, .slice B1 m1 g1, .slice B2 m2 g2] := by
  obtain ⟨d, rfl⟩ : ∃ d', d = d' + 1 := by cases d with | zero => exact h.elim | succ d => exact ⟨d, rfl⟩
  obtain ⟨A1, n1, c1, A2, n2, c2, _, _, e2, _, _, _, hk⟩ := h.parts
  injection e2 with e2 e2' e2''
  subst e2 e2' e2''
  obtain rfl : n' = 1 := hk.1.symm
  obtain ⟨bb, oo, hA, hX, hc⟩ := hk.2 (by decide)
  obtain ⟨v0, v1, v2, c0, c1, c2, ht⟩ := hc 0 t rfl
  obtain ⟨k1, B1, m1, g1, B2, m2, g2, rfl, rfl, rfl⟩ := ht.shape
  exact ⟨rfl, d, bb, oo, k1, B1, m1, g1, B2, m2, g2, rfl, hA, hX, c0, c1, c2, ht⟩

set_option maxHeartbeats 4000000 in
set_option maxRecDepth 100000 in
theorem rexBytes_walk (c d lo hi : UInt8) (w : World) (hlo : min ((c.toNat : Nat) : Int) ((d.toNat : Nat) : Int) = ((lo.toNat : Nat) : Int)) (hhi : max ((c.toNat : Nat) : Int) ((d.toNat : Nat) : Int) = ((hi.toNat : Nat) : Int)) {s1 s2 : ByteArray} (H1 : SetCalls c c s1) (H2 : SetCalls lo hi s2) :
    Calls Try.prog 6 #[.int .u8 c.toNat, .int .u8 d.toNat] w fun e w' => e = .returned (.bool true) ∧ Below w.heap.size w w' := by
  have HH1 := Lib.hid H1
  have HH2 := Lib.hid H2
  clear H1 H2
  go_enter Try.func6, Try.ntmps6
  go_wp2_with fail
  refine (parsing_any _).mono ?_
  rintro e w1 ⟨rfl, b1⟩
  go_wp2_with fail
  refine (telling_any _).mono ?_
  rintro e w2 ⟨rfl, b2⟩
  have hb2 := b1.trans (b2.mono b1.size)
  go_wp2_with fail
  obtain ⟨W1, hW1⟩ : ∃ W1, W1 = (w2.alloc (.cells #[.int .u8 c.toNat, .int .u8 c.toNat] 37)).alloc (.cells #[.int .i64 1, .slice (some ⟨w2.heap.size, 0, none⟩) 1 1, .slice none 0 0] 26) := ⟨_, rfl⟩
  rw [← hW1]
  have hs1 : W1.heap.size = w2.heap.size + 2 := by rw [hW1]; simp
  have hbW : Below (w2.alloc (.cells #[.int .u8 c.toNat, .int .u8 c.toNat] 37)).heap.size (w2.alloc (.cells #[.int .u8 c.toNat, .int .u8 c.toNat] 37)) W1 := by rw [hW1]; exact (Below.refl _ _).alloc (Nat.le_refl _) _
  have B1 : Blk W1 (w2.heap.size + 1) 26 #[.int .i64 1, .slice (some ⟨w2.heap.size, 0, none⟩) 1 1, .slice none 0 0] := by
    rw [hW1]
    have := Blk.new (w2.alloc (.cells #[.int .u8 c.toNat, .int .u8 c.toNat] 37)) 26 #[.int .i64 1, .slice (some ⟨w2.heap.size, 0, none⟩) 1 1, .slice none 0 0]
    simpa using this
  have hbw1 : Below w.heap.size w W1 := by
    rw [hW1]
    have h1 := hb2.alloc hb2.size (.cells #[.int .u8 c.toNat, .int .u8 c.toNat] 37)
    exact h1.alloc h1.size _
  have HT1 := Lib.hid (leaf_tree c c hbW)
  clear hW1
  refine (HH1.out.tx W1 w2 hbW).mono ?_
  rintro e w3 ⟨rfl, b3⟩
  go_wp2_with fail
  refine (HH1.out.ps _).mono ?_
  rintro e w4 ⟨d4, k4, A4, n4, r4, A5, n5, r5, rfl, ht4, b4⟩
  obtain ⟨rfl, d4', bb, oo, k6, C1, m1, g1, C2, m2, g2, rfl, rfl, hX4, y0, y1, y2, htk⟩ := one_kid ht4
  have s3 := b3.size
  have s4 := b4.size
  have hXb : bb < w4.heap.size := hX4.2
  have B14 := (B1.below b3 B1.lt).below b4 (B1.below b3 B1.lt).lt
  have HK4 := Lib.hid htk
  have c34 := b3.trans (b4.mono b3.size)
  have hbw4 := hbw1.trans (c34.mono hbw1.size)
  have HT14 := Lib.hid (HT1.out.up (fun _ h => h) c34 (Nat.le_refl _))
  clear ht4 htk
  go_wp2_with fail
  obtain ⟨N4, hN4⟩ : ∃ N4, N4 = w4.alloc (.cells #[.int .i64 k4, .slice A4 n4 r4, .slice (some ⟨bb, oo, none⟩) 1 r5] 26) := ⟨_, rfl⟩
  have hN4s : N4.heap.size = w4.heap.size + 1 := by rw [hN4]; simp
  rw [← hN4, show w4.heap.size + 1 = N4.heap.size by rw [hN4s]]
  obtain ⟨W5, hW5⟩ : ∃ W5, W5 = (N4.alloc (.cells #[.int .u8 lo.toNat, .int .u8 hi.toNat] 37)).alloc (.cells #[.int .i64 1, .slice (some ⟨N4.heap.size, 0, none⟩) 1 1, .slice none 0 0] 26) := ⟨_, rfl⟩
  rw [← hW5]
  have hbW5 : Below (N4.alloc (.cells #[.int .u8 lo.toNat, .int .u8 hi.toNat] 37)).heap.size (N4.alloc (.cells #[.int .u8 lo.toNat, .int .u8 hi.toNat] 37)) W5 := by rw [hW5]; exact (Below.refl _ _).alloc (Nat.le_refl _) _
  have bN4 : Below w4.heap.size w4 N4 := by rw [hN4]; exact (Below.refl _ _).alloc (Nat.le_refl _) _
  have bN5 : Below N4.heap.size N4 W5 := ((Below.refl _ N4).alloc (Nat.le_refl _) _).trans (hbW5.mono (by simp))
  have b45 : Below w4.heap.size w4 W5 := bN4.trans (bN5.mono bN4.size)
  have BN : Blk W5 w4.heap.size 26 #[.int .i64 k4, .slice A4 n4 r4, .slice (some ⟨bb, oo, none⟩) 1 r5] := by
    have : Blk N4 w4.heap.size 26 #[.int .i64 k4, .slice A4 n4 r4, .slice (some ⟨bb, oo, none⟩) 1 r5] := by rw [hN4]; exact Blk.new w4 26 _
    exact this.below bN5 this.lt
  have B2 : Blk W5 (N4.heap.size + 1) 26 #[.int .i64 1, .slice (some ⟨N4.heap.size, 0, none⟩) 1 1, .slice none 0 0] := by
    rw [hW5]
    have := Blk.new (N4.alloc (.cells #[.int .u8 lo.toNat, .int .u8 hi.toNat] 37)) 26 #[.int .i64 1, .slice (some ⟨N4.heap.size, 0, none⟩) 1 1, .slice none 0 0]
    simpa using this
  have HT2 := Lib.hid (leaf_tree lo hi hbW5)
  clear hW5
  refine (HH2.out.tx W5 N4 hbW5).mono ?_
  rintro e w6 ⟨rfl, b6⟩
  go_wp2_with fail
  refine (HH2.out.ps _).mono ?_
  rintro e w7 ⟨d7, k7, A7, n7, r7, A8, n8, r8, rfl, ht7, b7⟩
  obtain ⟨rfl, d7', bb7, oo7, k8, D1, m3, g3, D2, m4, g4, rfl, rfl, hX7, z0, z1, z2, htk7⟩ := one_kid ht7
  have b67 := b6.trans (b7.mono b6.size)
  have b47 : Below w4.heap.size w4 w7 := b45.trans (b67.mono b45.size)
  have b5s := b67.size
  have hXb7 : bb7 < w7.heap.size := hX7.2
  have Bn7 := BN.below b67 BN.lt
  have Bo7 := B14.below b47 B14.lt
  have Bt7 := B2.below b67 B2.lt
  rw [hN4s] at Bt7
  obtain ⟨p0, p1, p2, _, _, _⟩ := blk3 Bn7
  obtain ⟨q0, q1, q2, _, _, _⟩ := blk3 Bo7
  obtain ⟨r0, r1, r2, _, _, _⟩ := blk3 Bt7
  have l7a := Bn7.lt
  have l7b := Bo7.lt
  have l7c := Bt7.lt
  have y0' : w7.cell? ⟨bb, oo, none⟩ = some (.int .i64 k6) := by rw [b47.cell (p := ⟨bb, oo, none⟩) hXb]; exact y0
  have y1' : w7.cell? ⟨bb, oo + 1, none⟩ = some (.slice C1 m1 g1) := by rw [b47.cell (p := ⟨bb, oo + 1, none⟩) hXb]; exact y1
  have y2' : w7.cell? ⟨bb, oo + 2, none⟩ = some (.slice C2 m2 g2) := by rw [b47.cell (p := ⟨bb, oo + 2, none⟩) hXb]; exact y2
  have hXb' : bb < w7.heap.size := Nat.lt_of_lt_of_le hXb b47.size
  have bal : Below w7.heap.size w7 (w7.alloc (.cells #[.int .i64 k7, .slice A7 n7 r7, .slice (some ⟨bb7, oo7, none⟩) 1 r8] 26)) := (Below.refl _ _).alloc (Nat.le_refl _) _
  have HK47 := Lib.hid ((HK4.out.up (fun j hj => hj.2) b47 (Nat.le_max_left d4' 1)).up (fun _ h => h) bal (Nat.le_refl _))
  have HT17 := Lib.hid ((HT14.out.up (d' := max d4' 1) (fun _ h => h) b47 (Nat.le_max_right d4' 1)).up (fun _ h => h) bal (Nat.le_refl _))
  have HK77 := Lib.hid ((htk7.up (d' := max d7' 1) (fun j hj => hj.2) (Below.refl _ w7) (Nat.le_max_left d7' 1)).up (fun _ h => h) bal (Nat.le_refl _))
  have HT27 := Lib.hid ((HT2.out.up (d' := max d7' 1) (fun _ h => h) b67 (Nat.le_max_right d7' 1)).up (fun _ h => h) bal (Nat.le_refl _))
  have HW7 := Lib.hid (show Below w.heap.size w (w7.alloc (.cells #[.int .i64 k7, .slice A7 n7 r7, .slice (some ⟨bb7, oo7, none⟩) 1 r8] 26)) from (hbw4.trans (b47.mono hbw4.size)).alloc (hbw4.trans (b47.mono hbw4.size)).size _)
  rw [hN4s] at HT27
  have BM := Blk.new w7 26 #[.int .i64 k7, .slice A7 n7 r7, .slice (some ⟨bb7, oo7, none⟩) 1 r8]
  obtain ⟨W9, hW9⟩ : ∃ W9, W9 = (w7.alloc (.cells #[.int .i64 k7, .slice A7 n7 r7, .slice (some ⟨bb7, oo7, none⟩) 1 r8] 26)) := ⟨_, rfl⟩
  rw [← hW9] at HK47 HT17 HK77 HT27 HW7 BM bal
  have f0 : W9.cell? ⟨w4.heap.size, 2, none⟩ = some (.slice (some ⟨bb, oo, none⟩) 1 r5) := by rw [bal.cell (p := ⟨w4.heap.size, 2, none⟩) l7a]; exact p2
  have l0 : w4.heap.size < W9.heap.size := Nat.lt_of_lt_of_le l7a bal.size
  have f1 : W9.cell? ⟨bb, oo, none⟩ = some (.int .i64 k6) := by rw [bal.cell (p := ⟨bb, oo, none⟩) hXb']; exact y0'
  have l1 : bb < W9.heap.size := Nat.lt_of_lt_of_le hXb' bal.size
  have f2 : W9.cell? ⟨bb, oo + 1, none⟩ = some (.slice C1 m1 g1) := by rw [bal.cell (p := ⟨bb, oo + 1, none⟩) hXb']; exact y1'
  have l2 : bb < W9.heap.size := Nat.lt_of_lt_of_le hXb' bal.size
  have f3 : W9.cell? ⟨bb, oo + 2, none⟩ = some (.slice C2 m2 g2) := by rw [bal.cell (p := ⟨bb, oo + 2, none⟩) hXb']; exact y2'
  have l3 : bb < W9.heap.size := Nat.lt_of_lt_of_le hXb' bal.size
  have f4 : W9.cell? ⟨w2.heap.size + 1, 0, none⟩ = some (.int .i64 1) := by rw [bal.cell (p := ⟨w2.heap.size + 1, 0, none⟩) l7b]; exact q0
  have l4 : w2.heap.size + 1 < W9.heap.size := Nat.lt_of_lt_of_le l7b bal.size
  have f5 : W9.cell? ⟨w2.heap.size + 1, 1, none⟩ = some (.slice (some ⟨w2.heap.size, 0, none⟩) 1 1) := by rw [bal.cell (p := ⟨w2.heap.size + 1, 1, none⟩) l7b]; exact q1
  have l5 : w2.heap.size + 1 < W9.heap.size := Nat.lt_of_lt_of_le l7b bal.size
  have f6 : W9.cell? ⟨w2.heap.size + 1, 2, none⟩ = some (.slice none 0 0) := by rw [bal.cell (p := ⟨w2.heap.size + 1, 2, none⟩) l7b]; exact q2
  have l6 : w2.heap.size + 1 < W9.heap.size := Nat.lt_of_lt_of_le l7b bal.size
  have f7 : W9.cell? ⟨w7.heap.size, 2, none⟩ = some (.slice (some ⟨bb7, oo7, none⟩) 1 r8) := BM.cell 2
  have l7 : w7.heap.size < W9.heap.size := BM.lt
  have f8 : W9.cell? ⟨bb7, oo7, none⟩ = some (.int .i64 k8) := by rw [bal.cell (p := ⟨bb7, oo7, none⟩) hXb7]; exact z0
  have l8 : bb7 < W9.heap.size := Nat.lt_of_lt_of_le hXb7 bal.size
  have f9 : W9.cell? ⟨bb7, oo7 + 1, none⟩ = some (.slice D1 m3 g3) := by rw [bal.cell (p := ⟨bb7, oo7 + 1, none⟩) hXb7]; exact z1
  have l9 : bb7 < W9.heap.size := Nat.lt_of_lt_of_le hXb7 bal.size
  have f10 : W9.cell? ⟨bb7, oo7 + 2, none⟩ = some (.slice D2 m4 g4) := by rw [bal.cell (p := ⟨bb7, oo7 + 2, none⟩) hXb7]; exact z2
  have l10 : bb7 < W9.heap.size := Nat.lt_of_lt_of_le hXb7 bal.size
  have f11 : W9.cell? ⟨w4.heap.size + 1 + 1, 0, none⟩ = some (.int .i64 1) := by rw [bal.cell (p := ⟨w4.heap.size + 1 + 1, 0, none⟩) l7c]; exact r0
  have l11 : w4.heap.size + 1 + 1 < W9.heap.size := Nat.lt_of_lt_of_le l7c bal.size
  have f12 : W9.cell? ⟨w4.heap.size + 1 + 1, 1, none⟩ = some (.slice (some ⟨w4.heap.size + 1, 0, none⟩) 1 1) := by rw [bal.cell (p := ⟨w4.heap.size + 1 + 1, 1, none⟩) l7c]; exact r1
  have l12 : w4.heap.size + 1 + 1 < W9.heap.size := Nat.lt_of_lt_of_le l7c bal.size
  have f13 : W9.cell? ⟨w4.heap.size + 1 + 1, 2, none⟩ = some (.slice none 0 0) := by rw [bal.cell (p := ⟨w4.heap.size + 1 + 1, 2, none⟩) l7c]; exact r2
  have l13 : w4.heap.size + 1 + 1 < W9.heap.size := Nat.lt_of_lt_of_le l7c bal.size
  have X1 := Lib.hid (TreeAt.keep (w := W9) (w' := W9.drew) (fun _ _ => rfl) HK47.out)
  have X2 := Lib.hid (TreeAt.keep (w := W9) (w' := W9.drew) (fun _ _ => rfl) HT17.out)
  have X3 := Lib.hid (TreeAt.keep (w := W9) (w' := W9.drew) (fun _ _ => rfl) HK77.out)
  have X4 := Lib.hid (TreeAt.keep (w := W9) (w' := W9.drew) (fun _ _ => rfl) HT27.out)
  clear ht7 htk7 HK4 HT14 HT2 HT1 BN B14 B2 B1 Bn7 Bo7 Bt7 b3 b4 b6 b7 b45 b47 b67 c34 bN4 bN5 hbW5 hbW hbw1 hbw4 hb2 b1 b2 bal y0 y1 y2 y0' y1' y2' z0 z1 z2 p0 p1 p2 q0 q1 q2 r0 r1 r2 BM HK47 HT17 HK77 HT27
  go_wp2_with fail
  rw [← hW9]
  try rw [hN4s]
  clear hW9 l7a l7b l7c hXb hXb' hXb7 hX4 hX7 hN4s hN4 hs1 s3 s4 b5s
  have mixed : Try.prog.follows .mixedOrders = true := by kernel_rfl
  refine wp_region_held_drew (S := fun W => W.cell? ⟨w4.heap.size, 2, none⟩ = some (.slice (some ⟨bb, oo, none⟩) 1 r5) ∧ W.cell? ⟨bb, oo, none⟩ = some (.int .i64 k6) ∧ W.cell? ⟨bb, oo + 1, none⟩ = some (.slice C1 m1 g1) ∧ W.cell? ⟨bb, oo + 2, none⟩ = some (.slice C2 m2 g2) ∧ W.cell? ⟨w2.heap.size + 1, 0, none⟩ = some (.int .i64 1) ∧ W.cell? ⟨w2.heap.size + 1, 1, none⟩ = some (.slice (some ⟨w2.heap.size, 0, none⟩) 1 1) ∧ W.cell? ⟨w2.heap.size + 1, 2, none⟩ = some (.slice none 0 0) ∧ W.cell? ⟨w7.heap.size, 2, none⟩ = some (.slice (some ⟨bb7, oo7, none⟩) 1 r8) ∧ W.cell? ⟨bb7, oo7, none⟩ = some (.int .i64 k8) ∧ W.cell? ⟨bb7, oo7 + 1, none⟩ = some (.slice D1 m3 g3) ∧ W.cell? ⟨bb7, oo7 + 2, none⟩ = some (.slice D2 m4 g4) ∧ W.cell? ⟨w4.heap.size + 1 + 1, 0, none⟩ = some (.int .i64 1) ∧ W.cell? ⟨w4.heap.size + 1 + 1, 1, none⟩ = some (.slice (some ⟨w4.heap.size + 1, 0, none⟩) 1 1) ∧ W.cell? ⟨w4.heap.size + 1 + 1, 2, none⟩ = some (.slice none 0 0)) mixed ⟨f0, f1, f2, f3, f4, f5, f6, f7, f8, f9, f10, f11, f12, f13⟩ (fun hS => ?_)
  refine wpAnyH_ready (rs := [0]) (by kernel_rfl) (by simp) ?_
  refine AllReadyH.cons rfl (fun K hK => ?_) AllReadyH.nil
  go_simp
  refine hK.out _ _ hS (fun hS => ?_)
  clear hK K
  refine wpAnyH_ready (rs := [1]) (by kernel_rfl) (by simp) ?_
  refine AllReadyH.cons rfl (fun K hK => ?_) AllReadyH.nil
  go_simp
  refine hK.out _ _ hS (fun hS => ?_)
  clear hK K
  refine wpAnyH_ready (rs := [2]) (by kernel_rfl) (by simp) ?_
  refine AllReadyH.cons rfl (fun K hK => ?_) AllReadyH.nil
  go_simp
  refine hK.out _ _ hS (fun hS => ?_)
  clear hK K
  refine wpAnyH_ready (rs := [3]) (by kernel_rfl) (by simp) ?_
  refine AllReadyH.cons rfl (fun K hK => ?_) AllReadyH.nil
  go_simp
  refine hK.out _ _ hS (fun hS => ?_)
  clear hK K
  refine wpAnyH_ready (rs := [4]) (by kernel_rfl) (by simp) ?_
  refine AllReadyH.cons rfl (fun K hK => ?_) AllReadyH.nil
  go_simp
  refine hK.out _ _ hS (fun hS => ?_)
  clear hK K
  refine wpAnyH_ready (rs := [5]) (by kernel_rfl) (by simp) ?_
  refine AllReadyH.cons rfl (fun K hK => ?_) AllReadyH.nil
  go_simp
  refine hK.out _ _ hS (fun hS => ?_)
  clear hK K
  refine wpAnyH_ready (rs := [6]) (by kernel_rfl) (by simp) ?_
  refine AllReadyH.cons rfl (fun K hK => ?_) AllReadyH.nil
  go_simp
  refine hK.out _ _ hS (fun hS => ?_)
  clear hK K
  refine wpAnyH_ready (rs := [7]) (by kernel_rfl) (by simp) ?_
  refine AllReadyH.cons rfl (fun K hK => ?_) AllReadyH.nil
  go_simp
  refine hK.out _ _ hS (fun hS => ?_)
  clear hK K
  refine wpAnyH_ready (rs := [8]) (by kernel_rfl) (by simp) ?_
  refine AllReadyH.cons rfl (fun K hK => ?_) AllReadyH.nil
  go_simp
  refine hK.out _ _ hS (fun hS => ?_)
  clear hK K
  refine wpAnyH_take (i := 9) (v := .pointer (some ⟨w4.heap.size, 2, none⟩)) rfl (by kernel_rfl) (by kernel_rfl) (by kernel_rfl) (fun _ _ _ h => h) (Or.inl ⟨by rfl, fun W hW => by go_simp⟩) hS ?_
  refine wpAnyH_take (i := 10) (v := .slice (some ⟨bb, oo, none⟩) 1 r5) rfl (by kernel_rfl) (by kernel_rfl) (by kernel_rfl) (fun _ _ _ h => h) (Or.inl ⟨by rfl, fun W hW => by have h0 := hW.1; go_simp⟩) hS ?_
  refine wpAnyH_take (i := 11) (v := .pointer (some ⟨bb, oo, none⟩)) rfl (by kernel_rfl) (by kernel_rfl) (by kernel_rfl) (fun _ _ _ h => h) (Or.inl ⟨by rfl, fun W hW => by go_simp⟩) hS ?_
  refine wpAnyH_take (i := 12) (v := .agg #[.int .i64 k6, .slice C1 m1 g1, .slice C2 m2 g2]) rfl (by kernel_rfl) (by kernel_rfl) (by kernel_rfl) (fun _ _ _ h => h) (Or.inl ⟨by rfl, fun W hW => by have h1 := hW.2.1; have h2 := hW.2.2.1; have h3 := hW.2.2.2.1; go_simp⟩) hS ?_
  refine wpAnyH_take (i := 13) (v := .agg #[.int .i64 1, .slice (some ⟨w2.heap.size, 0, none⟩) 1 1, .slice none 0 0]) rfl (by kernel_rfl) (by kernel_rfl) (by kernel_rfl) (fun _ _ _ h => h) (Or.inl ⟨by rfl, fun W hW => by have h4 := hW.2.2.2.2.1; have h5 := hW.2.2.2.2.2.1; have h6 := hW.2.2.2.2.2.2.1; go_simp⟩) hS ?_
  refine wpAnyH_ready (rs := [14]) (by kernel_rfl) (by simp) ?_
  refine AllReadyH.cons rfl (fun K hK => ?_) AllReadyH.nil
  go_simp
  go_wp2_with fail
  refine (same_yes _ _ _ _ _ _ _ _ _ X1.out X2.out).mono ?_
  rintro e w8 ⟨rfl, hb8⟩
  have a0 := (hb8.cell (p := ⟨w4.heap.size, 2, none⟩) l0).trans f0
  have a1 := (hb8.cell (p := ⟨bb, oo, none⟩) l1).trans f1
  have a2 := (hb8.cell (p := ⟨bb, oo + 1, none⟩) l2).trans f2
  have a3 := (hb8.cell (p := ⟨bb, oo + 2, none⟩) l3).trans f3
  have a4 := (hb8.cell (p := ⟨w2.heap.size + 1, 0, none⟩) l4).trans f4
  have a5 := (hb8.cell (p := ⟨w2.heap.size + 1, 1, none⟩) l5).trans f5
  have a6 := (hb8.cell (p := ⟨w2.heap.size + 1, 2, none⟩) l6).trans f6
  have a7 := (hb8.cell (p := ⟨w7.heap.size, 2, none⟩) l7).trans f7
  have a8 := (hb8.cell (p := ⟨bb7, oo7, none⟩) l8).trans f8
  have a9 := (hb8.cell (p := ⟨bb7, oo7 + 1, none⟩) l9).trans f9
  have a10 := (hb8.cell (p := ⟨bb7, oo7 + 2, none⟩) l10).trans f10
  have a11 := (hb8.cell (p := ⟨w4.heap.size + 1 + 1, 0, none⟩) l11).trans f11
  have a12 := (hb8.cell (p := ⟨w4.heap.size + 1 + 1, 1, none⟩) l12).trans f12
  have a13 := (hb8.cell (p := ⟨w4.heap.size + 1 + 1, 2, none⟩) l13).trans f13
  refine hK.out _ _ ⟨a0, a1, a2, a3, a4, a5, a6, a7, a8, a9, a10, a11, a12, a13⟩ (fun hS => ?_)
  clear hK K
  refine wpAnyH_ready (rs := [15]) (by kernel_rfl) (by simp) ?_
  refine AllReadyH.cons rfl (fun K hK => ?_) AllReadyH.nil
  go_simp
  refine hK.out _ _ hS (fun hS => ?_)
  clear hK K
  refine wpAnyH_ready (rs := [16]) (by kernel_rfl) (by simp) ?_
  refine AllReadyH.cons rfl (fun K hK => ?_) AllReadyH.nil
  go_simp
  refine hK.out _ _ hS (fun hS => ?_)
  clear hK K
  refine wpAnyH_ready (rs := [17]) (by kernel_rfl) (by simp) ?_
  refine AllReadyH.cons rfl (fun K hK => ?_) AllReadyH.nil
  go_simp
  refine hK.out _ _ hS (fun hS => ?_)
  clear hK K
  refine wpAnyH_ready (rs := [18]) (by kernel_rfl) (by simp) ?_
  refine AllReadyH.cons rfl (fun K hK => ?_) AllReadyH.nil
  go_simp
  refine hK.out _ _ hS (fun hS => ?_)
  clear hK K
  refine wpAnyH_ready (rs := [19]) (by kernel_rfl) (by simp) ?_
  refine AllReadyH.cons rfl (fun K hK => ?_) AllReadyH.nil
  go_simp
  refine hK.out _ _ hS (fun hS => ?_)
  clear hK K
  refine wpAnyH_ready (rs := [20]) (by kernel_rfl) (by simp) ?_
  refine AllReadyH.cons rfl (fun K hK => ?_) AllReadyH.nil
  go_simp
  refine hK.out _ _ hS (fun hS => ?_)
  clear hK K
  refine wpAnyH_ready (rs := [21]) (by kernel_rfl) (by simp) ?_
  refine AllReadyH.cons rfl (fun K hK => ?_) AllReadyH.nil
  go_simp
  refine hK.out _ _ hS (fun hS => ?_)
  clear hK K
  refine wpAnyH_ready (rs := [22]) (by kernel_rfl) (by simp) ?_
  refine AllReadyH.cons rfl (fun K hK => ?_) AllReadyH.nil
  go_simp
  refine hK.out _ _ hS (fun hS => ?_)
  clear hK K
  refine wpAnyH_ready (rs := [23]) (by kernel_rfl) (by simp) ?_
  refine AllReadyH.cons rfl (fun K hK => ?_) AllReadyH.nil
  go_simp
  refine hK.out _ _ hS (fun hS => ?_)
  clear hK K
  refine wpAnyH_ready (rs := [24]) (by kernel_rfl) (by simp) ?_
  refine AllReadyH.cons rfl (fun K hK => ?_) AllReadyH.nil
  go_simp
  refine hK.out _ _ hS (fun hS => ?_)
  clear hK K
  refine wpAnyH_ready (rs := [25]) (by kernel_rfl) (by simp) ?_
  refine AllReadyH.cons rfl (fun K hK => ?_) AllReadyH.nil
  go_simp
  refine hK.out _ _ hS (fun hS => ?_)
  clear hK K
  refine wpAnyH_ready (rs := [26]) (by kernel_rfl) (by simp) ?_
  refine AllReadyH.cons rfl (fun K hK => ?_) AllReadyH.nil
  go_simp
  refine hK.out _ _ hS (fun hS => ?_)
  clear hK K
  refine wpAnyH_take (i := 27) (v := .pointer (some ⟨w7.heap.size, 2, none⟩)) rfl (by kernel_rfl) (by kernel_rfl) (by kernel_rfl) (fun _ _ _ h => h) (Or.inl ⟨by rfl, fun W hW => by go_simp⟩) hS ?_
  refine wpAnyH_take (i := 28) (v := .slice (some ⟨bb7, oo7, none⟩) 1 r8) rfl (by kernel_rfl) (by kernel_rfl) (by kernel_rfl) (fun _ _ _ h => h) (Or.inl ⟨by rfl, fun W hW => by have h7 := hW.2.2.2.2.2.2.2.1; go_simp⟩) hS ?_
  refine wpAnyH_take (i := 29) (v := .pointer (some ⟨bb7, oo7, none⟩)) rfl (by kernel_rfl) (by kernel_rfl) (by kernel_rfl) (fun _ _ _ h => h) (Or.inl ⟨by rfl, fun W hW => by go_simp⟩) hS ?_
  refine wpAnyH_take (i := 30) (v := .agg #[.int .i64 k8, .slice D1 m3 g3, .slice D2 m4 g4]) rfl (by kernel_rfl) (by kernel_rfl) (by kernel_rfl) (fun _ _ _ h => h) (Or.inl ⟨by rfl, fun W hW => by have h8 := hW.2.2.2.2.2.2.2.2.1; have h9 := hW.2.2.2.2.2.2.2.2.2.1; have h10 := hW.2.2.2.2.2.2.2.2.2.2.1; go_simp⟩) hS ?_
  refine wpAnyH_take (i := 31) (v := .agg #[.int .i64 1, .slice (some ⟨w4.heap.size + 1, 0, none⟩) 1 1, .slice none 0 0]) rfl (by kernel_rfl) (by kernel_rfl) (by kernel_rfl) (fun _ _ _ h => h) (Or.inl ⟨by rfl, fun W hW => by have h11 := hW.2.2.2.2.2.2.2.2.2.2.2.1; have h12 := hW.2.2.2.2.2.2.2.2.2.2.2.2.1; have h13 := hW.2.2.2.2.2.2.2.2.2.2.2.2.2; go_simp⟩) hS ?_
  refine wpAnyH_ready (rs := [32]) (by kernel_rfl) (by simp) ?_
  refine AllReadyH.cons rfl (fun K hK => ?_) AllReadyH.nil
  go_simp
  go_wp2_with fail
  refine (same_yes _ _ _ _ _ _ _ _ _ (X3.out.up (fun _ h => h) hb8 (Nat.le_refl _)) (X4.out.up (fun _ h => h) hb8 (Nat.le_refl _))).mono ?_
  rintro e w9 ⟨rfl, hb9⟩
  refine hK.out _ _ ⟨(hb9.cell (p := ⟨w4.heap.size, 2, none⟩) (Nat.lt_of_lt_of_le l0 hb8.size)).trans a0, (hb9.cell (p := ⟨bb, oo, none⟩) (Nat.lt_of_lt_of_le l1 hb8.size)).trans a1, (hb9.cell (p := ⟨bb, oo + 1, none⟩) (Nat.lt_of_lt_of_le l2 hb8.size)).trans a2, (hb9.cell (p := ⟨bb, oo + 2, none⟩) (Nat.lt_of_lt_of_le l3 hb8.size)).trans a3, (hb9.cell (p := ⟨w2.heap.size + 1, 0, none⟩) (Nat.lt_of_lt_of_le l4 hb8.size)).trans a4, (hb9.cell (p := ⟨w2.heap.size + 1, 1, none⟩) (Nat.lt_of_lt_of_le l5 hb8.size)).trans a5, (hb9.cell (p := ⟨w2.heap.size + 1, 2, none⟩) (Nat.lt_of_lt_of_le l6 hb8.size)).trans a6, (hb9.cell (p := ⟨w7.heap.size, 2, none⟩) (Nat.lt_of_lt_of_le l7 hb8.size)).trans a7, (hb9.cell (p := ⟨bb7, oo7, none⟩) (Nat.lt_of_lt_of_le l8 hb8.size)).trans a8, (hb9.cell (p := ⟨bb7, oo7 + 1, none⟩) (Nat.lt_of_lt_of_le l9 hb8.size)).trans a9, (hb9.cell (p := ⟨bb7, oo7 + 2, none⟩) (Nat.lt_of_lt_of_le l10 hb8.size)).trans a10, (hb9.cell (p := ⟨w4.heap.size + 1 + 1, 0, none⟩) (Nat.lt_of_lt_of_le l11 hb8.size)).trans a11, (hb9.cell (p := ⟨w4.heap.size + 1 + 1, 1, none⟩) (Nat.lt_of_lt_of_le l12 hb8.size)).trans a12, (hb9.cell (p := ⟨w4.heap.size + 1 + 1, 2, none⟩) (Nat.lt_of_lt_of_le l13 hb8.size)).trans a13⟩ (fun hS => ?_)
  clear hK K
  refine wpAnyH_ready (rs := [33]) (by kernel_rfl) (by simp) ?_
  refine AllReadyH.cons rfl (fun K hK => ?_) AllReadyH.nil
  go_simp
  refine hK.out _ _ hS (fun hS => ?_)
  clear hK K
  refine wpAnyH_ready (rs := [34]) (by kernel_rfl) (by simp) ?_
  refine AllReadyH.cons rfl (fun K hK => ?_) AllReadyH.nil
  go_simp
  refine hK.out _ _ hS (fun hS => ?_)
  clear hK K
  refine wpAnyH_done (by kernel_rfl) ?_ _
  go_wp2
  go_ret
  refine ⟨rfl, ?_⟩
  have h8 : Below W9.heap.size W9 w8 := ⟨hb8.os, hb8.tape, hb8.output, hb8.size, hb8.block⟩
  have h1 := HW7.out.trans (h8.mono HW7.out.size)
  exact h1.trans (hb9.mono h1.size)
theorem rexBytes_any (c d : UInt8) (w : World) : Calls Try.prog 6 #[.int .u8 c.toNat, .int .u8 d.toNat] w fun e w' => e = .returned (.bool true) ∧ Below w.heap.size w w' := by
  rcases Nat.le_total c.toNat d.toNat with h | h
  · exact rexBytes_walk c d c d w (by omega) (by omega) (setCalls (Nat.le_refl _)) (setCalls h)
  · exact rexBytes_walk c d d c w (by omega) (by omega) (setCalls (Nat.le_refl _)) (setCalls h)
theorem xbyte_of {a : Int} (h : (Lit.int .u8 a).wf = true) : ∃ x : UInt8, a = ((x.toNat : Nat) : Int) := by
  have := bounds_u8 h
  exact ⟨UInt8.ofNat a.toNat, by simp; omega⟩
theorem rexBytes_int (a b : Int) (ha : (Lit.int .u8 a).wf = true) (hb : (Lit.int .u8 b).wf = true) (w : World) :
    Calls Try.prog 6 #[.int .u8 a, .int .u8 b] w fun e w' => e = .returned (.bool true) ∧ Below w.heap.size w w' := by
  obtain ⟨x, rfl⟩ := xbyte_of ha
  obtain ⟨y, rfl⟩ := xbyte_of hb
  exact rexBytes_any x y w
end Go.Proofs.Ytjnhmcgjeljcmaa
