/- RexSigns answers true. -/
import Derived.Test.YtjnhmcgjeljcmaaXtl
import Derived.Test.YtjnhmcgjeljcmaaXsg
import Derived.Test.YtjnhmcgjeljcmaaXby
import Derived.Deep.RegionHeld3
namespace Go.Proofs.Ytjnhmcgjeljcmaa
open Go.RowKit

def kOf (z : Int) : Nat := ((bits BinOp.and IntKind.i64 z 1023).tmod 3).toNat
theorem kOf_lt (z : Int) : kOf z < 3 ∧ ((kOf z : Nat) : Int) = (bits BinOp.and IntKind.i64 z 1023).tmod 3 := by
  have h := and1023 z
  have hq : 0 ≤ (bits BinOp.and IntKind.i64 z 1023).tmod 3 ∧ (bits BinOp.and IntKind.i64 z 1023).tmod 3 < 3 := by
    rw [Int.tmod_eq_emod_of_nonneg h.1]; omega
  unfold kOf; omega
theorem str_snoc (l : List UInt8) (x : UInt8) : (⟨l.toArray⟩ ++ ⟨#[x]⟩ : ByteArray) = ⟨(l ++ [x]).toArray⟩ := by
  apply ByteArray.ext
  rw [ByteArray.data_append]; simp
def ksOf (zs : List Int) : List Nat := (zs.map kOf).take 200

def SInv (w2 : World) (n : Nat) (zs : List Int) (p i : Value) (wr : World) : Prop := ∃ (j d : Nat) (kk : Int) (A1 : Option Addr) (m1 g1 : Nat) (A2 : Option Addr) (m2 g2 : Nat), j ≤ n ∧ j ≤ 200 ∧ i = .int .i64 j ∧ p = .string ⟨(patL ((zs.map kOf).take j)).toArray⟩ ∧ Blk wr (w2.heap.size + 1) 26 #[.int .i64 kk, .slice A1 m1 g1, .slice A2 m2 g2] ∧
      TreeAt wr (fun b => w2.heap.size ≤ b ∧ b < wr.heap.size ∧ b ≠ w2.heap.size + 1) d (wantT ((zs.map kOf).take j)) [.int .i64 kk, .slice A1 m1 g1, .slice A2 m2 g2] ∧ Below w2.heap.size w2 wr
set_option maxHeartbeats 8000000 in
set_option maxRecDepth 100000 in
theorem rexSigns_walk (A : Option Addr) (n c : Nat) (zs : List Int) (w : World) (hz : IntsAt w A n zs) (hn : n ≤ maxLen) :
    Calls Try.prog 7 #[.slice A n c] w fun e w' => e = .returned (.bool true) ∧ Below w.heap.size w w' := by
  go_enter Try.func7, Try.ntmps7
  go_wp2_with fail
  refine (parsing_any _).mono ?_
  rintro e w1 ⟨rfl, b1⟩
  go_wp2_with fail
  refine (telling_any _).mono ?_
  rintro e w2 ⟨rfl, b2⟩
  have hb2 := b1.trans (b2.mono b1.size)
  go_wp2_with fail
  obtain ⟨W0, hW0⟩ : ∃ W0, W0 = (w2.alloc (.cells #[.int .u8 97, .int .u8 97] 37)).alloc (.cells #[.int .i64 1, .slice (some ⟨w2.heap.size, 0, none⟩) 1 1, .slice none 0 0] 26) := ⟨_, rfl⟩
  rw [← hW0]
  have hs0 : W0.heap.size = w2.heap.size + 2 := by rw [hW0]; simp
  have hb0 : Below w2.heap.size w2 W0 := by rw [hW0]; exact ((Below.refl _ w2).alloc (Nat.le_refl _) _).alloc (by simp) _
  have HB0 := Lib.hid (show Blk W0 (w2.heap.size + 1) 26 #[.int .i64 1, .slice (some ⟨w2.heap.size, 0, none⟩) 1 1, .slice none 0 0] by
    rw [hW0]
    have := Blk.new (w2.alloc (.cells #[.int .u8 97, .int .u8 97] 37)) 26 #[.int .i64 1, .slice (some ⟨w2.heap.size, 0, none⟩) 1 1, .slice none 0 0]
    simpa using this)
  have HT0 := Lib.hid (show TreeAt W0 (fun b => w2.heap.size ≤ b ∧ b < W0.heap.size ∧ b ≠ w2.heap.size + 1) 1 setA [.int .i64 1, .slice (some ⟨w2.heap.size, 0, none⟩) 1 1, .slice none 0 0] by
    have hr := leaf_new (w4 := w2) (w5 := W0) 97 97 (by rw [hW0]; exact (Below.refl _ _).alloc (Nat.le_refl _) _)
    refine (tree_leaf (k := 1) (c := 1) (X := fun b => b = w2.heap.size) (by decide) ⟨hr.1, fun h0 => ?_⟩ 0).mono fun b hb => ?_
    · obtain ⟨b, o, h1, _, h3⟩ := hr.2 h0
      injection h1 with h1
      injection h1 with h1 h2 _
      subst h1 h2
      exact ⟨_, _, rfl, rfl, h3⟩
    · subst hb; omega)
  clear hW0
  have hzl := hz.1
  go_loopw [3, 21] (fun p i wr => SInv w2 n zs p i wr) (fun _ i _ => n - (intOf i).toNat)
  case atStart => exact ⟨0, 1, _, _, _, _, _, _, _, Nat.zero_le _, by omega, rfl, rfl, HB0.out, HT0.out, hb0⟩
  case round =>
    obtain ⟨j, d, kk, A1, m1, g1, A2, m2, g2, hjn, hj2, rfl, rfl, hblk, htr, hbr⟩ := hrel
    have hBr := hbr.size
    obtain ⟨q0, q1, q2, f0, f1, f2⟩ := blk3 hblk
    have hlk := hblk.lt
    have hlk2 : w2.heap.size < wr.heap.size := by omega
    have HTR := Lib.hid htr
    have hsz : (patL ((zs.map kOf).take j)).length ≤ 300 := by
      have : ((zs.map kOf).take j).length ≤ 200 := Nat.le_trans (List.length_take_le _ _) hj2
      simp only [patL, List.length_cons, List.length_map]; omega
    clear htr
    by_cases hgo : j < n ∧ j < 200
    · obtain ⟨hjl, hj20⟩ := hgo
      have hjl' : (j : Int) < (n : Int) := by omega
      have hj20' : ¬ (200 : Int) ≤ (j : Int) := by omega
      have hj0 : (0 : Int) ≤ (j : Int) := by omega
      obtain ⟨bb, oo, rfl, hX, hcs⟩ := hz.2 (by omega)
      obtain ⟨z, hzj⟩ : ∃ z, zs[j]? = some z := ⟨zs[j]'(by omega), List.getElem?_eq_getElem (by omega)⟩
      have y0 : wr.cell? ⟨bb, oo + j, none⟩ = some (.int .i64 z) := by
        rw [hbr.cell (p := ⟨bb, oo + j, none⟩) (Nat.lt_of_lt_of_le hX hb2.size), hb2.cell (p := ⟨bb, oo + j, none⟩) hX]; exact hcs j z hzj
      have hks : (zs.map kOf).take (j + 1) = (zs.map kOf).take j ++ [kOf z] := by
        have h' : j < (zs.map kOf).length := by rw [List.length_map]; omega
        rw [List.take_succ_eq_append_getElem h', List.getElem_map]
        have := (List.getElem?_eq_some_iff.1 hzj).2
        rw [this]
      have hkz := kOf_lt z
      have hk3 : kOf z = 0 ∨ kOf z = 1 ∨ kOf z = 2 := by omega
      clear hcs hzj
      rcases hk3 with hK | hK | hK
      · have hj : (bits BinOp.and IntKind.i64 z 1023).tmod 3 = 0 := by rw [← hkz.2, hK]; rfl
        have HS := Lib.hid (show (⟨(patL ((zs.map kOf).take j)).toArray⟩ ++ ⟨#[42]⟩ : ByteArray) = ⟨(patL ((zs.map kOf).take (j + 1))).toArray⟩ by rw [hks, patL_snoc, hK]; exact str_snoc _ _)
        have HWT := Lib.hid (show wantT ((zs.map kOf).take (j + 1)) = .mk 4 [] [wantT ((zs.map kOf).take j)] by rw [hks, wantT_snoc, hK]; rfl)
        have HBK := Lib.hid hblk
        clear hks hK hkz hblk
        go_wp2
        go_roundw
        case rel =>
          obtain ⟨Wq, hWq⟩ : ∃ Wq, Wq = ((wr.setCell ⟨w2.heap.size + 1, 0, none⟩ (.int .i64 4)).setCell ⟨w2.heap.size + 1, 1, none⟩ (.slice none 0 0)).setCell ⟨w2.heap.size + 1, 2, none⟩ (.slice (some ⟨wr.heap.size + 1, 0, none⟩) 1 1) := ⟨_, rfl⟩
          have hsq : Wq.heap.size = wr.heap.size := by rw [hWq]; simp [World.setCell]
          have nq : Blk Wq (w2.heap.size + 1) 26 #[.int .i64 4, .slice none 0 0, .slice (some ⟨wr.heap.size + 1, 0, none⟩) 1 1] := by rw [hWq]; exact ((HBK.out.set_ 0 _).set_ 1 _).set_ 2 _
          have tq : TreeAt (Wq.alloc (.cells #[.string ⟨#[42]⟩, .string ⟨#[43]⟩, .string ⟨#[63]⟩] 9)) (fun b => w2.heap.size ≤ b ∧ b < wr.heap.size ∧ b ≠ w2.heap.size + 1) d (wantT ((zs.map kOf).take j)) [.int .i64 kk, .slice A1 m1 g1, .slice A2 m2 g2] := HTR.out.keep fun b hb => by
            rw [Below.heap_alloc _ _ _ (by rw [hsq]; exact hb.2.1), hWq, Below.heap_setCell _ _ _ _ hb.2.2, Below.heap_setCell _ _ _ _ hb.2.2, Below.heap_setCell _ _ _ _ hb.2.2]
          have hsa : (Wq.alloc (.cells #[.string ⟨#[42]⟩, .string ⟨#[43]⟩, .string ⟨#[63]⟩] 9)).heap.size = wr.heap.size + 1 := by simp [hsq]
          have tz := wrap_tree (Y := fun b => w2.heap.size ≤ b ∧ b < wr.heap.size + 2 ∧ b ≠ w2.heap.size + 1) 4 tq (fun b hb => ⟨by rw [hsa]; have := hb.2.1; omega, hb.1, by have := hb.2.1; omega, hb.2.2⟩) (by rw [hsa]; omega)
          rw [hsa] at tz
          have bq : Below w2.heap.size w2 Wq := by rw [hWq]; exact ((hbr.setCell (p := ⟨w2.heap.size + 1, 0, none⟩) (by simp) _).setCell (p := ⟨w2.heap.size + 1, 1, none⟩) (by simp) _).setCell (p := ⟨w2.heap.size + 1, 2, none⟩) (by simp) _
          rw [← hWq]
          refine ⟨j + 1, d + 1, 4, none, 0, 0, some ⟨wr.heap.size + 1, 0, none⟩, 1, 1, by omega, by omega, by go_num, congrArg Value.string HS.out, (nq.alloc _).alloc _, ?_, ?_⟩
          · rw [HWT.out]
            exact tz.mono fun b hb => ⟨hb.1, by simp [hsq]; have := hb.2.1; omega, hb.2.2⟩
          · exact (bq.alloc (by rw [hsq]; omega) _).alloc (by simp [hsq]; omega) _
        case measure => simp [intOf]; omega
      · have hj : (bits BinOp.and IntKind.i64 z 1023).tmod 3 = 1 := by rw [← hkz.2, hK]; rfl
        have HS := Lib.hid (show (⟨(patL ((zs.map kOf).take j)).toArray⟩ ++ ⟨#[43]⟩ : ByteArray) = ⟨(patL ((zs.map kOf).take (j + 1))).toArray⟩ by rw [hks, patL_snoc, hK]; exact str_snoc _ _)
        have HWT := Lib.hid (show wantT ((zs.map kOf).take (j + 1)) = .mk 5 [] [wantT ((zs.map kOf).take j)] by rw [hks, wantT_snoc, hK]; rfl)
        have HBK := Lib.hid hblk
        clear hks hK hkz hblk
        go_wp2
        go_roundw
        case rel =>
          obtain ⟨Wq, hWq⟩ : ∃ Wq, Wq = ((wr.setCell ⟨w2.heap.size + 1, 0, none⟩ (.int .i64 5)).setCell ⟨w2.heap.size + 1, 1, none⟩ (.slice none 0 0)).setCell ⟨w2.heap.size + 1, 2, none⟩ (.slice (some ⟨wr.heap.size + 1, 0, none⟩) 1 1) := ⟨_, rfl⟩
          have hsq : Wq.heap.size = wr.heap.size := by rw [hWq]; simp [World.setCell]
          have nq : Blk Wq (w2.heap.size + 1) 26 #[.int .i64 5, .slice none 0 0, .slice (some ⟨wr.heap.size + 1, 0, none⟩) 1 1] := by rw [hWq]; exact ((HBK.out.set_ 0 _).set_ 1 _).set_ 2 _
          have tq : TreeAt (Wq.alloc (.cells #[.string ⟨#[42]⟩, .string ⟨#[43]⟩, .string ⟨#[63]⟩] 9)) (fun b => w2.heap.size ≤ b ∧ b < wr.heap.size ∧ b ≠ w2.heap.size + 1) d (wantT ((zs.map kOf).take j)) [.int .i64 kk, .slice A1 m1 g1, .slice A2 m2 g2] := HTR.out.keep fun b hb => by
            rw [Below.heap_alloc _ _ _ (by rw [hsq]; exact hb.2.1), hWq, Below.heap_setCell _ _ _ _ hb.2.2, Below.heap_setCell _ _ _ _ hb.2.2, Below.heap_setCell _ _ _ _ hb.2.2]
          have hsa : (Wq.alloc (.cells #[.string ⟨#[42]⟩, .string ⟨#[43]⟩, .string ⟨#[63]⟩] 9)).heap.size = wr.heap.size + 1 := by simp [hsq]
          have tz := wrap_tree (Y := fun b => w2.heap.size ≤ b ∧ b < wr.heap.size + 2 ∧ b ≠ w2.heap.size + 1) 5 tq (fun b hb => ⟨by rw [hsa]; have := hb.2.1; omega, hb.1, by have := hb.2.1; omega, hb.2.2⟩) (by rw [hsa]; omega)
          rw [hsa] at tz
          have bq : Below w2.heap.size w2 Wq := by rw [hWq]; exact ((hbr.setCell (p := ⟨w2.heap.size + 1, 0, none⟩) (by simp) _).setCell (p := ⟨w2.heap.size + 1, 1, none⟩) (by simp) _).setCell (p := ⟨w2.heap.size + 1, 2, none⟩) (by simp) _
          rw [← hWq]
          refine ⟨j + 1, d + 1, 5, none, 0, 0, some ⟨wr.heap.size + 1, 0, none⟩, 1, 1, by omega, by omega, by go_num, congrArg Value.string HS.out, (nq.alloc _).alloc _, ?_, ?_⟩
          · rw [HWT.out]
            exact tz.mono fun b hb => ⟨hb.1, by simp [hsq]; have := hb.2.1; omega, hb.2.2⟩
          · exact (bq.alloc (by rw [hsq]; omega) _).alloc (by simp [hsq]; omega) _
        case measure => simp [intOf]; omega
      · have hj : (bits BinOp.and IntKind.i64 z 1023).tmod 3 = 2 := by rw [← hkz.2, hK]; rfl
        have HS := Lib.hid (show (⟨(patL ((zs.map kOf).take j)).toArray⟩ ++ ⟨#[63]⟩ : ByteArray) = ⟨(patL ((zs.map kOf).take (j + 1))).toArray⟩ by rw [hks, patL_snoc, hK]; exact str_snoc _ _)
        have HWT := Lib.hid (show wantT ((zs.map kOf).take (j + 1)) = .mk 6 [] [wantT ((zs.map kOf).take j)] by rw [hks, wantT_snoc, hK]; rfl)
        have HBK := Lib.hid hblk
        clear hks hK hkz hblk
        go_wp2
        go_roundw
        case rel =>
          obtain ⟨Wq, hWq⟩ : ∃ Wq, Wq = ((wr.setCell ⟨w2.heap.size + 1, 0, none⟩ (.int .i64 6)).setCell ⟨w2.heap.size + 1, 1, none⟩ (.slice none 0 0)).setCell ⟨w2.heap.size + 1, 2, none⟩ (.slice (some ⟨wr.heap.size + 1, 0, none⟩) 1 1) := ⟨_, rfl⟩
          have hsq : Wq.heap.size = wr.heap.size := by rw [hWq]; simp [World.setCell]
          have nq : Blk Wq (w2.heap.size + 1) 26 #[.int .i64 6, .slice none 0 0, .slice (some ⟨wr.heap.size + 1, 0, none⟩) 1 1] := by rw [hWq]; exact ((HBK.out.set_ 0 _).set_ 1 _).set_ 2 _
          have tq : TreeAt (Wq.alloc (.cells #[.string ⟨#[42]⟩, .string ⟨#[43]⟩, .string ⟨#[63]⟩] 9)) (fun b => w2.heap.size ≤ b ∧ b < wr.heap.size ∧ b ≠ w2.heap.size + 1) d (wantT ((zs.map kOf).take j)) [.int .i64 kk, .slice A1 m1 g1, .slice A2 m2 g2] := HTR.out.keep fun b hb => by
            rw [Below.heap_alloc _ _ _ (by rw [hsq]; exact hb.2.1), hWq, Below.heap_setCell _ _ _ _ hb.2.2, Below.heap_setCell _ _ _ _ hb.2.2, Below.heap_setCell _ _ _ _ hb.2.2]
          have hsa : (Wq.alloc (.cells #[.string ⟨#[42]⟩, .string ⟨#[43]⟩, .string ⟨#[63]⟩] 9)).heap.size = wr.heap.size + 1 := by simp [hsq]
          have tz := wrap_tree (Y := fun b => w2.heap.size ≤ b ∧ b < wr.heap.size + 2 ∧ b ≠ w2.heap.size + 1) 6 tq (fun b hb => ⟨by rw [hsa]; have := hb.2.1; omega, hb.1, by have := hb.2.1; omega, hb.2.2⟩) (by rw [hsa]; omega)
          rw [hsa] at tz
          have bq : Below w2.heap.size w2 Wq := by rw [hWq]; exact ((hbr.setCell (p := ⟨w2.heap.size + 1, 0, none⟩) (by simp) _).setCell (p := ⟨w2.heap.size + 1, 1, none⟩) (by simp) _).setCell (p := ⟨w2.heap.size + 1, 2, none⟩) (by simp) _
          rw [← hWq]
          refine ⟨j + 1, d + 1, 6, none, 0, 0, some ⟨wr.heap.size + 1, 0, none⟩, 1, 1, by omega, by omega, by go_num, congrArg Value.string HS.out, (nq.alloc _).alloc _, ?_, ?_⟩
          · rw [HWT.out]
            exact tz.mono fun b hb => ⟨hb.1, by simp [hsq]; have := hb.2.1; omega, hb.2.2⟩
          · exact (bq.alloc (by rw [hsq]; omega) _).alloc (by simp [hsq]; omega) _
        case measure => simp [intOf]; omega
    · have hks : ksOf zs = (zs.map kOf).take j := by
        unfold ksOf
        rcases Nat.lt_or_ge j 200 with h | h
        · have : j = n := by omega
          rw [List.take_of_length_le (l := zs.map kOf) (i := 200) (by rw [List.length_map]; omega), List.take_of_length_le (l := zs.map kOf) (i := j) (by rw [List.length_map]; omega)]
        · have : j = 200 := by omega
          rw [this]
      have hall : ∀ k ∈ (zs.map kOf).take j, k < 3 := fun k hk => by
        have := List.mem_of_mem_take hk
        obtain ⟨z, _, rfl⟩ := List.mem_map.1 this
        exact (kOf_lt z).1
      have hlen : ((zs.map kOf).take j).length ≤ 200 := Nat.le_trans (List.length_take_le _ _) hj2
      have HPS := Lib.hid (fun W => xparse_any ⟨(patL ((zs.map kOf).take j)).toArray⟩ W)
      rw [show (⟨(patL ((zs.map kOf).take j)).toArray⟩ : ByteArray).data.toList = patL ((zs.map kOf).take j) by simp, parse_signs hall hlen] at HPS
      have HBD := Lib.hid (body_signs hall)
      clear hks
      by_cases hjn2 : j < n
      · have e1 : (j : Int) < (n : Int) := by omega
        have e2 : (200 : Int) ≤ (j : Int) := by omega
        have e3 : (0 : Int) ≤ (j : Int) := by omega
        obtain ⟨ba, oa, rfl, hXa, hca⟩ := hz.2 (by omega)
        obtain ⟨z, hzj⟩ : ∃ z, zs[j]? = some z := ⟨zs[j]'(by omega), List.getElem?_eq_getElem (by omega)⟩
        have yz : wr.cell? ⟨ba, oa + j, none⟩ = some (.int .i64 z) := by
          rw [hbr.cell (p := ⟨ba, oa + j, none⟩) (Nat.lt_of_lt_of_le hXa hb2.size), hb2.cell (p := ⟨ba, oa + j, none⟩) hXa]; exact hca j z hzj
        clear hca hzj
        go_wp2_with fail
        refine (HPS.out _).mono ?_
        rintro e w4 ⟨d4, k4, A4, n4, r4, A5, n5, r5, rfl, ht4, b4⟩
        have HT4 := Lib.hid ht4
        obtain ⟨rfl, d4', bb, oo, k6, C1, m3, g3, C2, m4, g4, rfl, rfl, hX4, y0, y1, y2, htk⟩ := one_kid ht4
        have hXb : bb < w4.heap.size := hX4.2
        have hBw := hblk.below b4 hlk
        have bal : Below w4.heap.size w4 (w4.alloc (.cells #[.int .i64 k4, .slice A4 n4 r4, .slice (some ⟨bb, oo, none⟩) 1 r5] 26)) := (Below.refl _ _).alloc (Nat.le_refl _) _
        have BM := Blk.new w4 26 #[.int .i64 k4, .slice A4 n4 r4, .slice (some ⟨bb, oo, none⟩) 1 r5]
        have hkt := htk.up (d' := max d4' d) (fun j hj => hj.2) bal (Nat.le_max_left _ _)
        have hwt := (HTR.out.up (d' := max d4' d) (fun j hj => hj.2.1) b4 (Nat.le_max_right _ _)).up (fun _ h => h) bal (Nat.le_refl _)
        have hnt := HT4.out.up (fun j hj => hj.2) bal (Nat.le_refl _)
        have hB9 := hBw.below bal hBw.lt
        have hbw9 : Below w.heap.size w (w4.alloc (.cells #[.int .i64 k4, .slice A4 n4 r4, .slice (some ⟨bb, oo, none⟩) 1 r5] 26)) := by
          have h1 := hb2.trans (hbr.mono hb2.size)
          have h2 := h1.trans (b4.mono h1.size)
          exact h2.trans (bal.mono h2.size)
        obtain ⟨W9, hW9⟩ : ∃ W9, W9 = w4.alloc (.cells #[.int .i64 k4, .slice A4 n4 r4, .slice (some ⟨bb, oo, none⟩) 1 r5] 26) := ⟨_, rfl⟩
        rw [← hW9] at bal BM hkt hwt hnt hB9 hbw9
        have F0 : W9.cell? ⟨w4.heap.size, 0, none⟩ = some (.int .i64 k4) := BM.cell 0
        have l0 : w4.heap.size < W9.heap.size := BM.lt
        have F1 : W9.cell? ⟨w4.heap.size, 1, none⟩ = some (.slice A4 n4 r4) := BM.cell 1
        have l1 : w4.heap.size < W9.heap.size := BM.lt
        have F2 : W9.cell? ⟨w4.heap.size, 2, none⟩ = some (.slice (some ⟨bb, oo, none⟩) 1 r5) := BM.cell 2
        have l2 : w4.heap.size < W9.heap.size := BM.lt
        have F3 : W9.cell? ⟨bb, oo, none⟩ = some (.int .i64 k6) := by rw [bal.cell (p := ⟨bb, oo, none⟩) hXb]; exact y0
        have l3 : bb < W9.heap.size := Nat.lt_of_lt_of_le hXb bal.size
        have F4 : W9.cell? ⟨bb, oo + 1, none⟩ = some (.slice C1 m3 g3) := by rw [bal.cell (p := ⟨bb, oo + 1, none⟩) hXb]; exact y1
        have l4 : bb < W9.heap.size := Nat.lt_of_lt_of_le hXb bal.size
        have F5 : W9.cell? ⟨bb, oo + 2, none⟩ = some (.slice C2 m4 g4) := by rw [bal.cell (p := ⟨bb, oo + 2, none⟩) hXb]; exact y2
        have l5 : bb < W9.heap.size := Nat.lt_of_lt_of_le hXb bal.size
        have F6 : W9.cell? ⟨w2.heap.size + 1, 0, none⟩ = some (.int .i64 kk) := hB9.cell 0
        have l6 : w2.heap.size + 1 < W9.heap.size := hB9.lt
        have F7 : W9.cell? ⟨w2.heap.size + 1, 1, none⟩ = some (.slice A1 m1 g1) := hB9.cell 1
        have l7 : w2.heap.size + 1 < W9.heap.size := hB9.lt
        have F8 : W9.cell? ⟨w2.heap.size + 1, 2, none⟩ = some (.slice A2 m2 g2) := hB9.cell 2
        have l8 : w2.heap.size + 1 < W9.heap.size := hB9.lt
        have X1 := Lib.hid (TreeAt.keep (w := W9) (w' := W9.drew) (fun _ _ => rfl) hkt)
        have X2 := Lib.hid (TreeAt.keep (w := W9) (w' := W9.drew) (fun _ _ => rfl) hwt)
        have X3 := Lib.hid (TreeAt.keep (w := W9) (w' := W9.drew) (fun _ _ => rfl) hnt)
        have HW9 := Lib.hid hbw9
        have mixed : Try.prog.follows .mixedOrders = true := by kernel_rfl
        clear hkt hwt hnt hbw9 ht4 htk y0 y1 y2 hBw hB9 BM bal HT4
        go_wp2_with fail
        rw [← hW9]
        clear hW9
        refine wp_region_held_drew (S := fun W => W.cell? ⟨w4.heap.size, 0, none⟩ = some (.int .i64 k4) ∧ W.cell? ⟨w4.heap.size, 1, none⟩ = some (.slice A4 n4 r4) ∧ W.cell? ⟨w4.heap.size, 2, none⟩ = some (.slice (some ⟨bb, oo, none⟩) 1 r5) ∧ W.cell? ⟨bb, oo, none⟩ = some (.int .i64 k6) ∧ W.cell? ⟨bb, oo + 1, none⟩ = some (.slice C1 m3 g3) ∧ W.cell? ⟨bb, oo + 2, none⟩ = some (.slice C2 m4 g4) ∧ W.cell? ⟨w2.heap.size + 1, 0, none⟩ = some (.int .i64 kk) ∧ W.cell? ⟨w2.heap.size + 1, 1, none⟩ = some (.slice A1 m1 g1) ∧ W.cell? ⟨w2.heap.size + 1, 2, none⟩ = some (.slice A2 m2 g2)) mixed ⟨F0, F1, F2, F3, F4, F5, F6, F7, F8⟩ (fun hS => ?_)
        refine wpAnyH_ready (rs := [0]) (by kernel_rfl) (by simp) ?_
        refine AllReadyH.cons rfl (fun K hK => ?_) AllReadyH.nil
        go_simp
        refine hK.out _ _ hS (fun hS => ?_)
        clear hK K
        refine wpAnyH_ready (rs := [1]) (by kernel_rfl) (by simp) ?_
        refine AllReadyH.cons rfl (fun K hK => ?_) AllReadyH.nil
        go_simp
        refine hK.out _ _ hS (fun hS => ?_)
        clear hK K
        refine wpAnyH_ready (rs := [2]) (by kernel_rfl) (by simp) ?_
        refine AllReadyH.cons rfl (fun K hK => ?_) AllReadyH.nil
        go_simp
        refine hK.out _ _ hS (fun hS => ?_)
        clear hK K
        refine wpAnyH_ready (rs := [3]) (by kernel_rfl) (by simp) ?_
        refine AllReadyH.cons rfl (fun K hK => ?_) AllReadyH.nil
        go_simp
        refine hK.out _ _ hS (fun hS => ?_)
        clear hK K
        refine wpAnyH_ready (rs := [4]) (by kernel_rfl) (by simp) ?_
        refine AllReadyH.cons rfl (fun K hK => ?_) AllReadyH.nil
        go_simp
        refine hK.out _ _ hS (fun hS => ?_)
        clear hK K
        refine wpAnyH_ready (rs := [5]) (by kernel_rfl) (by simp) ?_
        refine AllReadyH.cons rfl (fun K hK => ?_) AllReadyH.nil
        go_simp
        refine hK.out _ _ hS (fun hS => ?_)
        clear hK K
        refine wpAnyH_ready (rs := [6]) (by kernel_rfl) (by simp) ?_
        refine AllReadyH.cons rfl (fun K hK => ?_) AllReadyH.nil
        go_simp
        refine hK.out _ _ hS (fun hS => ?_)
        clear hK K
        refine wpAnyH_ready (rs := [7]) (by kernel_rfl) (by simp) ?_
        refine AllReadyH.cons rfl (fun K hK => ?_) AllReadyH.nil
        go_simp
        refine hK.out _ _ hS (fun hS => ?_)
        clear hK K
        refine wpAnyH_ready (rs := [8]) (by kernel_rfl) (by simp) ?_
        refine AllReadyH.cons rfl (fun K hK => ?_) AllReadyH.nil
        go_simp
        refine hK.out _ _ hS (fun hS => ?_)
        clear hK K
        refine wpAnyH_take (i := 9) (v := .pointer (some ⟨w4.heap.size, 2, none⟩)) rfl (by kernel_rfl) (by kernel_rfl) (by kernel_rfl) (fun _ _ _ h => h) (Or.inl ⟨by rfl, fun W hW => by go_simp⟩) hS ?_
        refine wpAnyH_take (i := 10) (v := .slice (some ⟨bb, oo, none⟩) 1 r5) rfl (by kernel_rfl) (by kernel_rfl) (by kernel_rfl) (fun _ _ _ h => h) (Or.inl ⟨by rfl, fun W hW => by have h2 := hW.2.2.1; go_simp⟩) hS ?_
        refine wpAnyH_take (i := 11) (v := .pointer (some ⟨bb, oo, none⟩)) rfl (by kernel_rfl) (by kernel_rfl) (by kernel_rfl) (fun _ _ _ h => h) (Or.inl ⟨by rfl, fun W hW => by go_simp⟩) hS ?_
        refine wpAnyH_take (i := 12) (v := .agg #[.int .i64 k6, .slice C1 m3 g3, .slice C2 m4 g4]) rfl (by kernel_rfl) (by kernel_rfl) (by kernel_rfl) (fun _ _ _ h => h) (Or.inl ⟨by rfl, fun W hW => by have h3 := hW.2.2.2.1; have h4 := hW.2.2.2.2.1; have h5 := hW.2.2.2.2.2.1; go_simp⟩) hS ?_
        refine wpAnyH_take (i := 13) (v := .agg #[.int .i64 kk, .slice A1 m1 g1, .slice A2 m2 g2]) rfl (by kernel_rfl) (by kernel_rfl) (by kernel_rfl) (fun _ _ _ h => h) (Or.inl ⟨by rfl, fun W hW => by have h6 := hW.2.2.2.2.2.2.1; have h7 := hW.2.2.2.2.2.2.2.1; have h8 := hW.2.2.2.2.2.2.2.2; go_simp⟩) hS ?_
        refine wpAnyH_ready (rs := [14]) (by kernel_rfl) (by simp) ?_
        refine AllReadyH.cons rfl (fun K hK => ?_) AllReadyH.nil
        go_simp
        go_wp2_with fail
        refine (same_yes _ _ _ _ _ _ _ _ _ X1.out X2.out).mono ?_
        rintro e w8 ⟨rfl, hb8⟩
        have a0 := (hb8.cell (p := ⟨w4.heap.size, 0, none⟩) l0).trans F0
        have a1 := (hb8.cell (p := ⟨w4.heap.size, 1, none⟩) l1).trans F1
        have a2 := (hb8.cell (p := ⟨w4.heap.size, 2, none⟩) l2).trans F2
        have a3 := (hb8.cell (p := ⟨bb, oo, none⟩) l3).trans F3
        have a4 := (hb8.cell (p := ⟨bb, oo + 1, none⟩) l4).trans F4
        have a5 := (hb8.cell (p := ⟨bb, oo + 2, none⟩) l5).trans F5
        have a6 := (hb8.cell (p := ⟨w2.heap.size + 1, 0, none⟩) l6).trans F6
        have a7 := (hb8.cell (p := ⟨w2.heap.size + 1, 1, none⟩) l7).trans F7
        have a8 := (hb8.cell (p := ⟨w2.heap.size + 1, 2, none⟩) l8).trans F8
        refine hK.out _ _ ⟨a0, a1, a2, a3, a4, a5, a6, a7, a8⟩ (fun hS => ?_)
        clear hK K
        refine wpAnyH_ready (rs := [15]) (by kernel_rfl) (by simp) ?_
        refine AllReadyH.cons rfl (fun K hK => ?_) AllReadyH.nil
        go_simp
        refine hK.out _ _ hS (fun hS => ?_)
        clear hK K
        refine wpAnyH_ready (rs := [16]) (by kernel_rfl) (by simp) ?_
        refine AllReadyH.cons rfl (fun K hK => ?_) AllReadyH.nil
        go_simp
        refine hK.out _ _ hS (fun hS => ?_)
        clear hK K
        refine wpAnyH_take (i := 19) (v := .string ⟨(patL ((zs.map kOf).take j)).toArray⟩) rfl (by kernel_rfl) (by kernel_rfl) (by kernel_rfl) (fun _ _ _ h => h) (Or.inl ⟨by rfl, fun W hW => by go_simp⟩) hS ?_
        refine wpAnyH_ready (rs := [17]) (by kernel_rfl) (by simp) ?_
        refine AllReadyH.cons rfl (fun K hK => ?_) AllReadyH.nil
        go_simp
        refine hK.out _ _ hS (fun hS => ?_)
        clear hK K
        refine wpAnyH_ready (rs := [18]) (by kernel_rfl) (by simp) ?_
        refine AllReadyH.cons rfl (fun K hK => ?_) AllReadyH.nil
        go_simp
        go_wp2_with fail
        refine (text_any (.mk 2 [] [wantT ((zs.map kOf).take j)]) _ k4 A4 n4 r4 _ 1 r5 _ (X3.out.up (fun _ h => h) hb8 (Nat.le_refl _)) (by rw [HBD.out.1]; omega) (by rw [HBD.out.2]; omega)).mono ?_
        rw [HBD.out.1]
        rintro e w9 ⟨rfl, hb9⟩
        refine hK.out _ _ ⟨(hb9.cell (p := ⟨w4.heap.size, 0, none⟩) (Nat.lt_of_lt_of_le l0 hb8.size)).trans a0, (hb9.cell (p := ⟨w4.heap.size, 1, none⟩) (Nat.lt_of_lt_of_le l1 hb8.size)).trans a1, (hb9.cell (p := ⟨w4.heap.size, 2, none⟩) (Nat.lt_of_lt_of_le l2 hb8.size)).trans a2, (hb9.cell (p := ⟨bb, oo, none⟩) (Nat.lt_of_lt_of_le l3 hb8.size)).trans a3, (hb9.cell (p := ⟨bb, oo + 1, none⟩) (Nat.lt_of_lt_of_le l4 hb8.size)).trans a4, (hb9.cell (p := ⟨bb, oo + 2, none⟩) (Nat.lt_of_lt_of_le l5 hb8.size)).trans a5, (hb9.cell (p := ⟨w2.heap.size + 1, 0, none⟩) (Nat.lt_of_lt_of_le l6 hb8.size)).trans a6, (hb9.cell (p := ⟨w2.heap.size + 1, 1, none⟩) (Nat.lt_of_lt_of_le l7 hb8.size)).trans a7, (hb9.cell (p := ⟨w2.heap.size + 1, 2, none⟩) (Nat.lt_of_lt_of_le l8 hb8.size)).trans a8⟩ (fun hS => ?_)
        clear hK K
        refine wpAnyH_ready (rs := [20]) (by kernel_rfl) (by simp) ?_
        refine AllReadyH.cons rfl (fun K hK => ?_) AllReadyH.nil
        go_simp
        refine hK.out _ _ hS (fun hS => ?_)
        clear hK K
        refine wpAnyH_ready (rs := [21]) (by kernel_rfl) (by simp) ?_
        refine AllReadyH.cons rfl (fun K hK => ?_) AllReadyH.nil
        go_simp
        refine hK.out _ _ hS (fun hS => ?_)
        clear hK K
        refine wpAnyH_ready (rs := [22]) (by kernel_rfl) (by simp) ?_
        refine AllReadyH.cons rfl (fun K hK => ?_) AllReadyH.nil
        go_simp
        refine hK.out _ _ hS (fun hS => ?_)
        clear hK K
        refine wpAnyH_done (by kernel_rfl) ?_ _
        go_wp2
        go_ret
        refine ⟨rfl, ?_⟩
        have h8 : Below W9.heap.size W9 w8 := ⟨hb8.os, hb8.tape, hb8.output, hb8.size, hb8.block⟩
        have h1 := HW9.out.trans (h8.mono HW9.out.size)
        exact h1.trans (hb9.mono h1.size)
      · have e1 : ¬ (j : Int) < (n : Int) := by omega
        go_wp2_with fail
        refine (HPS.out _).mono ?_
        rintro e w4 ⟨d4, k4, A4, n4, r4, A5, n5, r5, rfl, ht4, b4⟩
        have HT4 := Lib.hid ht4
        obtain ⟨rfl, d4', bb, oo, k6, C1, m3, g3, C2, m4, g4, rfl, rfl, hX4, y0, y1, y2, htk⟩ := one_kid ht4
        have hXb : bb < w4.heap.size := hX4.2
        have hBw := hblk.below b4 hlk
        have bal : Below w4.heap.size w4 (w4.alloc (.cells #[.int .i64 k4, .slice A4 n4 r4, .slice (some ⟨bb, oo, none⟩) 1 r5] 26)) := (Below.refl _ _).alloc (Nat.le_refl _) _
        have BM := Blk.new w4 26 #[.int .i64 k4, .slice A4 n4 r4, .slice (some ⟨bb, oo, none⟩) 1 r5]
        have hkt := htk.up (d' := max d4' d) (fun j hj => hj.2) bal (Nat.le_max_left _ _)
        have hwt := (HTR.out.up (d' := max d4' d) (fun j hj => hj.2.1) b4 (Nat.le_max_right _ _)).up (fun _ h => h) bal (Nat.le_refl _)
        have hnt := HT4.out.up (fun j hj => hj.2) bal (Nat.le_refl _)
        have hB9 := hBw.below bal hBw.lt
        have hbw9 : Below w.heap.size w (w4.alloc (.cells #[.int .i64 k4, .slice A4 n4 r4, .slice (some ⟨bb, oo, none⟩) 1 r5] 26)) := by
          have h1 := hb2.trans (hbr.mono hb2.size)
          have h2 := h1.trans (b4.mono h1.size)
          exact h2.trans (bal.mono h2.size)
        obtain ⟨W9, hW9⟩ : ∃ W9, W9 = w4.alloc (.cells #[.int .i64 k4, .slice A4 n4 r4, .slice (some ⟨bb, oo, none⟩) 1 r5] 26) := ⟨_, rfl⟩
        rw [← hW9] at bal BM hkt hwt hnt hB9 hbw9
        have F0 : W9.cell? ⟨w4.heap.size, 0, none⟩ = some (.int .i64 k4) := BM.cell 0
        have l0 : w4.heap.size < W9.heap.size := BM.lt
        have F1 : W9.cell? ⟨w4.heap.size, 1, none⟩ = some (.slice A4 n4 r4) := BM.cell 1
        have l1 : w4.heap.size < W9.heap.size := BM.lt
        have F2 : W9.cell? ⟨w4.heap.size, 2, none⟩ = some (.slice (some ⟨bb, oo, none⟩) 1 r5) := BM.cell 2
        have l2 : w4.heap.size < W9.heap.size := BM.lt
        have F3 : W9.cell? ⟨bb, oo, none⟩ = some (.int .i64 k6) := by rw [bal.cell (p := ⟨bb, oo, none⟩) hXb]; exact y0
        have l3 : bb < W9.heap.size := Nat.lt_of_lt_of_le hXb bal.size
        have F4 : W9.cell? ⟨bb, oo + 1, none⟩ = some (.slice C1 m3 g3) := by rw [bal.cell (p := ⟨bb, oo + 1, none⟩) hXb]; exact y1
        have l4 : bb < W9.heap.size := Nat.lt_of_lt_of_le hXb bal.size
        have F5 : W9.cell? ⟨bb, oo + 2, none⟩ = some (.slice C2 m4 g4) := by rw [bal.cell (p := ⟨bb, oo + 2, none⟩) hXb]; exact y2
        have l5 : bb < W9.heap.size := Nat.lt_of_lt_of_le hXb bal.size
        have F6 : W9.cell? ⟨w2.heap.size + 1, 0, none⟩ = some (.int .i64 kk) := hB9.cell 0
        have l6 : w2.heap.size + 1 < W9.heap.size := hB9.lt
        have F7 : W9.cell? ⟨w2.heap.size + 1, 1, none⟩ = some (.slice A1 m1 g1) := hB9.cell 1
        have l7 : w2.heap.size + 1 < W9.heap.size := hB9.lt
        have F8 : W9.cell? ⟨w2.heap.size + 1, 2, none⟩ = some (.slice A2 m2 g2) := hB9.cell 2
        have l8 : w2.heap.size + 1 < W9.heap.size := hB9.lt
        have X1 := Lib.hid (TreeAt.keep (w := W9) (w' := W9.drew) (fun _ _ => rfl) hkt)
        have X2 := Lib.hid (TreeAt.keep (w := W9) (w' := W9.drew) (fun _ _ => rfl) hwt)
        have X3 := Lib.hid (TreeAt.keep (w := W9) (w' := W9.drew) (fun _ _ => rfl) hnt)
        have HW9 := Lib.hid hbw9
        have mixed : Try.prog.follows .mixedOrders = true := by kernel_rfl
        clear hkt hwt hnt hbw9 ht4 htk y0 y1 y2 hBw hB9 BM bal HT4
        go_wp2_with fail
        rw [← hW9]
        clear hW9
        refine wp_region_held_drew (S := fun W => W.cell? ⟨w4.heap.size, 0, none⟩ = some (.int .i64 k4) ∧ W.cell? ⟨w4.heap.size, 1, none⟩ = some (.slice A4 n4 r4) ∧ W.cell? ⟨w4.heap.size, 2, none⟩ = some (.slice (some ⟨bb, oo, none⟩) 1 r5) ∧ W.cell? ⟨bb, oo, none⟩ = some (.int .i64 k6) ∧ W.cell? ⟨bb, oo + 1, none⟩ = some (.slice C1 m3 g3) ∧ W.cell? ⟨bb, oo + 2, none⟩ = some (.slice C2 m4 g4) ∧ W.cell? ⟨w2.heap.size + 1, 0, none⟩ = some (.int .i64 kk) ∧ W.cell? ⟨w2.heap.size + 1, 1, none⟩ = some (.slice A1 m1 g1) ∧ W.cell? ⟨w2.heap.size + 1, 2, none⟩ = some (.slice A2 m2 g2)) mixed ⟨F0, F1, F2, F3, F4, F5, F6, F7, F8⟩ (fun hS => ?_)
        refine wpAnyH_ready (rs := [0]) (by kernel_rfl) (by simp) ?_
        refine AllReadyH.cons rfl (fun K hK => ?_) AllReadyH.nil
        go_simp
        refine hK.out _ _ hS (fun hS => ?_)
        clear hK K
        refine wpAnyH_ready (rs := [1]) (by kernel_rfl) (by simp) ?_
        refine AllReadyH.cons rfl (fun K hK => ?_) AllReadyH.nil
        go_simp
        refine hK.out _ _ hS (fun hS => ?_)
        clear hK K
        refine wpAnyH_ready (rs := [2]) (by kernel_rfl) (by simp) ?_
        refine AllReadyH.cons rfl (fun K hK => ?_) AllReadyH.nil
        go_simp
        refine hK.out _ _ hS (fun hS => ?_)
        clear hK K
        refine wpAnyH_ready (rs := [3]) (by kernel_rfl) (by simp) ?_
        refine AllReadyH.cons rfl (fun K hK => ?_) AllReadyH.nil
        go_simp
        refine hK.out _ _ hS (fun hS => ?_)
        clear hK K
        refine wpAnyH_ready (rs := [4]) (by kernel_rfl) (by simp) ?_
        refine AllReadyH.cons rfl (fun K hK => ?_) AllReadyH.nil
        go_simp
        refine hK.out _ _ hS (fun hS => ?_)
        clear hK K
        refine wpAnyH_ready (rs := [5]) (by kernel_rfl) (by simp) ?_
        refine AllReadyH.cons rfl (fun K hK => ?_) AllReadyH.nil
        go_simp
        refine hK.out _ _ hS (fun hS => ?_)
        clear hK K
        refine wpAnyH_ready (rs := [6]) (by kernel_rfl) (by simp) ?_
        refine AllReadyH.cons rfl (fun K hK => ?_) AllReadyH.nil
        go_simp
        refine hK.out _ _ hS (fun hS => ?_)
        clear hK K
        refine wpAnyH_ready (rs := [7]) (by kernel_rfl) (by simp) ?_
        refine AllReadyH.cons rfl (fun K hK => ?_) AllReadyH.nil
        go_simp
        refine hK.out _ _ hS (fun hS => ?_)
        clear hK K
        refine wpAnyH_ready (rs := [8]) (by kernel_rfl) (by simp) ?_
        refine AllReadyH.cons rfl (fun K hK => ?_) AllReadyH.nil
        go_simp
        refine hK.out _ _ hS (fun hS => ?_)
        clear hK K
        refine wpAnyH_take (i := 9) (v := .pointer (some ⟨w4.heap.size, 2, none⟩)) rfl (by kernel_rfl) (by kernel_rfl) (by kernel_rfl) (fun _ _ _ h => h) (Or.inl ⟨by rfl, fun W hW => by go_simp⟩) hS ?_
        refine wpAnyH_take (i := 10) (v := .slice (some ⟨bb, oo, none⟩) 1 r5) rfl (by kernel_rfl) (by kernel_rfl) (by kernel_rfl) (fun _ _ _ h => h) (Or.inl ⟨by rfl, fun W hW => by have h2 := hW.2.2.1; go_simp⟩) hS ?_
        refine wpAnyH_take (i := 11) (v := .pointer (some ⟨bb, oo, none⟩)) rfl (by kernel_rfl) (by kernel_rfl) (by kernel_rfl) (fun _ _ _ h => h) (Or.inl ⟨by rfl, fun W hW => by go_simp⟩) hS ?_
        refine wpAnyH_take (i := 12) (v := .agg #[.int .i64 k6, .slice C1 m3 g3, .slice C2 m4 g4]) rfl (by kernel_rfl) (by kernel_rfl) (by kernel_rfl) (fun _ _ _ h => h) (Or.inl ⟨by rfl, fun W hW => by have h3 := hW.2.2.2.1; have h4 := hW.2.2.2.2.1; have h5 := hW.2.2.2.2.2.1; go_simp⟩) hS ?_
        refine wpAnyH_take (i := 13) (v := .agg #[.int .i64 kk, .slice A1 m1 g1, .slice A2 m2 g2]) rfl (by kernel_rfl) (by kernel_rfl) (by kernel_rfl) (fun _ _ _ h => h) (Or.inl ⟨by rfl, fun W hW => by have h6 := hW.2.2.2.2.2.2.1; have h7 := hW.2.2.2.2.2.2.2.1; have h8 := hW.2.2.2.2.2.2.2.2; go_simp⟩) hS ?_
        refine wpAnyH_ready (rs := [14]) (by kernel_rfl) (by simp) ?_
        refine AllReadyH.cons rfl (fun K hK => ?_) AllReadyH.nil
        go_simp
        go_wp2_with fail
        refine (same_yes _ _ _ _ _ _ _ _ _ X1.out X2.out).mono ?_
        rintro e w8 ⟨rfl, hb8⟩
        have a0 := (hb8.cell (p := ⟨w4.heap.size, 0, none⟩) l0).trans F0
        have a1 := (hb8.cell (p := ⟨w4.heap.size, 1, none⟩) l1).trans F1
        have a2 := (hb8.cell (p := ⟨w4.heap.size, 2, none⟩) l2).trans F2
        have a3 := (hb8.cell (p := ⟨bb, oo, none⟩) l3).trans F3
        have a4 := (hb8.cell (p := ⟨bb, oo + 1, none⟩) l4).trans F4
        have a5 := (hb8.cell (p := ⟨bb, oo + 2, none⟩) l5).trans F5
        have a6 := (hb8.cell (p := ⟨w2.heap.size + 1, 0, none⟩) l6).trans F6
        have a7 := (hb8.cell (p := ⟨w2.heap.size + 1, 1, none⟩) l7).trans F7
        have a8 := (hb8.cell (p := ⟨w2.heap.size + 1, 2, none⟩) l8).trans F8
        refine hK.out _ _ ⟨a0, a1, a2, a3, a4, a5, a6, a7, a8⟩ (fun hS => ?_)
        clear hK K
        refine wpAnyH_ready (rs := [15]) (by kernel_rfl) (by simp) ?_
        refine AllReadyH.cons rfl (fun K hK => ?_) AllReadyH.nil
        go_simp
        refine hK.out _ _ hS (fun hS => ?_)
        clear hK K
        refine wpAnyH_ready (rs := [16]) (by kernel_rfl) (by simp) ?_
        refine AllReadyH.cons rfl (fun K hK => ?_) AllReadyH.nil
        go_simp
        refine hK.out _ _ hS (fun hS => ?_)
        clear hK K
        refine wpAnyH_take (i := 19) (v := .string ⟨(patL ((zs.map kOf).take j)).toArray⟩) rfl (by kernel_rfl) (by kernel_rfl) (by kernel_rfl) (fun _ _ _ h => h) (Or.inl ⟨by rfl, fun W hW => by go_simp⟩) hS ?_
        refine wpAnyH_ready (rs := [17]) (by kernel_rfl) (by simp) ?_
        refine AllReadyH.cons rfl (fun K hK => ?_) AllReadyH.nil
        go_simp
        refine hK.out _ _ hS (fun hS => ?_)
        clear hK K
        refine wpAnyH_ready (rs := [18]) (by kernel_rfl) (by simp) ?_
        refine AllReadyH.cons rfl (fun K hK => ?_) AllReadyH.nil
        go_simp
        go_wp2_with fail
        refine (text_any (.mk 2 [] [wantT ((zs.map kOf).take j)]) _ k4 A4 n4 r4 _ 1 r5 _ (X3.out.up (fun _ h => h) hb8 (Nat.le_refl _)) (by rw [HBD.out.1]; omega) (by rw [HBD.out.2]; omega)).mono ?_
        rw [HBD.out.1]
        rintro e w9 ⟨rfl, hb9⟩
        refine hK.out _ _ ⟨(hb9.cell (p := ⟨w4.heap.size, 0, none⟩) (Nat.lt_of_lt_of_le l0 hb8.size)).trans a0, (hb9.cell (p := ⟨w4.heap.size, 1, none⟩) (Nat.lt_of_lt_of_le l1 hb8.size)).trans a1, (hb9.cell (p := ⟨w4.heap.size, 2, none⟩) (Nat.lt_of_lt_of_le l2 hb8.size)).trans a2, (hb9.cell (p := ⟨bb, oo, none⟩) (Nat.lt_of_lt_of_le l3 hb8.size)).trans a3, (hb9.cell (p := ⟨bb, oo + 1, none⟩) (Nat.lt_of_lt_of_le l4 hb8.size)).trans a4, (hb9.cell (p := ⟨bb, oo + 2, none⟩) (Nat.lt_of_lt_of_le l5 hb8.size)).trans a5, (hb9.cell (p := ⟨w2.heap.size + 1, 0, none⟩) (Nat.lt_of_lt_of_le l6 hb8.size)).trans a6, (hb9.cell (p := ⟨w2.heap.size + 1, 1, none⟩) (Nat.lt_of_lt_of_le l7 hb8.size)).trans a7, (hb9.cell (p := ⟨w2.heap.size + 1, 2, none⟩) (Nat.lt_of_lt_of_le l8 hb8.size)).trans a8⟩ (fun hS => ?_)
        clear hK K
        refine wpAnyH_ready (rs := [20]) (by kernel_rfl) (by simp) ?_
        refine AllReadyH.cons rfl (fun K hK => ?_) AllReadyH.nil
        go_simp
        refine hK.out _ _ hS (fun hS => ?_)
        clear hK K
        refine wpAnyH_ready (rs := [21]) (by kernel_rfl) (by simp) ?_
        refine AllReadyH.cons rfl (fun K hK => ?_) AllReadyH.nil
        go_simp
        refine hK.out _ _ hS (fun hS => ?_)
        clear hK K
        refine wpAnyH_ready (rs := [22]) (by kernel_rfl) (by simp) ?_
        refine AllReadyH.cons rfl (fun K hK => ?_) AllReadyH.nil
        go_simp
        refine hK.out _ _ hS (fun hS => ?_)
        clear hK K
        refine wpAnyH_done (by kernel_rfl) ?_ _
        go_wp2
        go_ret
        refine ⟨rfl, ?_⟩
        have h8 : Below W9.heap.size W9 w8 := ⟨hb8.os, hb8.tape, hb8.output, hb8.size, hb8.block⟩
        have h1 := HW9.out.trans (h8.mono HW9.out.size)
        exact h1.trans (hb9.mono h1.size)
end Go.Proofs.Ytjnhmcgjeljcmaa
