/- The document's example of the disk (alive). -/
import Derived.Test.YteokiaeojgjpdaaVo
namespace Go.Proofs.Yteokiaeojgjpdaa
open Go.RowKit Go.Maps Go.Sort

theorem and_le (a b : Int) (n : Nat) (hb : b = (n : Int)) (hn : n < 4611686018427387904) : 0 ≤ bits BinOp.and IntKind.i64 a b ∧ bits BinOp.and IntKind.i64 a b ≤ n := by
  have hbn : (BitVec.ofInt 64 b).toNat = n := by
    rw [hb, BitVec.toNat_ofInt]; omega
  have h : (BitVec.ofInt 64 a &&& BitVec.ofInt 64 b).toNat ≤ n := by
    rw [BitVec.toNat_and]
    exact Nat.le_trans Nat.and_le_right (Nat.le_of_eq hbn)
  show 0 ≤ IntKind.i64.wrap ((BitVec.ofInt 64 a &&& BitVec.ofInt 64 b).toNat : Int) ∧ IntKind.i64.wrap ((BitVec.ofInt 64 a &&& BitVec.ofInt 64 b).toNat : Int) ≤ n
  rw [IntWalk.i64_in _ (by omega)]; omega
def al (b : List UInt8) (sf fr : Nat) : Sta := ⟨[([97], b, sf)], fr, 0, false⟩
theorem al_ok {b : List UInt8} {sf fr : Nat} (hb : b.length ≤ 100) (hf : fr ≤ 100) : Ok (al b sf fr) := by
  have e : tot (al b sf fr).V = b.length := by simp [al, tot]
  refine ⟨by simp [al], by rw [e]; omega, ?_, by simp [al], fun t ht => ?_⟩
  · rw [e]; show fr + b.length ≤ _; omega
  · obtain rfl : t = ([97], b, sf) := by simpa [al] using ht
    show 1 ≤ 40; decide
theorem al_new : createS [97] ⟨[], 5, 0, false⟩ = (0, al [] 0 5) := by kernel_rfl
theorem al_1 : appendS [97] [97, 98, 99] (al [] 0 5) = (0, al [97, 98, 99] 0 2) := by kernel_rfl
theorem al_2 : syncS [97] (al [97, 98, 99] 0 2) = (0, al [97, 98, 99] 3 2) := by kernel_rfl
theorem al_3 : appendS [97] [100, 101, 102] (al [97, 98, 99] 3 2) = (71, al [97, 98, 99] 3 2) := by kernel_rfl
theorem al_4 : appendS [97] [100, 101] (al [97, 98, 99] 3 2) = (0, al [97, 98, 99, 100, 101] 3 0) := by kernel_rfl
theorem al_5 : crashS [1] (al [97, 98, 99, 100, 101] 3 0) = al [97, 98, 99, 100] 4 1 := by kernel_rfl
theorem al_6 : readS [97] (al [97, 98, 99, 100] 4 1) = (0, [97, 98, 99, 100]) := by kernel_rfl
theorem ints_new (w : World) (z : Int) : IntsAt (w.alloc (.cells #[.int .i64 z] 3)) (some ⟨w.heap.size, 0, none⟩) 1 [z] :=
  ⟨rfl, fun _ => ⟨w.heap.size, 0, rfl, by simp, fun i c hi => by
    match i with
    | 0 =>
      obtain rfl : z = c := by simpa using hi
      exact Blk.cell (Blk.new w 3 #[.int .i64 z]) 0
    | i + 1 => simp at hi⟩⟩
theorem str_a : (⟨#[97]⟩ : ByteArray).data.toList = [97] := rfl
set_option maxHeartbeats 2000000 in
set_option maxRecDepth 100000 in
theorem alive_any (w : World) : Calls Try.prog 23 #[] w fun e w' => e = .returned (.bool true) ∧ Below w.heap.size w w' := by
  have hcv := conv_const
  go_enter Try.func23, Try.ntmps23
  go_wp2_with fail
  refine (new_disk 5 _).mono ?_
  rintro e w1 ⟨dp, X1, rfl, h1⟩
  rw [show posP 5 = 5 from rfl] at h1
  have C1 := Lib.hid (h1.disk.create ⟨by decide, by decide, by decide, by decide, by simp⟩ ⟨#[97]⟩ (by decide))
  rw [str_a, al_new] at C1
  go_wp2_with fail
  refine C1.out.mono ?_
  rintro e w2 ⟨rfl, ha⟩
  obtain ⟨X2, h2, _, _⟩ := h1.after ha
  clear ha C1 h1
  have h2' := h2.alloc (.cells #[.int .u8 97, .int .u8 98, .int .u8 99] 5 (3, 4))
  have hd2 := h2.at_
  have C2 := Lib.hid (h2'.disk.append (c := 3) (al_ok (by decide) (by decide)) ⟨#[97]⟩ (by decide) (bytes_new w2 [97, 98, 99] (3, 4)) (fun _ b o e => by injection e with e; injection e with e _ _; omega) (by decide))
  rw [str_a, al_1] at C2
  go_wp2_with fail
  refine C2.out.mono ?_
  rintro e w3 ⟨rfl, ha⟩
  obtain ⟨X3, h3, _, _⟩ := h2'.after ha
  clear ha C2 h2 h2' hd2
  have C3 := Lib.hid (h3.disk.sync (al_ok (by decide) (by decide)) ⟨#[97]⟩ (by decide))
  rw [str_a, al_2] at C3
  go_wp2_with fail
  refine C3.out.mono ?_
  rintro e w4 ⟨rfl, ha⟩
  obtain ⟨X4, h4, _, _⟩ := h3.after ha
  clear ha C3 h3
  have h4' := h4.alloc (.cells #[.int .u8 100, .int .u8 101, .int .u8 102] 5 (3, 4))
  have hd4 := h4.at_
  have C4 := Lib.hid (h4'.disk.append (c := 3) (al_ok (by decide) (by decide)) ⟨#[97]⟩ (by decide) (bytes_new w4 [100, 101, 102] (3, 4)) (fun _ b o e => by injection e with e; injection e with e _ _; omega) (by decide))
  rw [str_a, al_3] at C4
  go_wp2_with fail
  refine C4.out.mono ?_
  rintro e w5 ⟨rfl, ha⟩
  obtain ⟨X5, h5, _, _⟩ := h4'.after ha
  clear ha C4 h4 h4' hd4
  have h5' := h5.alloc (.cells #[.int .u8 100, .int .u8 101] 5 (2, 3))
  have hd5 := h5.at_
  have C5 := Lib.hid (h5'.disk.append (c := 2) (al_ok (by decide) (by decide)) ⟨#[97]⟩ (by decide) (bytes_new w5 [100, 101] (2, 3)) (fun _ b o e => by injection e with e; injection e with e _ _; omega) (by decide))
  rw [str_a, al_4] at C5
  go_wp2_with fail
  refine C5.out.mono ?_
  rintro e w6 ⟨rfl, ha⟩
  obtain ⟨X6, h6, _, _⟩ := h5'.after ha
  clear ha C5 h5 h5' hd5
  have h6' := h6.alloc (.cells #[.int .i64 1] 3)
  have C6 := Lib.hid (h6'.disk.crash (al_ok (by decide) (by decide)) _ 1 1 [1] (ints_new w6 1) (by decide) (fun _ b o e hx => by injection e with e; injection e with e _ _; have := h6.disk.lt hx; omega))
  rw [al_5] at C6
  go_wp2_with fail
  refine C6.out.mono ?_
  rintro e w7 ⟨rfl, ha⟩
  obtain ⟨X7, h7, _, _⟩ := h6'.after ha
  clear ha C6 h6 h6'
  have C7 := Lib.hid (h7.disk.read (al_ok (by decide) (by decide)) ⟨#[97]⟩ (by decide))
  rw [str_a, al_6] at C7
  go_wp2_with fail
  refine C7.out.mono ?_
  rintro e w8 ⟨v, rfl, hrow, hb8⟩
  have h8 := h7.below hb8
  obtain ⟨A, c, rfl, hby, _⟩ := row_bytes hrow
  have hst : (convert 44 9 (.slice A 4 c)).run Try.prog w8 = .ok (.string ⟨#[97, 98, 99, 100]⟩) w8 := conv_str hby c
  have C8 := Lib.hid h8.disk.room
  have HB := Lib.hid h8.old
  clear C7 h7 hb8 hrow hby h8
  simp only [List.length_cons, List.length_nil, Nat.zero_add, Nat.reduceAdd]
  go_wp2_with fail
  refine C8.out.mono ?_
  rintro e w9 ⟨rfl, rfl⟩
  go_wp2
  go_ret
  exact ⟨rfl, HB.out⟩
end Go.Proofs.Yteokiaeojgjpdaa
