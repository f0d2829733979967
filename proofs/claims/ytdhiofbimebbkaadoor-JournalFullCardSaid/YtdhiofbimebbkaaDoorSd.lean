/- pack.word, pack.putWord; the document's four: le4, wordL. -/
import Derived.Test.YtdhiofbimebbkaaDoorSa
namespace Go.Proofs.YtdhiofbimebbkaaDoor
open Go.RowKit

set_option maxHeartbeats 1000000 in
set_option maxRecDepth 100000 in
theorem word_any {w : World} {A : Option Addr} {m c : Nat} {bs : List UInt8} (hb : BytesAt w A m bs) (hm : m ≤ maxLen) (h4 : 4 ≤ m) :
    Calls Tryd.prog 53 #[.slice A m c] w fun e w' => e = .returned (.int .u32 (wordL bs : Nat)) ∧ ∃ q, w' = w.drewN q := by
  unfold maxLen at hm
  obtain ⟨b, o, rfl, hbw, hcells⟩ := hb.2 (by omega)
  have hl := hb.1
  obtain ⟨z0, z1, z2, z3, r, rfl⟩ : ∃ z0 z1 z2 z3 r, bs = z0 :: z1 :: z2 :: z3 :: r := by
    match bs, hl with
    | a :: b :: c :: d :: r, _ => exact ⟨a, b, c, d, r, rfl⟩
    | [], h => simp at h; omega
    | [_], h => simp at h; omega
    | [_, _], h => simp at h; omega
    | [_, _, _], h => simp at h; omega
  have y0 : w.cell? ⟨b, o, none⟩ = some (.int .u8 (z0.toNat : Nat)) := hcells 0 z0 rfl
  have y1 : w.cell? ⟨b, o + 1, none⟩ = some (.int .u8 (z1.toNat : Nat)) := hcells 1 z1 rfl
  have y2 : w.cell? ⟨b, o + 2, none⟩ = some (.int .u8 (z2.toNat : Nat)) := hcells 2 z2 rfl
  have y3 : w.cell? ⟨b, o + 3, none⟩ = some (.int .u8 (z3.toNat : Nat)) := hcells 3 z3 rfl
  have b0 := UInt8.toNat_lt z0
  have b1 := UInt8.toNat_lt z1
  have b2 := UInt8.toNat_lt z2
  have b3 := UInt8.toNat_lt z3
  show Calls _ _ _ _ (fun e w' => e = .returned (.int .u32 ((z0.toNat + 256 * z1.toNat + 65536 * z2.toNat + 16777216 * z3.toNat : Nat) : Int)) ∧ ∃ q, w' = w.drewN q)
  generalize z0.toNat = n0 at *
  generalize z1.toNat = n1 at *
  generalize z2.toNat = n2 at *
  generalize z3.toNat = n3 at *
  have i0 : (0 : Int) < m := by omega
  have i1 : (1 : Int) < m := by omega
  have i2 : (2 : Int) < m := by omega
  have i3 : (3 : Int) < m := by omega
  clear hcells hb
  have e1 : bits BinOp.or IntKind.u32 (n0 : Int) ((n1 : Int) * 256) = ((n0 + 256 * n1 : Nat) : Int) := by
    rw [u32_or8 _ _ (by omega) (by omega) (by omega) (by omega) (by omega)]; omega
  have e2 : bits BinOp.or IntKind.u32 ((n0 + 256 * n1 : Nat) : Int) ((n2 : Int) * 65536) = ((n0 + 256 * n1 + 65536 * n2 : Nat) : Int) := by
    rw [u32_or16 _ _ (by omega) (by omega) (by omega) (by omega) (by omega)]; omega
  have e3 : bits BinOp.or IntKind.u32 ((n0 + 256 * n1 + 65536 * n2 : Nat) : Int) ((n3 : Int) * 16777216) = ((n0 + 256 * n1 + 65536 * n2 + 16777216 * n3 : Nat) : Int) := by
    rw [u32_or24 _ _ (by omega) (by omega) (by omega) (by omega) (by omega)]; omega
  have E3 := Lib.hid (show bits BinOp.or IntKind.u32 (bits BinOp.or IntKind.u32 (bits BinOp.or IntKind.u32 (n0 : Int) ((n1 : Int) * 256)) ((n2 : Int) * 65536)) ((n3 : Int) * 16777216) = _ by rw [e1, e2, e3])
  clear e1 e2 e3
  go_enter Tryd.func53, Tryd.ntmps53
  go_wp2_with fail
  go_quiet (fail)
  go_wp2
  go_ret
  refine ⟨?_, _, rfl⟩
  rw [← E3.out]
  rfl
/-- The four bytes of a number, the lowest first. -/
theorem le4_eq (n : Nat) : le4 n = [UInt8.ofNat n, UInt8.ofNat (n / 256), UInt8.ofNat (n / 65536), UInt8.ofNat (n / 16777216)] := by
  unfold le4
  have e : ∀ m : Nat, UInt8.ofNat (m % 256) = UInt8.ofNat m := fun m => by
    apply UInt8.toNat_inj.1; simp
  rw [e, e, e, e]
theorem u8w (n : Nat) : IntKind.u8.wrap (n : Int) = ((UInt8.ofNat n).toNat : Int) := by
  simp [IntKind.wrap, IntKind.bits, IntKind.signed]
/-- append of bytes that lie in memory to a row of the call's own. -/
theorem put_bytes {W : World} {v : Value} {xs bs : List UInt8} {B m c : Nat} {A : Option Addr} (ty : TypeId) (ho : W.ownsRow B 5 1 v xs.length (xs.map u8V)) (hB : B ≤ W.heap.size) (hs : BytesAt W A m bs) (hl : xs.length + m ≤ 1000000000) :
    ∃ A' c' W', (Builtin.append_ #[30, 30] ty #[v, .slice A m c]).run Tryd.prog W = .ok (.slice A' (xs.length + m) c') W' ∧ W'.ownsRow B 5 1 (.slice A' (xs.length + m) c') (xs ++ bs).length ((xs ++ bs).map u8V) ∧ Below B W W' := by
  have h0 := row_base ho (Nat.zero_le B)
  obtain ⟨A', c', W', h1, h2, h3, h4⟩ := append_bytes (c := c) ty h0 hs hl
  have hlt : ∀ r, v.ownBlock = some r → B ≤ r := fun r hr => (ho.lt r hr).1
  have hb2 : ∀ r, (Value.slice A' (xs.length + m) c').ownBlock = some r → B ≤ r := fun r hr => by
    rcases h4 with h4 | h4
    · rw [h4] at hr; exact hlt r hr
    · rw [h4] at hr; injection hr with hr; rw [← hr]; exact hB
  exact ⟨A', c', W', h1, row_at h2 hb2, (Below.refl B W).grown h3 hB hlt⟩
theorem le4_cells (n : Nat) (hn : n < 4294967296) : ((le4 n).map u8V).toArray = #[.int .u8 ((n : Int) % 256), .int .u8 ((n : Int) / 256 % 256), .int .u8 ((n : Int) / 65536 % 256), .int .u8 ((n : Int) / 16777216)] := by
  have e : ∀ m : Nat, (UInt8.ofNat (m % 256)).toNat = m % 256 := fun m => by have := Nat.mod_lt m (show 0 < 256 by decide); simp
  unfold le4 u8V
  simp only [List.map_cons, List.map_nil]
  rw [e, e, e, e, Nat.mod_eq_of_lt (show n / 16777216 < 256 by omega)]
  rw [Int.natCast_emod, Int.natCast_emod, Int.natCast_ediv, Int.natCast_emod, Int.natCast_ediv, Int.natCast_ediv]
  rfl
set_option maxHeartbeats 1000000 in
set_option maxRecDepth 100000 in
theorem putWord_any {w : World} {B n : Nat} {v : Value} {xs : List UInt8} (hown : w.ownsRow B 5 1 v xs.length (xs.map u8V)) (hB : B ≤ w.heap.size) (hl : xs.length ≤ 900000000) (hn : n < 4294967296) :
    Calls Tryd.prog 46 #[v, .int .u32 (n : Nat)] w fun e w' => ∃ v, e = .returned v ∧ w'.ownsRow B 5 1 v (xs ++ le4 n).length ((xs ++ le4 n).map u8V) ∧ Below B w w' := by
  have hb := bytes_new w (le4 n) (0, 0)
  have hal : Below B w (w.alloc (.cells ((le4 n).map u8V).toArray 5)) := (Below.refl _ w).alloc hB _
  obtain ⟨A', c', W', h1, h2, h3⟩ := put_bytes (c := 4) 30 (hown.alloc (.cells ((le4 n).map u8V).toArray 5)) (Nat.le_trans hB hal.size) hb (by show xs.length + 4 ≤ _; omega)
  rw [le4_cells n hn] at h1 hal
  have HRUN := Lib.hid h1
  have HO := Lib.hid h2
  have HB := Lib.hid (hal.trans (by rw [le4_cells n hn] at h3; exact h3))
  obtain ⟨A0, c0, rfl, _, _⟩ := row_bytes hown
  clear hb hal h1 h2 h3 hown
  go_enter Tryd.func46, Tryd.ntmps46
  go_wp2_with (at_builtin; refine wpList_append_run rfl (.tmp 5) (.tmp 17) 30 rfl _ _ _ rfl rfl HRUN.out ?_)
  go_ret
  exact ⟨_, rfl, HO.out, HB.out⟩
end Go.Proofs.YtdhiofbimebbkaaDoor
