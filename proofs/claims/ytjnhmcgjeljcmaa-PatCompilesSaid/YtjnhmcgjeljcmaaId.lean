/- The document's parser of regular expressions: an atom. -/
import Derived.Test.YtjnhmcgjeljcmaaIc
namespace Go.Proofs.Ytjnhmcgjeljcmaa
open Go.RowKit

set_option maxHeartbeats 8000000 in
set_option maxRecDepth 100000 in
theorem yatom_byte (s : ByteArray) (k : Nat) (w : World) (hk : k < s.size) (hs : s.size ≤ 256) (h40 : byteAt s k ≠ 40) (h46 : byteAt s k ≠ 46) (h91 : byteAt s k ≠ 91) (h92 : byteAt s k ≠ 92) (h42 : byteAt s k ≠ 42) (h43 : byteAt s k ≠ 43) (h63 : byteAt s k ≠ 63) :
    Calls Try.prog 124 #[.string s, .agg #[.int .i64 (k : Nat), .int .i64 0, .int .i64 0]] w (YN w k (.ok (.mk 1 (rangesL [(byteAt s k, byteAt s k)] false) []) 1)) := by
  have mixed : Try.prog.follows .mixedOrders = true := by kernel_rfl
  have hbt := byteAt_eq s k hk
  have q1 : IntKind.i64.wrap ((k : Int) + 1) = (k : Int) + 1 := IntWalk.i64_in _ (by omega)
  have HC1 := Lib.hid (show YCl w (((w.alloc (.cells #[.int .i64 ((k : Int) + 1), .int .i64 0, .int .i64 0] 142)).alloc (.cells #[.int .i64 0, .slice none 0 0, .slice none 0 0] 26)).alloc (.cells #[.int .i64 0, .int .i64 0, .int .i64 0] 142)) from ⟨(((Below.refl w.heap.size w).alloc (Nat.le_refl _) _).alloc (by simp) _).alloc (by simp; omega) _, by
      have h1 := Blk.new (w.alloc (.cells #[.int .i64 ((k : Int) + 1), .int .i64 0, .int .i64 0] 142)) 26 #[.int .i64 0, .slice none 0 0, .slice none 0 0]
      have h2 := h1.alloc (.cells #[.int .i64 0, .int .i64 0, .int .i64 0] 142)
      simpa using h2, by
      have h1 := Blk.new ((w.alloc (.cells #[.int .i64 ((k : Int) + 1), .int .i64 0, .int .i64 0] 142)).alloc (.cells #[.int .i64 0, .slice none 0 0, .slice none 0 0] 26)) 142 #[.int .i64 0, .int .i64 0, .int .i64 0]
      simpa using h1⟩)
  have HQ := Lib.hid (show Blk (((w.alloc (.cells #[.int .i64 ((k : Int) + 1), .int .i64 0, .int .i64 0] 142)).alloc (.cells #[.int .i64 0, .slice none 0 0, .slice none 0 0] 26)).alloc (.cells #[.int .i64 0, .int .i64 0, .int .i64 0] 142)).drew w.heap.size 142 #[.int .i64 ((k : Int) + 1), .int .i64 0, .int .i64 0] from by
      have h1 := ((Blk.new w 142 #[.int .i64 ((k : Int) + 1), .int .i64 0, .int .i64 0]).alloc (.cells #[.int .i64 0, .slice none 0 0, .slice none 0 0] 26)).alloc (.cells #[.int .i64 0, .int .i64 0, .int .i64 0] 142)
      exact h1.drew)
  have C := Lib.hid (yone_any (byteAt s k) (((w.alloc (.cells #[.int .i64 ((k : Int) + 1), .int .i64 0, .int .i64 0] 142)).alloc (.cells #[.int .i64 0, .slice none 0 0, .slice none 0 0] 26)).alloc (.cells #[.int .i64 0, .int .i64 0, .int .i64 0] 142)).drew)
  have f40 : (((byteAt s k).toNat : Int) == 40) = false := ybyte_false h40
  have f46 : (((byteAt s k).toNat : Int) == 46) = false := ybyte_false h46
  have f91 : (((byteAt s k).toNat : Int) == 91) = false := ybyte_false h91
  have f92 : (((byteAt s k).toNat : Int) == 92) = false := ybyte_false h92
  have f42 : (((byteAt s k).toNat : Int) == 42) = false := ybyte_false h42
  have f43 : (((byteAt s k).toNat : Int) == 43) = false := ybyte_false h43
  have f63 : (((byteAt s k).toNat : Int) == 63) = false := ybyte_false h63
  have HW := Lib.hid (show ((k : Int) + 1) = ((k + 1 : Nat) : Int) by omega)
  clear h40 h46 h91 h92 h42 h43 h63
  go_enter Try.func124, Try.ntmps124
  go_wp2_with fail
  refine wp_region_held_drew (S := fun W => W.cell? ⟨w.heap.size, 0, none⟩ = some (.int .i64 ((k : Int) + 1)) ∧ W.cell? ⟨w.heap.size, 1, none⟩ = some (.int .i64 0) ∧ W.cell? ⟨w.heap.size, 2, none⟩ = some (.int .i64 0)) mixed ⟨HQ.out.cell 0, HQ.out.cell 1, HQ.out.cell 2⟩ (fun hS => ?_)
  refine wpAnyH_take (i := 0) (v := .int .u8 ((byteAt s k).toNat : Nat)) rfl (by kernel_rfl) (by kernel_rfl) (by kernel_rfl) (fun _ _ _ h => h) (Or.inl ⟨by rfl, fun W hW => by obtain ⟨h0, h1, h2⟩ := hW; go_simp⟩) hS ?_
  refine wpAnyH_take (i := 2) (v := .agg #[.int .i64 ((k : Int) + 1), .int .i64 0, .int .i64 0]) rfl (by kernel_rfl) (by kernel_rfl) (by kernel_rfl) (fun _ _ _ h => h) (Or.inl ⟨by rfl, fun W hW => by obtain ⟨h0, h1, h2⟩ := hW; go_simp⟩) hS ?_
  refine wpAnyH_ready (rs := [1]) (by kernel_rfl) (by simp) ?_
  refine AllReadyH.cons rfl (fun K hK => ?_) AllReadyH.nil
  go_simp
  (with_reducible refine C.out.mono ?_)
  rintro e w3 ⟨⟨d3, kk, A3, n3, c3, A3', n3', c3', rfl, ht3⟩, b3⟩
  have HT := Lib.hid ht3
  have HC3 := Lib.hid (HC1.out.below (⟨b3.os, b3.tape, b3.output, b3.size, b3.block⟩ : Below (((w.alloc (.cells #[.int .i64 ((k : Int) + 1), .int .i64 0, .int .i64 0] 142)).alloc (.cells #[.int .i64 0, .slice none 0 0, .slice none 0 0] 26)).alloc (.cells #[.int .i64 0, .int .i64 0, .int .i64 0] 142)).heap.size (((w.alloc (.cells #[.int .i64 ((k : Int) + 1), .int .i64 0, .int .i64 0] 142)).alloc (.cells #[.int .i64 0, .slice none 0 0, .slice none 0 0] 26)).alloc (.cells #[.int .i64 0, .int .i64 0, .int .i64 0] 142)) w3))
  have HP3 := Lib.hid (HQ.out.below b3 HQ.out.lt)
  have hlo : w.heap.size + 1 + 1 < (((w.alloc (.cells #[.int .i64 ((k : Int) + 1), .int .i64 0, .int .i64 0] 142)).alloc (.cells #[.int .i64 0, .slice none 0 0, .slice none 0 0] 26)).alloc (.cells #[.int .i64 0, .int .i64 0, .int .i64 0] 142)).drew.heap.size := by simp
  clear ht3 b3
  clear hS
  refine hK.out _ _ ⟨HP3.out.cell 0, HP3.out.cell 1, HP3.out.cell 2⟩ (fun hS => ?_)
  clear hK K
  obtain ⟨n0, n1, n2, m0, m1, m2⟩ := blk3 HC3.out.nb
  refine wpAnyH_ready (rs := [3]) (by kernel_rfl) (by simp) ?_
  refine AllReadyH.cons rfl (fun K hK => ?_) AllReadyH.nil
  go_simp
  have HP4 := Lib.hid (((HP3.out.far (p := ⟨w.heap.size + 1, 0, none⟩) (by simp) (.int .i64 kk)).far (p := ⟨w.heap.size + 1, 1, none⟩) (by simp) (.slice A3 n3 c3)).far (p := ⟨w.heap.size + 1, 2, none⟩) (by simp) (.slice A3' n3' c3'))
  have HR4 := Lib.hid (((HC3.out.rb.far (p := ⟨w.heap.size + 1, 0, none⟩) (by simp) (.int .i64 kk)).far (p := ⟨w.heap.size + 1, 1, none⟩) (by simp) (.slice A3 n3 c3)).far (p := ⟨w.heap.size + 1, 2, none⟩) (by simp) (.slice A3' n3' c3'))
  clear hS
  refine hK.out _ _ ⟨HP4.out.cell 0, HP4.out.cell 1, HP4.out.cell 2⟩ (fun hS => ?_)
  clear hK K n0 n1 n2 m0 m1 m2
  obtain ⟨r0, r1, r2, l0, l1, l2⟩ := blk3 HR4.out
  refine wpAnyH_ready (rs := [4]) (by kernel_rfl) (by simp) ?_
  refine AllReadyH.cons rfl (fun K hK => ?_) AllReadyH.nil
  go_simp
  have HP5 := Lib.hid (((HP4.out.far (p := ⟨w.heap.size + 1 + 1, 0, none⟩) (by simp; omega) (.int .i64 ((k : Int) + 1))).far (p := ⟨w.heap.size + 1 + 1, 1, none⟩) (by simp; omega) (.int .i64 0)).far (p := ⟨w.heap.size + 1 + 1, 2, none⟩) (by simp; omega) (.int .i64 0))
  clear hS
  refine hK.out _ _ ⟨HP5.out.cell 0, HP5.out.cell 1, HP5.out.cell 2⟩ (fun hS => ?_)
  clear hK K r0 r1 r2 l0 l1 l2
  clear hS
  refine wpAnyH_done (by kernel_rfl) ?_ _
  go_wp2
  obtain ⟨W6, hW, hN, hP6, hb6, hk6, hz6⟩ := ysix HC3.out (.int .i64 kk) (.slice A3 n3 c3) (.slice A3' n3' c3') (.int .i64 ((k : Int) + 1)) (.int .i64 0) (.int .i64 0)
  rw [← hW]
  clear hW
  obtain ⟨n0, n1, n2, m0, m1, m2⟩ := blk3 hN
  obtain ⟨r0, r1, r2, l0, l1, l2⟩ := blk3 hP6
  refine bodyPost_ret (v := .tuple #[.agg #[.int .i64 kk, .slice A3 n3 c3, .slice A3' n3' c3'], .agg #[.int .i64 ((k : Int) + 1), .int .i64 0, .int .i64 0]]) (by simp [results, Try.results124, go_sem, n0, n1, n2, r0, r1, r2]) rfl ⟨d3, kk, A3, n3, c3, A3', n3', c3', by rw [HW.out], ?_, hb6⟩
  refine (HT.out.keep (w' := W6) fun b hb => hk6 b (by have := hb.1; omega) (by have := hb.1; omega)).mono fun b hb => ⟨?_, ?_⟩
  · have := hb.1; omega
  · rw [hz6]; exact hb.2
set_option maxHeartbeats 8000000 in
set_option maxRecDepth 100000 in
theorem yatom_dot (s : ByteArray) (k : Nat) (w : World) (hk : k < s.size) (hs : s.size ≤ 256) (h46 : byteAt s k = 46) :
    Calls Try.prog 124 #[.string s, .agg #[.int .i64 (k : Nat), .int .i64 0, .int .i64 0]] w (YN w k (.ok (.mk 1 (rangesL [(10, 10)] true) []) 1)) := by
  have mixed : Try.prog.follows .mixedOrders = true := by kernel_rfl
  have hbt := byteAt_eq s k hk
  have q1 : IntKind.i64.wrap ((k : Int) + 1) = (k : Int) + 1 := IntWalk.i64_in _ (by omega)
  have HC1 := Lib.hid (show YCl w (((w.alloc (.cells #[.int .i64 ((k : Int) + 1), .int .i64 0, .int .i64 0] 142)).alloc (.cells #[.int .i64 0, .slice none 0 0, .slice none 0 0] 26)).alloc (.cells #[.int .i64 0, .int .i64 0, .int .i64 0] 142)) from ⟨(((Below.refl w.heap.size w).alloc (Nat.le_refl _) _).alloc (by simp) _).alloc (by simp; omega) _, by
      have h1 := Blk.new (w.alloc (.cells #[.int .i64 ((k : Int) + 1), .int .i64 0, .int .i64 0] 142)) 26 #[.int .i64 0, .slice none 0 0, .slice none 0 0]
      have h2 := h1.alloc (.cells #[.int .i64 0, .int .i64 0, .int .i64 0] 142)
      simpa using h2, by
      have h1 := Blk.new ((w.alloc (.cells #[.int .i64 ((k : Int) + 1), .int .i64 0, .int .i64 0] 142)).alloc (.cells #[.int .i64 0, .slice none 0 0, .slice none 0 0] 26)) 142 #[.int .i64 0, .int .i64 0, .int .i64 0]
      simpa using h1⟩)
  have HQ := Lib.hid (show Blk (((w.alloc (.cells #[.int .i64 ((k : Int) + 1), .int .i64 0, .int .i64 0] 142)).alloc (.cells #[.int .i64 0, .slice none 0 0, .slice none 0 0] 26)).alloc (.cells #[.int .i64 0, .int .i64 0, .int .i64 0] 142)).drew w.heap.size 142 #[.int .i64 ((k : Int) + 1), .int .i64 0, .int .i64 0] from by
      have h1 := ((Blk.new w 142 #[.int .i64 ((k : Int) + 1), .int .i64 0, .int .i64 0]).alloc (.cells #[.int .i64 0, .slice none 0 0, .slice none 0 0] 26)).alloc (.cells #[.int .i64 0, .int .i64 0, .int .i64 0] 142)
      exact h1.drew)
  have HC2 := Lib.hid (show YCl w ((((w.alloc (.cells #[.int .i64 ((k : Int) + 1), .int .i64 0, .int .i64 0] 142)).alloc (.cells #[.int .i64 0, .slice none 0 0, .slice none 0 0] 26)).alloc (.cells #[.int .i64 0, .int .i64 0, .int .i64 0] 142)).alloc (.cells #[.int .u8 10, .int .u8 10] 37)) from HC1.out.alloc _)
  have HQ2 := Lib.hid (show Blk ((((w.alloc (.cells #[.int .i64 ((k : Int) + 1), .int .i64 0, .int .i64 0] 142)).alloc (.cells #[.int .i64 0, .slice none 0 0, .slice none 0 0] 26)).alloc (.cells #[.int .i64 0, .int .i64 0, .int .i64 0] 142)).alloc (.cells #[.int .u8 10, .int .u8 10] 37)).drew w.heap.size 142 #[.int .i64 ((k : Int) + 1), .int .i64 0, .int .i64 0] from HQ.out.alloc _)
  have hrb : Blk ((((w.alloc (.cells #[.int .i64 ((k : Int) + 1), .int .i64 0, .int .i64 0] 142)).alloc (.cells #[.int .i64 0, .slice none 0 0, .slice none 0 0] 26)).alloc (.cells #[.int .i64 0, .int .i64 0, .int .i64 0] 142)).alloc (.cells #[.int .u8 10, .int .u8 10] 37)).drew (w.heap.size + 1 + 1 + 1) 37 #[.int .u8 10, .int .u8 10] := by
    have h := heap_alloc_new (((w.alloc (.cells #[.int .i64 ((k : Int) + 1), .int .i64 0, .int .i64 0] 142)).alloc (.cells #[.int .i64 0, .slice none 0 0, .slice none 0 0] 26)).alloc (.cells #[.int .i64 0, .int .i64 0, .int .i64 0] 142)).drew (.cells #[.int .u8 10, .int .u8 10] 37)
    rw [show (((w.alloc (.cells #[.int .i64 ((k : Int) + 1), .int .i64 0, .int .i64 0] 142)).alloc (.cells #[.int .i64 0, .slice none 0 0, .slice none 0 0] 26)).alloc (.cells #[.int .i64 0, .int .i64 0, .int .i64 0] 142)).drew.heap.size = w.heap.size + 1 + 1 + 1 by simp] at h
    exact h
  have C := Lib.hid (yset_any (some ⟨w.heap.size + 1 + 1 + 1, 0, none⟩) 1 1 [(10, 10)] true ((((w.alloc (.cells #[.int .i64 ((k : Int) + 1), .int .i64 0, .int .i64 0] 142)).alloc (.cells #[.int .i64 0, .slice none 0 0, .slice none 0 0] 26)).alloc (.cells #[.int .i64 0, .int .i64 0, .int .i64 0] 142)).alloc (.cells #[.int .u8 10, .int .u8 10] 37)).drew ⟨rfl, fun _ => ⟨w.heap.size + 1 + 1 + 1, 0, rfl, by simp, fun i r hr => by
    obtain ⟨p0, p1, _, _⟩ := blk2 hrb
    match i, hr with
    | 0, hr => simp at hr; subst hr; exact ⟨p0, p1⟩⟩⟩ (by decide))
  clear hrb
  have f40 : (((byteAt s k).toNat : Int) == 40) = false := by rw [h46]; rfl
  have f46 : (((byteAt s k).toNat : Int) == 46) = true := ybyte_true h46
  have HW := Lib.hid (show ((k : Int) + 1) = ((k + 1 : Nat) : Int) by omega)
  clear h46
  go_enter Try.func124, Try.ntmps124
  go_wp2_with fail
  refine wp_region_held_drew (S := fun W => W.cell? ⟨w.heap.size, 0, none⟩ = some (.int .i64 ((k : Int) + 1)) ∧ W.cell? ⟨w.heap.size, 1, none⟩ = some (.int .i64 0) ∧ W.cell? ⟨w.heap.size, 2, none⟩ = some (.int .i64 0)) mixed ⟨HQ.out.cell 0, HQ.out.cell 1, HQ.out.cell 2⟩ (fun hS => ?_)
  refine wpAnyH_take (i := 0) (v := .agg #[.int .u8 10, .int .u8 10]) rfl (by kernel_rfl) (by kernel_rfl) (by kernel_rfl) (fun _ _ _ h => h) (Or.inl ⟨by rfl, fun W hW => by obtain ⟨h0, h1, h2⟩ := hW; go_simp⟩) hS ?_
  refine wpAnyH_take (i := 3) (v := .agg #[.int .i64 ((k : Int) + 1), .int .i64 0, .int .i64 0]) rfl (by kernel_rfl) (by kernel_rfl) (by kernel_rfl) (fun _ _ _ h => h) (Or.inl ⟨by rfl, fun W hW => by obtain ⟨h0, h1, h2⟩ := hW; go_simp⟩) hS ?_
  refine wpAnyH_ready (rs := [1]) (by kernel_rfl) (by simp) ?_
  refine AllReadyH.cons rfl (fun K hK => ?_) AllReadyH.nil
  go_simp
  clear hS
  refine hK.out _ _ ⟨HQ2.out.cell 0, HQ2.out.cell 1, HQ2.out.cell 2⟩ (fun hS => ?_)
  clear hK K
  refine wpAnyH_ready (rs := [2]) (by kernel_rfl) (by simp) ?_
  refine AllReadyH.cons rfl (fun K hK => ?_) AllReadyH.nil
  go_simp
  (with_reducible refine C.out.mono ?_)
  rintro e w3 ⟨⟨d3, kk, A3, n3, c3, A3', n3', c3', rfl, ht3⟩, b3⟩
  have HT := Lib.hid ht3
  have HC3 := Lib.hid (HC2.out.below (⟨b3.os, b3.tape, b3.output, b3.size, b3.block⟩ : Below ((((w.alloc (.cells #[.int .i64 ((k : Int) + 1), .int .i64 0, .int .i64 0] 142)).alloc (.cells #[.int .i64 0, .slice none 0 0, .slice none 0 0] 26)).alloc (.cells #[.int .i64 0, .int .i64 0, .int .i64 0] 142)).alloc (.cells #[.int .u8 10, .int .u8 10] 37)).heap.size ((((w.alloc (.cells #[.int .i64 ((k : Int) + 1), .int .i64 0, .int .i64 0] 142)).alloc (.cells #[.int .i64 0, .slice none 0 0, .slice none 0 0] 26)).alloc (.cells #[.int .i64 0, .int .i64 0, .int .i64 0] 142)).alloc (.cells #[.int .u8 10, .int .u8 10] 37)) w3))
  have HP3 := Lib.hid (HQ2.out.below b3 HQ2.out.lt)
  have hlo : w.heap.size + 1 + 1 < ((((w.alloc (.cells #[.int .i64 ((k : Int) + 1), .int .i64 0, .int .i64 0] 142)).alloc (.cells #[.int .i64 0, .slice none 0 0, .slice none 0 0] 26)).alloc (.cells #[.int .i64 0, .int .i64 0, .int .i64 0] 142)).alloc (.cells #[.int .u8 10, .int .u8 10] 37)).drew.heap.size := by simp
  clear ht3 b3
  clear hS
  refine hK.out _ _ ⟨HP3.out.cell 0, HP3.out.cell 1, HP3.out.cell 2⟩ (fun hS => ?_)
  clear hK K
  obtain ⟨n0, n1, n2, m0, m1, m2⟩ := blk3 HC3.out.nb
  refine wpAnyH_ready (rs := [4]) (by kernel_rfl) (by simp) ?_
  refine AllReadyH.cons rfl (fun K hK => ?_) AllReadyH.nil
  go_simp
  have HP4 := Lib.hid (((HP3.out.far (p := ⟨w.heap.size + 1, 0, none⟩) (by simp) (.int .i64 kk)).far (p := ⟨w.heap.size + 1, 1, none⟩) (by simp) (.slice A3 n3 c3)).far (p := ⟨w.heap.size + 1, 2, none⟩) (by simp) (.slice A3' n3' c3'))
  have HR4 := Lib.hid (((HC3.out.rb.far (p := ⟨w.heap.size + 1, 0, none⟩) (by simp) (.int .i64 kk)).far (p := ⟨w.heap.size + 1, 1, none⟩) (by simp) (.slice A3 n3 c3)).far (p := ⟨w.heap.size + 1, 2, none⟩) (by simp) (.slice A3' n3' c3'))
  clear hS
  refine hK.out _ _ ⟨HP4.out.cell 0, HP4.out.cell 1, HP4.out.cell 2⟩ (fun hS => ?_)
  clear hK K n0 n1 n2 m0 m1 m2
  obtain ⟨r0, r1, r2, l0, l1, l2⟩ := blk3 HR4.out
  refine wpAnyH_ready (rs := [5]) (by kernel_rfl) (by simp) ?_
  refine AllReadyH.cons rfl (fun K hK => ?_) AllReadyH.nil
  go_simp
  have HP5 := Lib.hid (((HP4.out.far (p := ⟨w.heap.size + 1 + 1, 0, none⟩) (by simp; omega) (.int .i64 ((k : Int) + 1))).far (p := ⟨w.heap.size + 1 + 1, 1, none⟩) (by simp; omega) (.int .i64 0)).far (p := ⟨w.heap.size + 1 + 1, 2, none⟩) (by simp; omega) (.int .i64 0))
  clear hS
  refine hK.out _ _ ⟨HP5.out.cell 0, HP5.out.cell 1, HP5.out.cell 2⟩ (fun hS => ?_)
  clear hK K r0 r1 r2 l0 l1 l2
  clear hS
  refine wpAnyH_done (by kernel_rfl) ?_ _
  go_wp2
  obtain ⟨W6, hW, hN, hP6, hb6, hk6, hz6⟩ := ysix HC3.out (.int .i64 kk) (.slice A3 n3 c3) (.slice A3' n3' c3') (.int .i64 ((k : Int) + 1)) (.int .i64 0) (.int .i64 0)
  rw [← hW]
  clear hW
  obtain ⟨n0, n1, n2, m0, m1, m2⟩ := blk3 hN
  obtain ⟨r0, r1, r2, l0, l1, l2⟩ := blk3 hP6
  refine bodyPost_ret (v := .tuple #[.agg #[.int .i64 kk, .slice A3 n3 c3, .slice A3' n3' c3'], .agg #[.int .i64 ((k : Int) + 1), .int .i64 0, .int .i64 0]]) (by simp [results, Try.results124, go_sem, n0, n1, n2, r0, r1, r2]) rfl ⟨d3, kk, A3, n3, c3, A3', n3', c3', by rw [HW.out], ?_, hb6⟩
  refine (HT.out.keep (w' := W6) fun b hb => hk6 b (by have := hb.1; omega) (by have := hb.1; omega)).mono fun b hb => ⟨?_, ?_⟩
  · have := hb.1; omega
  · rw [hz6]; exact hb.2
set_option maxHeartbeats 8000000 in
set_option maxRecDepth 100000 in
theorem yatom_sign42 (s : ByteArray) (k : Nat) (w : World) (hk : k < s.size) (hs : s.size ≤ 256) (h : byteAt s k = 42) :
    Calls Try.prog 124 #[.string s, .agg #[.int .i64 (k : Nat), .int .i64 0, .int .i64 0]] w (YN w k (.err 30 0)) := by
  have mixed : Try.prog.follows .mixedOrders = true := by kernel_rfl
  have hbt := byteAt_eq s k hk
  have q1 : IntKind.i64.wrap ((k : Int) + 1) = (k : Int) + 1 := IntWalk.i64_in _ (by omega)
  have HC1 := Lib.hid (show YCl w (((w.alloc (.cells #[.int .i64 (k : Nat), .int .i64 0, .int .i64 0] 142)).alloc (.cells #[.int .i64 0, .slice none 0 0, .slice none 0 0] 26)).alloc (.cells #[.int .i64 0, .int .i64 0, .int .i64 0] 142)) from ⟨(((Below.refl w.heap.size w).alloc (Nat.le_refl _) _).alloc (by simp) _).alloc (by simp; omega) _, by
      have h1 := Blk.new (w.alloc (.cells #[.int .i64 (k : Nat), .int .i64 0, .int .i64 0] 142)) 26 #[.int .i64 0, .slice none 0 0, .slice none 0 0]
      have h2 := h1.alloc (.cells #[.int .i64 0, .int .i64 0, .int .i64 0] 142)
      simpa using h2, by
      have h1 := Blk.new ((w.alloc (.cells #[.int .i64 (k : Nat), .int .i64 0, .int .i64 0] 142)).alloc (.cells #[.int .i64 0, .slice none 0 0, .slice none 0 0] 26)) 142 #[.int .i64 0, .int .i64 0, .int .i64 0]
      simpa using h1⟩)
  have HQ := Lib.hid (show Blk (((w.alloc (.cells #[.int .i64 (k : Nat), .int .i64 0, .int .i64 0] 142)).alloc (.cells #[.int .i64 0, .slice none 0 0, .slice none 0 0] 26)).alloc (.cells #[.int .i64 0, .int .i64 0, .int .i64 0] 142)).drew w.heap.size 142 #[.int .i64 (k : Nat), .int .i64 0, .int .i64 0] from by
      have h1 := ((Blk.new w 142 #[.int .i64 (k : Nat), .int .i64 0, .int .i64 0]).alloc (.cells #[.int .i64 0, .slice none 0 0, .slice none 0 0] 26)).alloc (.cells #[.int .i64 0, .int .i64 0, .int .i64 0] 142)
      exact h1.drew)
  have f40 : (((byteAt s k).toNat : Int) == 40) = false := by rw [h]; rfl
  have f46 : (((byteAt s k).toNat : Int) == 46) = false := by rw [h]; rfl
  have f91 : (((byteAt s k).toNat : Int) == 91) = false := by rw [h]; rfl
  have f92 : (((byteAt s k).toNat : Int) == 92) = false := by rw [h]; rfl
  have f42 : (((byteAt s k).toNat : Int) == 42) = true := ybyte_true h
  have C := Lib.hid (fun W => yfail_any k 0 30 k W)
  clear h
  go_enter Try.func124, Try.ntmps124
  go_wp2_with fail
  (with_reducible refine (C.out _).mono ?_)
  rintro e w3 ⟨rfl, hb3⟩
  have HC3 := Lib.hid (HC1.out.below hb3)
  clear hb3
  obtain ⟨n0, n1, n2, m0, m1, m2⟩ := blk3 HC3.out.nb
  obtain ⟨r0, r1, r2, l0, l1, l2⟩ := blk3 HC3.out.rb
  go_wp2
  obtain ⟨W6, hW, hN, hP6, hb6, hk6, hz6⟩ := ysix HC3.out (.int .i64 0) (.slice none 0 0) (.slice none 0 0) (.int .i64 k) (.int .i64 30) (.int .i64 k)
  rw [← hW]
  clear hW n0 n1 n2 m0 m1 m2 r0 r1 r2 l0 l1 l2
  obtain ⟨n0, n1, n2, m0, m1, m2⟩ := blk3 hN
  obtain ⟨r0, r1, r2, l0, l1, l2⟩ := blk3 hP6
  refine bodyPost_ret (v := .tuple #[.agg #[.int .i64 0, .slice none 0 0, .slice none 0 0], .agg #[.int .i64 k, .int .i64 30, .int .i64 k]]) (by simp [results, Try.results124, go_sem, n0, n1, n2, r0, r1, r2]) rfl ⟨⟨0, none, 0, 0, none, 0, 0, k, rfl⟩, hb6⟩
set_option maxHeartbeats 8000000 in
set_option maxRecDepth 100000 in
theorem yatom_sign43 (s : ByteArray) (k : Nat) (w : World) (hk : k < s.size) (hs : s.size ≤ 256) (h : byteAt s k = 43) :
    Calls Try.prog 124 #[.string s, .agg #[.int .i64 (k : Nat), .int .i64 0, .int .i64 0]] w (YN w k (.err 30 0)) := by
  have mixed : Try.prog.follows .mixedOrders = true := by kernel_rfl
  have hbt := byteAt_eq s k hk
  have q1 : IntKind.i64.wrap ((k : Int) + 1) = (k : Int) + 1 := IntWalk.i64_in _ (by omega)
  have HC1 := Lib.hid (show YCl w (((w.alloc (.cells #[.int .i64 (k : Nat), .int .i64 0, .int .i64 0] 142)).alloc (.cells #[.int .i64 0, .slice none 0 0, .slice none 0 0] 26)).alloc (.cells #[.int .i64 0, .int .i64 0, .int .i64 0] 142)) from ⟨(((Below.refl w.heap.size w).alloc (Nat.le_refl _) _).alloc (by simp) _).alloc (by simp; omega) _, by
      have h1 := Blk.new (w.alloc (.cells #[.int .i64 (k : Nat), .int .i64 0, .int .i64 0] 142)) 26 #[.int .i64 0, .slice none 0 0, .slice none 0 0]
      have h2 := h1.alloc (.cells #[.int .i64 0, .int .i64 0, .int .i64 0] 142)
      simpa using h2, by
      have h1 := Blk.new ((w.alloc (.cells #[.int .i64 (k : Nat), .int .i64 0, .int .i64 0] 142)).alloc (.cells #[.int .i64 0, .slice none 0 0, .slice none 0 0] 26)) 142 #[.int .i64 0, .int .i64 0, .int .i64 0]
      simpa using h1⟩)
  have HQ := Lib.hid (show Blk (((w.alloc (.cells #[.int .i64 (k : Nat), .int .i64 0, .int .i64 0] 142)).alloc (.cells #[.int .i64 0, .slice none 0 0, .slice none 0 0] 26)).alloc (.cells #[.int .i64 0, .int .i64 0, .int .i64 0] 142)).drew w.heap.size 142 #[.int .i64 (k : Nat), .int .i64 0, .int .i64 0] from by
      have h1 := ((Blk.new w 142 #[.int .i64 (k : Nat), .int .i64 0, .int .i64 0]).alloc (.cells #[.int .i64 0, .slice none 0 0, .slice none 0 0] 26)).alloc (.cells #[.int .i64 0, .int .i64 0, .int .i64 0] 142)
      exact h1.drew)
  have f40 : (((byteAt s k).toNat : Int) == 40) = false := by rw [h]; rfl
  have f46 : (((byteAt s k).toNat : Int) == 46) = false := by rw [h]; rfl
  have f91 : (((byteAt s k).toNat : Int) == 91) = false := by rw [h]; rfl
  have f92 : (((byteAt s k).toNat : Int) == 92) = false := by rw [h]; rfl
  have f42 : (((byteAt s k).toNat : Int) == 42) = false := by rw [h]; rfl
  have f43 : (((byteAt s k).toNat : Int) == 43) = true := ybyte_true h
  have C := Lib.hid (fun W => yfail_any k 0 30 k W)
  clear h
  go_enter Try.func124, Try.ntmps124
  go_wp2_with fail
  (with_reducible refine (C.out _).mono ?_)
  rintro e w3 ⟨rfl, hb3⟩
  have HC3 := Lib.hid (HC1.out.below hb3)
  clear hb3
  obtain ⟨n0, n1, n2, m0, m1, m2⟩ := blk3 HC3.out.nb
  obtain ⟨r0, r1, r2, l0, l1, l2⟩ := blk3 HC3.out.rb
  go_wp2
  obtain ⟨W6, hW, hN, hP6, hb6, hk6, hz6⟩ := ysix HC3.out (.int .i64 0) (.slice none 0 0) (.slice none 0 0) (.int .i64 k) (.int .i64 30) (.int .i64 k)
  rw [← hW]
  clear hW n0 n1 n2 m0 m1 m2 r0 r1 r2 l0 l1 l2
  obtain ⟨n0, n1, n2, m0, m1, m2⟩ := blk3 hN
  obtain ⟨r0, r1, r2, l0, l1, l2⟩ := blk3 hP6
  refine bodyPost_ret (v := .tuple #[.agg #[.int .i64 0, .slice none 0 0, .slice none 0 0], .agg #[.int .i64 k, .int .i64 30, .int .i64 k]]) (by simp [results, Try.results124, go_sem, n0, n1, n2, r0, r1, r2]) rfl ⟨⟨0, none, 0, 0, none, 0, 0, k, rfl⟩, hb6⟩
set_option maxHeartbeats 8000000 in
set_option maxRecDepth 100000 in
theorem yatom_sign63 (s : ByteArray) (k : Nat) (w : World) (hk : k < s.size) (hs : s.size ≤ 256) (h : byteAt s k = 63) :
    Calls Try.prog 124 #[.string s, .agg #[.int .i64 (k : Nat), .int .i64 0, .int .i64 0]] w (YN w k (.err 30 0)) := by
  have mixed : Try.prog.follows .mixedOrders = true := by kernel_rfl
  have hbt := byteAt_eq s k hk
  have q1 : IntKind.i64.wrap ((k : Int) + 1) = (k : Int) + 1 := IntWalk.i64_in _ (by omega)
  have HC1 := Lib.hid (show YCl w (((w.alloc (.cells #[.int .i64 (k : Nat), .int .i64 0, .int .i64 0] 142)).alloc (.cells #[.int .i64 0, .slice none 0 0, .slice none 0 0] 26)).alloc (.cells #[.int .i64 0, .int .i64 0, .int .i64 0] 142)) from ⟨(((Below.refl w.heap.size w).alloc (Nat.le_refl _) _).alloc (by simp) _).alloc (by simp; omega) _, by
      have h1 := Blk.new (w.alloc (.cells #[.int .i64 (k : Nat), .int .i64 0, .int .i64 0] 142)) 26 #[.int .i64 0, .slice none 0 0, .slice none 0 0]
      have h2 := h1.alloc (.cells #[.int .i64 0, .int .i64 0, .int .i64 0] 142)
      simpa using h2, by
      have h1 := Blk.new ((w.alloc (.cells #[.int .i64 (k : Nat), .int .i64 0, .int .i64 0] 142)).alloc (.cells #[.int .i64 0, .slice none 0 0, .slice none 0 0] 26)) 142 #[.int .i64 0, .int .i64 0, .int .i64 0]
      simpa using h1⟩)
  have HQ := Lib.hid (show Blk (((w.alloc (.cells #[.int .i64 (k : Nat), .int .i64 0, .int .i64 0] 142)).alloc (.cells #[.int .i64 0, .slice none 0 0, .slice none 0 0] 26)).alloc (.cells #[.int .i64 0, .int .i64 0, .int .i64 0] 142)).drew w.heap.size 142 #[.int .i64 (k : Nat), .int .i64 0, .int .i64 0] from by
      have h1 := ((Blk.new w 142 #[.int .i64 (k : Nat), .int .i64 0, .int .i64 0]).alloc (.cells #[.int .i64 0, .slice none 0 0, .slice none 0 0] 26)).alloc (.cells #[.int .i64 0, .int .i64 0, .int .i64 0] 142)
      exact h1.drew)
  have f40 : (((byteAt s k).toNat : Int) == 40) = false := by rw [h]; rfl
  have f46 : (((byteAt s k).toNat : Int) == 46) = false := by rw [h]; rfl
  have f91 : (((byteAt s k).toNat : Int) == 91) = false := by rw [h]; rfl
  have f92 : (((byteAt s k).toNat : Int) == 92) = false := by rw [h]; rfl
  have f42 : (((byteAt s k).toNat : Int) == 42) = false := by rw [h]; rfl
  have f43 : (((byteAt s k).toNat : Int) == 43) = false := by rw [h]; rfl
  have f63 : (((byteAt s k).toNat : Int) == 63) = true := ybyte_true h
  have C := Lib.hid (fun W => yfail_any k 0 30 k W)
  clear h
  go_enter Try.func124, Try.ntmps124
  go_wp2_with fail
  (with_reducible refine (C.out _).mono ?_)
  rintro e w3 ⟨rfl, hb3⟩
  have HC3 := Lib.hid (HC1.out.below hb3)
  clear hb3
  obtain ⟨n0, n1, n2, m0, m1, m2⟩ := blk3 HC3.out.nb
  obtain ⟨r0, r1, r2, l0, l1, l2⟩ := blk3 HC3.out.rb
  go_wp2
  obtain ⟨W6, hW, hN, hP6, hb6, hk6, hz6⟩ := ysix HC3.out (.int .i64 0) (.slice none 0 0) (.slice none 0 0) (.int .i64 k) (.int .i64 30) (.int .i64 k)
  rw [← hW]
  clear hW n0 n1 n2 m0 m1 m2 r0 r1 r2 l0 l1 l2
  obtain ⟨n0, n1, n2, m0, m1, m2⟩ := blk3 hN
  obtain ⟨r0, r1, r2, l0, l1, l2⟩ := blk3 hP6
  refine bodyPost_ret (v := .tuple #[.agg #[.int .i64 0, .slice none 0 0, .slice none 0 0], .agg #[.int .i64 k, .int .i64 30, .int .i64 k]]) (by simp [results, Try.results124, go_sem, n0, n1, n2, r0, r1, r2]) rfl ⟨⟨0, none, 0, 0, none, 0, 0, k, rfl⟩, hb6⟩
set_option maxHeartbeats 8000000 in
set_option maxRecDepth 100000 in
theorem yatom_class (s : ByteArray) (k : Nat) (w : World) (hk : k < s.size) (hs : s.size ≤ 256) (h91 : byteAt s k = 91) :
    Calls Try.prog 124 #[.string s, .agg #[.int .i64 (k : Nat), .int .i64 0, .int .i64 0]] w (YN w k ((classX (restL s (k + 1))).shift 1)) := by
  have mixed : Try.prog.follows .mixedOrders = true := by kernel_rfl
  have hbt := byteAt_eq s k hk
  have q1 : IntKind.i64.wrap ((k : Int) + 1) = (k : Int) + 1 := IntWalk.i64_in _ (by omega)
  have HC1 := Lib.hid (show YCl w (((w.alloc (.cells #[.int .i64 ((k : Int) + 1), .int .i64 0, .int .i64 0] 142)).alloc (.cells #[.int .i64 0, .slice none 0 0, .slice none 0 0] 26)).alloc (.cells #[.int .i64 0, .int .i64 0, .int .i64 0] 142)) from ⟨(((Below.refl w.heap.size w).alloc (Nat.le_refl _) _).alloc (by simp) _).alloc (by simp; omega) _, by
      have h1 := Blk.new (w.alloc (.cells #[.int .i64 ((k : Int) + 1), .int .i64 0, .int .i64 0] 142)) 26 #[.int .i64 0, .slice none 0 0, .slice none 0 0]
      have h2 := h1.alloc (.cells #[.int .i64 0, .int .i64 0, .int .i64 0] 142)
      simpa using h2, by
      have h1 := Blk.new ((w.alloc (.cells #[.int .i64 ((k : Int) + 1), .int .i64 0, .int .i64 0] 142)).alloc (.cells #[.int .i64 0, .slice none 0 0, .slice none 0 0] 26)) 142 #[.int .i64 0, .int .i64 0, .int .i64 0]
      simpa using h1⟩)
  have HQ := Lib.hid (show Blk (((w.alloc (.cells #[.int .i64 ((k : Int) + 1), .int .i64 0, .int .i64 0] 142)).alloc (.cells #[.int .i64 0, .slice none 0 0, .slice none 0 0] 26)).alloc (.cells #[.int .i64 0, .int .i64 0, .int .i64 0] 142)).drew w.heap.size 142 #[.int .i64 ((k : Int) + 1), .int .i64 0, .int .i64 0] from by
      have h1 := ((Blk.new w 142 #[.int .i64 ((k : Int) + 1), .int .i64 0, .int .i64 0]).alloc (.cells #[.int .i64 0, .slice none 0 0, .slice none 0 0] 26)).alloc (.cells #[.int .i64 0, .int .i64 0, .int .i64 0] 142)
      exact h1.drew)
  have f40 : (((byteAt s k).toNat : Int) == 40) = false := by rw [h91]; rfl
  have f46 : (((byteAt s k).toNat : Int) == 46) = false := by rw [h91]; rfl
  have f91 : (((byteAt s k).toNat : Int) == 91) = true := ybyte_true h91
  have hc1 : ((k + 1 : Nat) : Int) = (k : Int) + 1 := by omega
  have hC : Calls Try.prog 141 #[.string s, .agg #[.int .i64 ((k : Int) + 1), .int .i64 0, .int .i64 0]] (((w.alloc (.cells #[.int .i64 ((k : Int) + 1), .int .i64 0, .int .i64 0] 142)).alloc (.cells #[.int .i64 0, .slice none 0 0, .slice none 0 0] 26)).alloc (.cells #[.int .i64 0, .int .i64 0, .int .i64 0] 142)) (YN (((w.alloc (.cells #[.int .i64 ((k : Int) + 1), .int .i64 0, .int .i64 0] 142)).alloc (.cells #[.int .i64 0, .slice none 0 0, .slice none 0 0] 26)).alloc (.cells #[.int .i64 0, .int .i64 0, .int .i64 0] 142)) (k + 1) (classX (restL s (k + 1)))) := by
    rw [← hc1]; exact yclass_any s (k + 1) _ (by omega) hs
  clear h91 hc1
  cases hR : classX (restL s (k + 1)) with
  | ok t n =>
    rw [hR] at hC
    have C := Lib.hid hC
    clear hC hR
    show Calls _ _ _ _ (YN w k (.ok t (1 + n)))
    go_enter Try.func124, Try.ntmps124
    go_wp2_with fail
    (with_reducible refine C.out.mono ?_)
    rintro e w3 ⟨d3, kk, A3, n3, c3, A3', n3', c3', rfl, ht3, b3⟩
    have HT := Lib.hid ht3
    have HC3 := Lib.hid (HC1.out.below b3)
    generalize hwh : ((k + 1 + n : Nat) : Int) = wh
    have HWH := Lib.hid hwh
    clear ht3 b3 hwh
    obtain ⟨n0, n1, n2, m0, m1, m2⟩ := blk3 HC3.out.nb
    obtain ⟨r0, r1, r2, l0, l1, l2⟩ := blk3 HC3.out.rb
    go_wp2
    obtain ⟨W6, hW, hN, hP6, hb6, hk6, hz6⟩ := ysix HC3.out (.int .i64 kk) (.slice A3 n3 c3) (.slice A3' n3' c3') (.int .i64 wh) (.int .i64 0) (.int .i64 0)
    rw [← hW]
    clear hW n0 n1 n2 m0 m1 m2 r0 r1 r2 l0 l1 l2
    obtain ⟨n0, n1, n2, m0, m1, m2⟩ := blk3 hN
    obtain ⟨r0, r1, r2, l0, l1, l2⟩ := blk3 hP6
    refine bodyPost_ret (v := .tuple #[.agg #[.int .i64 kk, .slice A3 n3 c3, .slice A3' n3' c3'], .agg #[.int .i64 wh, .int .i64 0, .int .i64 0]]) (by simp [results, Try.results124, go_sem, n0, n1, n2, r0, r1, r2]) rfl ⟨d3, kk, A3, n3, c3, A3', n3', c3', by rw [← HWH.out, show k + 1 + n = k + (1 + n) by omega], ?_, hb6⟩
    refine (HT.out.keep (w' := W6) fun b hb => hk6 b (by have := hb.1; simp at this; omega) (by have := hb.1; simp at this; omega)).mono fun b hb => ⟨?_, ?_⟩
    · have := hb.1; simp at this; omega
    · rw [hz6]; exact hb.2
  | err c o =>
    rw [hR] at hC
    have C := Lib.hid hC
    clear hC hR
    show Calls _ _ _ _ (YN w k (.err c (1 + o)))
    go_enter Try.func124, Try.ntmps124
    go_wp2_with fail
    (with_reducible refine C.out.mono ?_)
    rintro e w3 ⟨⟨kk, A3, n3, c3, A3', n3', c3', x, rfl⟩, b3⟩
    have HC3 := Lib.hid (HC1.out.below b3)
    generalize hwh : ((k + 1 + o : Nat) : Int) = wh
    have HWH := Lib.hid hwh
    clear b3 hwh
    obtain ⟨n0, n1, n2, m0, m1, m2⟩ := blk3 HC3.out.nb
    obtain ⟨r0, r1, r2, l0, l1, l2⟩ := blk3 HC3.out.rb
    go_wp2
    obtain ⟨W6, hW, hN, hP6, hb6, hk6, hz6⟩ := ysix HC3.out (.int .i64 kk) (.slice A3 n3 c3) (.slice A3' n3' c3') (.int .i64 x) (.int .i64 c) (.int .i64 wh)
    rw [← hW]
    clear hW n0 n1 n2 m0 m1 m2 r0 r1 r2 l0 l1 l2
    obtain ⟨n0, n1, n2, m0, m1, m2⟩ := blk3 hN
    obtain ⟨r0, r1, r2, l0, l1, l2⟩ := blk3 hP6
    refine bodyPost_ret (v := .tuple #[.agg #[.int .i64 kk, .slice A3 n3 c3, .slice A3' n3' c3'], .agg #[.int .i64 x, .int .i64 c, .int .i64 wh]]) (by simp [results, Try.results124, go_sem, n0, n1, n2, r0, r1, r2]) rfl ⟨⟨kk, A3, n3, c3, A3', n3', c3', x, by rw [← HWH.out, show k + 1 + o = k + (1 + o) by omega]⟩, hb6⟩
set_option maxHeartbeats 8000000 in
set_option maxRecDepth 100000 in
theorem yatom_digit (s : ByteArray) (k : Nat) (w : World) (hk : k < s.size) (hs : s.size ≤ 256) (h92 : byteAt s k = 92) (h1 : k + 1 < s.size) (h100 : byteAt s (k + 1) = 100) :
    Calls Try.prog 124 #[.string s, .agg #[.int .i64 (k : Nat), .int .i64 0, .int .i64 0]] w (YN w k (.ok (.mk 1 (rangesL [(48, 57)] false) []) 2)) := by
  have mixed : Try.prog.follows .mixedOrders = true := by kernel_rfl
  have hbt := byteAt_eq s k hk
  have q1 : IntKind.i64.wrap ((k : Int) + 1) = (k : Int) + 1 := IntWalk.i64_in _ (by omega)
  have HC1 := Lib.hid (show YCl w (((w.alloc (.cells #[.int .i64 ((k : Int) + 2), .int .i64 0, .int .i64 0] 142)).alloc (.cells #[.int .i64 0, .slice none 0 0, .slice none 0 0] 26)).alloc (.cells #[.int .i64 0, .int .i64 0, .int .i64 0] 142)) from ⟨(((Below.refl w.heap.size w).alloc (Nat.le_refl _) _).alloc (by simp) _).alloc (by simp; omega) _, by
      have h1 := Blk.new (w.alloc (.cells #[.int .i64 ((k : Int) + 2), .int .i64 0, .int .i64 0] 142)) 26 #[.int .i64 0, .slice none 0 0, .slice none 0 0]
      have h2 := h1.alloc (.cells #[.int .i64 0, .int .i64 0, .int .i64 0] 142)
      simpa using h2, by
      have h1 := Blk.new ((w.alloc (.cells #[.int .i64 ((k : Int) + 2), .int .i64 0, .int .i64 0] 142)).alloc (.cells #[.int .i64 0, .slice none 0 0, .slice none 0 0] 26)) 142 #[.int .i64 0, .int .i64 0, .int .i64 0]
      simpa using h1⟩)
  have HQ := Lib.hid (show Blk (((w.alloc (.cells #[.int .i64 ((k : Int) + 2), .int .i64 0, .int .i64 0] 142)).alloc (.cells #[.int .i64 0, .slice none 0 0, .slice none 0 0] 26)).alloc (.cells #[.int .i64 0, .int .i64 0, .int .i64 0] 142)).drew w.heap.size 142 #[.int .i64 ((k : Int) + 2), .int .i64 0, .int .i64 0] from by
      have h1 := ((Blk.new w 142 #[.int .i64 ((k : Int) + 2), .int .i64 0, .int .i64 0]).alloc (.cells #[.int .i64 0, .slice none 0 0, .slice none 0 0] 26)).alloc (.cells #[.int .i64 0, .int .i64 0, .int .i64 0] 142)
      exact h1.drew)
  have HC2 := Lib.hid (show YCl w ((((w.alloc (.cells #[.int .i64 ((k : Int) + 2), .int .i64 0, .int .i64 0] 142)).alloc (.cells #[.int .i64 0, .slice none 0 0, .slice none 0 0] 26)).alloc (.cells #[.int .i64 0, .int .i64 0, .int .i64 0] 142)).alloc (.cells #[.int .u8 48, .int .u8 57] 37)) from HC1.out.alloc _)
  have HQ2 := Lib.hid (show Blk ((((w.alloc (.cells #[.int .i64 ((k : Int) + 2), .int .i64 0, .int .i64 0] 142)).alloc (.cells #[.int .i64 0, .slice none 0 0, .slice none 0 0] 26)).alloc (.cells #[.int .i64 0, .int .i64 0, .int .i64 0] 142)).alloc (.cells #[.int .u8 48, .int .u8 57] 37)).drew w.heap.size 142 #[.int .i64 ((k : Int) + 2), .int .i64 0, .int .i64 0] from HQ.out.alloc _)
  have hrb : Blk ((((w.alloc (.cells #[.int .i64 ((k : Int) + 2), .int .i64 0, .int .i64 0] 142)).alloc (.cells #[.int .i64 0, .slice none 0 0, .slice none 0 0] 26)).alloc (.cells #[.int .i64 0, .int .i64 0, .int .i64 0] 142)).alloc (.cells #[.int .u8 48, .int .u8 57] 37)).drew (w.heap.size + 1 + 1 + 1) 37 #[.int .u8 48, .int .u8 57] := by
    have h := heap_alloc_new (((w.alloc (.cells #[.int .i64 ((k : Int) + 2), .int .i64 0, .int .i64 0] 142)).alloc (.cells #[.int .i64 0, .slice none 0 0, .slice none 0 0] 26)).alloc (.cells #[.int .i64 0, .int .i64 0, .int .i64 0] 142)).drew (.cells #[.int .u8 48, .int .u8 57] 37)
    rw [show (((w.alloc (.cells #[.int .i64 ((k : Int) + 2), .int .i64 0, .int .i64 0] 142)).alloc (.cells #[.int .i64 0, .slice none 0 0, .slice none 0 0] 26)).alloc (.cells #[.int .i64 0, .int .i64 0, .int .i64 0] 142)).drew.heap.size = w.heap.size + 1 + 1 + 1 by simp] at h
    exact h
  have C := Lib.hid (yset_any (some ⟨w.heap.size + 1 + 1 + 1, 0, none⟩) 1 1 [(48, 57)] false ((((w.alloc (.cells #[.int .i64 ((k : Int) + 2), .int .i64 0, .int .i64 0] 142)).alloc (.cells #[.int .i64 0, .slice none 0 0, .slice none 0 0] 26)).alloc (.cells #[.int .i64 0, .int .i64 0, .int .i64 0] 142)).alloc (.cells #[.int .u8 48, .int .u8 57] 37)).drew ⟨rfl, fun _ => ⟨w.heap.size + 1 + 1 + 1, 0, rfl, by simp, fun i r hr => by
    obtain ⟨p0, p1, _, _⟩ := blk2 hrb
    match i, hr with
    | 0, hr => simp at hr; subst hr; exact ⟨p0, p1⟩⟩⟩ (by decide))
  clear hrb
  have f40 : (((byteAt s k).toNat : Int) == 40) = false := by rw [h92]; rfl
  have f46 : (((byteAt s k).toNat : Int) == 46) = false := by rw [h92]; rfl
  have f91 : (((byteAt s k).toNat : Int) == 91) = false := by rw [h92]; rfl
  have f92 : (((byteAt s k).toNat : Int) == 92) = true := ybyte_true h92
  have g1 : (k : Int) + 1 < (s.size : Int) := by omega
  have g2 := byteAt_eq s (k + 1) h1
  have g3 : (((byteAt s (k + 1)).toNat : Int) == 100) = true := ybyte_true h100
  have ht : ((k : Int) + 1).toNat = k + 1 := by omega
  have q2 : IntKind.i64.wrap ((k : Int) + 2) = (k : Int) + 2 := IntWalk.i64_in _ (by omega)
  have HW := Lib.hid (show ((k : Int) + 2) = ((k + 2 : Nat) : Int) by omega)
  clear h92 h100
  go_enter Try.func124, Try.ntmps124
  go_wp2_with fail
  refine wp_region_held_drew (S := fun W => W.cell? ⟨w.heap.size, 0, none⟩ = some (.int .i64 ((k : Int) + 2)) ∧ W.cell? ⟨w.heap.size, 1, none⟩ = some (.int .i64 0) ∧ W.cell? ⟨w.heap.size, 2, none⟩ = some (.int .i64 0)) mixed ⟨HQ.out.cell 0, HQ.out.cell 1, HQ.out.cell 2⟩ (fun hS => ?_)
  refine wpAnyH_take (i := 0) (v := .agg #[.int .u8 48, .int .u8 57]) rfl (by kernel_rfl) (by kernel_rfl) (by kernel_rfl) (fun _ _ _ h => h) (Or.inl ⟨by rfl, fun W hW => by obtain ⟨h0, h1, h2⟩ := hW; go_simp⟩) hS ?_
  refine wpAnyH_take (i := 3) (v := .agg #[.int .i64 ((k : Int) + 2), .int .i64 0, .int .i64 0]) rfl (by kernel_rfl) (by kernel_rfl) (by kernel_rfl) (fun _ _ _ h => h) (Or.inl ⟨by rfl, fun W hW => by obtain ⟨h0, h1, h2⟩ := hW; go_simp⟩) hS ?_
  refine wpAnyH_ready (rs := [1]) (by kernel_rfl) (by simp) ?_
  refine AllReadyH.cons rfl (fun K hK => ?_) AllReadyH.nil
  go_simp
  clear hS
  refine hK.out _ _ ⟨HQ2.out.cell 0, HQ2.out.cell 1, HQ2.out.cell 2⟩ (fun hS => ?_)
  clear hK K
  refine wpAnyH_ready (rs := [2]) (by kernel_rfl) (by simp) ?_
  refine AllReadyH.cons rfl (fun K hK => ?_) AllReadyH.nil
  go_simp
  (with_reducible refine C.out.mono ?_)
  rintro e w3 ⟨⟨d3, kk, A3, n3, c3, A3', n3', c3', rfl, ht3⟩, b3⟩
  have HT := Lib.hid ht3
  have HC3 := Lib.hid (HC2.out.below (⟨b3.os, b3.tape, b3.output, b3.size, b3.block⟩ : Below ((((w.alloc (.cells #[.int .i64 ((k : Int) + 2), .int .i64 0, .int .i64 0] 142)).alloc (.cells #[.int .i64 0, .slice none 0 0, .slice none 0 0] 26)).alloc (.cells #[.int .i64 0, .int .i64 0, .int .i64 0] 142)).alloc (.cells #[.int .u8 48, .int .u8 57] 37)).heap.size ((((w.alloc (.cells #[.int .i64 ((k : Int) + 2), .int .i64 0, .int .i64 0] 142)).alloc (.cells #[.int .i64 0, .slice none 0 0, .slice none 0 0] 26)).alloc (.cells #[.int .i64 0, .int .i64 0, .int .i64 0] 142)).alloc (.cells #[.int .u8 48, .int .u8 57] 37)) w3))
  have HP3 := Lib.hid (HQ2.out.below b3 HQ2.out.lt)
  have hlo : w.heap.size + 1 + 1 < ((((w.alloc (.cells #[.int .i64 ((k : Int) + 2), .int .i64 0, .int .i64 0] 142)).alloc (.cells #[.int .i64 0, .slice none 0 0, .slice none 0 0] 26)).alloc (.cells #[.int .i64 0, .int .i64 0, .int .i64 0] 142)).alloc (.cells #[.int .u8 48, .int .u8 57] 37)).drew.heap.size := by simp
  clear ht3 b3
  clear hS
  refine hK.out _ _ ⟨HP3.out.cell 0, HP3.out.cell 1, HP3.out.cell 2⟩ (fun hS => ?_)
  clear hK K
  obtain ⟨n0, n1, n2, m0, m1, m2⟩ := blk3 HC3.out.nb
  refine wpAnyH_ready (rs := [4]) (by kernel_rfl) (by simp) ?_
  refine AllReadyH.cons rfl (fun K hK => ?_) AllReadyH.nil
  go_simp
  have HP4 := Lib.hid (((HP3.out.far (p := ⟨w.heap.size + 1, 0, none⟩) (by simp) (.int .i64 kk)).far (p := ⟨w.heap.size + 1, 1, none⟩) (by simp) (.slice A3 n3 c3)).far (p := ⟨w.heap.size + 1, 2, none⟩) (by simp) (.slice A3' n3' c3'))
  have HR4 := Lib.hid (((HC3.out.rb.far (p := ⟨w.heap.size + 1, 0, none⟩) (by simp) (.int .i64 kk)).far (p := ⟨w.heap.size + 1, 1, none⟩) (by simp) (.slice A3 n3 c3)).far (p := ⟨w.heap.size + 1, 2, none⟩) (by simp) (.slice A3' n3' c3'))
  clear hS
  refine hK.out _ _ ⟨HP4.out.cell 0, HP4.out.cell 1, HP4.out.cell 2⟩ (fun hS => ?_)
  clear hK K n0 n1 n2 m0 m1 m2
  obtain ⟨r0, r1, r2, l0, l1, l2⟩ := blk3 HR4.out
  refine wpAnyH_ready (rs := [5]) (by kernel_rfl) (by simp) ?_
  refine AllReadyH.cons rfl (fun K hK => ?_) AllReadyH.nil
  go_simp
  have HP5 := Lib.hid (((HP4.out.far (p := ⟨w.heap.size + 1 + 1, 0, none⟩) (by simp; omega) (.int .i64 ((k : Int) + 2))).far (p := ⟨w.heap.size + 1 + 1, 1, none⟩) (by simp; omega) (.int .i64 0)).far (p := ⟨w.heap.size + 1 + 1, 2, none⟩) (by simp; omega) (.int .i64 0))
  clear hS
  refine hK.out _ _ ⟨HP5.out.cell 0, HP5.out.cell 1, HP5.out.cell 2⟩ (fun hS => ?_)
  clear hK K r0 r1 r2 l0 l1 l2
  clear hS
  refine wpAnyH_done (by kernel_rfl) ?_ _
  go_wp2
  obtain ⟨W6, hW, hN, hP6, hb6, hk6, hz6⟩ := ysix HC3.out (.int .i64 kk) (.slice A3 n3 c3) (.slice A3' n3' c3') (.int .i64 ((k : Int) + 2)) (.int .i64 0) (.int .i64 0)
  rw [← hW]
  clear hW
  obtain ⟨n0, n1, n2, m0, m1, m2⟩ := blk3 hN
  obtain ⟨r0, r1, r2, l0, l1, l2⟩ := blk3 hP6
  refine bodyPost_ret (v := .tuple #[.agg #[.int .i64 kk, .slice A3 n3 c3, .slice A3' n3' c3'], .agg #[.int .i64 ((k : Int) + 2), .int .i64 0, .int .i64 0]]) (by simp [results, Try.results124, go_sem, n0, n1, n2, r0, r1, r2]) rfl ⟨d3, kk, A3, n3, c3, A3', n3', c3', by rw [HW.out], ?_, hb6⟩
  refine (HT.out.keep (w' := W6) fun b hb => hk6 b (by have := hb.1; omega) (by have := hb.1; omega)).mono fun b hb => ⟨?_, ?_⟩
  · have := hb.1; omega
  · rw [hz6]; exact hb.2
set_option maxHeartbeats 8000000 in
set_option maxRecDepth 100000 in
theorem yatom_escape (s : ByteArray) (k : Nat) (w : World) (hk : k < s.size) (hs : s.size ≤ 256) (h92 : byteAt s k = 92) (hd : ¬ (k + 1 < s.size ∧ byteAt s (k + 1) = 100)) :
    Calls Try.prog 124 #[.string s, .agg #[.int .i64 (k : Nat), .int .i64 0, .int .i64 0]] w (YN w k (match letterX (restL s k) with | .ok c n => Pr.ok (.mk 1 (rangesL [(c, c)] false) []) n | .err c o => .err c o)) := by
  have mixed : Try.prog.follows .mixedOrders = true := by kernel_rfl
  have hbt := byteAt_eq s k hk
  have q1 : IntKind.i64.wrap ((k : Int) + 1) = (k : Int) + 1 := IntWalk.i64_in _ (by omega)
  have HC1 := Lib.hid (show YCl w (((w.alloc (.cells #[.int .i64 (k : Nat), .int .i64 0, .int .i64 0] 142)).alloc (.cells #[.int .i64 0, .slice none 0 0, .slice none 0 0] 26)).alloc (.cells #[.int .i64 0, .int .i64 0, .int .i64 0] 142)) from ⟨(((Below.refl w.heap.size w).alloc (Nat.le_refl _) _).alloc (by simp) _).alloc (by simp; omega) _, by
      have h1 := Blk.new (w.alloc (.cells #[.int .i64 (k : Nat), .int .i64 0, .int .i64 0] 142)) 26 #[.int .i64 0, .slice none 0 0, .slice none 0 0]
      have h2 := h1.alloc (.cells #[.int .i64 0, .int .i64 0, .int .i64 0] 142)
      simpa using h2, by
      have h1 := Blk.new ((w.alloc (.cells #[.int .i64 (k : Nat), .int .i64 0, .int .i64 0] 142)).alloc (.cells #[.int .i64 0, .slice none 0 0, .slice none 0 0] 26)) 142 #[.int .i64 0, .int .i64 0, .int .i64 0]
      simpa using h1⟩)
  have HQ := Lib.hid (show Blk (((w.alloc (.cells #[.int .i64 (k : Nat), .int .i64 0, .int .i64 0] 142)).alloc (.cells #[.int .i64 0, .slice none 0 0, .slice none 0 0] 26)).alloc (.cells #[.int .i64 0, .int .i64 0, .int .i64 0] 142)).drew w.heap.size 142 #[.int .i64 (k : Nat), .int .i64 0, .int .i64 0] from by
      have h1 := ((Blk.new w 142 #[.int .i64 (k : Nat), .int .i64 0, .int .i64 0]).alloc (.cells #[.int .i64 0, .slice none 0 0, .slice none 0 0] 26)).alloc (.cells #[.int .i64 0, .int .i64 0, .int .i64 0] 142)
      exact h1.drew)
  have f40 : (((byteAt s k).toNat : Int) == 40) = false := by rw [h92]; rfl
  have f46 : (((byteAt s k).toNat : Int) == 46) = false := by rw [h92]; rfl
  have f91 : (((byteAt s k).toNat : Int) == 91) = false := by rw [h92]; rfl
  have f92 : (((byteAt s k).toNat : Int) == 92) = true := ybyte_true h92
  have ht : ((k : Int) + 1).toNat = k + 1 := by omega
  have hways : (¬ ((k : Int) + 1 < (s.size : Int))) ∨ (∃ h : k + 1 < s.size, ((k : Int) + 1 < (s.size : Int)) ∧ s[k + 1] = byteAt s (k + 1) ∧ (((byteAt s (k + 1)).toNat : Int) == 100) = false) := by
    by_cases h : k + 1 < s.size
    · exact Or.inr ⟨h, by omega, byteAt_eq s (k + 1) h, ybyte_false fun e => hd ⟨h, e⟩⟩
    · exact Or.inl (by omega)
  have hC := yescape_any s k (((w.alloc (.cells #[.int .i64 (k : Nat), .int .i64 0, .int .i64 0] 142)).alloc (.cells #[.int .i64 0, .slice none 0 0, .slice none 0 0] 26)).alloc (.cells #[.int .i64 0, .int .i64 0, .int .i64 0] 142)) hk hs h92
  clear h92 hd
  cases hR : letterX (restL s k) with
  | ok c n =>
    rw [hR] at hC
    have C := Lib.hid hC
    clear hC hR
    show Calls _ _ _ _ (YN w k (.ok (.mk 1 (rangesL [(c, c)] false) []) n))
    rcases hways with g1 | ⟨g0, g1, g2, g3⟩
    all_goals
      go_enter Try.func124, Try.ntmps124
      go_wp2_with fail
      (with_reducible refine C.out.mono ?_)
      rintro e w3 ⟨rfl, b3⟩
      generalize hwh : ((k + n : Nat) : Int) = wh
      have HWH := Lib.hid hwh
      clear hwh
      have HC3 := Lib.hid (HC1.out.below b3)
      have hs3 : w.heap.size + 1 + 1 < w3.heap.size := HC3.out.rb.lt
      have HC4 := Lib.hid (HC3.out.alloc (.cells #[.int .i64 wh, .int .i64 0, .int .i64 0] 142))
      have HQ4 := Lib.hid (show Blk (w3.alloc (.cells #[.int .i64 wh, .int .i64 0, .int .i64 0] 142)).drew w3.heap.size 142 #[.int .i64 wh, .int .i64 0, .int .i64 0] from (Blk.new w3 _ _).drew)
      have C2 := Lib.hid (yone_any c (w3.alloc (.cells #[.int .i64 wh, .int .i64 0, .int .i64 0] 142)).drew)
      clear b3
      obtain ⟨n0, n1, n2, m0, m1, m2⟩ := blk3 HC3.out.nb
      obtain ⟨r0, r1, r2, l0, l1, l2⟩ := blk3 HC3.out.rb
      go_wp2_with fail
      refine wp_region_held_drew (S := fun W => W.cell? ⟨w3.heap.size, 0, none⟩ = some (.int .i64 wh) ∧ W.cell? ⟨w3.heap.size, 1, none⟩ = some (.int .i64 0) ∧ W.cell? ⟨w3.heap.size, 2, none⟩ = some (.int .i64 0)) mixed ⟨HQ4.out.cell 0, HQ4.out.cell 1, HQ4.out.cell 2⟩ (fun hS => ?_)
      refine wpAnyH_take (i := 0) (v := .int .u8 (c.toNat : Nat)) rfl (by kernel_rfl) (by kernel_rfl) (by kernel_rfl) (fun _ _ _ h => h) (Or.inl ⟨by rfl, fun W hW => by obtain ⟨h0, h1, h2⟩ := hW; go_simp⟩) hS ?_
      refine wpAnyH_take (i := 2) (v := .agg #[.int .i64 wh, .int .i64 0, .int .i64 0]) rfl (by kernel_rfl) (by kernel_rfl) (by kernel_rfl) (fun _ _ _ h => h) (Or.inl ⟨by rfl, fun W hW => by obtain ⟨h0, h1, h2⟩ := hW; go_simp⟩) hS ?_
      refine wpAnyH_ready (rs := [1]) (by kernel_rfl) (by simp) ?_
      refine AllReadyH.cons rfl (fun K hK => ?_) AllReadyH.nil
      go_simp
      (with_reducible refine C2.out.mono ?_)
      rintro e w5 ⟨⟨d3, kk, A3, n3, c3, A3', n3', c3', rfl, ht3⟩, b5⟩
      have HT := Lib.hid ht3
      have HC5 := Lib.hid (HC4.out.below (⟨b5.os, b5.tape, b5.output, b5.size, b5.block⟩ : Below (w3.alloc (.cells #[.int .i64 wh, .int .i64 0, .int .i64 0] 142)).heap.size (w3.alloc (.cells #[.int .i64 wh, .int .i64 0, .int .i64 0] 142)) w5))
      have HP3 := Lib.hid (HQ4.out.below b5 HQ4.out.lt)
      clear ht3 b5
      clear hS
      refine hK.out _ _ ⟨HP3.out.cell 0, HP3.out.cell 1, HP3.out.cell 2⟩ (fun hS => ?_)
      clear hK K n0 n1 n2 m0 m1 m2 r0 r1 r2 l0 l1 l2
      obtain ⟨n0, n1, n2, m0, m1, m2⟩ := blk3 HC5.out.nb
      refine wpAnyH_ready (rs := [3]) (by kernel_rfl) (by simp) ?_
      refine AllReadyH.cons rfl (fun K hK => ?_) AllReadyH.nil
      go_simp
      have HP4 := Lib.hid (((HP3.out.far (p := ⟨w.heap.size + 1, 0, none⟩) (by simp only; omega) (.int .i64 kk)).far (p := ⟨w.heap.size + 1, 1, none⟩) (by simp only; omega) (.slice A3 n3 c3)).far (p := ⟨w.heap.size + 1, 2, none⟩) (by simp only; omega) (.slice A3' n3' c3'))
      have HR4 := Lib.hid (((HC5.out.rb.far (p := ⟨w.heap.size + 1, 0, none⟩) (by simp) (.int .i64 kk)).far (p := ⟨w.heap.size + 1, 1, none⟩) (by simp) (.slice A3 n3 c3)).far (p := ⟨w.heap.size + 1, 2, none⟩) (by simp) (.slice A3' n3' c3'))
      clear hS
      refine hK.out _ _ ⟨HP4.out.cell 0, HP4.out.cell 1, HP4.out.cell 2⟩ (fun hS => ?_)
      clear hK K n0 n1 n2 m0 m1 m2
      obtain ⟨r0, r1, r2, l0, l1, l2⟩ := blk3 HR4.out
      refine wpAnyH_ready (rs := [4]) (by kernel_rfl) (by simp) ?_
      refine AllReadyH.cons rfl (fun K hK => ?_) AllReadyH.nil
      go_simp
      have HP5 := Lib.hid (((HP4.out.far (p := ⟨w.heap.size + 1 + 1, 0, none⟩) (by simp only; omega) (.int .i64 wh)).far (p := ⟨w.heap.size + 1 + 1, 1, none⟩) (by simp only; omega) (.int .i64 0)).far (p := ⟨w.heap.size + 1 + 1, 2, none⟩) (by simp only; omega) (.int .i64 0))
      clear hS
      refine hK.out _ _ ⟨HP5.out.cell 0, HP5.out.cell 1, HP5.out.cell 2⟩ (fun hS => ?_)
      clear hK K r0 r1 r2 l0 l1 l2
      clear hS
      refine wpAnyH_done (by kernel_rfl) ?_ _
      go_wp2
      obtain ⟨W6, hW, hN, hP6, hb6, hk6, hz6⟩ := ysix HC5.out (.int .i64 kk) (.slice A3 n3 c3) (.slice A3' n3' c3') (.int .i64 wh) (.int .i64 0) (.int .i64 0)
      rw [← hW]
      clear hW
      obtain ⟨n0, n1, n2, m0, m1, m2⟩ := blk3 hN
      obtain ⟨r0, r1, r2, l0, l1, l2⟩ := blk3 hP6
      refine bodyPost_ret (v := .tuple #[.agg #[.int .i64 kk, .slice A3 n3 c3, .slice A3' n3' c3'], .agg #[.int .i64 wh, .int .i64 0, .int .i64 0]]) (by simp [results, Try.results124, go_sem, n0, n1, n2, r0, r1, r2]) rfl ⟨d3, kk, A3, n3, c3, A3', n3', c3', by rw [← HWH.out], ?_, hb6⟩
      refine (HT.out.keep (w' := W6) fun b hb => hk6 b (by have := hb.1; simp at this; omega) (by have := hb.1; simp at this; omega)).mono fun b hb => ⟨?_, ?_⟩
      · have := hb.1; simp at this; omega
      · rw [hz6]; exact hb.2
  | err c o =>
    rw [hR] at hC
    have C := Lib.hid hC
    clear hC hR
    show Calls _ _ _ _ (YN w k (.err c o))
    rcases hways with g1 | ⟨g0, g1, g2, g3⟩
    all_goals
      go_enter Try.func124, Try.ntmps124
      go_wp2_with fail
      (with_reducible refine C.out.mono ?_)
      rintro e w3 ⟨⟨x, rfl⟩, b3⟩
      generalize hwh : ((k + o : Nat) : Int) = wh
      have HWH := Lib.hid hwh
      clear hwh
      have HC3 := Lib.hid (HC1.out.below b3)
      have hs3 : w.heap.size + 1 + 1 < w3.heap.size := HC3.out.rb.lt
      have HC4 := Lib.hid (HC3.out.alloc (.cells #[.int .i64 x, .int .i64 c, .int .i64 wh] 142))
      have HQ4 := Lib.hid (show Blk (w3.alloc (.cells #[.int .i64 x, .int .i64 c, .int .i64 wh] 142)).drew w3.heap.size 142 #[.int .i64 x, .int .i64 c, .int .i64 wh] from (Blk.new w3 _ _).drew)
      have C2 := Lib.hid (show Calls Try.prog 143 #[.int .u8 0] (w3.alloc (.cells #[.int .i64 x, .int .i64 c, .int .i64 wh] 142)).drew _ from yone_any 0 _)
      clear b3
      obtain ⟨n0, n1, n2, m0, m1, m2⟩ := blk3 HC3.out.nb
      obtain ⟨r0, r1, r2, l0, l1, l2⟩ := blk3 HC3.out.rb
      go_wp2_with fail
      refine wp_region_held_drew (S := fun W => W.cell? ⟨w3.heap.size, 0, none⟩ = some (.int .i64 x) ∧ W.cell? ⟨w3.heap.size, 1, none⟩ = some (.int .i64 c) ∧ W.cell? ⟨w3.heap.size, 2, none⟩ = some (.int .i64 wh)) mixed ⟨HQ4.out.cell 0, HQ4.out.cell 1, HQ4.out.cell 2⟩ (fun hS => ?_)
      refine wpAnyH_take (i := 0) (v := .int .u8 0) rfl (by kernel_rfl) (by kernel_rfl) (by kernel_rfl) (fun _ _ _ h => h) (Or.inl ⟨by rfl, fun W hW => by obtain ⟨h0, h1, h2⟩ := hW; go_simp⟩) hS ?_
      refine wpAnyH_take (i := 2) (v := .agg #[.int .i64 x, .int .i64 c, .int .i64 wh]) rfl (by kernel_rfl) (by kernel_rfl) (by kernel_rfl) (fun _ _ _ h => h) (Or.inl ⟨by rfl, fun W hW => by obtain ⟨h0, h1, h2⟩ := hW; go_simp⟩) hS ?_
      refine wpAnyH_ready (rs := [1]) (by kernel_rfl) (by simp) ?_
      refine AllReadyH.cons rfl (fun K hK => ?_) AllReadyH.nil
      go_simp
      (with_reducible refine C2.out.mono ?_)
      rintro e w5 ⟨⟨d3, kk, A3, n3, c3, A3', n3', c3', rfl, ht3⟩, b5⟩
      have HT := Lib.hid ht3
      have HC5 := Lib.hid (HC4.out.below (⟨b5.os, b5.tape, b5.output, b5.size, b5.block⟩ : Below (w3.alloc (.cells #[.int .i64 x, .int .i64 c, .int .i64 wh] 142)).heap.size (w3.alloc (.cells #[.int .i64 x, .int .i64 c, .int .i64 wh] 142)) w5))
      have HP3 := Lib.hid (HQ4.out.below b5 HQ4.out.lt)
      clear ht3 b5
      clear hS
      refine hK.out _ _ ⟨HP3.out.cell 0, HP3.out.cell 1, HP3.out.cell 2⟩ (fun hS => ?_)
      clear hK K n0 n1 n2 m0 m1 m2 r0 r1 r2 l0 l1 l2
      obtain ⟨n0, n1, n2, m0, m1, m2⟩ := blk3 HC5.out.nb
      refine wpAnyH_ready (rs := [3]) (by kernel_rfl) (by simp) ?_
      refine AllReadyH.cons rfl (fun K hK => ?_) AllReadyH.nil
      go_simp
      have HP4 := Lib.hid (((HP3.out.far (p := ⟨w.heap.size + 1, 0, none⟩) (by simp only; omega) (.int .i64 kk)).far (p := ⟨w.heap.size + 1, 1, none⟩) (by simp only; omega) (.slice A3 n3 c3)).far (p := ⟨w.heap.size + 1, 2, none⟩) (by simp only; omega) (.slice A3' n3' c3'))
      have HR4 := Lib.hid (((HC5.out.rb.far (p := ⟨w.heap.size + 1, 0, none⟩) (by simp) (.int .i64 kk)).far (p := ⟨w.heap.size + 1, 1, none⟩) (by simp) (.slice A3 n3 c3)).far (p := ⟨w.heap.size + 1, 2, none⟩) (by simp) (.slice A3' n3' c3'))
      clear hS
      refine hK.out _ _ ⟨HP4.out.cell 0, HP4.out.cell 1, HP4.out.cell 2⟩ (fun hS => ?_)
      clear hK K n0 n1 n2 m0 m1 m2
      obtain ⟨r0, r1, r2, l0, l1, l2⟩ := blk3 HR4.out
      refine wpAnyH_ready (rs := [4]) (by kernel_rfl) (by simp) ?_
      refine AllReadyH.cons rfl (fun K hK => ?_) AllReadyH.nil
      go_simp
      have HP5 := Lib.hid (((HP4.out.far (p := ⟨w.heap.size + 1 + 1, 0, none⟩) (by simp only; omega) (.int .i64 x)).far (p := ⟨w.heap.size + 1 + 1, 1, none⟩) (by simp only; omega) (.int .i64 c)).far (p := ⟨w.heap.size + 1 + 1, 2, none⟩) (by simp only; omega) (.int .i64 wh))
      clear hS
      refine hK.out _ _ ⟨HP5.out.cell 0, HP5.out.cell 1, HP5.out.cell 2⟩ (fun hS => ?_)
      clear hK K r0 r1 r2 l0 l1 l2
      clear hS
      refine wpAnyH_done (by kernel_rfl) ?_ _
      go_wp2
      obtain ⟨W6, hW, hN, hP6, hb6, hk6, hz6⟩ := ysix HC5.out (.int .i64 kk) (.slice A3 n3 c3) (.slice A3' n3' c3') (.int .i64 x) (.int .i64 c) (.int .i64 wh)
      rw [← hW]
      clear hW
      obtain ⟨n0, n1, n2, m0, m1, m2⟩ := blk3 hN
      obtain ⟨r0, r1, r2, l0, l1, l2⟩ := blk3 hP6
      refine bodyPost_ret (v := .tuple #[.agg #[.int .i64 kk, .slice A3 n3 c3, .slice A3' n3' c3'], .agg #[.int .i64 x, .int .i64 c, .int .i64 wh]]) (by simp [results, Try.results124, go_sem, n0, n1, n2, r0, r1, r2]) rfl ⟨⟨kk, A3, n3, c3, A3', n3', c3', x, by rw [← HWH.out]⟩, hb6⟩
set_option maxHeartbeats 8000000 in
set_option maxRecDepth 100000 in
theorem yatom_grpErr (s : ByteArray) (k : Nat) (w : World) (hk : k < s.size) (hs : s.size ≤ 256) (h40 : byteAt s k = 40) {c : Int} {o : Nat} (hA : ∀ W, Calls Try.prog 68 #[.string s, .agg #[.int .i64 (k + 1 : Nat), .int .i64 0, .int .i64 0]] W (YN W (k + 1) (.err c o))) (hc : c ≠ 0) :
    Calls Try.prog 124 #[.string s, .agg #[.int .i64 (k : Nat), .int .i64 0, .int .i64 0]] w (YN w k (.err c (1 + o))) := by
  have mixed : Try.prog.follows .mixedOrders = true := by kernel_rfl
  have hbt := byteAt_eq s k hk
  have q1 : IntKind.i64.wrap ((k : Int) + 1) = (k : Int) + 1 := IntWalk.i64_in _ (by omega)
  have HC1 := Lib.hid (show YCl w (((w.alloc (.cells #[.int .i64 ((k : Int) + 1), .int .i64 0, .int .i64 0] 142)).alloc (.cells #[.int .i64 0, .slice none 0 0, .slice none 0 0] 26)).alloc (.cells #[.int .i64 0, .int .i64 0, .int .i64 0] 142)) from ⟨(((Below.refl w.heap.size w).alloc (Nat.le_refl _) _).alloc (by simp) _).alloc (by simp; omega) _, by
      have h1 := Blk.new (w.alloc (.cells #[.int .i64 ((k : Int) + 1), .int .i64 0, .int .i64 0] 142)) 26 #[.int .i64 0, .slice none 0 0, .slice none 0 0]
      have h2 := h1.alloc (.cells #[.int .i64 0, .int .i64 0, .int .i64 0] 142)
      simpa using h2, by
      have h1 := Blk.new ((w.alloc (.cells #[.int .i64 ((k : Int) + 1), .int .i64 0, .int .i64 0] 142)).alloc (.cells #[.int .i64 0, .slice none 0 0, .slice none 0 0] 26)) 142 #[.int .i64 0, .int .i64 0, .int .i64 0]
      simpa using h1⟩)
  have HQ := Lib.hid (show Blk (((w.alloc (.cells #[.int .i64 ((k : Int) + 1), .int .i64 0, .int .i64 0] 142)).alloc (.cells #[.int .i64 0, .slice none 0 0, .slice none 0 0] 26)).alloc (.cells #[.int .i64 0, .int .i64 0, .int .i64 0] 142)).drew w.heap.size 142 #[.int .i64 ((k : Int) + 1), .int .i64 0, .int .i64 0] from by
      have h1 := ((Blk.new w 142 #[.int .i64 ((k : Int) + 1), .int .i64 0, .int .i64 0]).alloc (.cells #[.int .i64 0, .slice none 0 0, .slice none 0 0] 26)).alloc (.cells #[.int .i64 0, .int .i64 0, .int .i64 0] 142)
      exact h1.drew)
  have f40 : (((byteAt s k).toNat : Int) == 40) = true := ybyte_true h40
  have hc1 : ((k + 1 : Nat) : Int) = (k : Int) + 1 := by omega
  have C := Lib.hid (show Calls Try.prog 68 #[.string s, .agg #[.int .i64 ((k : Int) + 1), .int .i64 0, .int .i64 0]] (((w.alloc (.cells #[.int .i64 ((k : Int) + 1), .int .i64 0, .int .i64 0] 142)).alloc (.cells #[.int .i64 0, .slice none 0 0, .slice none 0 0] 26)).alloc (.cells #[.int .i64 0, .int .i64 0, .int .i64 0] 142)) (YN (((w.alloc (.cells #[.int .i64 ((k : Int) + 1), .int .i64 0, .int .i64 0] 142)).alloc (.cells #[.int .i64 0, .slice none 0 0, .slice none 0 0] 26)).alloc (.cells #[.int .i64 0, .int .i64 0, .int .i64 0] 142)) (k + 1) (.err c o)) by
    rw [← hc1]; exact hA _)
  clear h40 hc1 hA
  have hcf : (c != 0) = true := by simpa using hc
  go_enter Try.func124, Try.ntmps124
  go_wp2_with fail
  (with_reducible refine C.out.mono ?_)
  rintro e w3 ⟨⟨kk, A3, n3, c3, A3', n3', c3', x, rfl⟩, b3⟩
  generalize hwh : ((k + 1 + o : Nat) : Int) = wh
  have HWH := Lib.hid hwh
  clear hwh
  have HC3 := Lib.hid (HC1.out.below b3)
  have hs3 : w.heap.size + 1 + 1 < w3.heap.size := HC3.out.rb.lt
  have HC4 := Lib.hid ((HC3.out.alloc (.cells #[.int .i64 kk, .slice A3 n3 c3, .slice A3' n3' c3'] 26)).alloc (.cells #[.int .i64 x, .int .i64 c, .int .i64 wh] 142))
  clear b3
  obtain ⟨n0, n1, n2, m0, m1, m2⟩ := blk3 HC4.out.nb
  obtain ⟨r0, r1, r2, l0, l1, l2⟩ := blk3 HC4.out.rb
  go_wp2
  go_region
  go_wp2
  obtain ⟨W6, hW, hN, hP6, hb6, hk6, hz6⟩ := ysix HC4.out (.int .i64 kk) (.slice A3 n3 c3) (.slice A3' n3' c3') (.int .i64 x) (.int .i64 c) (.int .i64 wh)
  rw [← hW]
  clear hW n0 n1 n2 m0 m1 m2 r0 r1 r2 l0 l1 l2
  obtain ⟨n0, n1, n2, m0, m1, m2⟩ := blk3 hN
  obtain ⟨r0, r1, r2, l0, l1, l2⟩ := blk3 hP6
  refine bodyPost_ret (v := .tuple #[.agg #[.int .i64 kk, .slice A3 n3 c3, .slice A3' n3' c3'], .agg #[.int .i64 x, .int .i64 c, .int .i64 wh]]) (by simp [results, Try.results124, go_sem, n0, n1, n2, r0, r1, r2]) rfl ⟨⟨kk, A3, n3, c3, A3', n3', c3', x, by rw [← HWH.out, show k + 1 + o = k + (1 + o) by omega]⟩, hb6.drew⟩
set_option maxHeartbeats 8000000 in
set_option maxRecDepth 100000 in
theorem yatom_grpOk (s : ByteArray) (k : Nat) (w : World) (hk : k < s.size) (hs : s.size ≤ 256) (h40 : byteAt s k = 40) {t : Tr} {n : Nat} (hA : ∀ W, Calls Try.prog 68 #[.string s, .agg #[.int .i64 (k + 1 : Nat), .int .i64 0, .int .i64 0]] W (YN W (k + 1) (.ok t n))) (hn : k + 1 + n < s.size) :
    Calls Try.prog 124 #[.string s, .agg #[.int .i64 (k : Nat), .int .i64 0, .int .i64 0]] w (YN w k (.ok t (1 + (n + 1)))) := by
  have mixed : Try.prog.follows .mixedOrders = true := by kernel_rfl
  have hbt := byteAt_eq s k hk
  have q1 : IntKind.i64.wrap ((k : Int) + 1) = (k : Int) + 1 := IntWalk.i64_in _ (by omega)
  have HC1 := Lib.hid (show YCl w (((w.alloc (.cells #[.int .i64 ((k : Int) + 1), .int .i64 0, .int .i64 0] 142)).alloc (.cells #[.int .i64 0, .slice none 0 0, .slice none 0 0] 26)).alloc (.cells #[.int .i64 0, .int .i64 0, .int .i64 0] 142)) from ⟨(((Below.refl w.heap.size w).alloc (Nat.le_refl _) _).alloc (by simp) _).alloc (by simp; omega) _, by
      have h1 := Blk.new (w.alloc (.cells #[.int .i64 ((k : Int) + 1), .int .i64 0, .int .i64 0] 142)) 26 #[.int .i64 0, .slice none 0 0, .slice none 0 0]
      have h2 := h1.alloc (.cells #[.int .i64 0, .int .i64 0, .int .i64 0] 142)
      simpa using h2, by
      have h1 := Blk.new ((w.alloc (.cells #[.int .i64 ((k : Int) + 1), .int .i64 0, .int .i64 0] 142)).alloc (.cells #[.int .i64 0, .slice none 0 0, .slice none 0 0] 26)) 142 #[.int .i64 0, .int .i64 0, .int .i64 0]
      simpa using h1⟩)
  have HQ := Lib.hid (show Blk (((w.alloc (.cells #[.int .i64 ((k : Int) + 1), .int .i64 0, .int .i64 0] 142)).alloc (.cells #[.int .i64 0, .slice none 0 0, .slice none 0 0] 26)).alloc (.cells #[.int .i64 0, .int .i64 0, .int .i64 0] 142)).drew w.heap.size 142 #[.int .i64 ((k : Int) + 1), .int .i64 0, .int .i64 0] from by
      have h1 := ((Blk.new w 142 #[.int .i64 ((k : Int) + 1), .int .i64 0, .int .i64 0]).alloc (.cells #[.int .i64 0, .slice none 0 0, .slice none 0 0] 26)).alloc (.cells #[.int .i64 0, .int .i64 0, .int .i64 0] 142)
      exact h1.drew)
  have f40 : (((byteAt s k).toNat : Int) == 40) = true := ybyte_true h40
  have hc1 : ((k + 1 : Nat) : Int) = (k : Int) + 1 := by omega
  have C := Lib.hid (show Calls Try.prog 68 #[.string s, .agg #[.int .i64 ((k : Int) + 1), .int .i64 0, .int .i64 0]] (((w.alloc (.cells #[.int .i64 ((k : Int) + 1), .int .i64 0, .int .i64 0] 142)).alloc (.cells #[.int .i64 0, .slice none 0 0, .slice none 0 0] 26)).alloc (.cells #[.int .i64 0, .int .i64 0, .int .i64 0] 142)) (YN (((w.alloc (.cells #[.int .i64 ((k : Int) + 1), .int .i64 0, .int .i64 0] 142)).alloc (.cells #[.int .i64 0, .slice none 0 0, .slice none 0 0] 26)).alloc (.cells #[.int .i64 0, .int .i64 0, .int .i64 0] 142)) (k + 1) (.ok t n)) by
    rw [← hc1]; exact hA _)
  clear h40 hc1 hA
  go_enter Try.func124, Try.ntmps124
  go_wp2_with fail
  (with_reducible refine C.out.mono ?_)
  rintro e w3 ⟨d3, kk, A3, n3, c3, A3', n3', c3', rfl, ht3, b3⟩
  have HT := Lib.hid ht3
  generalize hwh : ((k + 1 + n : Nat) : Int) = wh
  have HWH := Lib.hid hwh
  have hlt : wh < (s.size : Int) := by rw [← hwh]; omega
  have qw : IntKind.i64.wrap (wh + 1) = wh + 1 := IntWalk.i64_in _ (by rw [← hwh]; omega)
  have HPL := Lib.hid (show wh + 1 = ((k + (1 + (n + 1)) : Nat) : Int) by rw [← hwh]; omega)
  clear hwh ht3
  have HC3 := Lib.hid (HC1.out.below b3)
  have hs3 : w.heap.size + 1 + 1 < w3.heap.size := HC3.out.rb.lt
  have HC4 := Lib.hid ((HC3.out.alloc (.cells #[.int .i64 kk, .slice A3 n3 c3, .slice A3' n3' c3'] 26)).alloc (.cells #[.int .i64 (wh + 1), .int .i64 0, .int .i64 0] 142))
  clear b3
  obtain ⟨n0, n1, n2, m0, m1, m2⟩ := blk3 HC4.out.nb
  obtain ⟨r0, r1, r2, l0, l1, l2⟩ := blk3 HC4.out.rb
  go_wp2
  go_region
  go_wp2
  obtain ⟨W6, hW, hN, hP6, hb6, hk6, hz6⟩ := ysix HC4.out (.int .i64 kk) (.slice A3 n3 c3) (.slice A3' n3' c3') (.int .i64 (wh + 1)) (.int .i64 0) (.int .i64 0)
  rw [← hW]
  clear hW n0 n1 n2 m0 m1 m2 r0 r1 r2 l0 l1 l2
  obtain ⟨n0, n1, n2, m0, m1, m2⟩ := blk3 hN
  obtain ⟨r0, r1, r2, l0, l1, l2⟩ := blk3 hP6
  refine bodyPost_ret (v := .tuple #[.agg #[.int .i64 kk, .slice A3 n3 c3, .slice A3' n3' c3'], .agg #[.int .i64 (wh + 1), .int .i64 0, .int .i64 0]]) (by simp [results, Try.results124, go_sem, n0, n1, n2, r0, r1, r2]) rfl ⟨d3, kk, A3, n3, c3, A3', n3', c3', by rw [HPL.out], ?_, hb6.drew⟩
  refine (HT.out.keep (w' := W6.drew) fun b hb => (hk6 b (by have := hb.1; simp at this; omega) (by have := hb.1; simp at this; omega)).trans ((Below.heap_alloc _ _ b (by have := hb.2; simp; omega)).trans (Below.heap_alloc _ _ b hb.2))).mono fun b hb => ⟨?_, ?_⟩
  · have := hb.1; simp at this; omega
  · show b < W6.heap.size; rw [hz6]; have := hb.2; simp; omega
set_option maxHeartbeats 8000000 in
set_option maxRecDepth 100000 in
theorem yatom_grpEnd (s : ByteArray) (k : Nat) (w : World) (hk : k < s.size) (hs : s.size ≤ 256) (h40 : byteAt s k = 40) {t : Tr} {n : Nat} (hA : ∀ W, Calls Try.prog 68 #[.string s, .agg #[.int .i64 (k + 1 : Nat), .int .i64 0, .int .i64 0]] W (YN W (k + 1) (.ok t n))) (hn : k + 1 + n = s.size) :
    Calls Try.prog 124 #[.string s, .agg #[.int .i64 (k : Nat), .int .i64 0, .int .i64 0]] w (YN w k (.err 31 (1 + n))) := by
  have mixed : Try.prog.follows .mixedOrders = true := by kernel_rfl
  have hbt := byteAt_eq s k hk
  have q1 : IntKind.i64.wrap ((k : Int) + 1) = (k : Int) + 1 := IntWalk.i64_in _ (by omega)
  have HC1 := Lib.hid (show YCl w (((w.alloc (.cells #[.int .i64 ((k : Int) + 1), .int .i64 0, .int .i64 0] 142)).alloc (.cells #[.int .i64 0, .slice none 0 0, .slice none 0 0] 26)).alloc (.cells #[.int .i64 0, .int .i64 0, .int .i64 0] 142)) from ⟨(((Below.refl w.heap.size w).alloc (Nat.le_refl _) _).alloc (by simp) _).alloc (by simp; omega) _, by
      have h1 := Blk.new (w.alloc (.cells #[.int .i64 ((k : Int) + 1), .int .i64 0, .int .i64 0] 142)) 26 #[.int .i64 0, .slice none 0 0, .slice none 0 0]
      have h2 := h1.alloc (.cells #[.int .i64 0, .int .i64 0, .int .i64 0] 142)
      simpa using h2, by
      have h1 := Blk.new ((w.alloc (.cells #[.int .i64 ((k : Int) + 1), .int .i64 0, .int .i64 0] 142)).alloc (.cells #[.int .i64 0, .slice none 0 0, .slice none 0 0] 26)) 142 #[.int .i64 0, .int .i64 0, .int .i64 0]
      simpa using h1⟩)
  have HQ := Lib.hid (show Blk (((w.alloc (.cells #[.int .i64 ((k : Int) + 1), .int .i64 0, .int .i64 0] 142)).alloc (.cells #[.int .i64 0, .slice none 0 0, .slice none 0 0] 26)).alloc (.cells #[.int .i64 0, .int .i64 0, .int .i64 0] 142)).drew w.heap.size 142 #[.int .i64 ((k : Int) + 1), .int .i64 0, .int .i64 0] from by
      have h1 := ((Blk.new w 142 #[.int .i64 ((k : Int) + 1), .int .i64 0, .int .i64 0]).alloc (.cells #[.int .i64 0, .slice none 0 0, .slice none 0 0] 26)).alloc (.cells #[.int .i64 0, .int .i64 0, .int .i64 0] 142)
      exact h1.drew)
  have f40 : (((byteAt s k).toNat : Int) == 40) = true := ybyte_true h40
  have hc1 : ((k + 1 : Nat) : Int) = (k : Int) + 1 := by omega
  have C := Lib.hid (show Calls Try.prog 68 #[.string s, .agg #[.int .i64 ((k : Int) + 1), .int .i64 0, .int .i64 0]] (((w.alloc (.cells #[.int .i64 ((k : Int) + 1), .int .i64 0, .int .i64 0] 142)).alloc (.cells #[.int .i64 0, .slice none 0 0, .slice none 0 0] 26)).alloc (.cells #[.int .i64 0, .int .i64 0, .int .i64 0] 142)) (YN (((w.alloc (.cells #[.int .i64 ((k : Int) + 1), .int .i64 0, .int .i64 0] 142)).alloc (.cells #[.int .i64 0, .slice none 0 0, .slice none 0 0] 26)).alloc (.cells #[.int .i64 0, .int .i64 0, .int .i64 0] 142)) (k + 1) (.ok t n)) by
    rw [← hc1]; exact hA _)
  clear h40 hc1 hA
  go_enter Try.func124, Try.ntmps124
  go_wp2_with fail
  (with_reducible refine C.out.mono ?_)
  rintro e w3 ⟨d3, kk, A3, n3, c3, A3', n3', c3', rfl, ht3, b3⟩
  have HT := Lib.hid ht3
  generalize hwh : ((k + 1 + n : Nat) : Int) = wh
  have HWH := Lib.hid hwh
  have hge : (s.size : Int) ≤ wh := by rw [← hwh]; omega
  have HPL := Lib.hid (show (s.size : Int) = ((k + (1 + n) : Nat) : Int) by omega)
  clear hwh ht3 hn
  have HC3 := Lib.hid (HC1.out.below b3)
  have hs3 : w.heap.size + 1 + 1 < w3.heap.size := HC3.out.rb.lt
  have HC4 := Lib.hid ((HC3.out.alloc (.cells #[.int .i64 kk, .slice A3 n3 c3, .slice A3' n3' c3'] 26)).alloc (.cells #[.int .i64 wh, .int .i64 0, .int .i64 0] 142))
  clear b3
  have HNB := Lib.hid (show Blk ((w3.alloc (.cells #[.int .i64 kk, .slice A3 n3 c3, .slice A3' n3' c3'] 26)).alloc (.cells #[.int .i64 wh, .int .i64 0, .int .i64 0] 142)).drew w3.heap.size 26 #[.int .i64 kk, .slice A3 n3 c3, .slice A3' n3' c3'] from (Blk.new w3 _ _).alloc _)
  have HQB := Lib.hid (show Blk ((w3.alloc (.cells #[.int .i64 kk, .slice A3 n3 c3, .slice A3' n3' c3'] 26)).alloc (.cells #[.int .i64 wh, .int .i64 0, .int .i64 0] 142)).drew (w3.heap.size + 1) 142 #[.int .i64 wh, .int .i64 0, .int .i64 0] by
    have h := Blk.new (w3.alloc (.cells #[.int .i64 kk, .slice A3 n3 c3, .slice A3' n3' c3'] 26)) 142 #[.int .i64 wh, .int .i64 0, .int .i64 0]
    rw [show (w3.alloc (.cells #[.int .i64 kk, .slice A3 n3 c3, .slice A3' n3' c3'] 26)).heap.size = w3.heap.size + 1 by simp] at h
    exact h)
  have F := Lib.hid (yfail_any wh 0 31 s.size ((w3.alloc (.cells #[.int .i64 kk, .slice A3 n3 c3, .slice A3' n3' c3'] 26)).alloc (.cells #[.int .i64 wh, .int .i64 0, .int .i64 0] 142)).drew)
  go_wp2
  refine wp_region_held_drew (S := fun W => W.cell? ⟨w3.heap.size, 0, none⟩ = some (.int .i64 kk) ∧ W.cell? ⟨w3.heap.size, 1, none⟩ = some (.slice A3 n3 c3) ∧ W.cell? ⟨w3.heap.size, 2, none⟩ = some (.slice A3' n3' c3') ∧
      W.cell? ⟨w3.heap.size + 1, 0, none⟩ = some (.int .i64 wh) ∧ W.cell? ⟨w3.heap.size + 1, 1, none⟩ = some (.int .i64 0) ∧ W.cell? ⟨w3.heap.size + 1, 2, none⟩ = some (.int .i64 0)) mixed ⟨HNB.out.cell 0, HNB.out.cell 1, HNB.out.cell 2, HQB.out.cell 0, HQB.out.cell 1, HQB.out.cell 2⟩ (fun hS => ?_)
  refine wpAnyH_take (i := 0) (v := .agg #[.int .i64 kk, .slice A3 n3 c3, .slice A3' n3' c3']) rfl (by kernel_rfl) (by kernel_rfl) (by kernel_rfl) (fun _ _ _ h => h) (Or.inl ⟨by rfl, fun W hW => by obtain ⟨h0, h1, h2, h3, h4, h5⟩ := hW; go_simp⟩) hS ?_
  refine wpAnyH_take (i := 1) (v := .agg #[.int .i64 wh, .int .i64 0, .int .i64 0]) rfl (by kernel_rfl) (by kernel_rfl) (by kernel_rfl) (fun _ _ _ h => h) (Or.inl ⟨by rfl, fun W hW => by obtain ⟨h0, h1, h2, h3, h4, h5⟩ := hW; go_simp⟩) hS ?_
  refine wpAnyH_take (i := 2) (v := .string s) rfl (by kernel_rfl) (by kernel_rfl) (by kernel_rfl) (fun _ _ _ h => h) (Or.inl ⟨by rfl, fun W hW => by obtain ⟨h0, h1, h2, h3, h4, h5⟩ := hW; go_simp⟩) hS ?_
  refine wpAnyH_take (i := 3) (v := .int .i64 (s.size : Nat)) rfl (by kernel_rfl) (by kernel_rfl) (by kernel_rfl) (fun _ _ _ h => h) (Or.inl ⟨by rfl, fun W hW => by obtain ⟨h0, h1, h2, h3, h4, h5⟩ := hW; go_simp⟩) hS ?_
  refine wpAnyH_ready (rs := [4]) (by kernel_rfl) (by simp) ?_
  refine AllReadyH.cons rfl (fun K hK => ?_) AllReadyH.nil
  go_simp
  (with_reducible refine F.out.mono ?_)
  rintro e w5 ⟨rfl, b5⟩
  have HC5 := Lib.hid (HC4.out.below (⟨b5.os, b5.tape, b5.output, b5.size, b5.block⟩ : Below ((w3.alloc (.cells #[.int .i64 kk, .slice A3 n3 c3, .slice A3' n3' c3'] 26)).alloc (.cells #[.int .i64 wh, .int .i64 0, .int .i64 0] 142)).heap.size ((w3.alloc (.cells #[.int .i64 kk, .slice A3 n3 c3, .slice A3' n3' c3'] 26)).alloc (.cells #[.int .i64 wh, .int .i64 0, .int .i64 0] 142)) w5))
  have HNB5 := Lib.hid (HNB.out.below b5 HNB.out.lt)
  have HQB5 := Lib.hid (HQB.out.below b5 HQB.out.lt)
  clear b5
  clear hS
  refine hK.out _ _ ⟨HNB5.out.cell 0, HNB5.out.cell 1, HNB5.out.cell 2, HQB5.out.cell 0, HQB5.out.cell 1, HQB5.out.cell 2⟩ (fun hS => ?_)
  clear hK K
  obtain ⟨n0, n1, n2, m0, m1, m2⟩ := blk3 HC5.out.nb
  refine wpAnyH_ready (rs := [5]) (by kernel_rfl) (by simp) ?_
  refine AllReadyH.cons rfl (fun K hK => ?_) AllReadyH.nil
  go_simp
  have HN6 := Lib.hid ((((HNB5.out.far (p := ⟨w.heap.size + 1, 0, none⟩) (by simp only; omega) (.int .i64 kk)).far (p := ⟨w.heap.size + 1, 1, none⟩) (by simp only; omega) (.slice A3 n3 c3)).far (p := ⟨w.heap.size + 1, 2, none⟩) (by simp only; omega) (.slice A3' n3' c3')))
  have HQ6 := Lib.hid ((((HQB5.out.far (p := ⟨w.heap.size + 1, 0, none⟩) (by simp only; omega) (.int .i64 kk)).far (p := ⟨w.heap.size + 1, 1, none⟩) (by simp only; omega) (.slice A3 n3 c3)).far (p := ⟨w.heap.size + 1, 2, none⟩) (by simp only; omega) (.slice A3' n3' c3')))
  have HR6 := Lib.hid ((((HC5.out.rb.far (p := ⟨w.heap.size + 1, 0, none⟩) (by simp) (.int .i64 kk)).far (p := ⟨w.heap.size + 1, 1, none⟩) (by simp) (.slice A3 n3 c3)).far (p := ⟨w.heap.size + 1, 2, none⟩) (by simp) (.slice A3' n3' c3')))
  clear hS
  refine hK.out _ _ ⟨HN6.out.cell 0, HN6.out.cell 1, HN6.out.cell 2, HQ6.out.cell 0, HQ6.out.cell 1, HQ6.out.cell 2⟩ (fun hS => ?_)
  clear hK K n0 n1 n2 m0 m1 m2
  obtain ⟨r0, r1, r2, l0, l1, l2⟩ := blk3 HR6.out
  refine wpAnyH_ready (rs := [6]) (by kernel_rfl) (by simp) ?_
  refine AllReadyH.cons rfl (fun K hK => ?_) AllReadyH.nil
  go_simp
  have HN7 := Lib.hid ((((HN6.out.far (p := ⟨w.heap.size + 1 + 1, 0, none⟩) (by simp only; omega) (.int .i64 wh)).far (p := ⟨w.heap.size + 1 + 1, 1, none⟩) (by simp only; omega) (.int .i64 31)).far (p := ⟨w.heap.size + 1 + 1, 2, none⟩) (by simp only; omega) (.int .i64 (s.size : Nat))))
  have HQ7 := Lib.hid ((((HQ6.out.far (p := ⟨w.heap.size + 1 + 1, 0, none⟩) (by simp only; omega) (.int .i64 wh)).far (p := ⟨w.heap.size + 1 + 1, 1, none⟩) (by simp only; omega) (.int .i64 31)).far (p := ⟨w.heap.size + 1 + 1, 2, none⟩) (by simp only; omega) (.int .i64 (s.size : Nat))))
  clear hS
  refine hK.out _ _ ⟨HN7.out.cell 0, HN7.out.cell 1, HN7.out.cell 2, HQ7.out.cell 0, HQ7.out.cell 1, HQ7.out.cell 2⟩ (fun hS => ?_)
  clear hK K r0 r1 r2 l0 l1 l2
  clear hS
  refine wpAnyH_done (by kernel_rfl) ?_ _
  go_wp2
  obtain ⟨W6, hW, hN, hP6, hb6, hk6, hz6⟩ := ysix HC5.out (.int .i64 kk) (.slice A3 n3 c3) (.slice A3' n3' c3') (.int .i64 wh) (.int .i64 31) (.int .i64 (s.size : Nat))
  rw [← hW]
  clear hW
  obtain ⟨n0, n1, n2, m0, m1, m2⟩ := blk3 hN
  obtain ⟨r0, r1, r2, l0, l1, l2⟩ := blk3 hP6
  refine bodyPost_ret (v := .tuple #[.agg #[.int .i64 kk, .slice A3 n3 c3, .slice A3' n3' c3'], .agg #[.int .i64 wh, .int .i64 31, .int .i64 (s.size : Nat)]]) (by simp [results, Try.results124, go_sem, n0, n1, n2, r0, r1, r2]) rfl ⟨⟨kk, A3, n3, c3, A3', n3', c3', wh, by rw [HPL.out]⟩, hb6⟩
theorem yranges_one {lo hi : UInt8} (h : lo.toNat ≤ hi.toNat) : rangesL [(lo, hi)] false = [(lo, hi)] := by
  have hm : ∀ c, memB [(lo, hi)] false c = (decide (lo.toNat ≤ c) && decide (c ≤ hi.toNat)) := fun c => by simp [memB, inR]
  have hh := UInt8.toNat_lt hi
  have main : ∀ k, k ≤ 256 → rgTo (memB [(lo, hi)] false) k = if k ≤ lo.toNat then [] else if k ≤ hi.toNat + 1 then [(lo, UInt8.ofNat (k - 1))] else [(lo, hi)] := by
    intro k
    induction k with
    | zero => intro _; simp [rgTo]
    | succ k ih =>
      intro hk
      have ih := ih (by omega)
      rw [rgTo, hm k, hm (k - 1)]
      by_cases h1 : k < lo.toNat
      · rw [if_neg (by simp; omega), ih, if_pos (by omega), if_pos (by omega)]
      · by_cases h2 : k ≤ hi.toNat
        · rw [if_pos (by simp; omega)]
          by_cases h3 : k = lo.toNat
          · rw [if_neg (by simp; omega), ih, if_pos (by omega), if_neg (by omega), if_pos (by omega)]
            simp [h3]
          · rw [if_pos (by simp; omega), ih, if_neg (by omega), if_pos (by omega), if_neg (by omega), if_pos (by omega)]
            simp [bump]
        · rw [if_neg (by simp; omega), ih, if_neg (show ¬ k ≤ lo.toNat by omega), if_neg (show ¬ k + 1 ≤ lo.toNat by omega), if_neg (show ¬ k + 1 ≤ hi.toNat + 1 by omega)]
          by_cases h3 : k ≤ hi.toNat + 1
          · obtain rfl : k = hi.toNat + 1 := by omega
            rw [if_pos (Nat.le_refl _)]
            simp
          · rw [if_neg h3]
  unfold rangesL
  rw [main 256 (Nat.le_refl _), if_neg (by omega)]
  by_cases h2 : 256 ≤ hi.toNat + 1
  · rw [if_pos h2]
    have : hi.toNat = 255 := by omega
    have e : hi = UInt8.ofNat (256 - 1) := UInt8.toNat_inj.1 (by rw [this]; rfl)
    rw [← e]
  · rw [if_neg h2]

/-- What the parser of alternations must do at j, that an atom may use it. -/
def IsYA (Al : List UInt8 → Pr) (s : ByteArray) (j : Nat) : Prop :=
  (∀ W, Calls Try.prog 68 #[.string s, .agg #[.int .i64 (j : Nat), .int .i64 0, .int .i64 0]] W (YN W j (Al (restL s j)))) ∧
  (∀ t n, Al (restL s j) = .ok t n → j + n ≤ s.size ∧ (j + n < s.size → byteAt s (j + n) = 41)) ∧
  (∀ c o, Al (restL s j) = .err c o → c ≠ 0)
theorem ystarts2 (s : ByteArray) (k : Nat) (h : k < s.size) (a b : UInt8) : starts [a, b] (restL s k) = ((byteAt s k == a) && decide (k + 1 < s.size) && (byteAt s (k + 1) == b)) := by
  have e1 : ∀ (x y : UInt8), (x == y) = (y == x) := fun x y => Bool.eq_iff_iff.2 ⟨fun h => by rw [beq_iff_eq] at h ⊢; exact h.symm, fun h => by rw [beq_iff_eq] at h ⊢; exact h.symm⟩
  by_cases h1 : k + 1 < s.size
  · rw [rest_cons s k h, rest_cons s (k + 1) h1]
    simp only [starts, List.isPrefixOf, Bool.and_true, h1, decide_true]
    rw [e1 a, e1 b]
  · rw [rest_cons s k h, rest_nil s (k + 1) (by omega)]
    simp [starts, List.isPrefixOf, h1]
theorem yatom_any (Al : List UInt8 → Pr) (s : ByteArray) (k : Nat) (w : World) (hk : k < s.size) (hs : s.size ≤ 256) (hA : byteAt s k = 40 → IsYA Al s (k + 1)) :
    Calls Try.prog 124 #[.string s, .agg #[.int .i64 (k : Nat), .int .i64 0, .int .i64 0]] w (YN w k (atomX Al (restL s k))) := by
  have hsg := signX_rest s k hk
  have st : ∀ c, starts [c] (restL s k) = (byteAt s k == c) := fun c => ystarts_rest s k c hk
  have hd1 : (restL s k).drop 1 = restL s (k + 1) := rest_drop s k 1
  unfold atomX
  rw [hsg, st 40, st 91, st 46, ystarts2 s k hk]
  by_cases h40 : byteAt s k = 40
  · obtain ⟨hC, hB, hE⟩ := hA h40
    rw [h40, hd1]
    show Calls _ _ _ _ (YN w k ((groupX Al (restL s (k + 1))).shift 1))
    cases hR : Al (restL s (k + 1)) with
    | err c o =>
      have h := yatom_grpErr s k w hk hs h40 (c := c) (o := o) (fun W => by have h := hC W; rw [hR] at h; exact h) (hE _ _ hR)
      unfold groupX; rw [hR]; exact h
    | ok t n =>
      have hA' : ∀ W, Calls Try.prog 68 #[.string s, .agg #[.int .i64 (k + 1 : Nat), .int .i64 0, .int .i64 0]] W (YN W (k + 1) (.ok t n)) := fun W => by have h := hC W; rw [hR] at h; exact h
      obtain ⟨h1, h2⟩ := hB _ _ hR
      unfold groupX
      rw [hR]
      simp only
      rw [rest_drop]
      by_cases hn : k + 1 + n < s.size
      · rw [if_pos (by rw [ystarts_rest s _ 41 hn, h2 hn]; rfl)]
        exact yatom_grpOk s k w hk hs h40 hA' hn
      · rw [if_neg (by rw [rest_nil s _ (by omega), ystarts_nil]; simp)]
        exact yatom_grpEnd s k w hk hs h40 hA' (by omega)
  · by_cases h46 : byteAt s k = 46
    · rw [h46]
      exact yatom_dot s k w hk hs h46
    · by_cases h91 : byteAt s k = 91
      · rw [h91, hd1]
        exact yatom_class s k w hk hs h91
      · by_cases h92 : byteAt s k = 92
        · by_cases hd : k + 1 < s.size ∧ byteAt s (k + 1) = 100
          · rw [h92, hd.2, decide_eq_true hd.1]
            have h := yatom_digit s k w hk hs h92 hd.1 hd.2
            rw [yranges_one (by decide)] at h
            exact h
          · have e : ((byteAt s k == 92) && decide (k + 1 < s.size) && (byteAt s (k + 1) == 100)) = false := by
              rw [h92]
              by_cases h1 : k + 1 < s.size
              · have h2 : byteAt s (k + 1) ≠ 100 := fun h2 => hd ⟨h1, h2⟩
                simp [h2]
              · simp [h1]
            rw [e, h92]
            have h := yatom_escape s k w hk hs h92 hd
            show Calls _ _ _ _ (YN w k (match letterX (restL s k) with | .ok c n => Pr.ok (.mk 1 [(c, c)] []) n | .err c o => .err c o))
            cases hl : letterX (restL s k) with
            | ok c n => rw [hl] at h; simp only at h; rw [yranges_one (Nat.le_refl _)] at h; exact h
            | err c o => rw [hl] at h; exact h
        · by_cases h42 : byteAt s k = 42
          · rw [h42]; exact yatom_sign42 s k w hk hs h42
          · by_cases h43 : byteAt s k = 43
            · rw [h43]; exact yatom_sign43 s k w hk hs h43
            · by_cases h63 : byteAt s k = 63
              · rw [h63]; exact yatom_sign63 s k w hk hs h63
              · have h := yatom_byte s k w hk hs h40 h46 h91 h92 h42 h43 h63
                rw [yranges_one (Nat.le_refl _)] at h
                have hl : letterX (restL s k) = .ok (byteAt s k) 1 := by rw [rest_cons s k hk]; simp [letterX, h92]
                rw [hl, if_neg (by simp [kindX, h42, h43, h63]), if_neg (by simpa using h40), if_neg (by simpa using h91), if_neg (by simpa using h46), if_neg (by simp [h92])]
                exact h
end Go.Proofs.Ytjnhmcgjeljcmaa
