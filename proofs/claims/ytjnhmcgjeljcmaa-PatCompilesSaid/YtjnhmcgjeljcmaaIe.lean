/- The document's parser of regular expressions: a piece. -/
import Derived.Test.YtjnhmcgjeljcmaaId
import Derived.Test.YtjnhmcgjeljcmaaXq
namespace Go.Proofs.Ytjnhmcgjeljcmaa
open Go.RowKit

theorem YCl.setFar {w wr : World} (h : YCl w wr) {p : Addr} (hp : w.heap.size + 3 ≤ p.block) (u : Value) : YCl w (wr.setCell p u) :=
  ⟨h.old.setCell (p := p) (by omega) u, h.nb.far (by omega) u, h.rb.far (by omega) u⟩
set_option maxHeartbeats 8000000 in
set_option maxRecDepth 100000 in
theorem ypiece_err (s : ByteArray) (k : Nat) (w : World) (hk : k < s.size) (hs : s.size ≤ 256) {c : Int} {o : Nat} (hA : ∀ W, Calls Try.prog 124 #[.string s, .agg #[.int .i64 (k : Nat), .int .i64 0, .int .i64 0]] W (YN W k (.err c o))) (hc : c ≠ 0) :
    Calls Try.prog 99 #[.string s, .agg #[.int .i64 (k : Nat), .int .i64 0, .int .i64 0]] w (YN w k (.err c o)) := by
  have mixed : Try.prog.follows .mixedOrders = true := by kernel_rfl
  have hbt := byteAt_eq s k hk
  have q1 : IntKind.i64.wrap ((k : Int) + 1) = (k : Int) + 1 := IntWalk.i64_in _ (by omega)
  have HC1 := Lib.hid (show YCl w (((w.alloc (.cells #[.int .i64 (k : Nat), .int .i64 0, .int .i64 0] 142)).alloc (.cells #[.int .i64 0, .slice none 0 0, .slice none 0 0] 26)).alloc (.cells #[.int .i64 0, .int .i64 0, .int .i64 0] 142)) from ⟨(((Below.refl w.heap.size w).alloc (Nat.le_refl _) _).alloc (by simp) _).alloc (by simp; omega) _, by
      have h1 := Blk.new (w.alloc (.cells #[.int .i64 (k : Nat), .int .i64 0, .int .i64 0] 142)) 26 #[.int .i64 0, .slice none 0 0, .slice none 0 0]
      have h2 := h1.alloc (.cells #[.int .i64 0, .int .i64 0, .int .i64 0] 142)
      simpa using h2, by
      have h1 := Blk.new ((w.alloc (.cells #[.int .i64 (k : Nat), .int .i64 0, .int .i64 0] 142)).alloc (.cells #[.int .i64 0, .slice none 0 0, .slice none 0 0] 26)) 142 #[.int .i64 0, .int .i64 0, .int .i64 0]
      simpa using h1⟩)
  have HQ := Lib.hid (show Blk (((w.alloc (.cells #[.int .i64 (k : Nat), .int .i64 0, .int .i64 0] 142)).alloc (.cells #[.int .i64 0, .slice none 0 0, .slice none 0 0] 26)).alloc (.cells #[.int .i64 0, .int .i64 0, .int .i64 0] 142)).drew w.heap.size 142 #[.int .i64 (k : Nat), .int .i64 0, .int .i64 0] from by
      have h1 := ((Blk.new w 142 #[.int .i64 (k : Nat), .int .i64 0, .int .i64 0]).alloc (.cells #[.int .i64 0, .slice none 0 0, .slice none 0 0] 26)).alloc (.cells #[.int .i64 0, .int .i64 0, .int .i64 0] 142)
      exact h1.drew)
  have C := Lib.hid (hA (((w.alloc (.cells #[.int .i64 (k : Nat), .int .i64 0, .int .i64 0] 142)).alloc (.cells #[.int .i64 0, .slice none 0 0, .slice none 0 0] 26)).alloc (.cells #[.int .i64 0, .int .i64 0, .int .i64 0] 142)))
  have hcf : (c == 0) = false := by simpa using hc
  clear hA
  go_enter Try.func99, Try.ntmps99
  go_wp2_with fail
  (with_reducible refine C.out.mono ?_)
  rintro e w3 ⟨⟨kk, A3, n3, c3, A3', n3', c3', x, rfl⟩, b3⟩
  generalize hwh : ((k + o : Nat) : Int) = wh
  have HWH := Lib.hid hwh
  clear hwh
  have HC3 := Lib.hid (HC1.out.below b3)
  have hs3 : w.heap.size + 1 + 1 < w3.heap.size := HC3.out.rb.lt
  have HC4 := Lib.hid ((HC3.out.alloc (.cells #[.int .i64 kk, .slice A3 n3 c3, .slice A3' n3' c3'] 26)).alloc (.cells #[.int .i64 x, .int .i64 c, .int .i64 wh] 142))
  clear b3
  obtain ⟨n0, n1, n2, m0, m1, m2⟩ := blk3 HC4.out.nb
  obtain ⟨r0, r1, r2, l0, l1, l2⟩ := blk3 HC4.out.rb
  go_wp2
  go_loopw [8] (fun _ wr => wr = ((w3.alloc (.cells #[.int .i64 kk, .slice A3 n3 c3, .slice A3' n3' c3'] 26)).alloc (.cells #[.int .i64 x, .int .i64 c, .int .i64 wh] 142))) (fun _ _ => 0)
  case atStart => rfl
  case round =>
    subst hrel
    go_wp2
    go_region
    go_wp2
    obtain ⟨W6, hW, hN, hP6, hb6, hk6, hz6⟩ := ysix HC4.out (.int .i64 kk) (.slice A3 n3 c3) (.slice A3' n3' c3') (.int .i64 x) (.int .i64 c) (.int .i64 wh)
    rw [← hW]
    clear hW n0 n1 n2 m0 m1 m2 r0 r1 r2 l0 l1 l2
    obtain ⟨n0, n1, n2, m0, m1, m2⟩ := blk3 hN
    obtain ⟨r0, r1, r2, l0, l1, l2⟩ := blk3 hP6
    refine bodyPost_ret (v := .tuple #[.agg #[.int .i64 kk, .slice A3 n3 c3, .slice A3' n3' c3'], .agg #[.int .i64 x, .int .i64 c, .int .i64 wh]]) (by simp [results, Try.results99, go_sem, n0, n1, n2, r0, r1, r2]) rfl ⟨⟨kk, A3, n3, c3, A3', n3', c3', x, by rw [← HWH.out]⟩, hb6.drew⟩
set_option maxHeartbeats 8000000 in
set_option maxRecDepth 100000 in
theorem ypiece_ok (s : ByteArray) (k : Nat) (w : World) (hk : k < s.size) (hs : s.size ≤ 256) {t : Tr} {n : Nat} (hA : ∀ W, Calls Try.prog 124 #[.string s, .agg #[.int .i64 (k : Nat), .int .i64 0, .int .i64 0]] W (YN W k (.ok t n))) (hn : k + n ≤ s.size) :
    Calls Try.prog 99 #[.string s, .agg #[.int .i64 (k : Nat), .int .i64 0, .int .i64 0]] w (YN w k (.ok (signsX t (restL s (k + n))).1 (n + (signsX t (restL s (k + n))).2))) := by
  have mixed : Try.prog.follows .mixedOrders = true := by kernel_rfl
  have hbt := byteAt_eq s k hk
  have q1 : IntKind.i64.wrap ((k : Int) + 1) = (k : Int) + 1 := IntWalk.i64_in _ (by omega)
  have HC1 := Lib.hid (show YCl w (((w.alloc (.cells #[.int .i64 (k : Nat), .int .i64 0, .int .i64 0] 142)).alloc (.cells #[.int .i64 0, .slice none 0 0, .slice none 0 0] 26)).alloc (.cells #[.int .i64 0, .int .i64 0, .int .i64 0] 142)) from ⟨(((Below.refl w.heap.size w).alloc (Nat.le_refl _) _).alloc (by simp) _).alloc (by simp; omega) _, by
      have h1 := Blk.new (w.alloc (.cells #[.int .i64 (k : Nat), .int .i64 0, .int .i64 0] 142)) 26 #[.int .i64 0, .slice none 0 0, .slice none 0 0]
      have h2 := h1.alloc (.cells #[.int .i64 0, .int .i64 0, .int .i64 0] 142)
      simpa using h2, by
      have h1 := Blk.new ((w.alloc (.cells #[.int .i64 (k : Nat), .int .i64 0, .int .i64 0] 142)).alloc (.cells #[.int .i64 0, .slice none 0 0, .slice none 0 0] 26)) 142 #[.int .i64 0, .int .i64 0, .int .i64 0]
      simpa using h1⟩)
  have HQ := Lib.hid (show Blk (((w.alloc (.cells #[.int .i64 (k : Nat), .int .i64 0, .int .i64 0] 142)).alloc (.cells #[.int .i64 0, .slice none 0 0, .slice none 0 0] 26)).alloc (.cells #[.int .i64 0, .int .i64 0, .int .i64 0] 142)).drew w.heap.size 142 #[.int .i64 (k : Nat), .int .i64 0, .int .i64 0] from by
      have h1 := ((Blk.new w 142 #[.int .i64 (k : Nat), .int .i64 0, .int .i64 0]).alloc (.cells #[.int .i64 0, .slice none 0 0, .slice none 0 0] 26)).alloc (.cells #[.int .i64 0, .int .i64 0, .int .i64 0] 142)
      exact h1.drew)
  have C := Lib.hid (hA (((w.alloc (.cells #[.int .i64 (k : Nat), .int .i64 0, .int .i64 0] 142)).alloc (.cells #[.int .i64 0, .slice none 0 0, .slice none 0 0] 26)).alloc (.cells #[.int .i64 0, .int .i64 0, .int .i64 0] 142)))
  clear hA
  go_enter Try.func99, Try.ntmps99
  go_wp2_with fail
  (with_reducible refine C.out.mono ?_)
  rintro e w3 ⟨d3, kk, A3, n3, c3, A3', n3', c3', rfl, ht3, b3⟩
  obtain ⟨j0, hj0⟩ : ∃ j0, j0 = k + n := ⟨_, rfl⟩
  rw [← hj0]
  have HC3 := Lib.hid (HC1.out.below b3)
  have hs3 : w.heap.size + 1 + 1 < w3.heap.size := HC3.out.rb.lt
  have START := Lib.hid (show (fun wr => ∃ (j d : Nat) (k2 : Int) (A2 : Option Addr) (m2 c2 : Nat) (A2' : Option Addr) (m2' c2' : Nat) (t2 : Tr), j ≤ s.size ∧ YCl w wr ∧ w3.heap.size + 2 ≤ wr.heap.size ∧ Blk wr w3.heap.size 26 #[.int .i64 k2, .slice A2 m2 c2, .slice A2' m2' c2'] ∧ Blk wr (w3.heap.size + 1) 142 #[.int .i64 (j : Nat), .int .i64 0, .int .i64 0] ∧ TreeAt wr (fun b => w.heap.size + 3 ≤ b ∧ b < wr.heap.size ∧ b ≠ w3.heap.size ∧ b ≠ w3.heap.size + 1) d t2 [.int .i64 k2, .slice A2 m2 c2, .slice A2' m2' c2'] ∧ (signsX t2 (restL s j)).1 = (signsX t (restL s (k + n))).1 ∧ j + (signsX t2 (restL s j)).2 = k + n + (signsX t (restL s (k + n))).2) ((w3.alloc (.cells #[.int .i64 kk, .slice A3 n3 c3, .slice A3' n3' c3'] 26)).alloc (.cells #[.int .i64 (j0 : Nat), .int .i64 0, .int .i64 0] 142)) from by
    refine ⟨j0, d3, kk, A3, n3, c3, A3', n3', c3', t, by omega, (HC3.out.alloc _).alloc _, by simp, (Blk.new w3 _ _).alloc _, ?_, ?_, by rw [hj0], by rw [hj0]⟩
    · have h := Blk.new (w3.alloc (.cells #[.int .i64 kk, .slice A3 n3 c3, .slice A3' n3' c3'] 26)) 142 #[.int .i64 (j0 : Nat), .int .i64 0, .int .i64 0]
      rw [show (w3.alloc (.cells #[.int .i64 kk, .slice A3 n3 c3, .slice A3' n3' c3'] 26)).heap.size = w3.heap.size + 1 by simp] at h
      exact h
    · refine (ht3.keep (w' := ((w3.alloc (.cells #[.int .i64 kk, .slice A3 n3 c3, .slice A3' n3' c3'] 26)).alloc (.cells #[.int .i64 (j0 : Nat), .int .i64 0, .int .i64 0] 142))) fun b hb => (Below.heap_alloc _ _ b (by have := hb.2; simp; omega)).trans (Below.heap_alloc _ _ b hb.2)).mono fun b hb => ⟨?_, ?_, ?_, ?_⟩
      · have := hb.1; simp at this; omega
      · have := hb.2; simp; omega
      · have := hb.2; omega
      · have := hb.2; omega)
  have HJ := Lib.hid (show ∀ j : Nat, j = k + n + (signsX t (restL s (k + n))).2 → (j : Int) = ((k + (n + (signsX t (restL s (k + n))).2) : Nat) : Int) from fun j h => by rw [h]; congr 1; omega)
  clear ht3 b3 hj0
  go_wp2
  go_loopw [8] (fun _ wr => ∃ (j d : Nat) (k2 : Int) (A2 : Option Addr) (m2 c2 : Nat) (A2' : Option Addr) (m2' c2' : Nat) (t2 : Tr), j ≤ s.size ∧ YCl w wr ∧ w3.heap.size + 2 ≤ wr.heap.size ∧ Blk wr w3.heap.size 26 #[.int .i64 k2, .slice A2 m2 c2, .slice A2' m2' c2'] ∧ Blk wr (w3.heap.size + 1) 142 #[.int .i64 (j : Nat), .int .i64 0, .int .i64 0] ∧ TreeAt wr (fun b => w.heap.size + 3 ≤ b ∧ b < wr.heap.size ∧ b ≠ w3.heap.size ∧ b ≠ w3.heap.size + 1) d t2 [.int .i64 k2, .slice A2 m2 c2, .slice A2' m2' c2'] ∧ (signsX t2 (restL s j)).1 = (signsX t (restL s (k + n))).1 ∧ j + (signsX t2 (restL s j)).2 = k + n + (signsX t (restL s (k + n))).2) (fun _ wr => match wr.cell? ⟨w3.heap.size + 1, 0, none⟩ with | some (.int _ a) => s.size - a.toNat | _ => 0)
  case atStart => exact START.out
  case round =>
    obtain ⟨j, d, k2, A2, m2, c2, A2', m2', c2', t2, hj, hcl, hsz, hN, hQ, ht, h1, h2⟩ := hrel
    have HCL := Lib.hid hcl
    have HT := Lib.hid ht
    have HN := Lib.hid hN
    have HQ := Lib.hid hQ
    obtain ⟨p0, p1, p2, z0, z1, z2⟩ := blk3 hQ
    obtain ⟨a0, a1, a2, y0, y1, y2⟩ := blk3 hN
    obtain ⟨n0, n1, n2, m0, m1, m3⟩ := blk3 hcl.nb
    obtain ⟨r0, r1, r2, l0, l1, l2⟩ := blk3 hcl.rb
    have q2 : IntKind.i64.wrap ((j : Int) + 1) = (j : Int) + 1 := IntWalk.i64_in _ (by omega)
    have hs4 : w3.heap.size < wr.heap.size := by omega
    have hs5 : w3.heap.size + 1 < wr.heap.size := by omega
    clear hcl ht hN hQ
    by_cases hlt : j < s.size
    · have hlt' : (j : Int) < (s.size : Int) := by omega
      have hbj := byteAt_eq s j hlt
      by_cases h42 : byteAt s j = 42
      · have e42 : (((byteAt s j).toNat : Int) == 42) = true := by rw [h42]; rfl
        have e43 : (((byteAt s j).toNat : Int) == 43) = false := by rw [h42]; rfl
        have e63 : (((byteAt s j).toNat : Int) == 63) = false := by rw [h42]; rfl
        have hz : signsX t2 (restL s j) = ((signsX (.mk 4 [] [t2]) (restL s (j + 1))).1, (signsX (.mk 4 [] [t2]) (restL s (j + 1))).2 + 1) := by
          rw [rest_cons s j hlt, signsX, if_neg (by rw [h42]; decide), h42]; rfl
        rw [hz] at h1 h2
        have HT1 := Lib.hid h1
        have HE1 := Lib.hid h2
        clear hz h1 h2 h42
        go_wp2
        go_roundw
        case rel =>
          have hq : ((((wr.setCell ⟨w3.heap.size + 1, 0, none⟩ (.int .i64 ((j : Int) + 1))).setCell ⟨w3.heap.size, 0, none⟩ (.int .i64 4)).setCell ⟨w3.heap.size, 1, none⟩ (.slice none 0 0)).setCell ⟨w3.heap.size, 2, none⟩ (.slice (some ⟨wr.heap.size, 0, none⟩) 1 1)).heap.size = wr.heap.size := by simp [World.setCell]
          have tq : TreeAt ((((wr.setCell ⟨w3.heap.size + 1, 0, none⟩ (.int .i64 ((j : Int) + 1))).setCell ⟨w3.heap.size, 0, none⟩ (.int .i64 4)).setCell ⟨w3.heap.size, 1, none⟩ (.slice none 0 0)).setCell ⟨w3.heap.size, 2, none⟩ (.slice (some ⟨wr.heap.size, 0, none⟩) 1 1)) (fun b => w.heap.size + 3 ≤ b ∧ b < wr.heap.size ∧ b ≠ w3.heap.size ∧ b ≠ w3.heap.size + 1) d t2 [.int .i64 k2, .slice A2 m2 c2, .slice A2' m2' c2'] := HT.out.keep fun b hb => by
            rw [Below.heap_setCell _ _ _ _ hb.2.2.1, Below.heap_setCell _ _ _ _ hb.2.2.1, Below.heap_setCell _ _ _ _ hb.2.2.1, Below.heap_setCell _ _ _ _ hb.2.2.2]
          have tw := wrap_tree (Y := fun b => w.heap.size + 3 ≤ b ∧ b < wr.heap.size + 1 ∧ b ≠ w3.heap.size ∧ b ≠ w3.heap.size + 1) 4 tq (fun b hb => ⟨by rw [hq]; exact hb.2.1, hb.1, by omega, hb.2.2⟩) (by rw [hq]; exact ⟨by omega, by omega, by omega, by omega⟩)
          rw [hq] at tw
          refine ⟨j + 1, d + 1, 4, none, 0, 0, some ⟨wr.heap.size, 0, none⟩, 1, 1, .mk 4 [] [t2], by omega, ((((HCL.out.setFar (by simp only; omega) _).setFar (by simp only; omega) _).setFar (by simp only; omega) _).setFar (by simp only; omega) _).alloc _, by simp [World.setCell]; omega, ((((HN.out.far (p := ⟨w3.heap.size + 1, 0, none⟩) (by simp) _).set_ 0 _).set_ 1 _).set_ 2 _).alloc _, ?_, tw.mono fun b hb => ⟨hb.1, by simp [World.setCell]; exact hb.2.1, hb.2.2⟩, HT1.out, by rw [← HE1.out]; omega⟩
          rw [show ((j + 1 : Nat) : Int) = (j : Int) + 1 by omega]
          exact ((((HQ.out.set_ 0 _).far (p := ⟨w3.heap.size, 0, none⟩) (by simp) _).far (p := ⟨w3.heap.size, 1, none⟩) (by simp) _).far (p := ⟨w3.heap.size, 2, none⟩) (by simp) _).alloc _
        case measure =>
          have e1 := ((((HQ.out.set_ 0 (.int .i64 ((j : Int) + 1))).far (p := ⟨w3.heap.size, 0, none⟩) (by simp) (.int .i64 4)).far (p := ⟨w3.heap.size, 1, none⟩) (by simp) (.slice none 0 0)).far (p := ⟨w3.heap.size, 2, none⟩) (by simp) (.slice (some ⟨wr.heap.size, 0, none⟩) 1 1)).alloc (.cells #[.int .i64 k2, .slice A2 m2 c2, .slice A2' m2' c2'] 26)
          rw [e1.cell 0, HQ.out.cell 0]
          simp
          omega
      · by_cases h43 : byteAt s j = 43
        · have e42 : (((byteAt s j).toNat : Int) == 42) = false := by rw [h43]; rfl
          have e43 : (((byteAt s j).toNat : Int) == 43) = true := by rw [h43]; rfl
          have e63 : (((byteAt s j).toNat : Int) == 63) = false := by rw [h43]; rfl
          have hz : signsX t2 (restL s j) = ((signsX (.mk 5 [] [t2]) (restL s (j + 1))).1, (signsX (.mk 5 [] [t2]) (restL s (j + 1))).2 + 1) := by
            rw [rest_cons s j hlt, signsX, if_neg (by rw [h43]; decide), h43]; rfl
          rw [hz] at h1 h2
          have HT1 := Lib.hid h1
          have HE1 := Lib.hid h2
          clear hz h1 h2 h43
          go_wp2
          go_roundw
          case rel =>
            have hq : ((((wr.setCell ⟨w3.heap.size + 1, 0, none⟩ (.int .i64 ((j : Int) + 1))).setCell ⟨w3.heap.size, 0, none⟩ (.int .i64 5)).setCell ⟨w3.heap.size, 1, none⟩ (.slice none 0 0)).setCell ⟨w3.heap.size, 2, none⟩ (.slice (some ⟨wr.heap.size, 0, none⟩) 1 1)).heap.size = wr.heap.size := by simp [World.setCell]
            have tq : TreeAt ((((wr.setCell ⟨w3.heap.size + 1, 0, none⟩ (.int .i64 ((j : Int) + 1))).setCell ⟨w3.heap.size, 0, none⟩ (.int .i64 5)).setCell ⟨w3.heap.size, 1, none⟩ (.slice none 0 0)).setCell ⟨w3.heap.size, 2, none⟩ (.slice (some ⟨wr.heap.size, 0, none⟩) 1 1)) (fun b => w.heap.size + 3 ≤ b ∧ b < wr.heap.size ∧ b ≠ w3.heap.size ∧ b ≠ w3.heap.size + 1) d t2 [.int .i64 k2, .slice A2 m2 c2, .slice A2' m2' c2'] := HT.out.keep fun b hb => by
              rw [Below.heap_setCell _ _ _ _ hb.2.2.1, Below.heap_setCell _ _ _ _ hb.2.2.1, Below.heap_setCell _ _ _ _ hb.2.2.1, Below.heap_setCell _ _ _ _ hb.2.2.2]
            have tw := wrap_tree (Y := fun b => w.heap.size + 3 ≤ b ∧ b < wr.heap.size + 1 ∧ b ≠ w3.heap.size ∧ b ≠ w3.heap.size + 1) 5 tq (fun b hb => ⟨by rw [hq]; exact hb.2.1, hb.1, by omega, hb.2.2⟩) (by rw [hq]; exact ⟨by omega, by omega, by omega, by omega⟩)
            rw [hq] at tw
            refine ⟨j + 1, d + 1, 5, none, 0, 0, some ⟨wr.heap.size, 0, none⟩, 1, 1, .mk 5 [] [t2], by omega, ((((HCL.out.setFar (by simp only; omega) _).setFar (by simp only; omega) _).setFar (by simp only; omega) _).setFar (by simp only; omega) _).alloc _, by simp [World.setCell]; omega, ((((HN.out.far (p := ⟨w3.heap.size + 1, 0, none⟩) (by simp) _).set_ 0 _).set_ 1 _).set_ 2 _).alloc _, ?_, tw.mono fun b hb => ⟨hb.1, by simp [World.setCell]; exact hb.2.1, hb.2.2⟩, HT1.out, by rw [← HE1.out]; omega⟩
            rw [show ((j + 1 : Nat) : Int) = (j : Int) + 1 by omega]
            exact ((((HQ.out.set_ 0 _).far (p := ⟨w3.heap.size, 0, none⟩) (by simp) _).far (p := ⟨w3.heap.size, 1, none⟩) (by simp) _).far (p := ⟨w3.heap.size, 2, none⟩) (by simp) _).alloc _
          case measure =>
            have e1 := ((((HQ.out.set_ 0 (.int .i64 ((j : Int) + 1))).far (p := ⟨w3.heap.size, 0, none⟩) (by simp) (.int .i64 5)).far (p := ⟨w3.heap.size, 1, none⟩) (by simp) (.slice none 0 0)).far (p := ⟨w3.heap.size, 2, none⟩) (by simp) (.slice (some ⟨wr.heap.size, 0, none⟩) 1 1)).alloc (.cells #[.int .i64 k2, .slice A2 m2 c2, .slice A2' m2' c2'] 26)
            rw [e1.cell 0, HQ.out.cell 0]
            simp
            omega
        · by_cases h63 : byteAt s j = 63
          · have e42 : (((byteAt s j).toNat : Int) == 42) = false := by rw [h63]; rfl
            have e43 : (((byteAt s j).toNat : Int) == 43) = false := by rw [h63]; rfl
            have e63 : (((byteAt s j).toNat : Int) == 63) = true := by rw [h63]; rfl
            have hz : signsX t2 (restL s j) = ((signsX (.mk 6 [] [t2]) (restL s (j + 1))).1, (signsX (.mk 6 [] [t2]) (restL s (j + 1))).2 + 1) := by
              rw [rest_cons s j hlt, signsX, if_neg (by rw [h63]; decide), h63]; rfl
            rw [hz] at h1 h2
            have HT1 := Lib.hid h1
            have HE1 := Lib.hid h2
            clear hz h1 h2 h63
            go_wp2
            go_roundw
            case rel =>
              have hq : ((((wr.setCell ⟨w3.heap.size + 1, 0, none⟩ (.int .i64 ((j : Int) + 1))).setCell ⟨w3.heap.size, 0, none⟩ (.int .i64 6)).setCell ⟨w3.heap.size, 1, none⟩ (.slice none 0 0)).setCell ⟨w3.heap.size, 2, none⟩ (.slice (some ⟨wr.heap.size, 0, none⟩) 1 1)).heap.size = wr.heap.size := by simp [World.setCell]
              have tq : TreeAt ((((wr.setCell ⟨w3.heap.size + 1, 0, none⟩ (.int .i64 ((j : Int) + 1))).setCell ⟨w3.heap.size, 0, none⟩ (.int .i64 6)).setCell ⟨w3.heap.size, 1, none⟩ (.slice none 0 0)).setCell ⟨w3.heap.size, 2, none⟩ (.slice (some ⟨wr.heap.size, 0, none⟩) 1 1)) (fun b => w.heap.size + 3 ≤ b ∧ b < wr.heap.size ∧ b ≠ w3.heap.size ∧ b ≠ w3.heap.size + 1) d t2 [.int .i64 k2, .slice A2 m2 c2, .slice A2' m2' c2'] := HT.out.keep fun b hb => by
                rw [Below.heap_setCell _ _ _ _ hb.2.2.1, Below.heap_setCell _ _ _ _ hb.2.2.1, Below.heap_setCell _ _ _ _ hb.2.2.1, Below.heap_setCell _ _ _ _ hb.2.2.2]
              have tw := wrap_tree (Y := fun b => w.heap.size + 3 ≤ b ∧ b < wr.heap.size + 1 ∧ b ≠ w3.heap.size ∧ b ≠ w3.heap.size + 1) 6 tq (fun b hb => ⟨by rw [hq]; exact hb.2.1, hb.1, by omega, hb.2.2⟩) (by rw [hq]; exact ⟨by omega, by omega, by omega, by omega⟩)
              rw [hq] at tw
              refine ⟨j + 1, d + 1, 6, none, 0, 0, some ⟨wr.heap.size, 0, none⟩, 1, 1, .mk 6 [] [t2], by omega, ((((HCL.out.setFar (by simp only; omega) _).setFar (by simp only; omega) _).setFar (by simp only; omega) _).setFar (by simp only; omega) _).alloc _, by simp [World.setCell]; omega, ((((HN.out.far (p := ⟨w3.heap.size + 1, 0, none⟩) (by simp) _).set_ 0 _).set_ 1 _).set_ 2 _).alloc _, ?_, tw.mono fun b hb => ⟨hb.1, by simp [World.setCell]; exact hb.2.1, hb.2.2⟩, HT1.out, by rw [← HE1.out]; omega⟩
              rw [show ((j + 1 : Nat) : Int) = (j : Int) + 1 by omega]
              exact ((((HQ.out.set_ 0 _).far (p := ⟨w3.heap.size, 0, none⟩) (by simp) _).far (p := ⟨w3.heap.size, 1, none⟩) (by simp) _).far (p := ⟨w3.heap.size, 2, none⟩) (by simp) _).alloc _
            case measure =>
              have e1 := ((((HQ.out.set_ 0 (.int .i64 ((j : Int) + 1))).far (p := ⟨w3.heap.size, 0, none⟩) (by simp) (.int .i64 6)).far (p := ⟨w3.heap.size, 1, none⟩) (by simp) (.slice none 0 0)).far (p := ⟨w3.heap.size, 2, none⟩) (by simp) (.slice (some ⟨wr.heap.size, 0, none⟩) 1 1)).alloc (.cells #[.int .i64 k2, .slice A2 m2 c2, .slice A2' m2' c2'] 26)
              rw [e1.cell 0, HQ.out.cell 0]
              simp
              omega
          · have e42 : (((byteAt s j).toNat : Int) == 42) = false := ybyte_false h42
            have e43 : (((byteAt s j).toNat : Int) == 43) = false := ybyte_false h43
            have e63 : (((byteAt s j).toNat : Int) == 63) = false := ybyte_false h63
            have hz : signsX t2 (restL s j) = (t2, 0) := by rw [rest_cons s j hlt, signsX, if_pos (by simp [kindX, h42, h43, h63])]
            rw [hz] at h1 h2
            have HT1 := Lib.hid h1
            have HE1 := Lib.hid h2
            clear hz h1 h2
            go_wp2
            go_region
            go_wp2
            obtain ⟨W6, hW, hN6, hP6, hb6, hk6, hz6⟩ := ysix HCL.out (.int .i64 k2) (.slice A2 m2 c2) (.slice A2' m2' c2') (.int .i64 (j : Nat)) (.int .i64 0) (.int .i64 0)
            rw [← hW]
            clear hW n0 n1 n2 m0 m1 m3 r0 r1 r2 l0 l1 l2
            obtain ⟨n0, n1, n2, m0, m1, m3⟩ := blk3 hN6
            obtain ⟨r0, r1, r2, l0, l1, l2⟩ := blk3 hP6
            refine bodyPost_ret (v := .tuple #[.agg #[.int .i64 k2, .slice A2 m2 c2, .slice A2' m2' c2'], .agg #[.int .i64 (j : Nat), .int .i64 0, .int .i64 0]]) (by simp [results, Try.results99, go_sem, n0, n1, n2, r0, r1, r2]) rfl ⟨d, k2, A2, m2, c2, A2', m2', c2', by rw [HJ.out _ (by simpa using HE1.out)], ?_, hb6.drew⟩
            rw [← HT1.out]
            refine (HT.out.keep (w' := W6.drew) fun b hb => hk6 b (by have := hb.1; omega) (by have := hb.1; omega)).mono fun b hb => ⟨?_, ?_⟩
            · have := hb.1; omega
            · show b < W6.heap.size; rw [hz6]; exact hb.2.1
    · have hlt' : ¬ (j : Int) < (s.size : Int) := by omega
      have hz : signsX t2 (restL s j) = (t2, 0) := by rw [rest_nil s j (by omega)]; rfl
      rw [hz] at h1 h2
      have HT1 := Lib.hid h1
      have HE1 := Lib.hid h2
      clear hz h1 h2
      go_wp2
      go_region
      go_wp2
      obtain ⟨W6, hW, hN6, hP6, hb6, hk6, hz6⟩ := ysix HCL.out (.int .i64 k2) (.slice A2 m2 c2) (.slice A2' m2' c2') (.int .i64 (j : Nat)) (.int .i64 0) (.int .i64 0)
      rw [← hW]
      clear hW n0 n1 n2 m0 m1 m3 r0 r1 r2 l0 l1 l2
      obtain ⟨n0, n1, n2, m0, m1, m3⟩ := blk3 hN6
      obtain ⟨r0, r1, r2, l0, l1, l2⟩ := blk3 hP6
      refine bodyPost_ret (v := .tuple #[.agg #[.int .i64 k2, .slice A2 m2 c2, .slice A2' m2' c2'], .agg #[.int .i64 (j : Nat), .int .i64 0, .int .i64 0]]) (by simp [results, Try.results99, go_sem, n0, n1, n2, r0, r1, r2]) rfl ⟨d, k2, A2, m2, c2, A2', m2', c2', by rw [HJ.out _ (by simpa using HE1.out)], ?_, hb6.drew⟩
      rw [← HT1.out]
      refine (HT.out.keep (w' := W6.drew) fun b hb => hk6 b (by have := hb.1; omega) (by have := hb.1; omega)).mono fun b hb => ⟨?_, ?_⟩
      · have := hb.1; omega
      · show b < W6.heap.size; rw [hz6]; exact hb.2.1
theorem ypiece_any (Al : List UInt8 → Pr) (s : ByteArray) (k : Nat) (w : World) (hk : k < s.size) (hs : s.size ≤ 256) (hA : byteAt s k = 40 → IsYA Al s (k + 1)) (hE : ∀ c o, atomX Al (restL s k) = .err c o → c ≠ 0) :
    Calls Try.prog 99 #[.string s, .agg #[.int .i64 (k : Nat), .int .i64 0, .int .i64 0]] w (YN w k (pieceX Al (restL s k))) := by
  unfold pieceX
  cases hR : atomX Al (restL s k) with
  | err c o => exact ypiece_err s k w hk hs (fun W => by have h := yatom_any Al s k W hk hs hA; rw [hR] at h; exact h) (hE _ _ hR)
  | ok t n =>
    have hb := atomX_bd hR
    rw [rest_len] at hb
    have h := ypiece_ok s k w hk hs (t := t) (n := n) (fun W => by have h := yatom_any Al s k W hk hs hA; rw [hR] at h; exact h) (by omega)
    simp only
    rw [rest_drop]
    exact h
end Go.Proofs.Ytjnhmcgjeljcmaa
