/- The document's parser of regular expressions: an alternation. -/
import Derived.Test.YtjnhmcgjeljcmaaIg
import Derived.BigRegion
namespace Go.Proofs.Ytjnhmcgjeljcmaa
open Go.RowKit

def AGo (Al : List UInt8 → Pr) (w wr : World) (s : ByteArray) (k : Nat) (R : Pr) (vp vk : Value) : Prop :=
  ∃ (k2 d : Nat) (acc cur : List Tr) (cp ck : List Value), k ≤ k2 ∧ k2 ≤ s.size ∧ acc.length ≤ k2 ∧ cur.length ≤ k2 ∧ Blk wr w.heap.size 142 #[.int .i64 (k2 : Nat), .int .i64 0, .int .i64 0] ∧ TwoR wr (w.heap.size + 3) d vp vk acc cur cp ck ∧ ARun Al s k k2 R acc cur
def ABad (w wr : World) (k : Nat) (R : Pr) (vp vk : Value) : Prop :=
  ∃ (x c : Int) (off m n cap : Nat) (A : Option Addr) (xs : List Value), vk = .slice A n cap ∧ c ≠ 0 ∧ R = .err c off ∧ Blk wr w.heap.size 142 #[.int .i64 x, .int .i64 c, .int .i64 ((k + off : Nat) : Int)] ∧ m ≤ 256 ∧ wr.ownsRow (w.heap.size + 3) 26 3 vp m xs
def AEnd (w wr : World) (k : Nat) (R : Pr) (vp vk : Value) (X C Wv : Int) : Prop :=
  ∃ (m n cap : Nat) (A : Option Addr) (xs : List Value), vk = .slice A n cap ∧ m ≤ 256 ∧ Blk wr w.heap.size 142 #[.int .i64 X, .int .i64 C, .int .i64 Wv] ∧ wr.ownsRow (w.heap.size + 3) 26 3 vp m xs ∧
   (m = 0 → ∀ W' : World, Below w.heap.size w W' → wr.heap.size ≤ W'.heap.size → (∀ j, w.heap.size + 3 ≤ j → j < wr.heap.size → W'.heap[j]? = wr.heap[j]?) → YN w k R (.returned (.tuple #[.agg #[.int .i64 2, .slice none 0 0, .slice A n cap], .agg #[.int .i64 X, .int .i64 C, .int .i64 Wv]])) W') ∧
   (0 < m → ∀ (W w4 W' : World) (g cap2 H : Nat), wr.heap.size ≤ W.heap.size → (∀ j, w.heap.size + 3 ≤ j → j < wr.heap.size → W.heap[j]? = wr.heap[j]?) → W.grownBy w4 vp.ownBlock → (vp.ownBlock = some g ∨ g = H) → W.heap.size ≤ H → w4.ownsRow (w.heap.size + 3) 26 3 (.slice (some ⟨g, 0, none⟩) (m + 1) cap2) (m + 1) (xs ++ [.int .i64 2, .slice none 0 0, .slice A n cap]) → Below w.heap.size w W' → w4.heap.size ≤ W'.heap.size → (∀ j, w.heap.size + 3 ≤ j → j < w4.heap.size → W'.heap[j]? = w4.heap[j]?) → YN w k R (.returned (.tuple #[.agg #[.int .i64 3, .slice none 0 0, .slice (some ⟨g, 0, none⟩) (m + 1) cap2], .agg #[.int .i64 X, .int .i64 C, .int .i64 Wv]])) W')
theorem AEnd.bad {w wr : World} {k : Nat} {R : Pr} {vp vk : Value} {x c : Int} {off m n cap : Nat} {A : Option Addr} {xs : List Value} (hv : vk = .slice A n cap) (hR : R = .err c off) (hP : Blk wr w.heap.size 142 #[.int .i64 x, .int .i64 c, .int .i64 ((k + off : Nat) : Int)]) (hm : m ≤ 256) (ho : wr.ownsRow (w.heap.size + 3) 26 3 vp m xs) : AEnd w wr k R vp vk x c ((k + off : Nat) : Int) := by
  subst hR
  exact ⟨m, n, cap, A, xs, hv, hm, hP, ho, fun _ W' hb _ _ => ⟨⟨2, none, 0, 0, A, n, cap, x, rfl⟩, hb⟩, fun _ W w4 W' g cap2 H _ _ _ _ _ _ hb _ _ => ⟨⟨3, none, 0, 0, some ⟨g, 0, none⟩, m + 1, cap2, x, rfl⟩, hb⟩⟩
theorem AEnd.good {Al : List UInt8 → Pr} {w wr : World} {s : ByteArray} {k k2 d : Nat} {R : Pr} {vp vk : Value} {acc cur : List Tr} {cp ck : List Value} (hk : k ≤ k2) (hs : s.size ≤ 256) (h2 : k2 ≤ s.size) (ha : acc.length ≤ k2) (hP : Blk wr w.heap.size 142 #[.int .i64 (k2 : Nat), .int .i64 0, .int .i64 0]) (hT : TwoR wr (w.heap.size + 3) d vp vk acc cur cp ck) (hR : ARun Al s k k2 R acc cur)
    (h0 : (restL s k2).isEmpty = true ∨ starts [41] (restL s k2) = true) : AEnd w wr k R vp vk (k2 : Nat) 0 0 := by
  obtain ⟨A, cap, hv⟩ := own_form hT.ok
  subst hv
  have hRe := hR.stop h0
  refine ⟨acc.length, cur.length, cap, A, cp, rfl, by omega, hP, hT.op, fun hm W' hb hsz same => ?_, fun hm W w4 W' g cap2 H hs1 same1 hgrow hat hH hown4 hb hsz same => ?_⟩
  · have hn : acc = [] := List.length_eq_zero_iff.1 hm
    subst hn
    rw [hRe]
    refine ⟨d + 1, 2, none, 0, 0, A, cur.length, cap, by rw [show k + (k2 - k) = k2 by omega], ?_, hb⟩
    exact ((hT.node 2 rfl).keep (w' := W') fun j hj => same j hj.1 hj.2.1).mono fun j hj => ⟨by have := hj.1; omega, by have := hj.2.1; omega⟩
  · rw [hRe, show altEnd (acc ++ [.mk 2 [] cur]) = .mk 3 [] (acc ++ [.mk 2 [] cur]) by
      match acc, hm with
      | a :: l, _ => rcases l with _ | ⟨b, l⟩ <;> rfl]
    refine ⟨max d (d + 1) + 1, 3, none, 0, 0, some ⟨g, 0, none⟩, acc.length + 1, cap2, by rw [show k + (k2 - k) = k2 by omega], ?_, hb⟩
    exact ((hT.end3 rfl hs1 same1 hgrow hat hH hown4).keep (w' := W') fun j hj => same j hj.1 hj.2).mono fun j hj => ⟨by have := hj.1; omega, by have := hj.2; omega⟩
theorem YCl.drew {w wr : World} (h : YCl w wr) : YCl w wr.drew := ⟨h.old.drew, h.nb.drew, h.rb.drew⟩
set_option maxHeartbeats 8000000 in
set_option maxRecDepth 100000 in
theorem yalt_walk (Al : List UInt8 → Pr) (s : ByteArray) (k : Nat) (w : World) (hk : k ≤ s.size) (hs : s.size ≤ 256) {R : Pr} (hR : ARun Al s k k R [] []) (hc : ∀ c o, R = .err c o → c ≠ 0)
    (hP : ∀ j W, k ≤ j → j < s.size → Calls Try.prog 99 #[.string s, .agg #[.int .i64 (j : Nat), .int .i64 0, .int .i64 0]] W (YN W j (pieceX Al (restL s j)))) :
    Calls Try.prog 68 #[.string s, .agg #[.int .i64 (k : Nat), .int .i64 0, .int .i64 0]] w (YN w k R) := by
  obtain ⟨i0, hi0, hz0, hz1, hz2⟩ := info_parts nodeInfo
  have HR := Lib.hid hR
  have HC := Lib.hid hc
  have HPC := Lib.hid hP
  have mixed : Try.prog.follows .mixedOrders = true := by kernel_rfl
  clear hR hc hP
  have START := Lib.hid (show YCl w (((((w.alloc (.cells #[.int .i64 (k : Nat), .int .i64 0, .int .i64 0] 142)).alloc (.cells #[.int .i64 0, .slice none 0 0, .slice none 0 0] 26)).alloc (.cells #[.int .i64 0, .int .i64 0, .int .i64 0] 142)).alloc (.cells #[] 26)).alloc (.cells #[] 26)) from ⟨(((((Below.refl w.heap.size w).alloc (Nat.le_refl _) _).alloc (by simp) _).alloc (by simp; omega) _).alloc (by simp; omega) _).alloc (by simp; omega) _, by
      have h1 := Blk.new (w.alloc (.cells #[.int .i64 (k : Nat), .int .i64 0, .int .i64 0] 142)) 26 #[.int .i64 0, .slice none 0 0, .slice none 0 0]
      have h2 := ((h1.alloc (.cells #[.int .i64 0, .int .i64 0, .int .i64 0] 142)).alloc (.cells #[] 26)).alloc (.cells #[] 26)
      simpa using h2, by
      have h1 := Blk.new ((w.alloc (.cells #[.int .i64 (k : Nat), .int .i64 0, .int .i64 0] 142)).alloc (.cells #[.int .i64 0, .slice none 0 0, .slice none 0 0] 26)) 142 #[.int .i64 0, .int .i64 0, .int .i64 0]
      have h2 := (h1.alloc (.cells #[] 26)).alloc (.cells #[] 26)
      simpa using h2⟩)
  have PSTART := Lib.hid (show Blk (((((w.alloc (.cells #[.int .i64 (k : Nat), .int .i64 0, .int .i64 0] 142)).alloc (.cells #[.int .i64 0, .slice none 0 0, .slice none 0 0] 26)).alloc (.cells #[.int .i64 0, .int .i64 0, .int .i64 0] 142)).alloc (.cells #[] 26)).alloc (.cells #[] 26)) w.heap.size 142 #[.int .i64 (k : Nat), .int .i64 0, .int .i64 0] from
    ((((Blk.new w 142 #[.int .i64 (k : Nat), .int .i64 0, .int .i64 0]).alloc _).alloc _).alloc _).alloc _)
  have RSTART := Lib.hid (show TwoR (((((w.alloc (.cells #[.int .i64 (k : Nat), .int .i64 0, .int .i64 0] 142)).alloc (.cells #[.int .i64 0, .slice none 0 0, .slice none 0 0] 26)).alloc (.cells #[.int .i64 0, .int .i64 0, .int .i64 0] 142)).alloc (.cells #[] 26)).alloc (.cells #[] 26)) (w.heap.size + 3) 0 (.slice (some ⟨w.heap.size + 3, 0, none⟩) 0 0) (.slice (some ⟨w.heap.size + 4, 0, none⟩) 0 0) [] [] [] [] from by
    refine ⟨⟨rfl, .inr ⟨w.heap.size + 3, 0, #[], rfl, Nat.le_refl _, ?_, Nat.le_refl _, Nat.zero_le _, rfl, rfl⟩⟩, ⟨rfl, .inr ⟨w.heap.size + 4, 0, #[], rfl, by omega, ?_, Nat.le_refl _, Nat.zero_le _, rfl, rfl⟩⟩, fun j hj => ?_, KidsAt.nil _ _ _, KidsAt.nil _ _ _⟩
    · rw [Below.heap_alloc _ _ _ (by simp)]
      have h1 := heap_alloc_new (((w.alloc (.cells #[.int .i64 (k : Nat), .int .i64 0, .int .i64 0] 142)).alloc (.cells #[.int .i64 0, .slice none 0 0, .slice none 0 0] 26)).alloc (.cells #[.int .i64 0, .int .i64 0, .int .i64 0] 142)) (.cells #[] 26)
      simpa using h1
    · have h1 := heap_alloc_new ((((w.alloc (.cells #[.int .i64 (k : Nat), .int .i64 0, .int .i64 0] 142)).alloc (.cells #[.int .i64 0, .slice none 0 0, .slice none 0 0] 26)).alloc (.cells #[.int .i64 0, .int .i64 0, .int .i64 0] 142)).alloc (.cells #[] 26)) (.cells #[] 26)
      simpa using h1
    · simp only [Value.ownBlock, Option.some.injEq] at hj
      simp only [Value.ownBlock, ne_eq, Option.some.injEq]; omega)
  go_enter Try.func68, Try.ntmps68
  go_wp2_with fail
  go_loopw [6, 7] (fun vp vk wr => YCl w wr ∧ (AGo Al w wr s k R vp vk ∨ ABad w wr k R vp vk)) (fun _ _ wr => yLeft s w.heap.size wr)
  case atStart => exact ⟨START.out, .inl ⟨k, 0, [], [], [], [], Nat.le_refl _, hk, Nat.zero_le _, Nat.zero_le _, PSTART.out, RSTART.out, HR.out⟩⟩
  case round =>
    obtain ⟨hcl, hrel⟩ := hrel
    have HCL := Lib.hid hcl
    obtain ⟨n0, n1, n2, m0, m1, m2⟩ := blk3 hcl.nb
    obtain ⟨r0, r1, r2, l0, l1, l2⟩ := blk3 hcl.rb
    have hB := hcl.old.size
    have hwl := hcl.rb.lt
    have hway : (∃ X C Wv : Int, AEnd w wr k R u6 u7 X C Wv ∧ ((C == 0) = false ∨ (C = 0 ∧ ¬ X < (s.size : Int)) ∨ (C = 0 ∧ ∃ k2 : Nat, ∃ h : k2 < s.size, X = (k2 : Nat) ∧ (k2 : Int) < (s.size : Int) ∧ s[k2] = byteAt s k2 ∧ (((byteAt s k2).toNat : Int) != 41) = false))) ∨
        (∃ (k2 d : Nat) (acc cur : List Tr) (cp ck : List Value), k ≤ k2 ∧ k2 < s.size ∧ acc.length ≤ k2 ∧ cur.length ≤ k2 ∧ Blk wr w.heap.size 142 #[.int .i64 (k2 : Nat), .int .i64 0, .int .i64 0] ∧ TwoR wr (w.heap.size + 3) d u6 u7 acc cur cp ck ∧ ARun Al s k k2 R acc cur ∧ byteAt s k2 ≠ 41) := by
      rcases hrel with ⟨k2, d, acc, cur, cp, ck, h1, h2, h3, h4, h5, h6, h7⟩ | ⟨x, c, off, m, n, cap, A, xs, h1, h2, h3, h4, h5, h6⟩
      · by_cases hlt : k2 < s.size
        · by_cases h41 : byteAt s k2 = 41
          · exact .inl ⟨_, _, _, AEnd.good h1 hs h2 h3 h5 h6 h7 (.inr (by rw [ystarts_rest s k2 41 hlt, h41]; rfl)), .inr (.inr ⟨rfl, k2, hlt, rfl, by omega, byteAt_eq s k2 hlt, by rw [h41]; rfl⟩)⟩
          · exact .inr ⟨k2, d, acc, cur, cp, ck, h1, hlt, h3, h4, h5, h6, h7, h41⟩
        · exact .inl ⟨_, _, _, AEnd.good h1 hs h2 h3 h5 h6 h7 (.inl (by rw [rest_nil s k2 (by omega)]; rfl)), .inr (.inl ⟨rfl, by omega⟩)⟩
      · exact .inl ⟨_, _, _, AEnd.bad h1 h3 h4 h5 h6, .inl (by simpa using h2)⟩
    clear hrel hcl
    rcases hway with ⟨X, C, Wv, ⟨m, n, cap, A, xs, rfl, hm, hP, hown, hf0, hf1⟩, hway⟩ | ⟨k2, d, acc, cur, cp, ck, hkk, hlt, hal, hcu, hP, hT, hrun, h41⟩
    · obtain ⟨p0, p1, p2, z0, z1, z2⟩ := blk3 hP
      obtain ⟨ao, cap0, hv⟩ := own_form hown
      subst hv
      have HF0 := Lib.hid hf0
      have HF1 := Lib.hid hf1
      have HOWN := Lib.hid hown
      have HP := Lib.hid hP
      have hol := hP.lt
      have hs4 : w.heap.size + 1 < wr.heap.size := by omega
      have hs5 : w.heap.size < wr.heap.size := by omega
      have HC1 := Lib.hid (HCL.out.alloc (.cells #[.int .i64 2, .slice none 0 0, .slice A n cap] 26))
      clear hf0 hf1 hown hP
      by_cases hm0 : m = 0
      · have em : ((m : Int) == 0) = true := by simp [hm0]
        rcases hway with hw1 | ⟨rfl, hw1⟩ | ⟨rfl, k2, hw0, rfl, hw1, hw2, hw3⟩
        · go_wp2
          go_region
          go_wp2
          obtain ⟨W6, hW, hN, hP6, hb6, hk6, hz6⟩ := ysix HCL.out (.int .i64 2) (.slice none 0 0) (.slice A n cap) (.int .i64 X) (.int .i64 C) (.int .i64 Wv)
          rw [← hW]
          clear hW n0 n1 n2 m0 m1 m2 r0 r1 r2 l0 l1 l2
          obtain ⟨n0, n1, n2, m0, m1, m2⟩ := blk3 (hN.alloc (.cells #[.int .i64 2, .slice none 0 0, .slice A n cap] 26))
          obtain ⟨r0, r1, r2, l0, l1, l2⟩ := blk3 (hP6.alloc (.cells #[.int .i64 2, .slice none 0 0, .slice A n cap] 26))
          refine bodyPost_ret (v := .tuple #[.agg #[.int .i64 2, .slice none 0 0, .slice A n cap], .agg #[.int .i64 X, .int .i64 C, .int .i64 Wv]]) (by simp [results, Try.results68, go_sem, n0, n1, n2, r0, r1, r2]) rfl (HF0.out hm0 _ ((hb6.alloc hb6.size (.cells #[.int .i64 2, .slice none 0 0, .slice A n cap] 26)).drew) (by simp [World.drew, hz6]) fun j hj hj2 => (Below.heap_alloc W6 (.cells #[.int .i64 2, .slice none 0 0, .slice A n cap] 26) j (by rw [hz6]; exact hj2)).trans (hk6 j (by omega) (by omega)))
        · go_wp2
          go_region
          go_wp2
          obtain ⟨W6, hW, hN, hP6, hb6, hk6, hz6⟩ := ysix HCL.out (.int .i64 2) (.slice none 0 0) (.slice A n cap) (.int .i64 X) (.int .i64 0) (.int .i64 Wv)
          rw [← hW]
          clear hW n0 n1 n2 m0 m1 m2 r0 r1 r2 l0 l1 l2
          obtain ⟨n0, n1, n2, m0, m1, m2⟩ := blk3 (hN.alloc (.cells #[.int .i64 2, .slice none 0 0, .slice A n cap] 26))
          obtain ⟨r0, r1, r2, l0, l1, l2⟩ := blk3 (hP6.alloc (.cells #[.int .i64 2, .slice none 0 0, .slice A n cap] 26))
          refine bodyPost_ret (v := .tuple #[.agg #[.int .i64 2, .slice none 0 0, .slice A n cap], .agg #[.int .i64 X, .int .i64 0, .int .i64 Wv]]) (by simp [results, Try.results68, go_sem, n0, n1, n2, r0, r1, r2]) rfl (HF0.out hm0 _ ((hb6.alloc hb6.size (.cells #[.int .i64 2, .slice none 0 0, .slice A n cap] 26)).drew) (by simp [World.drew, hz6]) fun j hj hj2 => (Below.heap_alloc W6 (.cells #[.int .i64 2, .slice none 0 0, .slice A n cap] 26) j (by rw [hz6]; exact hj2)).trans (hk6 j (by omega) (by omega)))
        · go_wp2
          go_region
          go_wp2
          obtain ⟨W6, hW, hN, hP6, hb6, hk6, hz6⟩ := ysix HCL.out (.int .i64 2) (.slice none 0 0) (.slice A n cap) (.int .i64 (k2 : Nat)) (.int .i64 0) (.int .i64 Wv)
          rw [← hW]
          clear hW n0 n1 n2 m0 m1 m2 r0 r1 r2 l0 l1 l2
          obtain ⟨n0, n1, n2, m0, m1, m2⟩ := blk3 (hN.alloc (.cells #[.int .i64 2, .slice none 0 0, .slice A n cap] 26))
          obtain ⟨r0, r1, r2, l0, l1, l2⟩ := blk3 (hP6.alloc (.cells #[.int .i64 2, .slice none 0 0, .slice A n cap] 26))
          refine bodyPost_ret (v := .tuple #[.agg #[.int .i64 2, .slice none 0 0, .slice A n cap], .agg #[.int .i64 (k2 : Nat), .int .i64 0, .int .i64 Wv]]) (by simp [results, Try.results68, go_sem, n0, n1, n2, r0, r1, r2]) rfl (HF0.out hm0 _ ((hb6.alloc hb6.size (.cells #[.int .i64 2, .slice none 0 0, .slice A n cap] 26)).drew) (by simp [World.drew, hz6]) fun j hj hj2 => (Below.heap_alloc W6 (.cells #[.int .i64 2, .slice none 0 0, .slice A n cap] 26) j (by rw [hz6]; exact hj2)).trans (hk6 j (by omega) (by omega)))
      · have em : ((m : Int) == 0) = false := by simp; omega
        rcases hway with hw1 | ⟨rfl, hw1⟩ | ⟨rfl, k2, hw0, rfl, hw1, hw2, hw3⟩
        · go_wp2
          have HP1 := Lib.hid (HP.out.alloc (.cells #[.int .i64 2, .slice none 0 0, .slice A n cap] 26)).drew
          have HL1 := Lib.hid (Blk.new wr 26 #[.int .i64 2, .slice none 0 0, .slice A n cap]).drew
          have HO1 := Lib.hid (HOWN.out.alloc (.cells #[.int .i64 2, .slice none 0 0, .slice A n cap] 26))
          refine wp_region_held_drew (S := fun W => W.cell? ⟨w.heap.size, 0, none⟩ = some (.int .i64 X) ∧ W.cell? ⟨w.heap.size, 1, none⟩ = some (.int .i64 C) ∧ W.cell? ⟨w.heap.size, 2, none⟩ = some (.int .i64 Wv) ∧ W.cell? ⟨wr.heap.size, 0, none⟩ = some (.int .i64 2) ∧ W.cell? ⟨wr.heap.size, 1, none⟩ = some (.slice none 0 0) ∧ W.cell? ⟨wr.heap.size, 2, none⟩ = some (.slice A n cap)) mixed ⟨HP1.out.cell 0, HP1.out.cell 1, HP1.out.cell 2, HL1.out.cell 0, HL1.out.cell 1, HL1.out.cell 2⟩ (fun hS => ?_)
          refine wpAnyH_take (i := 0) (v := .slice ao m cap0) rfl (by kernel_rfl) (by kernel_rfl) (by kernel_rfl) (fun _ _ _ h => h) (Or.inl ⟨by rfl, fun W hW => by obtain ⟨h0, h1, h2, h3, h4, h5⟩ := hW; go_simp⟩) hS ?_
          refine wpAnyH_take (i := 1) (v := .agg #[.int .i64 2, .slice none 0 0, .slice A n cap]) rfl (by kernel_rfl) (by kernel_rfl) (by kernel_rfl) (fun _ _ _ h => h) (Or.inl ⟨by rfl, fun W hW => by obtain ⟨h0, h1, h2, h3, h4, h5⟩ := hW; go_simp⟩) hS ?_
          refine wpAnyH_take (i := 5) (v := .agg #[.int .i64 X, .int .i64 C, .int .i64 Wv]) rfl (by kernel_rfl) (by kernel_rfl) (by kernel_rfl) (fun _ _ _ h => h) (Or.inl ⟨by rfl, fun W hW => by obtain ⟨h0, h1, h2, h3, h4, h5⟩ := hW; go_simp⟩) hS ?_
          refine wpAnyH_ready (rs := [2]) (by kernel_rfl) (by simp) ?_
          refine AllReadyH.cons rfl (fun K hK => ?_) AllReadyH.nil
          go_simp
          have HP2 := Lib.hid ((HP.out.alloc (.cells #[.int .i64 2, .slice none 0 0, .slice A n cap] 26)).alloc (.cells #[.int .i64 2, .slice none 0 0, .slice A n cap] 26)).drew
          have HL2 := Lib.hid ((Blk.new wr 26 #[.int .i64 2, .slice none 0 0, .slice A n cap]).alloc (.cells #[.int .i64 2, .slice none 0 0, .slice A n cap] 26)).drew
          clear hS
          refine hK.out _ _ ⟨HP2.out.cell 0, HP2.out.cell 1, HP2.out.cell 2, HL2.out.cell 0, HL2.out.cell 1, HL2.out.cell 2⟩ (fun hS => ?_)
          clear hK K
          refine wpAnyH_ready (rs := [3]) (by kernel_rfl) (by simp) ?_
          refine AllReadyH.cons rfl (fun K hK => ?_) AllReadyH.nil
          refine step_append_lies _ (by rfl) (.tmp 63) (.tmp 65) 24 (by rfl) (w.heap.size + 3) 26 i0 _ 3 56 Try.underlying24 hi0 hz0 hz1 hz2 rfl (by decide) _ m xs (by rfl) (by exact (HO1.out.alloc _)) ⟨wr.heap.size + 1, 0, none⟩ 1 1 [.int .i64 2, .slice none 0 0, .slice A n cap] (by rfl) rfl (by exact World.news_of_block (by exact heap_alloc_new2 wr _ _)) (three_one _ _ _ _ _ _ _) (by decide) (by unfold maxLen; omega) (by omega) (by simp [World.drew]; omega) _ (by rfl) ?_
          intro g cap2 w4 hown4 hgrow0 hat0 hlt4
          have hgrow : (((wr.alloc (.cells #[.int .i64 2, .slice none 0 0, .slice A n cap] 26)).alloc (.cells #[.int .i64 2, .slice none 0 0, .slice A n cap] 26)).drew).grownBy w4 (Value.slice ao m cap0).ownBlock := hgrow0
          have hat : (Value.slice ao m cap0).ownBlock = some g ∨ g = (((wr.alloc (.cells #[.int .i64 2, .slice none 0 0, .slice A n cap] 26)).alloc (.cells #[.int .i64 2, .slice none 0 0, .slice A n cap] 26)).drew).heap.size := hat0
          have hgr : ∀ j, (Value.slice ao m cap0).ownBlock = some j → w.heap.size + 3 ≤ j ∧ j < wr.heap.size := fun j hj => HOWN.out.lt j hj
          have HC4 := Lib.hid (YCl.grown (w' := w4) (((HCL.out.alloc (.cells #[.int .i64 2, .slice none 0 0, .slice A n cap] 26)).alloc (.cells #[.int .i64 2, .slice none 0 0, .slice A n cap] 26)).drew) hgrow (fun j hj => (hgr j hj).1))
          have HP4 := Lib.hid (HP2.out.grown hgrow (fun e => by have := hgr _ e.symm; omega))
          have HL4 := Lib.hid (HL2.out.grown hgrow (fun e => by have := hgr _ e.symm; omega))
          have HG := Lib.hid hgrow
          have HAT := Lib.hid hat
          have HO4 := Lib.hid hown4
          have hs8 : wr.heap.size + 2 ≤ w4.heap.size := by have := hgrow.size; simpa [World.drew] using this
          have hs9 : w.heap.size + 1 < w4.heap.size := by omega
          have hs10 : w.heap.size + 1 + 1 < w4.heap.size := by omega
          clear hS
          refine hK.out _ _ ⟨HP4.out.cell 0, HP4.out.cell 1, HP4.out.cell 2, HL4.out.cell 0, HL4.out.cell 1, HL4.out.cell 2⟩ (fun hS => ?_)
          clear hK K n0 n1 n2 m0 m1 m2 r0 r1 r2 l0 l1 l2 p0 p1 p2 z0 z1 z2 hgrow0 hat0 hgrow hat hown4
          obtain ⟨n0, n1, n2, m0, m1, m2⟩ := blk3 HC4.out.nb
          refine wpAnyH_take (i := 4) (v := .agg #[.int .i64 3, .slice none 0 0, .slice (some ⟨g, 0, none⟩) (m + 1) cap2]) rfl (by kernel_rfl) (by kernel_rfl) (by kernel_rfl) (fun _ _ _ h => h) (Or.inl ⟨by rfl, fun W hW => by obtain ⟨h0, h1, h2, h3, h4, h5⟩ := hW; go_simp⟩) hS ?_
          refine wpAnyH_ready (rs := [6]) (by kernel_rfl) (by simp) ?_
          refine AllReadyH.cons rfl (fun K hK => ?_) AllReadyH.nil
          go_simp
          have HP5 := Lib.hid (((HP4.out.far (p := ⟨w.heap.size + 1, 0, none⟩) (by simp) (.int .i64 3)).far (p := ⟨w.heap.size + 1, 1, none⟩) (by simp) (.slice none 0 0)).far (p := ⟨w.heap.size + 1, 2, none⟩) (by simp) (.slice (some ⟨g, 0, none⟩) (m + 1) cap2))
          have HL5 := Lib.hid (((HL4.out.far (p := ⟨w.heap.size + 1, 0, none⟩) (by simp only; omega) (.int .i64 3)).far (p := ⟨w.heap.size + 1, 1, none⟩) (by simp only; omega) (.slice none 0 0)).far (p := ⟨w.heap.size + 1, 2, none⟩) (by simp only; omega) (.slice (some ⟨g, 0, none⟩) (m + 1) cap2))
          have HR5 := Lib.hid (((HC4.out.rb.far (p := ⟨w.heap.size + 1, 0, none⟩) (by simp) (.int .i64 3)).far (p := ⟨w.heap.size + 1, 1, none⟩) (by simp) (.slice none 0 0)).far (p := ⟨w.heap.size + 1, 2, none⟩) (by simp) (.slice (some ⟨g, 0, none⟩) (m + 1) cap2))
          clear hS
          refine hK.out _ _ ⟨HP5.out.cell 0, HP5.out.cell 1, HP5.out.cell 2, HL5.out.cell 0, HL5.out.cell 1, HL5.out.cell 2⟩ (fun hS => ?_)
          clear hK K n0 n1 n2 m0 m1 m2
          obtain ⟨r0, r1, r2, l0, l1, l2⟩ := blk3 HR5.out
          refine wpAnyH_ready (rs := [7]) (by kernel_rfl) (by simp) ?_
          refine AllReadyH.cons rfl (fun K hK => ?_) AllReadyH.nil
          go_simp
          have HP6 := Lib.hid (((HP5.out.far (p := ⟨w.heap.size + 1 + 1, 0, none⟩) (by simp; omega) (.int .i64 X)).far (p := ⟨w.heap.size + 1 + 1, 1, none⟩) (by simp; omega) (.int .i64 C)).far (p := ⟨w.heap.size + 1 + 1, 2, none⟩) (by simp; omega) (.int .i64 Wv))
          have HL6 := Lib.hid (((HL5.out.far (p := ⟨w.heap.size + 1 + 1, 0, none⟩) (by simp only; omega) (.int .i64 X)).far (p := ⟨w.heap.size + 1 + 1, 1, none⟩) (by simp only; omega) (.int .i64 C)).far (p := ⟨w.heap.size + 1 + 1, 2, none⟩) (by simp only; omega) (.int .i64 Wv))
          clear hS
          refine hK.out _ _ ⟨HP6.out.cell 0, HP6.out.cell 1, HP6.out.cell 2, HL6.out.cell 0, HL6.out.cell 1, HL6.out.cell 2⟩ (fun hS => ?_)
          clear hK K r0 r1 r2 l0 l1 l2
          clear hS
          refine wpAnyH_done (by kernel_rfl) ?_ _
          go_wp2
          obtain ⟨W6, hW, hN, hP6, hb6, hk6, hz6⟩ := ysix HC4.out (.int .i64 3) (.slice none 0 0) (.slice (some ⟨g, 0, none⟩) (m + 1) cap2) (.int .i64 X) (.int .i64 C) (.int .i64 Wv)
          rw [← hW]
          clear hW
          obtain ⟨n0, n1, n2, m0, m1, m2⟩ := blk3 hN
          obtain ⟨r0, r1, r2, l0, l1, l2⟩ := blk3 hP6
          refine bodyPost_ret (v := .tuple #[.agg #[.int .i64 3, .slice none 0 0, .slice (some ⟨g, 0, none⟩) (m + 1) cap2], .agg #[.int .i64 X, .int .i64 C, .int .i64 Wv]]) (by simp [results, Try.results68, go_sem, n0, n1, n2, r0, r1, r2]) rfl (HF1.out (by omega) (((wr.alloc (.cells #[.int .i64 2, .slice none 0 0, .slice A n cap] 26)).alloc (.cells #[.int .i64 2, .slice none 0 0, .slice A n cap] 26)).drew) w4 W6 g cap2 _ (by simp [World.drew]; omega) (fun j hj hj2 => (Below.heap_alloc (wr.alloc (.cells #[.int .i64 2, .slice none 0 0, .slice A n cap] 26)) (.cells #[.int .i64 2, .slice none 0 0, .slice A n cap] 26) j (by simp; omega)).trans (Below.heap_alloc wr (.cells #[.int .i64 2, .slice none 0 0, .slice A n cap] 26) j hj2)) HG.out HAT.out (Nat.le_refl _) HO4.out hb6 (by rw [hz6]; exact Nat.le_refl _) (fun j hj hj2 => hk6 j (by omega) (by omega)))
        · go_wp2
          have HP1 := Lib.hid (HP.out.alloc (.cells #[.int .i64 2, .slice none 0 0, .slice A n cap] 26)).drew
          have HL1 := Lib.hid (Blk.new wr 26 #[.int .i64 2, .slice none 0 0, .slice A n cap]).drew
          have HO1 := Lib.hid (HOWN.out.alloc (.cells #[.int .i64 2, .slice none 0 0, .slice A n cap] 26))
          refine wp_region_held_drew (S := fun W => W.cell? ⟨w.heap.size, 0, none⟩ = some (.int .i64 X) ∧ W.cell? ⟨w.heap.size, 1, none⟩ = some (.int .i64 0) ∧ W.cell? ⟨w.heap.size, 2, none⟩ = some (.int .i64 Wv) ∧ W.cell? ⟨wr.heap.size, 0, none⟩ = some (.int .i64 2) ∧ W.cell? ⟨wr.heap.size, 1, none⟩ = some (.slice none 0 0) ∧ W.cell? ⟨wr.heap.size, 2, none⟩ = some (.slice A n cap)) mixed ⟨HP1.out.cell 0, HP1.out.cell 1, HP1.out.cell 2, HL1.out.cell 0, HL1.out.cell 1, HL1.out.cell 2⟩ (fun hS => ?_)
          refine wpAnyH_take (i := 0) (v := .slice ao m cap0) rfl (by kernel_rfl) (by kernel_rfl) (by kernel_rfl) (fun _ _ _ h => h) (Or.inl ⟨by rfl, fun W hW => by obtain ⟨h0, h1, h2, h3, h4, h5⟩ := hW; go_simp⟩) hS ?_
          refine wpAnyH_take (i := 1) (v := .agg #[.int .i64 2, .slice none 0 0, .slice A n cap]) rfl (by kernel_rfl) (by kernel_rfl) (by kernel_rfl) (fun _ _ _ h => h) (Or.inl ⟨by rfl, fun W hW => by obtain ⟨h0, h1, h2, h3, h4, h5⟩ := hW; go_simp⟩) hS ?_
          refine wpAnyH_take (i := 5) (v := .agg #[.int .i64 X, .int .i64 0, .int .i64 Wv]) rfl (by kernel_rfl) (by kernel_rfl) (by kernel_rfl) (fun _ _ _ h => h) (Or.inl ⟨by rfl, fun W hW => by obtain ⟨h0, h1, h2, h3, h4, h5⟩ := hW; go_simp⟩) hS ?_
          refine wpAnyH_ready (rs := [2]) (by kernel_rfl) (by simp) ?_
          refine AllReadyH.cons rfl (fun K hK => ?_) AllReadyH.nil
          go_simp
          have HP2 := Lib.hid ((HP.out.alloc (.cells #[.int .i64 2, .slice none 0 0, .slice A n cap] 26)).alloc (.cells #[.int .i64 2, .slice none 0 0, .slice A n cap] 26)).drew
          have HL2 := Lib.hid ((Blk.new wr 26 #[.int .i64 2, .slice none 0 0, .slice A n cap]).alloc (.cells #[.int .i64 2, .slice none 0 0, .slice A n cap] 26)).drew
          clear hS
          refine hK.out _ _ ⟨HP2.out.cell 0, HP2.out.cell 1, HP2.out.cell 2, HL2.out.cell 0, HL2.out.cell 1, HL2.out.cell 2⟩ (fun hS => ?_)
          clear hK K
          refine wpAnyH_ready (rs := [3]) (by kernel_rfl) (by simp) ?_
          refine AllReadyH.cons rfl (fun K hK => ?_) AllReadyH.nil
          refine step_append_lies _ (by rfl) (.tmp 63) (.tmp 65) 24 (by rfl) (w.heap.size + 3) 26 i0 _ 3 56 Try.underlying24 hi0 hz0 hz1 hz2 rfl (by decide) _ m xs (by rfl) (by exact (HO1.out.alloc _)) ⟨wr.heap.size + 1, 0, none⟩ 1 1 [.int .i64 2, .slice none 0 0, .slice A n cap] (by rfl) rfl (by exact World.news_of_block (by exact heap_alloc_new2 wr _ _)) (three_one _ _ _ _ _ _ _) (by decide) (by unfold maxLen; omega) (by omega) (by simp [World.drew]; omega) _ (by rfl) ?_
          intro g cap2 w4 hown4 hgrow0 hat0 hlt4
          have hgrow : (((wr.alloc (.cells #[.int .i64 2, .slice none 0 0, .slice A n cap] 26)).alloc (.cells #[.int .i64 2, .slice none 0 0, .slice A n cap] 26)).drew).grownBy w4 (Value.slice ao m cap0).ownBlock := hgrow0
          have hat : (Value.slice ao m cap0).ownBlock = some g ∨ g = (((wr.alloc (.cells #[.int .i64 2, .slice none 0 0, .slice A n cap] 26)).alloc (.cells #[.int .i64 2, .slice none 0 0, .slice A n cap] 26)).drew).heap.size := hat0
          have hgr : ∀ j, (Value.slice ao m cap0).ownBlock = some j → w.heap.size + 3 ≤ j ∧ j < wr.heap.size := fun j hj => HOWN.out.lt j hj
          have HC4 := Lib.hid (YCl.grown (w' := w4) (((HCL.out.alloc (.cells #[.int .i64 2, .slice none 0 0, .slice A n cap] 26)).alloc (.cells #[.int .i64 2, .slice none 0 0, .slice A n cap] 26)).drew) hgrow (fun j hj => (hgr j hj).1))
          have HP4 := Lib.hid (HP2.out.grown hgrow (fun e => by have := hgr _ e.symm; omega))
          have HL4 := Lib.hid (HL2.out.grown hgrow (fun e => by have := hgr _ e.symm; omega))
          have HG := Lib.hid hgrow
          have HAT := Lib.hid hat
          have HO4 := Lib.hid hown4
          have hs8 : wr.heap.size + 2 ≤ w4.heap.size := by have := hgrow.size; simpa [World.drew] using this
          have hs9 : w.heap.size + 1 < w4.heap.size := by omega
          have hs10 : w.heap.size + 1 + 1 < w4.heap.size := by omega
          clear hS
          refine hK.out _ _ ⟨HP4.out.cell 0, HP4.out.cell 1, HP4.out.cell 2, HL4.out.cell 0, HL4.out.cell 1, HL4.out.cell 2⟩ (fun hS => ?_)
          clear hK K n0 n1 n2 m0 m1 m2 r0 r1 r2 l0 l1 l2 p0 p1 p2 z0 z1 z2 hgrow0 hat0 hgrow hat hown4
          obtain ⟨n0, n1, n2, m0, m1, m2⟩ := blk3 HC4.out.nb
          refine wpAnyH_take (i := 4) (v := .agg #[.int .i64 3, .slice none 0 0, .slice (some ⟨g, 0, none⟩) (m + 1) cap2]) rfl (by kernel_rfl) (by kernel_rfl) (by kernel_rfl) (fun _ _ _ h => h) (Or.inl ⟨by rfl, fun W hW => by obtain ⟨h0, h1, h2, h3, h4, h5⟩ := hW; go_simp⟩) hS ?_
          refine wpAnyH_ready (rs := [6]) (by kernel_rfl) (by simp) ?_
          refine AllReadyH.cons rfl (fun K hK => ?_) AllReadyH.nil
          go_simp
          have HP5 := Lib.hid (((HP4.out.far (p := ⟨w.heap.size + 1, 0, none⟩) (by simp) (.int .i64 3)).far (p := ⟨w.heap.size + 1, 1, none⟩) (by simp) (.slice none 0 0)).far (p := ⟨w.heap.size + 1, 2, none⟩) (by simp) (.slice (some ⟨g, 0, none⟩) (m + 1) cap2))
          have HL5 := Lib.hid (((HL4.out.far (p := ⟨w.heap.size + 1, 0, none⟩) (by simp only; omega) (.int .i64 3)).far (p := ⟨w.heap.size + 1, 1, none⟩) (by simp only; omega) (.slice none 0 0)).far (p := ⟨w.heap.size + 1, 2, none⟩) (by simp only; omega) (.slice (some ⟨g, 0, none⟩) (m + 1) cap2))
          have HR5 := Lib.hid (((HC4.out.rb.far (p := ⟨w.heap.size + 1, 0, none⟩) (by simp) (.int .i64 3)).far (p := ⟨w.heap.size + 1, 1, none⟩) (by simp) (.slice none 0 0)).far (p := ⟨w.heap.size + 1, 2, none⟩) (by simp) (.slice (some ⟨g, 0, none⟩) (m + 1) cap2))
          clear hS
          refine hK.out _ _ ⟨HP5.out.cell 0, HP5.out.cell 1, HP5.out.cell 2, HL5.out.cell 0, HL5.out.cell 1, HL5.out.cell 2⟩ (fun hS => ?_)
          clear hK K n0 n1 n2 m0 m1 m2
          obtain ⟨r0, r1, r2, l0, l1, l2⟩ := blk3 HR5.out
          refine wpAnyH_ready (rs := [7]) (by kernel_rfl) (by simp) ?_
          refine AllReadyH.cons rfl (fun K hK => ?_) AllReadyH.nil
          go_simp
          have HP6 := Lib.hid (((HP5.out.far (p := ⟨w.heap.size + 1 + 1, 0, none⟩) (by simp; omega) (.int .i64 X)).far (p := ⟨w.heap.size + 1 + 1, 1, none⟩) (by simp; omega) (.int .i64 0)).far (p := ⟨w.heap.size + 1 + 1, 2, none⟩) (by simp; omega) (.int .i64 Wv))
          have HL6 := Lib.hid (((HL5.out.far (p := ⟨w.heap.size + 1 + 1, 0, none⟩) (by simp only; omega) (.int .i64 X)).far (p := ⟨w.heap.size + 1 + 1, 1, none⟩) (by simp only; omega) (.int .i64 0)).far (p := ⟨w.heap.size + 1 + 1, 2, none⟩) (by simp only; omega) (.int .i64 Wv))
          clear hS
          refine hK.out _ _ ⟨HP6.out.cell 0, HP6.out.cell 1, HP6.out.cell 2, HL6.out.cell 0, HL6.out.cell 1, HL6.out.cell 2⟩ (fun hS => ?_)
          clear hK K r0 r1 r2 l0 l1 l2
          clear hS
          refine wpAnyH_done (by kernel_rfl) ?_ _
          go_wp2
          obtain ⟨W6, hW, hN, hP6, hb6, hk6, hz6⟩ := ysix HC4.out (.int .i64 3) (.slice none 0 0) (.slice (some ⟨g, 0, none⟩) (m + 1) cap2) (.int .i64 X) (.int .i64 0) (.int .i64 Wv)
          rw [← hW]
          clear hW
          obtain ⟨n0, n1, n2, m0, m1, m2⟩ := blk3 hN
          obtain ⟨r0, r1, r2, l0, l1, l2⟩ := blk3 hP6
          refine bodyPost_ret (v := .tuple #[.agg #[.int .i64 3, .slice none 0 0, .slice (some ⟨g, 0, none⟩) (m + 1) cap2], .agg #[.int .i64 X, .int .i64 0, .int .i64 Wv]]) (by simp [results, Try.results68, go_sem, n0, n1, n2, r0, r1, r2]) rfl (HF1.out (by omega) (((wr.alloc (.cells #[.int .i64 2, .slice none 0 0, .slice A n cap] 26)).alloc (.cells #[.int .i64 2, .slice none 0 0, .slice A n cap] 26)).drew) w4 W6 g cap2 _ (by simp [World.drew]; omega) (fun j hj hj2 => (Below.heap_alloc (wr.alloc (.cells #[.int .i64 2, .slice none 0 0, .slice A n cap] 26)) (.cells #[.int .i64 2, .slice none 0 0, .slice A n cap] 26) j (by simp; omega)).trans (Below.heap_alloc wr (.cells #[.int .i64 2, .slice none 0 0, .slice A n cap] 26) j hj2)) HG.out HAT.out (Nat.le_refl _) HO4.out hb6 (by rw [hz6]; exact Nat.le_refl _) (fun j hj hj2 => hk6 j (by omega) (by omega)))
        · go_wp2
          have HP1 := Lib.hid (HP.out.alloc (.cells #[.int .i64 2, .slice none 0 0, .slice A n cap] 26)).drew
          have HL1 := Lib.hid (Blk.new wr 26 #[.int .i64 2, .slice none 0 0, .slice A n cap]).drew
          have HO1 := Lib.hid (HOWN.out.alloc (.cells #[.int .i64 2, .slice none 0 0, .slice A n cap] 26))
          refine wp_region_held_drew (S := fun W => W.cell? ⟨w.heap.size, 0, none⟩ = some (.int .i64 (k2 : Nat)) ∧ W.cell? ⟨w.heap.size, 1, none⟩ = some (.int .i64 0) ∧ W.cell? ⟨w.heap.size, 2, none⟩ = some (.int .i64 Wv) ∧ W.cell? ⟨wr.heap.size, 0, none⟩ = some (.int .i64 2) ∧ W.cell? ⟨wr.heap.size, 1, none⟩ = some (.slice none 0 0) ∧ W.cell? ⟨wr.heap.size, 2, none⟩ = some (.slice A n cap)) mixed ⟨HP1.out.cell 0, HP1.out.cell 1, HP1.out.cell 2, HL1.out.cell 0, HL1.out.cell 1, HL1.out.cell 2⟩ (fun hS => ?_)
          refine wpAnyH_take (i := 0) (v := .slice ao m cap0) rfl (by kernel_rfl) (by kernel_rfl) (by kernel_rfl) (fun _ _ _ h => h) (Or.inl ⟨by rfl, fun W hW => by obtain ⟨h0, h1, h2, h3, h4, h5⟩ := hW; go_simp⟩) hS ?_
          refine wpAnyH_take (i := 1) (v := .agg #[.int .i64 2, .slice none 0 0, .slice A n cap]) rfl (by kernel_rfl) (by kernel_rfl) (by kernel_rfl) (fun _ _ _ h => h) (Or.inl ⟨by rfl, fun W hW => by obtain ⟨h0, h1, h2, h3, h4, h5⟩ := hW; go_simp⟩) hS ?_
          refine wpAnyH_take (i := 5) (v := .agg #[.int .i64 (k2 : Nat), .int .i64 0, .int .i64 Wv]) rfl (by kernel_rfl) (by kernel_rfl) (by kernel_rfl) (fun _ _ _ h => h) (Or.inl ⟨by rfl, fun W hW => by obtain ⟨h0, h1, h2, h3, h4, h5⟩ := hW; go_simp⟩) hS ?_
          refine wpAnyH_ready (rs := [2]) (by kernel_rfl) (by simp) ?_
          refine AllReadyH.cons rfl (fun K hK => ?_) AllReadyH.nil
          go_simp
          have HP2 := Lib.hid ((HP.out.alloc (.cells #[.int .i64 2, .slice none 0 0, .slice A n cap] 26)).alloc (.cells #[.int .i64 2, .slice none 0 0, .slice A n cap] 26)).drew
          have HL2 := Lib.hid ((Blk.new wr 26 #[.int .i64 2, .slice none 0 0, .slice A n cap]).alloc (.cells #[.int .i64 2, .slice none 0 0, .slice A n cap] 26)).drew
          clear hS
          refine hK.out _ _ ⟨HP2.out.cell 0, HP2.out.cell 1, HP2.out.cell 2, HL2.out.cell 0, HL2.out.cell 1, HL2.out.cell 2⟩ (fun hS => ?_)
          clear hK K
          refine wpAnyH_ready (rs := [3]) (by kernel_rfl) (by simp) ?_
          refine AllReadyH.cons rfl (fun K hK => ?_) AllReadyH.nil
          refine step_append_lies _ (by rfl) (.tmp 63) (.tmp 65) 24 (by rfl) (w.heap.size + 3) 26 i0 _ 3 56 Try.underlying24 hi0 hz0 hz1 hz2 rfl (by decide) _ m xs (by rfl) (by exact (HO1.out.alloc _)) ⟨wr.heap.size + 1, 0, none⟩ 1 1 [.int .i64 2, .slice none 0 0, .slice A n cap] (by rfl) rfl (by exact World.news_of_block (by exact heap_alloc_new2 wr _ _)) (three_one _ _ _ _ _ _ _) (by decide) (by unfold maxLen; omega) (by omega) (by simp [World.drew]; omega) _ (by rfl) ?_
          intro g cap2 w4 hown4 hgrow0 hat0 hlt4
          have hgrow : (((wr.alloc (.cells #[.int .i64 2, .slice none 0 0, .slice A n cap] 26)).alloc (.cells #[.int .i64 2, .slice none 0 0, .slice A n cap] 26)).drew).grownBy w4 (Value.slice ao m cap0).ownBlock := hgrow0
          have hat : (Value.slice ao m cap0).ownBlock = some g ∨ g = (((wr.alloc (.cells #[.int .i64 2, .slice none 0 0, .slice A n cap] 26)).alloc (.cells #[.int .i64 2, .slice none 0 0, .slice A n cap] 26)).drew).heap.size := hat0
          have hgr : ∀ j, (Value.slice ao m cap0).ownBlock = some j → w.heap.size + 3 ≤ j ∧ j < wr.heap.size := fun j hj => HOWN.out.lt j hj
          have HC4 := Lib.hid (YCl.grown (w' := w4) (((HCL.out.alloc (.cells #[.int .i64 2, .slice none 0 0, .slice A n cap] 26)).alloc (.cells #[.int .i64 2, .slice none 0 0, .slice A n cap] 26)).drew) hgrow (fun j hj => (hgr j hj).1))
          have HP4 := Lib.hid (HP2.out.grown hgrow (fun e => by have := hgr _ e.symm; omega))
          have HL4 := Lib.hid (HL2.out.grown hgrow (fun e => by have := hgr _ e.symm; omega))
          have HG := Lib.hid hgrow
          have HAT := Lib.hid hat
          have HO4 := Lib.hid hown4
          have hs8 : wr.heap.size + 2 ≤ w4.heap.size := by have := hgrow.size; simpa [World.drew] using this
          have hs9 : w.heap.size + 1 < w4.heap.size := by omega
          have hs10 : w.heap.size + 1 + 1 < w4.heap.size := by omega
          clear hS
          refine hK.out _ _ ⟨HP4.out.cell 0, HP4.out.cell 1, HP4.out.cell 2, HL4.out.cell 0, HL4.out.cell 1, HL4.out.cell 2⟩ (fun hS => ?_)
          clear hK K n0 n1 n2 m0 m1 m2 r0 r1 r2 l0 l1 l2 p0 p1 p2 z0 z1 z2 hgrow0 hat0 hgrow hat hown4
          obtain ⟨n0, n1, n2, m0, m1, m2⟩ := blk3 HC4.out.nb
          refine wpAnyH_take (i := 4) (v := .agg #[.int .i64 3, .slice none 0 0, .slice (some ⟨g, 0, none⟩) (m + 1) cap2]) rfl (by kernel_rfl) (by kernel_rfl) (by kernel_rfl) (fun _ _ _ h => h) (Or.inl ⟨by rfl, fun W hW => by obtain ⟨h0, h1, h2, h3, h4, h5⟩ := hW; go_simp⟩) hS ?_
          refine wpAnyH_ready (rs := [6]) (by kernel_rfl) (by simp) ?_
          refine AllReadyH.cons rfl (fun K hK => ?_) AllReadyH.nil
          go_simp
          have HP5 := Lib.hid (((HP4.out.far (p := ⟨w.heap.size + 1, 0, none⟩) (by simp) (.int .i64 3)).far (p := ⟨w.heap.size + 1, 1, none⟩) (by simp) (.slice none 0 0)).far (p := ⟨w.heap.size + 1, 2, none⟩) (by simp) (.slice (some ⟨g, 0, none⟩) (m + 1) cap2))
          have HL5 := Lib.hid (((HL4.out.far (p := ⟨w.heap.size + 1, 0, none⟩) (by simp only; omega) (.int .i64 3)).far (p := ⟨w.heap.size + 1, 1, none⟩) (by simp only; omega) (.slice none 0 0)).far (p := ⟨w.heap.size + 1, 2, none⟩) (by simp only; omega) (.slice (some ⟨g, 0, none⟩) (m + 1) cap2))
          have HR5 := Lib.hid (((HC4.out.rb.far (p := ⟨w.heap.size + 1, 0, none⟩) (by simp) (.int .i64 3)).far (p := ⟨w.heap.size + 1, 1, none⟩) (by simp) (.slice none 0 0)).far (p := ⟨w.heap.size + 1, 2, none⟩) (by simp) (.slice (some ⟨g, 0, none⟩) (m + 1) cap2))
          clear hS
          refine hK.out _ _ ⟨HP5.out.cell 0, HP5.out.cell 1, HP5.out.cell 2, HL5.out.cell 0, HL5.out.cell 1, HL5.out.cell 2⟩ (fun hS => ?_)
          clear hK K n0 n1 n2 m0 m1 m2
          obtain ⟨r0, r1, r2, l0, l1, l2⟩ := blk3 HR5.out
          refine wpAnyH_ready (rs := [7]) (by kernel_rfl) (by simp) ?_
          refine AllReadyH.cons rfl (fun K hK => ?_) AllReadyH.nil
          go_simp
          have HP6 := Lib.hid (((HP5.out.far (p := ⟨w.heap.size + 1 + 1, 0, none⟩) (by simp; omega) (.int .i64 (k2 : Nat))).far (p := ⟨w.heap.size + 1 + 1, 1, none⟩) (by simp; omega) (.int .i64 0)).far (p := ⟨w.heap.size + 1 + 1, 2, none⟩) (by simp; omega) (.int .i64 Wv))
          have HL6 := Lib.hid (((HL5.out.far (p := ⟨w.heap.size + 1 + 1, 0, none⟩) (by simp only; omega) (.int .i64 (k2 : Nat))).far (p := ⟨w.heap.size + 1 + 1, 1, none⟩) (by simp only; omega) (.int .i64 0)).far (p := ⟨w.heap.size + 1 + 1, 2, none⟩) (by simp only; omega) (.int .i64 Wv))
          clear hS
          refine hK.out _ _ ⟨HP6.out.cell 0, HP6.out.cell 1, HP6.out.cell 2, HL6.out.cell 0, HL6.out.cell 1, HL6.out.cell 2⟩ (fun hS => ?_)
          clear hK K r0 r1 r2 l0 l1 l2
          clear hS
          refine wpAnyH_done (by kernel_rfl) ?_ _
          go_wp2
          obtain ⟨W6, hW, hN, hP6, hb6, hk6, hz6⟩ := ysix HC4.out (.int .i64 3) (.slice none 0 0) (.slice (some ⟨g, 0, none⟩) (m + 1) cap2) (.int .i64 (k2 : Nat)) (.int .i64 0) (.int .i64 Wv)
          rw [← hW]
          clear hW
          obtain ⟨n0, n1, n2, m0, m1, m2⟩ := blk3 hN
          obtain ⟨r0, r1, r2, l0, l1, l2⟩ := blk3 hP6
          refine bodyPost_ret (v := .tuple #[.agg #[.int .i64 3, .slice none 0 0, .slice (some ⟨g, 0, none⟩) (m + 1) cap2], .agg #[.int .i64 (k2 : Nat), .int .i64 0, .int .i64 Wv]]) (by simp [results, Try.results68, go_sem, n0, n1, n2, r0, r1, r2]) rfl (HF1.out (by omega) (((wr.alloc (.cells #[.int .i64 2, .slice none 0 0, .slice A n cap] 26)).alloc (.cells #[.int .i64 2, .slice none 0 0, .slice A n cap] 26)).drew) w4 W6 g cap2 _ (by simp [World.drew]; omega) (fun j hj hj2 => (Below.heap_alloc (wr.alloc (.cells #[.int .i64 2, .slice none 0 0, .slice A n cap] 26)) (.cells #[.int .i64 2, .slice none 0 0, .slice A n cap] 26) j (by simp; omega)).trans (Below.heap_alloc wr (.cells #[.int .i64 2, .slice none 0 0, .slice A n cap] 26) j hj2)) HG.out HAT.out (Nat.le_refl _) HO4.out hb6 (by rw [hz6]; exact Nat.le_refl _) (fun j hj hj2 => hk6 j (by omega) (by omega)))
    · obtain ⟨p0, p1, p2, z0, z1, z2⟩ := blk3 hP
      obtain ⟨ao, cap0, hv⟩ := own_form hT.op
      subst hv
      obtain ⟨A, cap, hv⟩ := own_form hT.ok
      subst hv
      have HT := Lib.hid hT
      have HP := Lib.hid hP
      have HRUN := Lib.hid hrun
      have hol := hP.lt
      have hs4 : w.heap.size + 1 < wr.heap.size := by omega
      have hlt' : (k2 : Int) < (s.size : Int) := by omega
      have hbt := byteAt_eq s k2 hlt
      have e41 : (((byteAt s k2).toNat : Int) != 41) = true := by rw [bne_iff_ne]; intro e; exact h41 (UInt8.toNat_inj.1 (by simpa using Int.ofNat.inj e))
      have q1 : IntKind.i64.wrap ((k2 : Int) + 1) = (k2 : Int) + 1 := IntWalk.i64_in _ (by omega)
      have H0 := Lib.hid (show ((restL s k2).isEmpty || starts [41] (restL s k2)) = false by rw [ystarts_rest s k2 41 hlt, rest_cons s k2 hlt]; simpa using h41)
      have h124s := ystarts_rest s k2 124 hlt
      clear hT hP hrun h41
      by_cases h124 : byteAt s k2 = 124
      · have e124 : (((byteAt s k2).toNat : Int) == 124) = true := by rw [h124]; rfl
        have HB := Lib.hid (HRUN.out.bar hkk (by rw [h124s, h124]; rfl))
        clear h124 h124s
        have hown := HT.out.op
        go_wp2_with (at_builtin; refine wpList_append_lies _ rfl (.tmp 35) (.tmp 38) 24 rfl (w.heap.size + 3) 26 i0 _ 3 56 Try.underlying24 hi0 hz0 hz1 hz2 rfl (by decide) _ _ _ rfl (hown.alloc _) ⟨wr.heap.size, 0, none⟩ 1 1 [.int .i64 2, .slice none 0 0, .slice A cur.length cap] rfl rfl (World.news_of_block (heap_alloc_new wr _)) (three_one _ _ _ _ _ _ _) (by decide) (by unfold maxLen; omega) (by omega) (by simp; omega) _ rfl ?_)
        intro g cap2 w4 hown4 hgrow hat hlt4
        have hgr : ∀ j, (Value.slice ao acc.length cap0).ownBlock = some j → w.heap.size + 3 ≤ j ∧ j < wr.heap.size := fun j hj => HT.out.op.lt j hj
        have HC4 := Lib.hid (YCl.grown (w' := w4) (HCL.out.alloc _) hgrow (fun j hj => (hgr j hj).1))
        have hs7 : w.heap.size < w4.heap.size := by have := hgrow.size; simp at this; omega
        have HP4 := Lib.hid ((HP.out.alloc _).grown hgrow (fun e => by have := hgr _ e.symm; omega))
        have HB4 := Lib.hid (HT.out.bar rfl (by simp) (fun j _ hj => Below.heap_alloc _ _ _ hj) (by omega) hgrow hat (by simp) hown4)
        clear p0 p1 p2 z0 z1 z2 n0 n1 n2 m0 m1 m2 r0 r1 r2 l0 l1 l2 hown hgrow hat hown4
        obtain ⟨p0, p1, p2, z0, z1, z2⟩ := blk3 HP4.out
        go_wp2
        go_roundw
        case rel =>
          refine ⟨(HC4.out.part 0 _).alloc _, .inl ⟨k2 + 1, max d (d + 1), acc ++ [.mk 2 [] cur], [], _, [], by omega, by omega, by simp; omega, Nat.zero_le _, ?_, HB4.out.to (by simp [World.setCell]) (fun j hj hj2 => ?_), HB.out⟩⟩
          · rw [show ((k2 + 1 : Nat) : Int) = (k2 : Int) + 1 by omega]
            exact (HP4.out.set_ 0 _).alloc _
          · rcases Nat.lt_or_ge j w4.heap.size with h | h
            · rw [Below.heap_alloc _ _ _ (by simp [World.setCell]; omega), Below.heap_setCell _ _ _ _ (by simp only; omega), Below.heap_alloc _ _ _ h]
            · obtain rfl : j = w4.heap.size := by simp at hj2; omega
              have e1 := heap_alloc_new (w4.setCell ⟨w.heap.size, 0, none⟩ (.int .i64 ((k2 : Int) + 1))) (.cells #[] 26)
              rw [show (w4.setCell ⟨w.heap.size, 0, none⟩ (.int .i64 ((k2 : Int) + 1))).heap.size = w4.heap.size by simp [World.setCell]] at e1
              exact e1.trans (heap_alloc_new w4 _).symm
        case measure =>
          rw [show ((k2 : Int) + 1) = ((k2 + 1 : Nat) : Int) by omega, yLeft_go ((HP4.out.set_ 0 (.int .i64 ((k2 + 1 : Nat) : Int))).alloc _), yLeft_go HP.out]
          omega
      · have e124 : (((byteAt s k2).toNat : Int) == 124) = false := ybyte_false h124
        have H1 := Lib.hid (show starts [124] (restL s k2) = false by rw [h124s]; simpa using h124)
        clear h124 h124s
        cases hp : pieceX Al (restL s k2) with
        | err c o =>
          have HX := Lib.hid (HRUN.out.err hkk H0.out H1.out hp)
          have hcne : c ≠ 0 := HC.out c _ HX.out
          have hcf : (c == 0) = false := by simpa using hcne
          have HCN := Lib.hid hcne
          have C := Lib.hid (show Calls Try.prog 99 #[.string s, .agg #[.int .i64 (k2 : Nat), .int .i64 0, .int .i64 0]] wr (YN wr k2 (.err c o)) by have h := HPC.out k2 wr hkk hlt; rw [hp] at h; exact h)
          clear hp hcne
          go_wp2_with fail
          (with_reducible refine C.out.mono ?_)
          rintro e w3 ⟨⟨kk, A3, n3, c3, A3', n3', c3', x, rfl⟩, b3⟩
          generalize hwh : ((k2 + o : Nat) : Int) = wh
          have HWH := Lib.hid hwh
          clear hwh
          have HC3 := Lib.hid (HCL.out.below b3)
          have HP3 := Lib.hid (HP.out.below b3 hol)
          have HT3 := Lib.hid (HT.out.to b3.size (fun j _ hj => b3.block j hj))
          have hs3 : w.heap.size + 1 + 1 < w3.heap.size := HC3.out.rb.lt
          have hs6 : w.heap.size + 1 < w3.heap.size := by omega
          have hs7 : w.heap.size < w3.heap.size := by omega
          clear n0 n1 n2 m0 m1 m2 r0 r1 r2 l0 l1 l2 p0 p1 p2 z0 z1 z2 b3
          obtain ⟨p0, p1, p2, z0, z1, z2⟩ := blk3 HP3.out
          have HS5 := Lib.hid (show ∀ j, w.heap.size + 3 ≤ j → j < w3.heap.size → ((((((w3.setCell ⟨w.heap.size, 0, none⟩ (.int .i64 x)).setCell ⟨w.heap.size, 1, none⟩ (.int .i64 c)).setCell ⟨w.heap.size, 2, none⟩ (.int .i64 wh)).alloc (.cells #[.int .i64 kk, .slice A3 n3 c3, .slice A3' n3' c3'] 26)).alloc (.cells #[.int .i64 x, .int .i64 c, .int .i64 wh] 142)).alloc (.cells #[.int .i64 kk, .slice A3 n3 c3, .slice A3' n3' c3'] 26)).heap[j]? = w3.heap[j]? from fun j h1 h2 => by
            rw [Below.heap_alloc _ _ _ (by simp [World.setCell]; omega), Below.heap_alloc _ _ _ (by simp [World.setCell]; omega), Below.heap_alloc _ _ _ (by simp [World.setCell]; omega), Below.heap_setCell _ _ _ _ (by simp only; omega), Below.heap_setCell _ _ _ _ (by simp only; omega), Below.heap_setCell _ _ _ _ (by simp only; omega)])
          have HZ5 := Lib.hid (show ((((((w3.setCell ⟨w.heap.size, 0, none⟩ (.int .i64 x)).setCell ⟨w.heap.size, 1, none⟩ (.int .i64 c)).setCell ⟨w.heap.size, 2, none⟩ (.int .i64 wh)).alloc (.cells #[.int .i64 kk, .slice A3 n3 c3, .slice A3' n3' c3'] 26)).alloc (.cells #[.int .i64 x, .int .i64 c, .int .i64 wh] 142)).alloc (.cells #[.int .i64 kk, .slice A3 n3 c3, .slice A3' n3' c3'] 26)).heap.size = w3.heap.size + 3 by simp [World.setCell])
          have HT5 := Lib.hid (HT3.out.to (W := ((((((w3.setCell ⟨w.heap.size, 0, none⟩ (.int .i64 x)).setCell ⟨w.heap.size, 1, none⟩ (.int .i64 c)).setCell ⟨w.heap.size, 2, none⟩ (.int .i64 wh)).alloc (.cells #[.int .i64 kk, .slice A3 n3 c3, .slice A3' n3' c3'] 26)).alloc (.cells #[.int .i64 x, .int .i64 c, .int .i64 wh] 142)).alloc (.cells #[.int .i64 kk, .slice A3 n3 c3, .slice A3' n3' c3'] 26))) (by rw [HZ5.out]; omega) HS5.out)
          have HC5 := Lib.hid (((((((HC3.out.part 0 (.int .i64 x)).part 1 (.int .i64 c)).part 2 (.int .i64 wh)).alloc (.cells #[.int .i64 kk, .slice A3 n3 c3, .slice A3' n3' c3'] 26)).alloc (.cells #[.int .i64 x, .int .i64 c, .int .i64 wh] 142)).alloc (.cells #[.int .i64 kk, .slice A3 n3 c3, .slice A3' n3' c3'] 26)))
          have HP5 := Lib.hid (((((((HP3.out.set_ 0 (.int .i64 x)).set_ 1 (.int .i64 c)).set_ 2 (.int .i64 wh)).alloc (.cells #[.int .i64 kk, .slice A3 n3 c3, .slice A3' n3' c3'] 26)).alloc (.cells #[.int .i64 x, .int .i64 c, .int .i64 wh] 142)).alloc (.cells #[.int .i64 kk, .slice A3 n3 c3, .slice A3' n3' c3'] 26)))
          have HN5 := Lib.hid (show ((((((w3.setCell ⟨w.heap.size, 0, none⟩ (.int .i64 x)).setCell ⟨w.heap.size, 1, none⟩ (.int .i64 c)).setCell ⟨w.heap.size, 2, none⟩ (.int .i64 wh)).alloc (.cells #[.int .i64 kk, .slice A3 n3 c3, .slice A3' n3' c3'] 26)).alloc (.cells #[.int .i64 x, .int .i64 c, .int .i64 wh] 142)).alloc (.cells #[.int .i64 kk, .slice A3 n3 c3, .slice A3' n3' c3'] 26)).heap[w3.heap.size + 2]? = some (.cells #[.int .i64 kk, .slice A3 n3 c3, .slice A3' n3' c3'] 26) by
            rw [show w3.heap.size + 2 = ((((((w3.setCell ⟨w.heap.size, 0, none⟩ (.int .i64 x)).setCell ⟨w.heap.size, 1, none⟩ (.int .i64 c)).setCell ⟨w.heap.size, 2, none⟩ (.int .i64 wh)).alloc (.cells #[.int .i64 kk, .slice A3 n3 c3, .slice A3' n3' c3'] 26)).alloc (.cells #[.int .i64 x, .int .i64 c, .int .i64 wh] 142))).heap.size by simp [World.setCell]]
            exact heap_alloc_new _ _)
          have hown := HT5.out.ok
          go_wp2_with (at_builtin; refine wpList_append_lies _ rfl (.tmp 52) (.tmp 54) 24 rfl (w.heap.size + 3) 26 i0 _ 3 56 Try.underlying24 hi0 hz0 hz1 hz2 rfl (by decide) _ _ _ rfl hown ⟨w3.heap.size + 2, 0, none⟩ 1 1 [.int .i64 kk, .slice A3 n3 c3, .slice A3' n3' c3'] rfl rfl (World.news_of_block HN5.out) (three_one _ _ _ _ _ _ _) (by decide) (by unfold maxLen; omega) (by omega) (by simp; omega) _ rfl ?_)
          intro g cap2 w4 hown4 hgrow hat hlt4
          have hgr : ∀ j, (Value.slice A cur.length cap).ownBlock = some j → w.heap.size + 3 ≤ j ∧ j < ((((((w3.setCell ⟨w.heap.size, 0, none⟩ (.int .i64 x)).setCell ⟨w.heap.size, 1, none⟩ (.int .i64 c)).setCell ⟨w.heap.size, 2, none⟩ (.int .i64 wh)).alloc (.cells #[.int .i64 kk, .slice A3 n3 c3, .slice A3' n3' c3'] 26)).alloc (.cells #[.int .i64 x, .int .i64 c, .int .i64 wh] 142)).alloc (.cells #[.int .i64 kk, .slice A3 n3 c3, .slice A3' n3' c3'] 26)).heap.size := fun j hj => HT5.out.ok.lt j hj
          have HC4 := Lib.hid (YCl.grown (w' := w4) HC5.out hgrow (fun j hj => (hgr j hj).1))
          have HP4 := Lib.hid (HP5.out.grown hgrow (fun e => by have := hgr _ e.symm; omega))
          have HO4 := Lib.hid (own_same HT5.out.op fun j hj => hgrow.block j (HT5.out.op.lt j hj).2 (fun e => HT5.out.ap j hj e.symm))
          clear p0 p1 p2 z0 z1 z2 hown hgrow hat hown4
          go_wp2
          go_roundw
          case rel => exact ⟨HC4.out, .inr ⟨x, c, k2 + o - k, acc.length, _, _, _, cp, rfl, HCN.out, HX.out, by rw [show k + (k2 + o - k) = k2 + o by omega, HWH.out]; exact HP4.out, by omega, HO4.out⟩⟩
          case measure =>
            rw [yLeft_bad HP4.out HCN.out, yLeft_go HP.out]
            omega
        | ok t n =>
          have hn := pieceX_bd hp
          rw [rest_len] at hn
          have HX := Lib.hid (HRUN.out.more hkk H0.out H1.out hp)
          obtain ⟨k3, hk3⟩ : ∃ k3, k3 = k2 + n := ⟨_, rfl⟩
          have hk3b : k2 < k3 ∧ k3 ≤ s.size := by omega
          have C := Lib.hid (show Calls Try.prog 99 #[.string s, .agg #[.int .i64 (k2 : Nat), .int .i64 0, .int .i64 0]] wr (YN wr k2 (.ok t n)) by have h := HPC.out k2 wr hkk hlt; rw [hp] at h; exact h)
          rw [← hk3] at HX
          unfold YN at C
          simp only at C
          rw [← hk3] at C
          clear hp hk3
          go_wp2_with fail
          (with_reducible refine C.out.mono ?_)
          rintro e w3 ⟨d3, kk, A3, n3, c3, A3', n3', c3', rfl, ht3, b3⟩
          have HTR := Lib.hid ht3
          have HB3 := Lib.hid b3
          have HC3 := Lib.hid (HCL.out.below b3)
          have HP3 := Lib.hid (HP.out.below b3 hol)
          have HT3 := Lib.hid (HT.out.to b3.size (fun j _ hj => b3.block j hj))
          have hs3 : w.heap.size + 1 + 1 < w3.heap.size := HC3.out.rb.lt
          have hs6 : w.heap.size + 1 < w3.heap.size := by omega
          have hs7 : w.heap.size < w3.heap.size := by omega
          clear n0 n1 n2 m0 m1 m2 r0 r1 r2 l0 l1 l2 p0 p1 p2 z0 z1 z2 b3 ht3
          obtain ⟨p0, p1, p2, z0, z1, z2⟩ := blk3 HP3.out
          have HS5 := Lib.hid (show ∀ j, w.heap.size + 3 ≤ j → j < w3.heap.size → ((((((w3.setCell ⟨w.heap.size, 0, none⟩ (.int .i64 (k3 : Nat))).setCell ⟨w.heap.size, 1, none⟩ (.int .i64 0)).setCell ⟨w.heap.size, 2, none⟩ (.int .i64 0)).alloc (.cells #[.int .i64 kk, .slice A3 n3 c3, .slice A3' n3' c3'] 26)).alloc (.cells #[.int .i64 (k3 : Nat), .int .i64 0, .int .i64 0] 142)).alloc (.cells #[.int .i64 kk, .slice A3 n3 c3, .slice A3' n3' c3'] 26)).heap[j]? = w3.heap[j]? from fun j h1 h2 => by
            rw [Below.heap_alloc _ _ _ (by simp [World.setCell]; omega), Below.heap_alloc _ _ _ (by simp [World.setCell]; omega), Below.heap_alloc _ _ _ (by simp [World.setCell]; omega), Below.heap_setCell _ _ _ _ (by simp only; omega), Below.heap_setCell _ _ _ _ (by simp only; omega), Below.heap_setCell _ _ _ _ (by simp only; omega)])
          have HZ5 := Lib.hid (show ((((((w3.setCell ⟨w.heap.size, 0, none⟩ (.int .i64 (k3 : Nat))).setCell ⟨w.heap.size, 1, none⟩ (.int .i64 0)).setCell ⟨w.heap.size, 2, none⟩ (.int .i64 0)).alloc (.cells #[.int .i64 kk, .slice A3 n3 c3, .slice A3' n3' c3'] 26)).alloc (.cells #[.int .i64 (k3 : Nat), .int .i64 0, .int .i64 0] 142)).alloc (.cells #[.int .i64 kk, .slice A3 n3 c3, .slice A3' n3' c3'] 26)).heap.size = w3.heap.size + 3 by simp [World.setCell])
          have HT5 := Lib.hid (HT3.out.to (W := ((((((w3.setCell ⟨w.heap.size, 0, none⟩ (.int .i64 (k3 : Nat))).setCell ⟨w.heap.size, 1, none⟩ (.int .i64 0)).setCell ⟨w.heap.size, 2, none⟩ (.int .i64 0)).alloc (.cells #[.int .i64 kk, .slice A3 n3 c3, .slice A3' n3' c3'] 26)).alloc (.cells #[.int .i64 (k3 : Nat), .int .i64 0, .int .i64 0] 142)).alloc (.cells #[.int .i64 kk, .slice A3 n3 c3, .slice A3' n3' c3'] 26))) (by rw [HZ5.out]; omega) HS5.out)
          have HC5 := Lib.hid (((((((HC3.out.part 0 (.int .i64 (k3 : Nat))).part 1 (.int .i64 0)).part 2 (.int .i64 0)).alloc (.cells #[.int .i64 kk, .slice A3 n3 c3, .slice A3' n3' c3'] 26)).alloc (.cells #[.int .i64 (k3 : Nat), .int .i64 0, .int .i64 0] 142)).alloc (.cells #[.int .i64 kk, .slice A3 n3 c3, .slice A3' n3' c3'] 26)))
          have HP5 := Lib.hid (((((((HP3.out.set_ 0 (.int .i64 (k3 : Nat))).set_ 1 (.int .i64 0)).set_ 2 (.int .i64 0)).alloc (.cells #[.int .i64 kk, .slice A3 n3 c3, .slice A3' n3' c3'] 26)).alloc (.cells #[.int .i64 (k3 : Nat), .int .i64 0, .int .i64 0] 142)).alloc (.cells #[.int .i64 kk, .slice A3 n3 c3, .slice A3' n3' c3'] 26)))
          have HN5 := Lib.hid (show ((((((w3.setCell ⟨w.heap.size, 0, none⟩ (.int .i64 (k3 : Nat))).setCell ⟨w.heap.size, 1, none⟩ (.int .i64 0)).setCell ⟨w.heap.size, 2, none⟩ (.int .i64 0)).alloc (.cells #[.int .i64 kk, .slice A3 n3 c3, .slice A3' n3' c3'] 26)).alloc (.cells #[.int .i64 (k3 : Nat), .int .i64 0, .int .i64 0] 142)).alloc (.cells #[.int .i64 kk, .slice A3 n3 c3, .slice A3' n3' c3'] 26)).heap[w3.heap.size + 2]? = some (.cells #[.int .i64 kk, .slice A3 n3 c3, .slice A3' n3' c3'] 26) by
            rw [show w3.heap.size + 2 = ((((((w3.setCell ⟨w.heap.size, 0, none⟩ (.int .i64 (k3 : Nat))).setCell ⟨w.heap.size, 1, none⟩ (.int .i64 0)).setCell ⟨w.heap.size, 2, none⟩ (.int .i64 0)).alloc (.cells #[.int .i64 kk, .slice A3 n3 c3, .slice A3' n3' c3'] 26)).alloc (.cells #[.int .i64 (k3 : Nat), .int .i64 0, .int .i64 0] 142))).heap.size by simp [World.setCell]]
            exact heap_alloc_new _ _)
          have hown := HT5.out.ok
          go_wp2_with (at_builtin; refine wpList_append_lies _ rfl (.tmp 52) (.tmp 54) 24 rfl (w.heap.size + 3) 26 i0 _ 3 56 Try.underlying24 hi0 hz0 hz1 hz2 rfl (by decide) _ _ _ rfl hown ⟨w3.heap.size + 2, 0, none⟩ 1 1 [.int .i64 kk, .slice A3 n3 c3, .slice A3' n3' c3'] rfl rfl (World.news_of_block HN5.out) (three_one _ _ _ _ _ _ _) (by decide) (by unfold maxLen; omega) (by omega) (by simp; omega) _ rfl ?_)
          intro g cap2 w4 hown4 hgrow hat hlt4
          have hgr : ∀ j, (Value.slice A cur.length cap).ownBlock = some j → w.heap.size + 3 ≤ j ∧ j < ((((((w3.setCell ⟨w.heap.size, 0, none⟩ (.int .i64 (k3 : Nat))).setCell ⟨w.heap.size, 1, none⟩ (.int .i64 0)).setCell ⟨w.heap.size, 2, none⟩ (.int .i64 0)).alloc (.cells #[.int .i64 kk, .slice A3 n3 c3, .slice A3' n3' c3'] 26)).alloc (.cells #[.int .i64 (k3 : Nat), .int .i64 0, .int .i64 0] 142)).alloc (.cells #[.int .i64 kk, .slice A3 n3 c3, .slice A3' n3' c3'] 26)).heap.size := fun j hj => HT5.out.ok.lt j hj
          have HC4 := Lib.hid (YCl.grown (w' := w4) HC5.out hgrow (fun j hj => (hgr j hj).1))
          have HP4 := Lib.hid (HP5.out.grown hgrow (fun e => by have := hgr _ e.symm; omega))
          have HT4 := Lib.hid (HT.out.more (W := ((((((w3.setCell ⟨w.heap.size, 0, none⟩ (.int .i64 (k3 : Nat))).setCell ⟨w.heap.size, 1, none⟩ (.int .i64 0)).setCell ⟨w.heap.size, 2, none⟩ (.int .i64 0)).alloc (.cells #[.int .i64 kk, .slice A3 n3 c3, .slice A3' n3' c3'] 26)).alloc (.cells #[.int .i64 (k3 : Nat), .int .i64 0, .int .i64 0] 142)).alloc (.cells #[.int .i64 kk, .slice A3 n3 c3, .slice A3' n3' c3'] 26))) (by rw [HZ5.out]; have := HB3.out.size; omega) (fun j h1 h2 => (HS5.out j h1 (by have := HB3.out.size; omega)).trans (HB3.out.block j h2)) (by omega)
            ((HTR.out.keep (w' := ((((((w3.setCell ⟨w.heap.size, 0, none⟩ (.int .i64 (k3 : Nat))).setCell ⟨w.heap.size, 1, none⟩ (.int .i64 0)).setCell ⟨w.heap.size, 2, none⟩ (.int .i64 0)).alloc (.cells #[.int .i64 kk, .slice A3 n3 c3, .slice A3' n3' c3'] 26)).alloc (.cells #[.int .i64 (k3 : Nat), .int .i64 0, .int .i64 0] 142)).alloc (.cells #[.int .i64 kk, .slice A3 n3 c3, .slice A3' n3' c3'] 26))) fun j hj => HS5.out j (by have := hj.1; omega) hj.2).mono fun j hj => ⟨hj.1, by rw [HZ5.out]; have := hj.2; omega⟩) hgrow hown4 hat (by simp))
          clear p0 p1 p2 z0 z1 z2 hown hgrow hat hown4
          go_wp2
          go_roundw
          case rel => exact ⟨HC4.out, .inl ⟨k3, _, acc, cur ++ [t], cp, _, by omega, by omega, by omega, by simp; omega, HP4.out, HT4.out, HX.out⟩⟩
          case measure =>
            rw [yLeft_go HP4.out, yLeft_go HP.out]
            omega
end Go.Proofs.Ytjnhmcgjeljcmaa
