/- The document's parser of regular expressions: a class. -/
import Derived.Test.YtjnhmcgjeljcmaaIb
import Derived.Test.YtjnhmcgjeljcmaaXw
import Derived.BigRegion
namespace Go.Proofs.Ytjnhmcgjeljcmaa
open Go.RowKit

def YN (w : World) (k : Nat) (r : Pr) (e : Ending) (w' : World) : Prop :=
  match r with
  | .ok t n => ∃ d kk A m c A' m' c', e = .returned (.tuple #[.agg #[.int .i64 kk, .slice A m c, .slice A' m' c'], .agg #[.int .i64 ((k + n : Nat) : Int), .int .i64 0, .int .i64 0]]) ∧ TreeAt w' (Fresh w w') d t [.int .i64 kk, .slice A m c, .slice A' m' c'] ∧ Below w.heap.size w w'
  | .err code off => (∃ kk A m c A' m' c' x, e = .returned (.tuple #[.agg #[.int .i64 kk, .slice A m c, .slice A' m' c'], .agg #[.int .i64 x, .int .i64 code, .int .i64 ((k + off : Nat) : Int)]])) ∧ Below w.heap.size w w'
def YRun (s : ByteArray) (k k1 : Nat) (neg : Bool) (R : Pr) (acc : List (UInt8 × UInt8)) (k2 : Nat) : Prop :=
  (acc = [] ∧ k2 = k1 ∧ k2 < s.size ∧ byteAt s k2 = 93 ∧ R = .err 30 (k1 - k)) ∨
  ((acc = [] → ¬ (k2 < s.size ∧ byteAt s k2 = 93)) ∧ R = itemsPr neg (k1 - k) (Ir.pre acc (k2 - k1) (itemsF letterX false (restL s k2))))
structure YCl (w wr : World) : Prop where
  old : Below w.heap.size w wr
  nb : Blk wr (w.heap.size + 1) 26 #[.int .i64 0, .slice none 0 0, .slice none 0 0]
  rb : Blk wr (w.heap.size + 1 + 1) 142 #[.int .i64 0, .int .i64 0, .int .i64 0]
def YGo (w wr : World) (s : ByteArray) (k k1 : Nat) (neg : Bool) (R : Pr) (v : Value) : Prop :=
  ∃ (k2 : Nat) (acc : List (UInt8 × UInt8)), k1 ≤ k2 ∧ k2 ≤ s.size ∧ acc.length ≤ k2 ∧ Blk wr w.heap.size 142 #[.int .i64 (k2 : Nat), .int .i64 0, .int .i64 0] ∧ wr.ownsRow (w.heap.size + 3) 37 2 v acc.length (rgCells acc) ∧ YRun s k k1 neg R acc k2
def YBad (w wr : World) (k : Nat) (R : Pr) (v : Value) : Prop :=
  ∃ (x c : Int) (off : Nat) (A : Option Addr) (n cp : Nat), v = .slice A n cp ∧ c ≠ 0 ∧ R = .err c off ∧ Blk wr w.heap.size 142 #[.int .i64 x, .int .i64 c, .int .i64 ((k + off : Nat) : Int)]
/-- How far the loop is from its end. -/
def yLeft (s : ByteArray) (g : Nat) (wr : World) : Nat := match wr.cell? ⟨g, 0, none⟩, wr.cell? ⟨g, 1, none⟩ with
  | some (.int _ a), some (.int _ c) => if c = 0 then s.size + 2 - a.toNat else 0
  | _, _ => 0
theorem yLeft_go {s : ByteArray} {g : Nat} {wr : World} {k2 : Nat} {v : Value} (h : Blk wr g 142 #[.int .i64 (k2 : Nat), .int .i64 0, v]) : yLeft s g wr = s.size + 2 - k2 := by
  unfold yLeft
  rw [h.cell 0, h.cell 1]
  simp
theorem yLeft_bad {s : ByteArray} {g : Nat} {wr : World} {x c : Int} {v : Value} (h : Blk wr g 142 #[.int .i64 x, .int .i64 c, v]) (hc : c ≠ 0) : yLeft s g wr = 0 := by
  unfold yLeft
  rw [h.cell 0, h.cell 1]
  simp [hc]
section
variable {w wr w' : World}
theorem YCl.below (h : YCl w wr) (hb : Below wr.heap.size wr w') : YCl w w' :=
  ⟨h.old.trans (hb.mono h.old.size), h.nb.below hb h.nb.lt, h.rb.below hb h.rb.lt⟩
theorem YCl.part (h : YCl w wr) (i : Nat) (u : Value) : YCl w (wr.setCell ⟨w.heap.size, i, none⟩ u) :=
  ⟨h.old.setCell (p := ⟨w.heap.size, i, none⟩) (Nat.le_refl _) u, h.nb.far (by simp) u, h.rb.far (by simp; omega) u⟩
theorem YCl.grown (h : YCl w wr) {row : Option Nat} (hg : wr.grownBy w' row) (hr : ∀ j, row = some j → w.heap.size + 3 ≤ j) : YCl w w' :=
  ⟨h.old.grown hg h.old.size (fun j hj => by have := hr j hj; omega), h.nb.grown hg (fun e => by have := hr _ e.symm; omega), h.rb.grown hg (fun e => by have := hr _ e.symm; omega)⟩
/-- Both results stored. -/
theorem yend (h : YCl w wr) (a b c d e f : Value) : Below w.heap.size w ((((((wr.setCell ⟨w.heap.size + 1, 0, none⟩ a).setCell ⟨w.heap.size + 1, 1, none⟩ b).setCell ⟨w.heap.size + 1, 2, none⟩ c).setCell ⟨w.heap.size + 1 + 1, 0, none⟩ d).setCell ⟨w.heap.size + 1 + 1, 1, none⟩ e).setCell ⟨w.heap.size + 1 + 1, 2, none⟩ f) :=
  below3 (below3 h.old (by omega) a b c) (by omega) d e f
theorem YCl.alloc (h : YCl w wr) (o : Obj) : YCl w (wr.alloc o) := h.below ((Below.refl _ _).alloc (Nat.le_refl _) o)
/-- The part stored, a copy of it and a range in memory. -/
theorem yput {a0 b0 c0 : Value} {v : Value} {n : Nat} {xs : List Value} (h : YCl w wr) (hP : Blk wr w.heap.size 142 #[a0, b0, c0]) (ho : wr.ownsRow (w.heap.size + 3) 37 2 v n xs) (a b c : Value) (o1 : Obj) :
    YCl w ((((wr.setCell ⟨w.heap.size, 0, none⟩ a).setCell ⟨w.heap.size, 1, none⟩ b).setCell ⟨w.heap.size, 2, none⟩ c).alloc o1) ∧
    Blk ((((wr.setCell ⟨w.heap.size, 0, none⟩ a).setCell ⟨w.heap.size, 1, none⟩ b).setCell ⟨w.heap.size, 2, none⟩ c).alloc o1) w.heap.size 142 #[a, b, c] ∧
    ((((wr.setCell ⟨w.heap.size, 0, none⟩ a).setCell ⟨w.heap.size, 1, none⟩ b).setCell ⟨w.heap.size, 2, none⟩ c).alloc o1).ownsRow (w.heap.size + 3) 37 2 v n xs ∧
    ((((wr.setCell ⟨w.heap.size, 0, none⟩ a).setCell ⟨w.heap.size, 1, none⟩ b).setCell ⟨w.heap.size, 2, none⟩ c).alloc o1).heap.size = wr.heap.size + 1 :=
  ⟨(((h.part 0 a).part 1 b).part 2 c).alloc o1, (((hP.set_ 0 a).set_ 1 b).set_ 2 c).alloc o1,
    (ownsRow_setCell_below (ownsRow_setCell_below (ownsRow_setCell_below ho (a := ⟨w.heap.size, 0, none⟩) (by simp only; omega) a) (a := ⟨w.heap.size, 1, none⟩) (by simp only; omega) b) (a := ⟨w.heap.size, 2, none⟩) (by simp only; omega) c).alloc o1, by simp [World.setCell]⟩
theorem yput2 {a0 b0 c0 : Value} {v : Value} {n : Nat} {xs : List Value} (h : YCl w wr) (hP : Blk wr w.heap.size 142 #[a0, b0, c0]) (ho : wr.ownsRow (w.heap.size + 3) 37 2 v n xs) (a b c d : Value) (o1 : Obj) :
    YCl w (((((wr.setCell ⟨w.heap.size, 0, none⟩ a).setCell ⟨w.heap.size, 1, none⟩ b).setCell ⟨w.heap.size, 2, none⟩ c).setCell ⟨w.heap.size, 0, none⟩ d).alloc o1) ∧
    Blk (((((wr.setCell ⟨w.heap.size, 0, none⟩ a).setCell ⟨w.heap.size, 1, none⟩ b).setCell ⟨w.heap.size, 2, none⟩ c).setCell ⟨w.heap.size, 0, none⟩ d).alloc o1) w.heap.size 142 #[d, b, c] ∧
    (((((wr.setCell ⟨w.heap.size, 0, none⟩ a).setCell ⟨w.heap.size, 1, none⟩ b).setCell ⟨w.heap.size, 2, none⟩ c).setCell ⟨w.heap.size, 0, none⟩ d).alloc o1).ownsRow (w.heap.size + 3) 37 2 v n xs ∧
    (((((wr.setCell ⟨w.heap.size, 0, none⟩ a).setCell ⟨w.heap.size, 1, none⟩ b).setCell ⟨w.heap.size, 2, none⟩ c).setCell ⟨w.heap.size, 0, none⟩ d).alloc o1).heap.size = wr.heap.size + 1 :=
  ⟨((((h.part 0 a).part 1 b).part 2 c).part 0 d).alloc o1, ((((hP.set_ 0 a).set_ 1 b).set_ 2 c).set_ 0 d).alloc o1,
    (ownsRow_setCell_below (ownsRow_setCell_below (ownsRow_setCell_below (ownsRow_setCell_below ho (a := ⟨w.heap.size, 0, none⟩) (by simp only; omega) a) (a := ⟨w.heap.size, 1, none⟩) (by simp only; omega) b) (a := ⟨w.heap.size, 2, none⟩) (by simp only; omega) c) (a := ⟨w.heap.size, 0, none⟩) (by simp only; omega) d).alloc o1, by simp [World.setCell]⟩
theorem ysix (h : YCl w wr) (a b c d e f : Value) : ∃ W, W = ((((((wr.setCell ⟨w.heap.size + 1, 0, none⟩ a).setCell ⟨w.heap.size + 1, 1, none⟩ b).setCell ⟨w.heap.size + 1, 2, none⟩ c).setCell ⟨w.heap.size + 1 + 1, 0, none⟩ d).setCell ⟨w.heap.size + 1 + 1, 1, none⟩ e).setCell ⟨w.heap.size + 1 + 1, 2, none⟩ f) ∧ Blk W (w.heap.size + 1) 26 #[a, b, c] ∧ Blk W (w.heap.size + 1 + 1) 142 #[d, e, f] ∧ Below w.heap.size w W ∧ (∀ i, i ≠ w.heap.size + 1 → i ≠ w.heap.size + 1 + 1 → W.heap[i]? = wr.heap[i]?) ∧ W.heap.size = wr.heap.size := by
  refine ⟨_, rfl, ?_, ?_, yend h a b c d e f, fun i h1 h2 => ?_, by simp [World.setCell]⟩
  · have h1 := ((h.nb.set_ 0 a).set_ 1 b).set_ 2 c
    exact ((h1.far (p := ⟨w.heap.size + 1 + 1, 0, none⟩) (by simp) d).far (p := ⟨w.heap.size + 1 + 1, 1, none⟩) (by simp) e).far (p := ⟨w.heap.size + 1 + 1, 2, none⟩) (by simp) f
  · have h1 := ((h.rb.far (p := ⟨w.heap.size + 1, 0, none⟩) (by simp) a).far (p := ⟨w.heap.size + 1, 1, none⟩) (by simp) b).far (p := ⟨w.heap.size + 1, 2, none⟩) (by simp) c
    exact ((h1.set_ 0 d).set_ 1 e).set_ 2 f
  · rw [Below.heap_setCell _ _ _ _ h2, Below.heap_setCell _ _ _ _ h2, Below.heap_setCell _ _ _ _ h2, Below.heap_setCell _ _ _ _ h1, Below.heap_setCell _ _ _ _ h1, Below.heap_setCell _ _ _ _ h1]
end
set_option maxHeartbeats 8000000 in
set_option maxRecDepth 100000 in
theorem yclass_neg (s : ByteArray) (k : Nat) (w : World) (_ : k ≤ s.size) (hs : s.size ≤ 256) (hkl : k < s.size) (h94 : byteAt s k = 94) {R : Pr} (hR : YRun s k (k + 1) true R [] (k + 1)) (hc : ∀ c o, R = .err c o → c ≠ 0) :
    Calls Try.prog 141 #[.string s, .agg #[.int .i64 (k : Nat), .int .i64 0, .int .i64 0]] w (YN w k R) := by
  obtain ⟨i0, hi0, hz0, hz1, hz2⟩ := info_parts rgInfo
  have HR := Lib.hid hR
  have HC := Lib.hid hc
  have mixed : Try.prog.follows .mixedOrders = true := by kernel_rfl
  have hkl' : (k : Int) < (s.size : Int) := by omega
  have hbt := byteAt_eq s k hkl
  have e94 : (((byteAt s k).toNat : Int) == 94) = true := ybyte_true h94
  have q1 : IntKind.i64.wrap ((k : Int) + 1) = (k : Int) + 1 := IntWalk.i64_in _ (by omega)
  clear h94
  clear hR hc
  have START := Lib.hid (show YCl w ((((w.alloc (.cells #[.int .i64 ((k : Int) + 1), .int .i64 0, .int .i64 0] 142)).alloc (.cells #[.int .i64 0, .slice none 0 0, .slice none 0 0] 26)).alloc (.cells #[.int .i64 0, .int .i64 0, .int .i64 0] 142)).alloc (.cells #[] 37)) from ⟨((((Below.refl w.heap.size w).alloc (Nat.le_refl _) _).alloc (by simp) _).alloc (by simp; omega) _).alloc (by simp; omega) _, by
      have h1 := Blk.new (w.alloc (.cells #[.int .i64 ((k : Int) + 1), .int .i64 0, .int .i64 0] 142)) 26 #[.int .i64 0, .slice none 0 0, .slice none 0 0]
      have h2 := (h1.alloc (.cells #[.int .i64 0, .int .i64 0, .int .i64 0] 142)).alloc (.cells #[] 37)
      simpa using h2, by
      have h1 := Blk.new ((w.alloc (.cells #[.int .i64 ((k : Int) + 1), .int .i64 0, .int .i64 0] 142)).alloc (.cells #[.int .i64 0, .slice none 0 0, .slice none 0 0] 26)) 142 #[.int .i64 0, .int .i64 0, .int .i64 0]
      have h2 := h1.alloc (.cells #[] 37)
      simpa using h2⟩)
  have PSTART := Lib.hid (show Blk ((((w.alloc (.cells #[.int .i64 ((k : Int) + 1), .int .i64 0, .int .i64 0] 142)).alloc (.cells #[.int .i64 0, .slice none 0 0, .slice none 0 0] 26)).alloc (.cells #[.int .i64 0, .int .i64 0, .int .i64 0] 142)).alloc (.cells #[] 37)) w.heap.size 142 #[.int .i64 ((k + 1) : Nat), .int .i64 0, .int .i64 0] from by
      have h1 := (((Blk.new w 142 #[.int .i64 ((k : Int) + 1), .int .i64 0, .int .i64 0]).alloc (.cells #[.int .i64 0, .slice none 0 0, .slice none 0 0] 26)).alloc (.cells #[.int .i64 0, .int .i64 0, .int .i64 0] 142)).alloc (.cells #[] 37)
      simpa using h1)
  have RSTART := Lib.hid (show ((((w.alloc (.cells #[.int .i64 ((k : Int) + 1), .int .i64 0, .int .i64 0] 142)).alloc (.cells #[.int .i64 0, .slice none 0 0, .slice none 0 0] 26)).alloc (.cells #[.int .i64 0, .int .i64 0, .int .i64 0] 142)).alloc (.cells #[] 37)).heap[w.heap.size + 3]? = some (.cells #[] 37 (0, 0)) from by
      have h1 := heap_alloc_new (((w.alloc (.cells #[.int .i64 ((k : Int) + 1), .int .i64 0, .int .i64 0] 142)).alloc (.cells #[.int .i64 0, .slice none 0 0, .slice none 0 0] 26)).alloc (.cells #[.int .i64 0, .int .i64 0, .int .i64 0] 142)) (.cells #[] 37)
      simpa using h1)
  go_enter Try.func141, Try.ntmps141
  go_wp2_with fail
  go_loopw [7] (fun v wr => YCl w wr ∧ (YGo w wr s k (k + 1) true R v ∨ YBad w wr k R v)) (fun _ wr => yLeft s w.heap.size wr)
  case atStart => exact ⟨START.out, .inl ⟨(k + 1), [], Nat.le_refl _, by omega, Nat.zero_le _, PSTART.out, ⟨rfl, Or.inr ⟨w.heap.size + 3, 0, #[], rfl, Nat.le_refl _, RSTART.out, Nat.le_refl _, Nat.zero_le _, rfl, rfl⟩⟩, HR.out⟩⟩
  case round =>
    obtain ⟨hcl, hrel⟩ := hrel
    have HCL := Lib.hid hcl
    obtain ⟨n0, n1, n2, m0, m1, m2⟩ := blk3 hcl.nb
    obtain ⟨r0, r1, r2, l0, l1, l2⟩ := blk3 hcl.rb
    have hB := hcl.old.size
    have hwl := hcl.rb.lt
    rcases hrel with ⟨k2, acc, h12, h2s, hal, hP, hown, hrun⟩ | ⟨x, c, off, A, n, cp, rfl, hc, hRe, hP⟩
    rotate_left
    · have hc' : (c == 0) = false := by simpa using hc
      obtain ⟨p0, p1, p2, z0, z1, z2⟩ := blk3 hP
      have HE := Lib.hid hRe
      generalize hwh : ((k + off : Nat) : Int) = wh at p2 hP
      have HWH := Lib.hid hwh
      clear hcl hc hP hRe hwh
      go_wp2
      go_region
      rename_i K0 hK0
      refine hK0 _ _ (wp_ret ?_)
      rw [HE.out]
      obtain ⟨W6, hW, hN, hP6, hb6, hk6, hz6⟩ := ysix HCL.out (.int .i64 0) (.slice none 0 0) (.slice none 0 0) (.int .i64 x) (.int .i64 c) (.int .i64 wh)
      rw [← hW]
      clear hW hK0 n0 n1 n2 m0 m1 m2 r0 r1 r2 l0 l1 l2 HCL
      obtain ⟨n0, n1, n2, m0, m1, m2⟩ := blk3 hN
      obtain ⟨r0, r1, r2, l0, l1, l2⟩ := blk3 hP6
      refine bodyPost_ret (v := .tuple #[.agg #[.int .i64 0, .slice none 0 0, .slice none 0 0], .agg #[.int .i64 x, .int .i64 c, .int .i64 wh]]) (by simp [results, Try.results141, go_sem, n0, n1, n2, r0, r1, r2]) rfl ⟨⟨0, none, 0, 0, none, 0, 0, x, by rw [HWH.out]⟩, hb6.drew⟩
    · have HH := Lib.hid hrun
      obtain ⟨p0, p1, p2, z0, z1, z2⟩ := blk3 hP
      obtain ⟨ao, cap, hv⟩ := own_form hown
      subst hv
      have q2 : IntKind.i64.wrap ((k2 : Int) + 1) = (k2 : Int) + 1 := IntWalk.i64_in _ (by omega)
      by_cases hclose : k2 < s.size ∧ byteAt s k2 = 93
      · obtain ⟨hlt, h93⟩ := hclose
        have hlt' : (k2 : Int) < (s.size : Int) := by omega
        have hbt := byteAt_eq s k2 hlt
        have e3 : (((byteAt s k2).toNat : Int) == 93) = true := ybyte_true h93
        by_cases hem : acc = []
        · subst hem
          have hRe : R = .err 30 (k2 - k) := by
            rcases HH.out with ⟨_, h1, _, _, h2⟩ | ⟨h1, _⟩
            · rw [h2, h1]
            · exact absurd ⟨hlt, h93⟩ (h1 rfl)
          have HE := Lib.hid hRe
          have HW := Lib.hid (show ((k2 : Nat) : Int) = ((k + (k2 - k) : Nat) : Int) by omega)
          have C := Lib.hid (fun W => yfail_any k2 0 30 k2 W)
          clear hRe hrun hcl hown hP h93
          go_wp2_with fail
          (with_reducible refine (C.out _).mono ?_)
          rintro e w3 ⟨rfl, hb3⟩
          have HC3 := Lib.hid (HCL.out.below hb3)
          clear n0 n1 n2 m0 m1 m2 r0 r1 r2 l0 l1 l2 p0 p1 p2 z0 z1 z2
          obtain ⟨n0, n1, n2, m0, m1, m2⟩ := blk3 HC3.out.nb
          obtain ⟨r0, r1, r2, l0, l1, l2⟩ := blk3 HC3.out.rb
          go_wp2
          rw [HE.out]
          obtain ⟨W6, hW, hN, hP6, hb6, hk6, hz6⟩ := ysix HC3.out (.int .i64 0) (.slice none 0 0) (.slice none 0 0) (.int .i64 k2) (.int .i64 30) (.int .i64 k2)
          rw [← hW]
          clear hW n0 n1 n2 m0 m1 m2 r0 r1 r2 l0 l1 l2
          obtain ⟨n0, n1, n2, m0, m1, m2⟩ := blk3 hN
          obtain ⟨r0, r1, r2, l0, l1, l2⟩ := blk3 hP6
          refine bodyPost_ret (v := .tuple #[.agg #[.int .i64 0, .slice none 0 0, .slice none 0 0], .agg #[.int .i64 k2, .int .i64 30, .int .i64 k2]]) (by simp [results, Try.results141, go_sem, n0, n1, n2, r0, r1, r2]) rfl ⟨⟨0, none, 0, 0, none, 0, 0, k2, by rw [HW.out]⟩, hb6⟩
        · obtain ⟨A2, cp2, hv2, _, hm2, r2'⟩ := rg_of_own hown
          injection hv2 with hv3 _ hv4
          subst hv3 hv4
          have hRe : R = .ok (.mk 1 (rangesL acc true) []) (k2 + 1 - k) := by
            rcases HH.out with ⟨h1, _⟩ | ⟨_, h1⟩
            · exact absurd h1 hem
            · rw [h1, itemsF_end (by rw [ystarts_rest s k2 93 hlt]; simp [h93])]
              simp only [Ir.pre, itemsPr, List.append_nil]
              congr 1; omega
          have HE := Lib.hid hRe
          have hne : ((acc.length : Int) == 0) = false := by
            have : 0 < acc.length := List.length_pos_iff.2 hem
            simp; omega
          have HW := Lib.hid (show ((k2 : Int) + 1) = ((k + (k2 + 1 - k) : Nat) : Int) by omega)
          have HQ := Lib.hid ((hP.set_ 0 (.int .i64 ((k2 : Int) + 1))).drew)
          have HC1 := Lib.hid (HCL.out.part 0 (.int .i64 ((k2 : Int) + 1)))
          have C := Lib.hid (yset_any ao acc.length cap acc true (wr.setCell ⟨w.heap.size, 0, none⟩ (.int .i64 ((k2 : Int) + 1))).drew ((r2'.keep (w' := (wr.setCell ⟨w.heap.size, 0, none⟩ (.int .i64 ((k2 : Int) + 1))).drew) (fun b hb => Below.heap_setCell wr ⟨w.heap.size, 0, none⟩ _ b (by have := hb.1; simp only; omega))).mono fun b hb => by simp [World.setCell, World.drew]; exact hb.2.1) hm2)
          clear hRe hrun hcl hown hP h93 hem r2'
          go_wp2_with fail
          refine wp_region_held_drew (S := fun W => W.cell? ⟨w.heap.size, 0, none⟩ = some (.int .i64 ((k2 : Int) + 1)) ∧ W.cell? ⟨w.heap.size, 1, none⟩ = some (.int .i64 0) ∧ W.cell? ⟨w.heap.size, 2, none⟩ = some (.int .i64 0)) mixed ⟨HQ.out.cell 0, HQ.out.cell 1, HQ.out.cell 2⟩ (fun hS => ?_)
          refine wpAnyH_take (i := 0) (v := .slice ao acc.length cap) rfl (by kernel_rfl) (by kernel_rfl) (by kernel_rfl) (fun _ _ _ h => h) (Or.inl ⟨by rfl, fun W hW => by obtain ⟨h0, h1, h2⟩ := hW; go_simp⟩) hS ?_
          refine wpAnyH_take (i := 1) (v := .bool true) rfl (by kernel_rfl) (by kernel_rfl) (by kernel_rfl) (fun _ _ _ h => h) (Or.inl ⟨by rfl, fun W hW => by obtain ⟨h0, h1, h2⟩ := hW; go_simp⟩) hS ?_
          refine wpAnyH_take (i := 3) (v := .agg #[.int .i64 ((k2 : Int) + 1), .int .i64 0, .int .i64 0]) rfl (by kernel_rfl) (by kernel_rfl) (by kernel_rfl) (fun _ _ _ h => h) (Or.inl ⟨by rfl, fun W hW => by obtain ⟨h0, h1, h2⟩ := hW; go_simp⟩) hS ?_
          refine wpAnyH_ready (rs := [2]) (by kernel_rfl) (by simp) ?_
          refine AllReadyH.cons rfl (fun K hK => ?_) AllReadyH.nil
          go_simp
          (with_reducible refine C.out.mono ?_)
          rintro e w3 ⟨⟨d3, kk, A3, n3, c3, A3', n3', c3', rfl, ht3⟩, b3⟩
          have HT := Lib.hid ht3
          have HC3 := Lib.hid (HC1.out.below (⟨b3.os, b3.tape, b3.output, b3.size, b3.block⟩ : Below (wr.setCell ⟨w.heap.size, 0, none⟩ (.int .i64 ((k2 : Int) + 1))).heap.size (wr.setCell ⟨w.heap.size, 0, none⟩ (.int .i64 ((k2 : Int) + 1))) w3))
          have HP3 := Lib.hid (HQ.out.below b3 HQ.out.lt)
          have hlo : w.heap.size + 1 + 1 < (wr.setCell ⟨w.heap.size, 0, none⟩ (.int .i64 ((k2 : Int) + 1))).drew.heap.size := by simp [World.setCell, World.drew]; exact hwl
          clear ht3 b3
          clear hS
          refine hK.out _ _ ⟨HP3.out.cell 0, HP3.out.cell 1, HP3.out.cell 2⟩ (fun hS => ?_)
          clear hK K n0 n1 n2 m0 m1 m2 r0 r1 r2 l0 l1 l2 p0 p1 p2 z0 z1 z2
          obtain ⟨n0, n1, n2, m0, m1, m2⟩ := blk3 HC3.out.nb
          refine wpAnyH_ready (rs := [4]) (by kernel_rfl) (by simp) ?_
          refine AllReadyH.cons rfl (fun K hK => ?_) AllReadyH.nil
          go_simp
          have HP4 := Lib.hid (((HP3.out.far (p := ⟨w.heap.size + 1, 0, none⟩) (by simp) (.int .i64 kk)).far (p := ⟨w.heap.size + 1, 1, none⟩) (by simp) (.slice A3 n3 c3)).far (p := ⟨w.heap.size + 1, 2, none⟩) (by simp) (.slice A3' n3' c3'))
          have HR4 := Lib.hid (((HC3.out.rb.far (p := ⟨w.heap.size + 1, 0, none⟩) (by simp) (.int .i64 kk)).far (p := ⟨w.heap.size + 1, 1, none⟩) (by simp) (.slice A3 n3 c3)).far (p := ⟨w.heap.size + 1, 2, none⟩) (by simp) (.slice A3' n3' c3'))
          clear hS
          refine hK.out _ _ ⟨HP4.out.cell 0, HP4.out.cell 1, HP4.out.cell 2⟩ (fun hS => ?_)
          clear hK K n0 n1 n2 m0 m1 m2
          obtain ⟨r0, r1, r2, l0, l1, l2⟩ := blk3 HR4.out
          refine wpAnyH_ready (rs := [5]) (by kernel_rfl) (by simp) ?_
          refine AllReadyH.cons rfl (fun K hK => ?_) AllReadyH.nil
          go_simp
          have HP5 := Lib.hid (((HP4.out.far (p := ⟨w.heap.size + 1 + 1, 0, none⟩) (by simp; omega) (.int .i64 ((k2 : Int) + 1))).far (p := ⟨w.heap.size + 1 + 1, 1, none⟩) (by simp; omega) (.int .i64 0)).far (p := ⟨w.heap.size + 1 + 1, 2, none⟩) (by simp; omega) (.int .i64 0))
          clear hS
          refine hK.out _ _ ⟨HP5.out.cell 0, HP5.out.cell 1, HP5.out.cell 2⟩ (fun hS => ?_)
          clear hK K r0 r1 r2 l0 l1 l2
          clear hS
          refine wpAnyH_done (by kernel_rfl) ?_ _
          go_wp2
          rw [HE.out]
          obtain ⟨W6, hW, hN, hP6, hb6, hk6, hz6⟩ := ysix HC3.out (.int .i64 kk) (.slice A3 n3 c3) (.slice A3' n3' c3') (.int .i64 ((k2 : Int) + 1)) (.int .i64 0) (.int .i64 0)
          rw [← hW]
          clear hW
          obtain ⟨n0, n1, n2, m0, m1, m2⟩ := blk3 hN
          obtain ⟨r0, r1, r2, l0, l1, l2⟩ := blk3 hP6
          refine bodyPost_ret (v := .tuple #[.agg #[.int .i64 kk, .slice A3 n3 c3, .slice A3' n3' c3'], .agg #[.int .i64 ((k2 : Int) + 1), .int .i64 0, .int .i64 0]]) (by simp [results, Try.results141, go_sem, n0, n1, n2, r0, r1, r2]) rfl ⟨d3, kk, A3, n3, c3, A3', n3', c3', by rw [HW.out], ?_, hb6⟩
          refine (HT.out.keep (w' := W6) fun b hb => hk6 b (by have := hb.1; omega) (by have := hb.1; omega)).mono fun b hb => ⟨?_, ?_⟩
          · have := hb.1; omega
          · rw [hz6]; exact hb.2
      · have hst : (!false && starts [93] (restL s k2)) = false := by
          rw [Bool.not_false, Bool.true_and]
          by_cases h : k2 < s.size
          · rw [ystarts_rest s k2 93 h]; simpa using fun e => hclose ⟨h, e⟩
          · rw [rest_nil s k2 (by omega), ystarts_nil]
        have hRR : R = itemsPr true ((k + 1) - k) (Ir.pre acc (k2 - (k + 1)) (itemsF letterX false (restL s k2))) := by
          rcases HH.out with ⟨_, _, h2, h3, _⟩ | ⟨_, h1⟩
          · exact absurd ⟨h2, h3⟩ hclose
          · exact h1
        have HRR := Lib.hid hRR
        have hway : (¬ ((k2 : Int) < (s.size : Int))) ∨ (∃ h : k2 < s.size, ((k2 : Int) < (s.size : Int)) ∧ s[k2] = byteAt s k2 ∧ (((byteAt s k2).toNat : Int) == 93) = false) := by
          by_cases h : k2 < s.size
          · exact Or.inr ⟨h, by omega, byteAt_eq s k2 h, ybyte_false fun e => hclose ⟨h, e⟩⟩
          · exact Or.inl (by omega)
        have HOWN := Lib.hid hown
        have HP := Lib.hid hP
        have hol := hP.lt
        clear hRR hclose hrun hcl
        cases hlt1 : letterX (restL s k2) with
        | err c o =>
          have HX := Lib.hid (show R = .err c (k2 - k + o) by rw [HRR.out, yitems_letterErr hst hlt1]; simp only [Ir.pre, itemsPr]; congr 1; omega)
          have hcne : c ≠ 0 := HC.out c _ HX.out
          have hcf : (c == 0) = false := by simpa using hcne
          have HCN := Lib.hid hcne
          obtain ⟨wh, hwh⟩ : ∃ wh : Int, wh = ((k + (k2 - k + o) : Nat) : Int) := ⟨_, rfl⟩
          have HWH := Lib.hid hwh
          have HIT := Lib.hid (fun W => (show Calls Try.prog 159 #[.string s, .agg #[.int .i64 (k2 : Nat), .int .i64 0, .int .i64 0]] W (fun e w' => (∃ x : Int, e = .returned (.tuple #[.int .u8 0, .agg #[.int .i64 x, .int .i64 c, .int .i64 wh]])) ∧ Below W.heap.size W w') by
            have h := yitem_any s k2 W h2s hs
            rw [hlt1] at h
            rw [hwh, show k + (k2 - k + o) = k2 + o by omega]
            exact h))
          clear hst hlt1 hcne hwh hown hP
          rcases hway with e1 | ⟨h0, e1, e2, e3⟩
          all_goals
            go_wp2_with fail
            (with_reducible refine (HIT.out _).mono ?_)
            rintro e w3 ⟨⟨x, rfl⟩, hb3⟩
            have hs3 : w.heap.size + 1 + 1 < w3.heap.size := Nat.lt_of_lt_of_le hwl hb3.size
            have hs4 : w.heap.size < w3.heap.size := by omega
            have HC3 := Lib.hid (HCL.out.below hb3)
            have HP3 := Lib.hid (HP.out.below hb3 hol)
            have HO3 := Lib.hid (own_below HOWN.out hb3)
            clear n0 n1 n2 m0 m1 m2 r0 r1 r2 l0 l1 l2 p0 p1 p2 z0 z1 z2 hb3
            obtain ⟨p0, p1, p2, z0, z1, z2⟩ := blk3 HP3.out
            obtain ⟨hc5, hp5, ho5, hs5⟩ := yput HC3.out HP3.out HO3.out (.int .i64 x) (.int .i64 c) (.int .i64 wh) (.cells #[.int .i64 x, .int .i64 c, .int .i64 wh] 142)
            have HC5 := Lib.hid hc5
            have HP5 := Lib.hid hp5
            have HO5 := Lib.hid ho5
            have HN5 := Lib.hid (show ∀ o, (((((w3.setCell ⟨w.heap.size, 0, none⟩ (.int .i64 x)).setCell ⟨w.heap.size, 1, none⟩ (.int .i64 c)).setCell ⟨w.heap.size, 2, none⟩ (.int .i64 wh)).alloc (.cells #[.int .i64 x, .int .i64 c, .int .i64 wh] 142)).alloc o).heap[w3.heap.size + 1]? = some o from fun o => by
              rw [← hs5]; exact heap_alloc_new _ _)
            clear hc5 hp5 ho5 hs5
            go_wp2_with (at_builtin; refine wpList_append_lies _ rfl (.tmp 123) (.tmp 127) 23 rfl (w.heap.size + 3) 37 i0 _ 2 2 Try.underlying23 hi0 hz0 hz1 hz2 rfl (by decide) _ _ _ rfl (HO5.out.alloc _) ⟨w3.heap.size + 1, 0, none⟩ 1 1 [.int .u8 0, .int .u8 0] rfl rfl (World.news_of_block (HN5.out _)) (two_one _ _) (by decide) (by unfold maxLen; omega) (by omega) (by simp; omega) _ rfl ?_)
            intro g cap2 w4 hown4 hgrow hat hlt4
            have hgr : ∀ j, (Value.slice ao acc.length cap).ownBlock = some j → w.heap.size + 3 ≤ j := fun j hj => (HO3.out.lt j hj).1
            have HC6 := Lib.hid ((HC5.out.alloc _).grown hgrow hgr)
            have HP6 := Lib.hid ((HP5.out.alloc _).grown hgrow (fun e => by have := hgr _ e.symm; omega))
            clear hgrow hat p0 p1 p2 z0 z1 z2
            go_wp2
            go_roundw
            case rel => exact ⟨HC6.out, Or.inr ⟨x, c, k2 - k + o, _, _, _, rfl, HCN.out, HX.out, by rw [← HWH.out]; exact HP6.out⟩⟩
            case measure =>
              rw [yLeft_bad HP6.out HCN.out, yLeft_go HP.out]
              omega
        | ok lo n =>
          have hn := (good_letterX _).1 _ _ hlt1
          rw [rest_len] at hn
          obtain ⟨k3, hk3⟩ : ∃ k3, k3 = k2 + n := ⟨_, rfl⟩
          have HIT := Lib.hid (fun W => (show Calls Try.prog 159 #[.string s, .agg #[.int .i64 (k2 : Nat), .int .i64 0, .int .i64 0]] W (fun e w' => e = .returned (.tuple #[.int .u8 (lo.toNat : Nat), .agg #[.int .i64 (k3 : Nat), .int .i64 0, .int .i64 0]]) ∧ Below W.heap.size W w') by
            have h := yitem_any s k2 W h2s hs
            rw [hlt1] at h
            rw [hk3]
            exact h))
          have hk3b : k2 < k3 ∧ k3 ≤ s.size := by omega
          have q3 : IntKind.i64.wrap ((k3 : Int) + 1) = (k3 : Int) + 1 := IntWalk.i64_in _ (by omega)
          have ht3 : ((k3 : Int) + 1).toNat = k3 + 1 := by omega
          have hdr : (restL s k2).drop n = restL s k3 := by rw [rest_drop, hk3]
          have hdr1 : (restL s k2).drop (n + 1) = restL s (k3 + 1) := by rw [rest_drop, hk3]; rfl
          have hda := dashY_at s k3
          clear hown hP
          cases hd : dashY (restL s k3) with
          | false =>
            have HX := Lib.hid (show R = itemsPr true ((k + 1) - k) (Ir.pre (acc ++ [(lo, lo)]) (k3 - (k + 1)) (itemsF letterX false (restL s k3))) by
              rw [HRR.out, yitems_noDash hst hlt1 (by rw [hdr]; exact hd), Ir.pre_more, hdr, show k2 - (k + 1) + n = k3 - (k + 1) by omega])
            rw [hd] at hda
            have hways : (¬ ((k3 : Int) + 1 < (s.size : Int))) ∨ (∃ h : k3 < s.size, ((k3 : Int) + 1 < (s.size : Int)) ∧ s[k3] = byteAt s k3 ∧ (((byteAt s k3).toNat : Int) == 45) = false) ∨ (∃ (h : k3 < s.size) (h' : k3 + 1 < s.size), ((k3 : Int) + 1 < (s.size : Int)) ∧ s[k3] = byteAt s k3 ∧ (((byteAt s k3).toNat : Int) == 45) = true ∧ s[k3 + 1] = byteAt s (k3 + 1) ∧ (((byteAt s (k3 + 1)).toNat : Int) != 93) = false) := by
              by_cases h1 : k3 + 1 < s.size
              · right
                by_cases h2 : byteAt s k3 = 45
                · right
                  refine ⟨by omega, h1, by omega, byteAt_eq s k3 (by omega), ybyte_true h2, byteAt_eq s (k3 + 1) h1, ybyte_ne_false (c := 93) ?_⟩
                  simp [h1, h2] at hda
                  exact hda
                · left; exact ⟨by omega, by omega, byteAt_eq s k3 (by omega), ybyte_false h2⟩
              · left; omega
            clear hk3 hdr hdr1 hda hd hlt1 hst hn
            obtain ⟨h0, e1, e2, e3⟩ := hway.resolve_left (by omega)
            rcases hways with g1 | ⟨g0, g1, g2, g3⟩ | ⟨g0, g0', g1, g2, g3, g4, g5⟩
            all_goals
              go_wp2_with fail
              (with_reducible refine (HIT.out _).mono ?_)
              rintro e w3 ⟨rfl, hb3⟩
              have hs3 : w.heap.size + 1 + 1 < w3.heap.size := Nat.lt_of_lt_of_le hwl hb3.size
              have hs4 : w.heap.size < w3.heap.size := by omega
              have HC3 := Lib.hid (HCL.out.below hb3)
              have HP3 := Lib.hid (HP.out.below hb3 hol)
              have HO3 := Lib.hid (own_below HOWN.out hb3)
              clear n0 n1 n2 m0 m1 m2 r0 r1 r2 l0 l1 l2 p0 p1 p2 z0 z1 z2 hb3
              obtain ⟨p0, p1, p2, z0, z1, z2⟩ := blk3 HP3.out
              obtain ⟨hc5, hp5, ho5, hs5⟩ := yput HC3.out HP3.out HO3.out (.int .i64 (k3 : Nat)) (.int .i64 0) (.int .i64 0) (.cells #[.int .i64 (k3 : Nat), .int .i64 0, .int .i64 0] 142)
              have HC5 := Lib.hid hc5
              have HP5 := Lib.hid hp5
              have HO5 := Lib.hid ho5
              have HN5 := Lib.hid (show ∀ o, (((((w3.setCell ⟨w.heap.size, 0, none⟩ (.int .i64 (k3 : Nat))).setCell ⟨w.heap.size, 1, none⟩ (.int .i64 0)).setCell ⟨w.heap.size, 2, none⟩ (.int .i64 0)).alloc (.cells #[.int .i64 (k3 : Nat), .int .i64 0, .int .i64 0] 142)).alloc o).heap[w3.heap.size + 1]? = some o from fun o => by
                rw [← hs5]; exact heap_alloc_new _ _)
              clear hc5 hp5 ho5 hs5
              go_wp2_with (at_builtin; refine wpList_append_lies _ rfl (.tmp 123) (.tmp 127) 23 rfl (w.heap.size + 3) 37 i0 _ 2 2 Try.underlying23 hi0 hz0 hz1 hz2 rfl (by decide) _ _ _ rfl (HO5.out.alloc _) ⟨w3.heap.size + 1, 0, none⟩ 1 1 [.int .u8 (lo.toNat : Nat), .int .u8 (lo.toNat : Nat)] rfl rfl (World.news_of_block (HN5.out _)) (two_one _ _) (by decide) (by unfold maxLen; omega) (by omega) (by simp; omega) _ rfl ?_)
              intro g cap2 w4 hown4 hgrow hat hlt4
              have hgr : ∀ j, (Value.slice ao acc.length cap).ownBlock = some j → w.heap.size + 3 ≤ j := fun j hj => (HO3.out.lt j hj).1
              have HC6 := Lib.hid ((HC5.out.alloc _).grown hgrow hgr)
              have HP6 := Lib.hid ((HP5.out.alloc _).grown hgrow (fun e => by have := hgr _ e.symm; omega))
              have HO6 := Lib.hid hown4
              clear hgrow hat p0 p1 p2 z0 z1 z2 hown4
              go_wp2
              go_roundw
              case rel =>
                refine ⟨HC6.out, Or.inl ⟨k3, acc ++ [(lo, lo)], by omega, hk3b.2, by simp; omega, HP6.out, ?_, Or.inr ⟨fun h => absurd h (by simp), HX.out⟩⟩⟩
                rw [rgCells_append, List.length_append]; exact HO6.out
              case measure =>
                rw [yLeft_go HP6.out, yLeft_go HP.out]
                omega
          | true =>
            rw [hd] at hda
            have h1 : k3 + 1 < s.size ∧ byteAt s k3 = 45 ∧ byteAt s (k3 + 1) ≠ 93 := by
              by_cases h1 : k3 + 1 < s.size
              · by_cases h2 : byteAt s k3 = 45
                · refine ⟨h1, h2, fun h3 => ?_⟩
                  simp [h1, h2, h3] at hda
                · simp [h1, h2] at hda
              · simp [h1] at hda
            obtain ⟨h1, h2, h3⟩ := h1
            have g0 : k3 < s.size := by omega
            have g1 : (k3 : Int) + 1 < (s.size : Int) := by omega
            have g2 := byteAt_eq s k3 g0
            have g3 : (((byteAt s k3).toNat : Int) == 45) = true := ybyte_true h2
            have g4 := byteAt_eq s (k3 + 1) h1
            have g5 : (((byteAt s (k3 + 1)).toNat : Int) != 93) = true := ybyte_ne_true (c := 93) h3
            have hc1 : (((k3 + 1 : Nat)) : Int) = (k3 : Int) + 1 := by omega
            obtain ⟨h0, e1, e2, e3⟩ := hway.resolve_left (by omega)
            clear hda h2 h3 hway
            cases hlt2 : letterX (restL s (k3 + 1)) with
            | err c o =>
              have HX := Lib.hid (show R = .err c (k2 - k + (n + 1 + o)) by
                rw [HRR.out, yitems_dashErr hst hlt1 (by rw [hdr]; exact hd) (by rw [hdr1]; exact hlt2)]; simp only [Ir.pre, itemsPr]; congr 1; omega)
              have hcne : c ≠ 0 := HC.out c _ HX.out
              have hcf : (c == 0) = false := by simpa using hcne
              have HCN := Lib.hid hcne
              obtain ⟨wh, hwh⟩ : ∃ wh : Int, wh = ((k + (k2 - k + (n + 1 + o)) : Nat) : Int) := ⟨_, rfl⟩
              have HWH := Lib.hid hwh
              have HIT2 := Lib.hid (fun W => (show Calls Try.prog 159 #[.string s, .agg #[.int .i64 ((k3 : Int) + 1), .int .i64 0, .int .i64 0]] W (fun e w' => (∃ x : Int, e = .returned (.tuple #[.int .u8 0, .agg #[.int .i64 x, .int .i64 c, .int .i64 wh]])) ∧ Below W.heap.size W w') by
                have h := yitem_any s (k3 + 1) W (by omega) hs
                rw [hlt2] at h
                rw [hwh, show k + (k2 - k + (n + 1 + o)) = k3 + 1 + o by omega, ← hc1]
                exact h))
              clear hk3 hdr hdr1 hd hlt1 hst hn hlt2 hcne hwh hc1
              go_wp2_with fail
              (with_reducible refine (HIT.out _).mono ?_)
              rintro e w3 ⟨rfl, hb3⟩
              have hs3 : w.heap.size + 1 + 1 < w3.heap.size := Nat.lt_of_lt_of_le hwl hb3.size
              have hs4 : w.heap.size < w3.heap.size := by omega
              have HC3 := Lib.hid (HCL.out.below hb3)
              have HP3 := Lib.hid (HP.out.below hb3 hol)
              have HO3 := Lib.hid (own_below HOWN.out hb3)
              clear n0 n1 n2 m0 m1 m2 r0 r1 r2 l0 l1 l2 p0 p1 p2 z0 z1 z2 hb3
              obtain ⟨p0, p1, p2, z0, z1, z2⟩ := blk3 HP3.out
              go_wp2_with fail
              obtain ⟨hc6, hp6, ho6, hs6⟩ := yput2 HC3.out HP3.out HO3.out (.int .i64 (k3 : Nat)) (.int .i64 0) (.int .i64 0) (.int .i64 ((k3 : Int) + 1)) (.cells #[.int .i64 (k3 : Nat), .int .i64 0, .int .i64 0] 142)
              (with_reducible refine (HIT2.out _).mono ?_)
              rintro e w5 ⟨⟨x, rfl⟩, hb5⟩
              have hs7 := hb5.size
              rw [hs6] at hs7
              have hs8 : w.heap.size + 1 + 1 < w5.heap.size := by omega
              have hs9 : w.heap.size < w5.heap.size := by omega
              have HC7 := Lib.hid (hc6.below hb5)
              have HP7 := Lib.hid (hp6.below hb5 hp6.lt)
              have HO7 := Lib.hid (own_below ho6 hb5)
              clear hc6 hp6 ho6 hs6 hs7 hb5 p0 p1 p2 z0 z1 z2
              obtain ⟨p0, p1, p2, z0, z1, z2⟩ := blk3 HP7.out
              obtain ⟨hc5, hp5, ho5, hs5⟩ := yput HC7.out HP7.out HO7.out (.int .i64 x) (.int .i64 c) (.int .i64 wh) (.cells #[.int .i64 x, .int .i64 c, .int .i64 wh] 142)
              have HC5 := Lib.hid hc5
              have HP5 := Lib.hid hp5
              have HO5 := Lib.hid ho5
              have HN5 := Lib.hid (show ∀ o, (((((w5.setCell ⟨w.heap.size, 0, none⟩ (.int .i64 x)).setCell ⟨w.heap.size, 1, none⟩ (.int .i64 c)).setCell ⟨w.heap.size, 2, none⟩ (.int .i64 wh)).alloc (.cells #[.int .i64 x, .int .i64 c, .int .i64 wh] 142)).alloc o).heap[w5.heap.size + 1]? = some o from fun o => by
                rw [← hs5]; exact heap_alloc_new _ _)
              clear hc5 hp5 ho5 hs5
              go_wp2_with (at_builtin; refine wpList_append_lies _ rfl (.tmp 123) (.tmp 127) 23 rfl (w.heap.size + 3) 37 i0 _ 2 2 Try.underlying23 hi0 hz0 hz1 hz2 rfl (by decide) _ _ _ rfl (HO5.out.alloc _) ⟨w5.heap.size + 1, 0, none⟩ 1 1 [.int .u8 (lo.toNat : Nat), .int .u8 0] rfl rfl (World.news_of_block (HN5.out _)) (two_one _ _) (by decide) (by unfold maxLen; omega) (by omega) (by simp; omega) _ rfl ?_)
              intro g cap2 w4 hown4 hgrow hat hlt4
              have hgr : ∀ j, (Value.slice ao acc.length cap).ownBlock = some j → w.heap.size + 3 ≤ j := fun j hj => (HO7.out.lt j hj).1
              have HC6 := Lib.hid ((HC5.out.alloc _).grown hgrow hgr)
              have HP6 := Lib.hid ((HP5.out.alloc _).grown hgrow (fun e => by have := hgr _ e.symm; omega))
              have HO6 := Lib.hid hown4
              clear hgrow hat p0 p1 p2 z0 z1 z2 hown4
              go_wp2
              go_roundw
              case rel => exact ⟨HC6.out, Or.inr ⟨x, c, k2 - k + (n + 1 + o), _, _, _, rfl, HCN.out, HX.out, by rw [← HWH.out]; exact HP6.out⟩⟩
              case measure =>
                rw [yLeft_bad HP6.out HCN.out, yLeft_go HP.out]
                omega
            | ok hi m =>
              have hm := (good_letterX _).1 _ _ hlt2
              rw [rest_len] at hm
              obtain ⟨k4, hk4⟩ : ∃ k4, k4 = k3 + 1 + m := ⟨_, rfl⟩
              have HIT2 := Lib.hid (fun W => (show Calls Try.prog 159 #[.string s, .agg #[.int .i64 ((k3 : Int) + 1), .int .i64 0, .int .i64 0]] W (fun e w' => e = .returned (.tuple #[.int .u8 (hi.toNat : Nat), .agg #[.int .i64 (k4 : Nat), .int .i64 0, .int .i64 0]]) ∧ Below W.heap.size W w') by
                have h := yitem_any s (k3 + 1) W (by omega) hs
                rw [hlt2] at h
                rw [hk4, ← hc1]
                exact h))
              have hk4b : k3 < k4 ∧ k4 ≤ s.size := by omega
              by_cases hlh : hi < lo
              · have HE := Lib.hid (show R = .err 32 (k2 - k) by
                  rw [HRR.out, yitems_dashBad hst hlt1 (by rw [hdr]; exact hd) (by rw [hdr1]; exact hlt2) hlh]; simp only [Ir.pre, itemsPr]; congr 1; omega)
                have hl' : (hi.toNat : Int) < (lo.toNat : Int) := by have := UInt8.lt_iff_toNat_lt.1 hlh; omega
                have HW := Lib.hid (show ((k2 : Nat) : Int) = ((k + (k2 - k) : Nat) : Int) by omega)
                have C := Lib.hid (fun W => yfail_any k4 0 32 k2 W)
                clear hk3 hdr hdr1 hd hlt1 hst hn hlt2 hc1 hk4 hlh hm
                go_wp2_with fail
                (with_reducible refine (HIT.out _).mono ?_)
                rintro e w3 ⟨rfl, hb3⟩
                have hs3 : w.heap.size + 1 + 1 < w3.heap.size := Nat.lt_of_lt_of_le hwl hb3.size
                have hs4 : w.heap.size < w3.heap.size := by omega
                have HC3 := Lib.hid (HCL.out.below hb3)
                have HP3 := Lib.hid (HP.out.below hb3 hol)
                have HO3 := Lib.hid (own_below HOWN.out hb3)
                clear n0 n1 n2 m0 m1 m2 r0 r1 r2 l0 l1 l2 p0 p1 p2 z0 z1 z2 hb3
                obtain ⟨p0, p1, p2, z0, z1, z2⟩ := blk3 HP3.out
                go_wp2_with fail
                obtain ⟨hc6, hp6, ho6, hs6⟩ := yput2 HC3.out HP3.out HO3.out (.int .i64 (k3 : Nat)) (.int .i64 0) (.int .i64 0) (.int .i64 ((k3 : Int) + 1)) (.cells #[.int .i64 (k3 : Nat), .int .i64 0, .int .i64 0] 142)
                (with_reducible refine (HIT2.out _).mono ?_)
                rintro e w5 ⟨rfl, hb5⟩
                have hs7 := hb5.size
                rw [hs6] at hs7
                have hs8 : w.heap.size + 1 + 1 < w5.heap.size := by omega
                have hs9 : w.heap.size < w5.heap.size := by omega
                have HC7 := Lib.hid (hc6.below hb5)
                have HP7 := Lib.hid (hp6.below hb5 hp6.lt)
                have HO7 := Lib.hid (own_below ho6 hb5)
                clear hc6 hp6 ho6 hs6 hs7 hb5 p0 p1 p2 z0 z1 z2
                obtain ⟨p0, p1, p2, z0, z1, z2⟩ := blk3 HP7.out
                obtain ⟨hc5, hp5, ho5, hs5⟩ := yput HC7.out HP7.out HO7.out (.int .i64 (k4 : Nat)) (.int .i64 0) (.int .i64 0) (.cells #[.int .i64 (k4 : Nat), .int .i64 0, .int .i64 0] 142)
                have HC5 := Lib.hid hc5
                clear hc5 hp5 ho5 hs5
                go_wp2_with fail
                (with_reducible refine (C.out _).mono ?_)
                rintro e w6 ⟨rfl, hb6⟩
                have HC3' := Lib.hid (HC5.out.below hb6)
                clear hb6 HC3
                have HC3 := HC3'
                clear p0 p1 p2 z0 z1 z2
                obtain ⟨n0, n1, n2, m0, m1, m2⟩ := blk3 HC3.out.nb
                obtain ⟨r0, r1, r2, l0, l1, l2⟩ := blk3 HC3.out.rb
                go_wp2
                rw [HE.out]
                obtain ⟨W6, hW, hN, hP6, hb6, hk6, hz6⟩ := ysix HC3.out (.int .i64 0) (.slice none 0 0) (.slice none 0 0) (.int .i64 k4) (.int .i64 32) (.int .i64 k2)
                rw [← hW]
                clear hW n0 n1 n2 m0 m1 m2 r0 r1 r2 l0 l1 l2
                obtain ⟨n0, n1, n2, m0, m1, m2⟩ := blk3 hN
                obtain ⟨r0, r1, r2, l0, l1, l2⟩ := blk3 hP6
                refine bodyPost_ret (v := .tuple #[.agg #[.int .i64 0, .slice none 0 0, .slice none 0 0], .agg #[.int .i64 k4, .int .i64 32, .int .i64 k2]]) (by simp [results, Try.results141, go_sem, n0, n1, n2, r0, r1, r2]) rfl ⟨⟨0, none, 0, 0, none, 0, 0, k4, by rw [HW.out]⟩, hb6⟩
              · have HX := Lib.hid (show R = itemsPr true ((k + 1) - k) (Ir.pre (acc ++ [(lo, hi)]) (k4 - (k + 1)) (itemsF letterX false (restL s k4))) by
                  rw [HRR.out, yitems_dashOk hst hlt1 (by rw [hdr]; exact hd) (by rw [hdr1]; exact hlt2) hlh, Ir.pre_more, rest_drop, show k2 + (n + 1 + m) = k4 by omega, show k2 - (k + 1) + (n + 1 + m) = k4 - (k + 1) by omega])
                have hl' : ¬ (hi.toNat : Int) < (lo.toNat : Int) := by
                  intro h; exact hlh (UInt8.lt_iff_toNat_lt.2 (by omega))
                clear hk3 hdr hdr1 hd hlt1 hst hn hlt2 hc1 hk4 hlh hm
                go_wp2_with fail
                (with_reducible refine (HIT.out _).mono ?_)
                rintro e w3 ⟨rfl, hb3⟩
                have hs3 : w.heap.size + 1 + 1 < w3.heap.size := Nat.lt_of_lt_of_le hwl hb3.size
                have hs4 : w.heap.size < w3.heap.size := by omega
                have HC3 := Lib.hid (HCL.out.below hb3)
                have HP3 := Lib.hid (HP.out.below hb3 hol)
                have HO3 := Lib.hid (own_below HOWN.out hb3)
                clear n0 n1 n2 m0 m1 m2 r0 r1 r2 l0 l1 l2 p0 p1 p2 z0 z1 z2 hb3
                obtain ⟨p0, p1, p2, z0, z1, z2⟩ := blk3 HP3.out
                go_wp2_with fail
                obtain ⟨hc6, hp6, ho6, hs6⟩ := yput2 HC3.out HP3.out HO3.out (.int .i64 (k3 : Nat)) (.int .i64 0) (.int .i64 0) (.int .i64 ((k3 : Int) + 1)) (.cells #[.int .i64 (k3 : Nat), .int .i64 0, .int .i64 0] 142)
                (with_reducible refine (HIT2.out _).mono ?_)
                rintro e w5 ⟨rfl, hb5⟩
                have hs7 := hb5.size
                rw [hs6] at hs7
                have hs8 : w.heap.size + 1 + 1 < w5.heap.size := by omega
                have hs9 : w.heap.size < w5.heap.size := by omega
                have HC7 := Lib.hid (hc6.below hb5)
                have HP7 := Lib.hid (hp6.below hb5 hp6.lt)
                have HO7 := Lib.hid (own_below ho6 hb5)
                clear hc6 hp6 ho6 hs6 hs7 hb5 p0 p1 p2 z0 z1 z2
                obtain ⟨p0, p1, p2, z0, z1, z2⟩ := blk3 HP7.out
                obtain ⟨hc5, hp5, ho5, hs5⟩ := yput HC7.out HP7.out HO7.out (.int .i64 (k4 : Nat)) (.int .i64 0) (.int .i64 0) (.cells #[.int .i64 (k4 : Nat), .int .i64 0, .int .i64 0] 142)
                have HC5 := Lib.hid hc5
                have HP5 := Lib.hid hp5
                have HO5 := Lib.hid ho5
                have HN5 := Lib.hid (show ∀ o, (((((w5.setCell ⟨w.heap.size, 0, none⟩ (.int .i64 (k4 : Nat))).setCell ⟨w.heap.size, 1, none⟩ (.int .i64 0)).setCell ⟨w.heap.size, 2, none⟩ (.int .i64 0)).alloc (.cells #[.int .i64 (k4 : Nat), .int .i64 0, .int .i64 0] 142)).alloc o).heap[w5.heap.size + 1]? = some o from fun o => by
                  rw [← hs5]; exact heap_alloc_new _ _)
                clear hc5 hp5 ho5 hs5
                go_wp2_with (at_builtin; refine wpList_append_lies _ rfl (.tmp 123) (.tmp 127) 23 rfl (w.heap.size + 3) 37 i0 _ 2 2 Try.underlying23 hi0 hz0 hz1 hz2 rfl (by decide) _ _ _ rfl (HO5.out.alloc _) ⟨w5.heap.size + 1, 0, none⟩ 1 1 [.int .u8 (lo.toNat : Nat), .int .u8 (hi.toNat : Nat)] rfl rfl (World.news_of_block (HN5.out _)) (two_one _ _) (by decide) (by unfold maxLen; omega) (by omega) (by simp; omega) _ rfl ?_)
                intro g cap2 w4 hown4 hgrow hat hlt4
                have hgr : ∀ j, (Value.slice ao acc.length cap).ownBlock = some j → w.heap.size + 3 ≤ j := fun j hj => (HO7.out.lt j hj).1
                have HC6 := Lib.hid ((HC5.out.alloc _).grown hgrow hgr)
                have HP6 := Lib.hid ((HP5.out.alloc _).grown hgrow (fun e => by have := hgr _ e.symm; omega))
                have HO6 := Lib.hid hown4
                clear hgrow hat p0 p1 p2 z0 z1 z2 hown4
                go_wp2
                go_roundw
                case rel =>
                  refine ⟨HC6.out, Or.inl ⟨k4, acc ++ [(lo, hi)], by omega, hk4b.2, by simp; omega, HP6.out, ?_, Or.inr ⟨fun h => absurd h (by simp), HX.out⟩⟩⟩
                  rw [rgCells_append, List.length_append]; exact HO6.out
                case measure =>
                  rw [yLeft_go HP6.out, yLeft_go HP.out]
                  omega
set_option maxHeartbeats 8000000 in
set_option maxRecDepth 100000 in
theorem yclass_pos (s : ByteArray) (k : Nat) (w : World) (_ : k ≤ s.size) (hs : s.size ≤ 256) (hkl : k < s.size) (h94 : byteAt s k ≠ 94) {R : Pr} (hR : YRun s k k false R [] k) (hc : ∀ c o, R = .err c o → c ≠ 0) :
    Calls Try.prog 141 #[.string s, .agg #[.int .i64 (k : Nat), .int .i64 0, .int .i64 0]] w (YN w k R) := by
  obtain ⟨i0, hi0, hz0, hz1, hz2⟩ := info_parts rgInfo
  have HR := Lib.hid hR
  have HC := Lib.hid hc
  have mixed : Try.prog.follows .mixedOrders = true := by kernel_rfl
  have hkl' : (k : Int) < (s.size : Int) := by omega
  have hbt := byteAt_eq s k hkl
  have e94 : (((byteAt s k).toNat : Int) == 94) = false := ybyte_false h94
  clear h94
  clear hR hc
  have START := Lib.hid (show YCl w ((((w.alloc (.cells #[.int .i64 (k : Nat), .int .i64 0, .int .i64 0] 142)).alloc (.cells #[.int .i64 0, .slice none 0 0, .slice none 0 0] 26)).alloc (.cells #[.int .i64 0, .int .i64 0, .int .i64 0] 142)).alloc (.cells #[] 37)) from ⟨((((Below.refl w.heap.size w).alloc (Nat.le_refl _) _).alloc (by simp) _).alloc (by simp; omega) _).alloc (by simp; omega) _, by
      have h1 := Blk.new (w.alloc (.cells #[.int .i64 (k : Nat), .int .i64 0, .int .i64 0] 142)) 26 #[.int .i64 0, .slice none 0 0, .slice none 0 0]
      have h2 := (h1.alloc (.cells #[.int .i64 0, .int .i64 0, .int .i64 0] 142)).alloc (.cells #[] 37)
      simpa using h2, by
      have h1 := Blk.new ((w.alloc (.cells #[.int .i64 (k : Nat), .int .i64 0, .int .i64 0] 142)).alloc (.cells #[.int .i64 0, .slice none 0 0, .slice none 0 0] 26)) 142 #[.int .i64 0, .int .i64 0, .int .i64 0]
      have h2 := h1.alloc (.cells #[] 37)
      simpa using h2⟩)
  have PSTART := Lib.hid (show Blk ((((w.alloc (.cells #[.int .i64 (k : Nat), .int .i64 0, .int .i64 0] 142)).alloc (.cells #[.int .i64 0, .slice none 0 0, .slice none 0 0] 26)).alloc (.cells #[.int .i64 0, .int .i64 0, .int .i64 0] 142)).alloc (.cells #[] 37)) w.heap.size 142 #[.int .i64 (k : Nat), .int .i64 0, .int .i64 0] from by
      have h1 := (((Blk.new w 142 #[.int .i64 (k : Nat), .int .i64 0, .int .i64 0]).alloc (.cells #[.int .i64 0, .slice none 0 0, .slice none 0 0] 26)).alloc (.cells #[.int .i64 0, .int .i64 0, .int .i64 0] 142)).alloc (.cells #[] 37)
      simpa using h1)
  have RSTART := Lib.hid (show ((((w.alloc (.cells #[.int .i64 (k : Nat), .int .i64 0, .int .i64 0] 142)).alloc (.cells #[.int .i64 0, .slice none 0 0, .slice none 0 0] 26)).alloc (.cells #[.int .i64 0, .int .i64 0, .int .i64 0] 142)).alloc (.cells #[] 37)).heap[w.heap.size + 3]? = some (.cells #[] 37 (0, 0)) from by
      have h1 := heap_alloc_new (((w.alloc (.cells #[.int .i64 (k : Nat), .int .i64 0, .int .i64 0] 142)).alloc (.cells #[.int .i64 0, .slice none 0 0, .slice none 0 0] 26)).alloc (.cells #[.int .i64 0, .int .i64 0, .int .i64 0] 142)) (.cells #[] 37)
      simpa using h1)
  go_enter Try.func141, Try.ntmps141
  go_wp2_with fail
  go_loopw [7] (fun v wr => YCl w wr ∧ (YGo w wr s k k false R v ∨ YBad w wr k R v)) (fun _ wr => yLeft s w.heap.size wr)
  case atStart => exact ⟨START.out, .inl ⟨k, [], Nat.le_refl _, by omega, Nat.zero_le _, PSTART.out, ⟨rfl, Or.inr ⟨w.heap.size + 3, 0, #[], rfl, Nat.le_refl _, RSTART.out, Nat.le_refl _, Nat.zero_le _, rfl, rfl⟩⟩, HR.out⟩⟩
  case round =>
    obtain ⟨hcl, hrel⟩ := hrel
    have HCL := Lib.hid hcl
    obtain ⟨n0, n1, n2, m0, m1, m2⟩ := blk3 hcl.nb
    obtain ⟨r0, r1, r2, l0, l1, l2⟩ := blk3 hcl.rb
    have hB := hcl.old.size
    have hwl := hcl.rb.lt
    rcases hrel with ⟨k2, acc, h12, h2s, hal, hP, hown, hrun⟩ | ⟨x, c, off, A, n, cp, rfl, hc, hRe, hP⟩
    rotate_left
    · have hc' : (c == 0) = false := by simpa using hc
      obtain ⟨p0, p1, p2, z0, z1, z2⟩ := blk3 hP
      have HE := Lib.hid hRe
      generalize hwh : ((k + off : Nat) : Int) = wh at p2 hP
      have HWH := Lib.hid hwh
      clear hcl hc hP hRe hwh
      go_wp2
      go_region
      rename_i K0 hK0
      refine hK0 _ _ (wp_ret ?_)
      rw [HE.out]
      obtain ⟨W6, hW, hN, hP6, hb6, hk6, hz6⟩ := ysix HCL.out (.int .i64 0) (.slice none 0 0) (.slice none 0 0) (.int .i64 x) (.int .i64 c) (.int .i64 wh)
      rw [← hW]
      clear hW hK0 n0 n1 n2 m0 m1 m2 r0 r1 r2 l0 l1 l2 HCL
      obtain ⟨n0, n1, n2, m0, m1, m2⟩ := blk3 hN
      obtain ⟨r0, r1, r2, l0, l1, l2⟩ := blk3 hP6
      refine bodyPost_ret (v := .tuple #[.agg #[.int .i64 0, .slice none 0 0, .slice none 0 0], .agg #[.int .i64 x, .int .i64 c, .int .i64 wh]]) (by simp [results, Try.results141, go_sem, n0, n1, n2, r0, r1, r2]) rfl ⟨⟨0, none, 0, 0, none, 0, 0, x, by rw [HWH.out]⟩, hb6.drew⟩
    · have HH := Lib.hid hrun
      obtain ⟨p0, p1, p2, z0, z1, z2⟩ := blk3 hP
      obtain ⟨ao, cap, hv⟩ := own_form hown
      subst hv
      have q2 : IntKind.i64.wrap ((k2 : Int) + 1) = (k2 : Int) + 1 := IntWalk.i64_in _ (by omega)
      by_cases hclose : k2 < s.size ∧ byteAt s k2 = 93
      · obtain ⟨hlt, h93⟩ := hclose
        have hlt' : (k2 : Int) < (s.size : Int) := by omega
        have hbt := byteAt_eq s k2 hlt
        have e3 : (((byteAt s k2).toNat : Int) == 93) = true := ybyte_true h93
        by_cases hem : acc = []
        · subst hem
          have hRe : R = .err 30 (k2 - k) := by
            rcases HH.out with ⟨_, h1, _, _, h2⟩ | ⟨h1, _⟩
            · rw [h2, h1]
            · exact absurd ⟨hlt, h93⟩ (h1 rfl)
          have HE := Lib.hid hRe
          have HW := Lib.hid (show ((k2 : Nat) : Int) = ((k + (k2 - k) : Nat) : Int) by omega)
          have C := Lib.hid (fun W => yfail_any k2 0 30 k2 W)
          clear hRe hrun hcl hown hP h93
          go_wp2_with fail
          (with_reducible refine (C.out _).mono ?_)
          rintro e w3 ⟨rfl, hb3⟩
          have HC3 := Lib.hid (HCL.out.below hb3)
          clear n0 n1 n2 m0 m1 m2 r0 r1 r2 l0 l1 l2 p0 p1 p2 z0 z1 z2
          obtain ⟨n0, n1, n2, m0, m1, m2⟩ := blk3 HC3.out.nb
          obtain ⟨r0, r1, r2, l0, l1, l2⟩ := blk3 HC3.out.rb
          go_wp2
          rw [HE.out]
          obtain ⟨W6, hW, hN, hP6, hb6, hk6, hz6⟩ := ysix HC3.out (.int .i64 0) (.slice none 0 0) (.slice none 0 0) (.int .i64 k2) (.int .i64 30) (.int .i64 k2)
          rw [← hW]
          clear hW n0 n1 n2 m0 m1 m2 r0 r1 r2 l0 l1 l2
          obtain ⟨n0, n1, n2, m0, m1, m2⟩ := blk3 hN
          obtain ⟨r0, r1, r2, l0, l1, l2⟩ := blk3 hP6
          refine bodyPost_ret (v := .tuple #[.agg #[.int .i64 0, .slice none 0 0, .slice none 0 0], .agg #[.int .i64 k2, .int .i64 30, .int .i64 k2]]) (by simp [results, Try.results141, go_sem, n0, n1, n2, r0, r1, r2]) rfl ⟨⟨0, none, 0, 0, none, 0, 0, k2, by rw [HW.out]⟩, hb6⟩
        · obtain ⟨A2, cp2, hv2, _, hm2, r2'⟩ := rg_of_own hown
          injection hv2 with hv3 _ hv4
          subst hv3 hv4
          have hRe : R = .ok (.mk 1 (rangesL acc false) []) (k2 + 1 - k) := by
            rcases HH.out with ⟨h1, _⟩ | ⟨_, h1⟩
            · exact absurd h1 hem
            · rw [h1, itemsF_end (by rw [ystarts_rest s k2 93 hlt]; simp [h93])]
              simp only [Ir.pre, itemsPr, List.append_nil]
              congr 1; omega
          have HE := Lib.hid hRe
          have hne : ((acc.length : Int) == 0) = false := by
            have : 0 < acc.length := List.length_pos_iff.2 hem
            simp; omega
          have HW := Lib.hid (show ((k2 : Int) + 1) = ((k + (k2 + 1 - k) : Nat) : Int) by omega)
          have HQ := Lib.hid ((hP.set_ 0 (.int .i64 ((k2 : Int) + 1))).drew)
          have HC1 := Lib.hid (HCL.out.part 0 (.int .i64 ((k2 : Int) + 1)))
          have C := Lib.hid (yset_any ao acc.length cap acc false (wr.setCell ⟨w.heap.size, 0, none⟩ (.int .i64 ((k2 : Int) + 1))).drew ((r2'.keep (w' := (wr.setCell ⟨w.heap.size, 0, none⟩ (.int .i64 ((k2 : Int) + 1))).drew) (fun b hb => Below.heap_setCell wr ⟨w.heap.size, 0, none⟩ _ b (by have := hb.1; simp only; omega))).mono fun b hb => by simp [World.setCell, World.drew]; exact hb.2.1) hm2)
          clear hRe hrun hcl hown hP h93 hem r2'
          go_wp2_with fail
          refine wp_region_held_drew (S := fun W => W.cell? ⟨w.heap.size, 0, none⟩ = some (.int .i64 ((k2 : Int) + 1)) ∧ W.cell? ⟨w.heap.size, 1, none⟩ = some (.int .i64 0) ∧ W.cell? ⟨w.heap.size, 2, none⟩ = some (.int .i64 0)) mixed ⟨HQ.out.cell 0, HQ.out.cell 1, HQ.out.cell 2⟩ (fun hS => ?_)
          refine wpAnyH_take (i := 0) (v := .slice ao acc.length cap) rfl (by kernel_rfl) (by kernel_rfl) (by kernel_rfl) (fun _ _ _ h => h) (Or.inl ⟨by rfl, fun W hW => by obtain ⟨h0, h1, h2⟩ := hW; go_simp⟩) hS ?_
          refine wpAnyH_take (i := 1) (v := .bool false) rfl (by kernel_rfl) (by kernel_rfl) (by kernel_rfl) (fun _ _ _ h => h) (Or.inl ⟨by rfl, fun W hW => by obtain ⟨h0, h1, h2⟩ := hW; go_simp⟩) hS ?_
          refine wpAnyH_take (i := 3) (v := .agg #[.int .i64 ((k2 : Int) + 1), .int .i64 0, .int .i64 0]) rfl (by kernel_rfl) (by kernel_rfl) (by kernel_rfl) (fun _ _ _ h => h) (Or.inl ⟨by rfl, fun W hW => by obtain ⟨h0, h1, h2⟩ := hW; go_simp⟩) hS ?_
          refine wpAnyH_ready (rs := [2]) (by kernel_rfl) (by simp) ?_
          refine AllReadyH.cons rfl (fun K hK => ?_) AllReadyH.nil
          go_simp
          (with_reducible refine C.out.mono ?_)
          rintro e w3 ⟨⟨d3, kk, A3, n3, c3, A3', n3', c3', rfl, ht3⟩, b3⟩
          have HT := Lib.hid ht3
          have HC3 := Lib.hid (HC1.out.below (⟨b3.os, b3.tape, b3.output, b3.size, b3.block⟩ : Below (wr.setCell ⟨w.heap.size, 0, none⟩ (.int .i64 ((k2 : Int) + 1))).heap.size (wr.setCell ⟨w.heap.size, 0, none⟩ (.int .i64 ((k2 : Int) + 1))) w3))
          have HP3 := Lib.hid (HQ.out.below b3 HQ.out.lt)
          have hlo : w.heap.size + 1 + 1 < (wr.setCell ⟨w.heap.size, 0, none⟩ (.int .i64 ((k2 : Int) + 1))).drew.heap.size := by simp [World.setCell, World.drew]; exact hwl
          clear ht3 b3
          clear hS
          refine hK.out _ _ ⟨HP3.out.cell 0, HP3.out.cell 1, HP3.out.cell 2⟩ (fun hS => ?_)
          clear hK K n0 n1 n2 m0 m1 m2 r0 r1 r2 l0 l1 l2 p0 p1 p2 z0 z1 z2
          obtain ⟨n0, n1, n2, m0, m1, m2⟩ := blk3 HC3.out.nb
          refine wpAnyH_ready (rs := [4]) (by kernel_rfl) (by simp) ?_
          refine AllReadyH.cons rfl (fun K hK => ?_) AllReadyH.nil
          go_simp
          have HP4 := Lib.hid (((HP3.out.far (p := ⟨w.heap.size + 1, 0, none⟩) (by simp) (.int .i64 kk)).far (p := ⟨w.heap.size + 1, 1, none⟩) (by simp) (.slice A3 n3 c3)).far (p := ⟨w.heap.size + 1, 2, none⟩) (by simp) (.slice A3' n3' c3'))
          have HR4 := Lib.hid (((HC3.out.rb.far (p := ⟨w.heap.size + 1, 0, none⟩) (by simp) (.int .i64 kk)).far (p := ⟨w.heap.size + 1, 1, none⟩) (by simp) (.slice A3 n3 c3)).far (p := ⟨w.heap.size + 1, 2, none⟩) (by simp) (.slice A3' n3' c3'))
          clear hS
          refine hK.out _ _ ⟨HP4.out.cell 0, HP4.out.cell 1, HP4.out.cell 2⟩ (fun hS => ?_)
          clear hK K n0 n1 n2 m0 m1 m2
          obtain ⟨r0, r1, r2, l0, l1, l2⟩ := blk3 HR4.out
          refine wpAnyH_ready (rs := [5]) (by kernel_rfl) (by simp) ?_
          refine AllReadyH.cons rfl (fun K hK => ?_) AllReadyH.nil
          go_simp
          have HP5 := Lib.hid (((HP4.out.far (p := ⟨w.heap.size + 1 + 1, 0, none⟩) (by simp; omega) (.int .i64 ((k2 : Int) + 1))).far (p := ⟨w.heap.size + 1 + 1, 1, none⟩) (by simp; omega) (.int .i64 0)).far (p := ⟨w.heap.size + 1 + 1, 2, none⟩) (by simp; omega) (.int .i64 0))
          clear hS
          refine hK.out _ _ ⟨HP5.out.cell 0, HP5.out.cell 1, HP5.out.cell 2⟩ (fun hS => ?_)
          clear hK K r0 r1 r2 l0 l1 l2
          clear hS
          refine wpAnyH_done (by kernel_rfl) ?_ _
          go_wp2
          rw [HE.out]
          obtain ⟨W6, hW, hN, hP6, hb6, hk6, hz6⟩ := ysix HC3.out (.int .i64 kk) (.slice A3 n3 c3) (.slice A3' n3' c3') (.int .i64 ((k2 : Int) + 1)) (.int .i64 0) (.int .i64 0)
          rw [← hW]
          clear hW
          obtain ⟨n0, n1, n2, m0, m1, m2⟩ := blk3 hN
          obtain ⟨r0, r1, r2, l0, l1, l2⟩ := blk3 hP6
          refine bodyPost_ret (v := .tuple #[.agg #[.int .i64 kk, .slice A3 n3 c3, .slice A3' n3' c3'], .agg #[.int .i64 ((k2 : Int) + 1), .int .i64 0, .int .i64 0]]) (by simp [results, Try.results141, go_sem, n0, n1, n2, r0, r1, r2]) rfl ⟨d3, kk, A3, n3, c3, A3', n3', c3', by rw [HW.out], ?_, hb6⟩
          refine (HT.out.keep (w' := W6) fun b hb => hk6 b (by have := hb.1; omega) (by have := hb.1; omega)).mono fun b hb => ⟨?_, ?_⟩
          · have := hb.1; omega
          · rw [hz6]; exact hb.2
      · have hst : (!false && starts [93] (restL s k2)) = false := by
          rw [Bool.not_false, Bool.true_and]
          by_cases h : k2 < s.size
          · rw [ystarts_rest s k2 93 h]; simpa using fun e => hclose ⟨h, e⟩
          · rw [rest_nil s k2 (by omega), ystarts_nil]
        have hRR : R = itemsPr false (k - k) (Ir.pre acc (k2 - k) (itemsF letterX false (restL s k2))) := by
          rcases HH.out with ⟨_, _, h2, h3, _⟩ | ⟨_, h1⟩
          · exact absurd ⟨h2, h3⟩ hclose
          · exact h1
        have HRR := Lib.hid hRR
        have hway : (¬ ((k2 : Int) < (s.size : Int))) ∨ (∃ h : k2 < s.size, ((k2 : Int) < (s.size : Int)) ∧ s[k2] = byteAt s k2 ∧ (((byteAt s k2).toNat : Int) == 93) = false) := by
          by_cases h : k2 < s.size
          · exact Or.inr ⟨h, by omega, byteAt_eq s k2 h, ybyte_false fun e => hclose ⟨h, e⟩⟩
          · exact Or.inl (by omega)
        have HOWN := Lib.hid hown
        have HP := Lib.hid hP
        have hol := hP.lt
        clear hRR hclose hrun hcl
        cases hlt1 : letterX (restL s k2) with
        | err c o =>
          have HX := Lib.hid (show R = .err c (k2 - k + o) by rw [HRR.out, yitems_letterErr hst hlt1]; simp only [Ir.pre, itemsPr]; congr 1; omega)
          have hcne : c ≠ 0 := HC.out c _ HX.out
          have hcf : (c == 0) = false := by simpa using hcne
          have HCN := Lib.hid hcne
          obtain ⟨wh, hwh⟩ : ∃ wh : Int, wh = ((k + (k2 - k + o) : Nat) : Int) := ⟨_, rfl⟩
          have HWH := Lib.hid hwh
          have HIT := Lib.hid (fun W => (show Calls Try.prog 159 #[.string s, .agg #[.int .i64 (k2 : Nat), .int .i64 0, .int .i64 0]] W (fun e w' => (∃ x : Int, e = .returned (.tuple #[.int .u8 0, .agg #[.int .i64 x, .int .i64 c, .int .i64 wh]])) ∧ Below W.heap.size W w') by
            have h := yitem_any s k2 W h2s hs
            rw [hlt1] at h
            rw [hwh, show k + (k2 - k + o) = k2 + o by omega]
            exact h))
          clear hst hlt1 hcne hwh hown hP
          rcases hway with e1 | ⟨h0, e1, e2, e3⟩
          all_goals
            go_wp2_with fail
            (with_reducible refine (HIT.out _).mono ?_)
            rintro e w3 ⟨⟨x, rfl⟩, hb3⟩
            have hs3 : w.heap.size + 1 + 1 < w3.heap.size := Nat.lt_of_lt_of_le hwl hb3.size
            have hs4 : w.heap.size < w3.heap.size := by omega
            have HC3 := Lib.hid (HCL.out.below hb3)
            have HP3 := Lib.hid (HP.out.below hb3 hol)
            have HO3 := Lib.hid (own_below HOWN.out hb3)
            clear n0 n1 n2 m0 m1 m2 r0 r1 r2 l0 l1 l2 p0 p1 p2 z0 z1 z2 hb3
            obtain ⟨p0, p1, p2, z0, z1, z2⟩ := blk3 HP3.out
            obtain ⟨hc5, hp5, ho5, hs5⟩ := yput HC3.out HP3.out HO3.out (.int .i64 x) (.int .i64 c) (.int .i64 wh) (.cells #[.int .i64 x, .int .i64 c, .int .i64 wh] 142)
            have HC5 := Lib.hid hc5
            have HP5 := Lib.hid hp5
            have HO5 := Lib.hid ho5
            have HN5 := Lib.hid (show ∀ o, (((((w3.setCell ⟨w.heap.size, 0, none⟩ (.int .i64 x)).setCell ⟨w.heap.size, 1, none⟩ (.int .i64 c)).setCell ⟨w.heap.size, 2, none⟩ (.int .i64 wh)).alloc (.cells #[.int .i64 x, .int .i64 c, .int .i64 wh] 142)).alloc o).heap[w3.heap.size + 1]? = some o from fun o => by
              rw [← hs5]; exact heap_alloc_new _ _)
            clear hc5 hp5 ho5 hs5
            go_wp2_with (at_builtin; refine wpList_append_lies _ rfl (.tmp 123) (.tmp 127) 23 rfl (w.heap.size + 3) 37 i0 _ 2 2 Try.underlying23 hi0 hz0 hz1 hz2 rfl (by decide) _ _ _ rfl (HO5.out.alloc _) ⟨w3.heap.size + 1, 0, none⟩ 1 1 [.int .u8 0, .int .u8 0] rfl rfl (World.news_of_block (HN5.out _)) (two_one _ _) (by decide) (by unfold maxLen; omega) (by omega) (by simp; omega) _ rfl ?_)
            intro g cap2 w4 hown4 hgrow hat hlt4
            have hgr : ∀ j, (Value.slice ao acc.length cap).ownBlock = some j → w.heap.size + 3 ≤ j := fun j hj => (HO3.out.lt j hj).1
            have HC6 := Lib.hid ((HC5.out.alloc _).grown hgrow hgr)
            have HP6 := Lib.hid ((HP5.out.alloc _).grown hgrow (fun e => by have := hgr _ e.symm; omega))
            clear hgrow hat p0 p1 p2 z0 z1 z2
            go_wp2
            go_roundw
            case rel => exact ⟨HC6.out, Or.inr ⟨x, c, k2 - k + o, _, _, _, rfl, HCN.out, HX.out, by rw [← HWH.out]; exact HP6.out⟩⟩
            case measure =>
              rw [yLeft_bad HP6.out HCN.out, yLeft_go HP.out]
              omega
        | ok lo n =>
          have hn := (good_letterX _).1 _ _ hlt1
          rw [rest_len] at hn
          obtain ⟨k3, hk3⟩ : ∃ k3, k3 = k2 + n := ⟨_, rfl⟩
          have HIT := Lib.hid (fun W => (show Calls Try.prog 159 #[.string s, .agg #[.int .i64 (k2 : Nat), .int .i64 0, .int .i64 0]] W (fun e w' => e = .returned (.tuple #[.int .u8 (lo.toNat : Nat), .agg #[.int .i64 (k3 : Nat), .int .i64 0, .int .i64 0]]) ∧ Below W.heap.size W w') by
            have h := yitem_any s k2 W h2s hs
            rw [hlt1] at h
            rw [hk3]
            exact h))
          have hk3b : k2 < k3 ∧ k3 ≤ s.size := by omega
          have q3 : IntKind.i64.wrap ((k3 : Int) + 1) = (k3 : Int) + 1 := IntWalk.i64_in _ (by omega)
          have ht3 : ((k3 : Int) + 1).toNat = k3 + 1 := by omega
          have hdr : (restL s k2).drop n = restL s k3 := by rw [rest_drop, hk3]
          have hdr1 : (restL s k2).drop (n + 1) = restL s (k3 + 1) := by rw [rest_drop, hk3]; rfl
          have hda := dashY_at s k3
          clear hown hP
          cases hd : dashY (restL s k3) with
          | false =>
            have HX := Lib.hid (show R = itemsPr false (k - k) (Ir.pre (acc ++ [(lo, lo)]) (k3 - k) (itemsF letterX false (restL s k3))) by
              rw [HRR.out, yitems_noDash hst hlt1 (by rw [hdr]; exact hd), Ir.pre_more, hdr, show k2 - k + n = k3 - k by omega])
            rw [hd] at hda
            have hways : (¬ ((k3 : Int) + 1 < (s.size : Int))) ∨ (∃ h : k3 < s.size, ((k3 : Int) + 1 < (s.size : Int)) ∧ s[k3] = byteAt s k3 ∧ (((byteAt s k3).toNat : Int) == 45) = false) ∨ (∃ (h : k3 < s.size) (h' : k3 + 1 < s.size), ((k3 : Int) + 1 < (s.size : Int)) ∧ s[k3] = byteAt s k3 ∧ (((byteAt s k3).toNat : Int) == 45) = true ∧ s[k3 + 1] = byteAt s (k3 + 1) ∧ (((byteAt s (k3 + 1)).toNat : Int) != 93) = false) := by
              by_cases h1 : k3 + 1 < s.size
              · right
                by_cases h2 : byteAt s k3 = 45
                · right
                  refine ⟨by omega, h1, by omega, byteAt_eq s k3 (by omega), ybyte_true h2, byteAt_eq s (k3 + 1) h1, ybyte_ne_false (c := 93) ?_⟩
                  simp [h1, h2] at hda
                  exact hda
                · left; exact ⟨by omega, by omega, byteAt_eq s k3 (by omega), ybyte_false h2⟩
              · left; omega
            clear hk3 hdr hdr1 hda hd hlt1 hst hn
            obtain ⟨h0, e1, e2, e3⟩ := hway.resolve_left (by omega)
            rcases hways with g1 | ⟨g0, g1, g2, g3⟩ | ⟨g0, g0', g1, g2, g3, g4, g5⟩
            all_goals
              go_wp2_with fail
              (with_reducible refine (HIT.out _).mono ?_)
              rintro e w3 ⟨rfl, hb3⟩
              have hs3 : w.heap.size + 1 + 1 < w3.heap.size := Nat.lt_of_lt_of_le hwl hb3.size
              have hs4 : w.heap.size < w3.heap.size := by omega
              have HC3 := Lib.hid (HCL.out.below hb3)
              have HP3 := Lib.hid (HP.out.below hb3 hol)
              have HO3 := Lib.hid (own_below HOWN.out hb3)
              clear n0 n1 n2 m0 m1 m2 r0 r1 r2 l0 l1 l2 p0 p1 p2 z0 z1 z2 hb3
              obtain ⟨p0, p1, p2, z0, z1, z2⟩ := blk3 HP3.out
              obtain ⟨hc5, hp5, ho5, hs5⟩ := yput HC3.out HP3.out HO3.out (.int .i64 (k3 : Nat)) (.int .i64 0) (.int .i64 0) (.cells #[.int .i64 (k3 : Nat), .int .i64 0, .int .i64 0] 142)
              have HC5 := Lib.hid hc5
              have HP5 := Lib.hid hp5
              have HO5 := Lib.hid ho5
              have HN5 := Lib.hid (show ∀ o, (((((w3.setCell ⟨w.heap.size, 0, none⟩ (.int .i64 (k3 : Nat))).setCell ⟨w.heap.size, 1, none⟩ (.int .i64 0)).setCell ⟨w.heap.size, 2, none⟩ (.int .i64 0)).alloc (.cells #[.int .i64 (k3 : Nat), .int .i64 0, .int .i64 0] 142)).alloc o).heap[w3.heap.size + 1]? = some o from fun o => by
                rw [← hs5]; exact heap_alloc_new _ _)
              clear hc5 hp5 ho5 hs5
              go_wp2_with (at_builtin; refine wpList_append_lies _ rfl (.tmp 123) (.tmp 127) 23 rfl (w.heap.size + 3) 37 i0 _ 2 2 Try.underlying23 hi0 hz0 hz1 hz2 rfl (by decide) _ _ _ rfl (HO5.out.alloc _) ⟨w3.heap.size + 1, 0, none⟩ 1 1 [.int .u8 (lo.toNat : Nat), .int .u8 (lo.toNat : Nat)] rfl rfl (World.news_of_block (HN5.out _)) (two_one _ _) (by decide) (by unfold maxLen; omega) (by omega) (by simp; omega) _ rfl ?_)
              intro g cap2 w4 hown4 hgrow hat hlt4
              have hgr : ∀ j, (Value.slice ao acc.length cap).ownBlock = some j → w.heap.size + 3 ≤ j := fun j hj => (HO3.out.lt j hj).1
              have HC6 := Lib.hid ((HC5.out.alloc _).grown hgrow hgr)
              have HP6 := Lib.hid ((HP5.out.alloc _).grown hgrow (fun e => by have := hgr _ e.symm; omega))
              have HO6 := Lib.hid hown4
              clear hgrow hat p0 p1 p2 z0 z1 z2 hown4
              go_wp2
              go_roundw
              case rel =>
                refine ⟨HC6.out, Or.inl ⟨k3, acc ++ [(lo, lo)], by omega, hk3b.2, by simp; omega, HP6.out, ?_, Or.inr ⟨fun h => absurd h (by simp), HX.out⟩⟩⟩
                rw [rgCells_append, List.length_append]; exact HO6.out
              case measure =>
                rw [yLeft_go HP6.out, yLeft_go HP.out]
                omega
          | true =>
            rw [hd] at hda
            have h1 : k3 + 1 < s.size ∧ byteAt s k3 = 45 ∧ byteAt s (k3 + 1) ≠ 93 := by
              by_cases h1 : k3 + 1 < s.size
              · by_cases h2 : byteAt s k3 = 45
                · refine ⟨h1, h2, fun h3 => ?_⟩
                  simp [h1, h2, h3] at hda
                · simp [h1, h2] at hda
              · simp [h1] at hda
            obtain ⟨h1, h2, h3⟩ := h1
            have g0 : k3 < s.size := by omega
            have g1 : (k3 : Int) + 1 < (s.size : Int) := by omega
            have g2 := byteAt_eq s k3 g0
            have g3 : (((byteAt s k3).toNat : Int) == 45) = true := ybyte_true h2
            have g4 := byteAt_eq s (k3 + 1) h1
            have g5 : (((byteAt s (k3 + 1)).toNat : Int) != 93) = true := ybyte_ne_true (c := 93) h3
            have hc1 : (((k3 + 1 : Nat)) : Int) = (k3 : Int) + 1 := by omega
            obtain ⟨h0, e1, e2, e3⟩ := hway.resolve_left (by omega)
            clear hda h2 h3 hway
            cases hlt2 : letterX (restL s (k3 + 1)) with
            | err c o =>
              have HX := Lib.hid (show R = .err c (k2 - k + (n + 1 + o)) by
                rw [HRR.out, yitems_dashErr hst hlt1 (by rw [hdr]; exact hd) (by rw [hdr1]; exact hlt2)]; simp only [Ir.pre, itemsPr]; congr 1; omega)
              have hcne : c ≠ 0 := HC.out c _ HX.out
              have hcf : (c == 0) = false := by simpa using hcne
              have HCN := Lib.hid hcne
              obtain ⟨wh, hwh⟩ : ∃ wh : Int, wh = ((k + (k2 - k + (n + 1 + o)) : Nat) : Int) := ⟨_, rfl⟩
              have HWH := Lib.hid hwh
              have HIT2 := Lib.hid (fun W => (show Calls Try.prog 159 #[.string s, .agg #[.int .i64 ((k3 : Int) + 1), .int .i64 0, .int .i64 0]] W (fun e w' => (∃ x : Int, e = .returned (.tuple #[.int .u8 0, .agg #[.int .i64 x, .int .i64 c, .int .i64 wh]])) ∧ Below W.heap.size W w') by
                have h := yitem_any s (k3 + 1) W (by omega) hs
                rw [hlt2] at h
                rw [hwh, show k + (k2 - k + (n + 1 + o)) = k3 + 1 + o by omega, ← hc1]
                exact h))
              clear hk3 hdr hdr1 hd hlt1 hst hn hlt2 hcne hwh hc1
              go_wp2_with fail
              (with_reducible refine (HIT.out _).mono ?_)
              rintro e w3 ⟨rfl, hb3⟩
              have hs3 : w.heap.size + 1 + 1 < w3.heap.size := Nat.lt_of_lt_of_le hwl hb3.size
              have hs4 : w.heap.size < w3.heap.size := by omega
              have HC3 := Lib.hid (HCL.out.below hb3)
              have HP3 := Lib.hid (HP.out.below hb3 hol)
              have HO3 := Lib.hid (own_below HOWN.out hb3)
              clear n0 n1 n2 m0 m1 m2 r0 r1 r2 l0 l1 l2 p0 p1 p2 z0 z1 z2 hb3
              obtain ⟨p0, p1, p2, z0, z1, z2⟩ := blk3 HP3.out
              go_wp2_with fail
              obtain ⟨hc6, hp6, ho6, hs6⟩ := yput2 HC3.out HP3.out HO3.out (.int .i64 (k3 : Nat)) (.int .i64 0) (.int .i64 0) (.int .i64 ((k3 : Int) + 1)) (.cells #[.int .i64 (k3 : Nat), .int .i64 0, .int .i64 0] 142)
              (with_reducible refine (HIT2.out _).mono ?_)
              rintro e w5 ⟨⟨x, rfl⟩, hb5⟩
              have hs7 := hb5.size
              rw [hs6] at hs7
              have hs8 : w.heap.size + 1 + 1 < w5.heap.size := by omega
              have hs9 : w.heap.size < w5.heap.size := by omega
              have HC7 := Lib.hid (hc6.below hb5)
              have HP7 := Lib.hid (hp6.below hb5 hp6.lt)
              have HO7 := Lib.hid (own_below ho6 hb5)
              clear hc6 hp6 ho6 hs6 hs7 hb5 p0 p1 p2 z0 z1 z2
              obtain ⟨p0, p1, p2, z0, z1, z2⟩ := blk3 HP7.out
              obtain ⟨hc5, hp5, ho5, hs5⟩ := yput HC7.out HP7.out HO7.out (.int .i64 x) (.int .i64 c) (.int .i64 wh) (.cells #[.int .i64 x, .int .i64 c, .int .i64 wh] 142)
              have HC5 := Lib.hid hc5
              have HP5 := Lib.hid hp5
              have HO5 := Lib.hid ho5
              have HN5 := Lib.hid (show ∀ o, (((((w5.setCell ⟨w.heap.size, 0, none⟩ (.int .i64 x)).setCell ⟨w.heap.size, 1, none⟩ (.int .i64 c)).setCell ⟨w.heap.size, 2, none⟩ (.int .i64 wh)).alloc (.cells #[.int .i64 x, .int .i64 c, .int .i64 wh] 142)).alloc o).heap[w5.heap.size + 1]? = some o from fun o => by
                rw [← hs5]; exact heap_alloc_new _ _)
              clear hc5 hp5 ho5 hs5
              go_wp2_with (at_builtin; refine wpList_append_lies _ rfl (.tmp 123) (.tmp 127) 23 rfl (w.heap.size + 3) 37 i0 _ 2 2 Try.underlying23 hi0 hz0 hz1 hz2 rfl (by decide) _ _ _ rfl (HO5.out.alloc _) ⟨w5.heap.size + 1, 0, none⟩ 1 1 [.int .u8 (lo.toNat : Nat), .int .u8 0] rfl rfl (World.news_of_block (HN5.out _)) (two_one _ _) (by decide) (by unfold maxLen; omega) (by omega) (by simp; omega) _ rfl ?_)
              intro g cap2 w4 hown4 hgrow hat hlt4
              have hgr : ∀ j, (Value.slice ao acc.length cap).ownBlock = some j → w.heap.size + 3 ≤ j := fun j hj => (HO7.out.lt j hj).1
              have HC6 := Lib.hid ((HC5.out.alloc _).grown hgrow hgr)
              have HP6 := Lib.hid ((HP5.out.alloc _).grown hgrow (fun e => by have := hgr _ e.symm; omega))
              have HO6 := Lib.hid hown4
              clear hgrow hat p0 p1 p2 z0 z1 z2 hown4
              go_wp2
              go_roundw
              case rel => exact ⟨HC6.out, Or.inr ⟨x, c, k2 - k + (n + 1 + o), _, _, _, rfl, HCN.out, HX.out, by rw [← HWH.out]; exact HP6.out⟩⟩
              case measure =>
                rw [yLeft_bad HP6.out HCN.out, yLeft_go HP.out]
                omega
            | ok hi m =>
              have hm := (good_letterX _).1 _ _ hlt2
              rw [rest_len] at hm
              obtain ⟨k4, hk4⟩ : ∃ k4, k4 = k3 + 1 + m := ⟨_, rfl⟩
              have HIT2 := Lib.hid (fun W => (show Calls Try.prog 159 #[.string s, .agg #[.int .i64 ((k3 : Int) + 1), .int .i64 0, .int .i64 0]] W (fun e w' => e = .returned (.tuple #[.int .u8 (hi.toNat : Nat), .agg #[.int .i64 (k4 : Nat), .int .i64 0, .int .i64 0]]) ∧ Below W.heap.size W w') by
                have h := yitem_any s (k3 + 1) W (by omega) hs
                rw [hlt2] at h
                rw [hk4, ← hc1]
                exact h))
              have hk4b : k3 < k4 ∧ k4 ≤ s.size := by omega
              by_cases hlh : hi < lo
              · have HE := Lib.hid (show R = .err 32 (k2 - k) by
                  rw [HRR.out, yitems_dashBad hst hlt1 (by rw [hdr]; exact hd) (by rw [hdr1]; exact hlt2) hlh]; simp only [Ir.pre, itemsPr]; congr 1; omega)
                have hl' : (hi.toNat : Int) < (lo.toNat : Int) := by have := UInt8.lt_iff_toNat_lt.1 hlh; omega
                have HW := Lib.hid (show ((k2 : Nat) : Int) = ((k + (k2 - k) : Nat) : Int) by omega)
                have C := Lib.hid (fun W => yfail_any k4 0 32 k2 W)
                clear hk3 hdr hdr1 hd hlt1 hst hn hlt2 hc1 hk4 hlh hm
                go_wp2_with fail
                (with_reducible refine (HIT.out _).mono ?_)
                rintro e w3 ⟨rfl, hb3⟩
                have hs3 : w.heap.size + 1 + 1 < w3.heap.size := Nat.lt_of_lt_of_le hwl hb3.size
                have hs4 : w.heap.size < w3.heap.size := by omega
                have HC3 := Lib.hid (HCL.out.below hb3)
                have HP3 := Lib.hid (HP.out.below hb3 hol)
                have HO3 := Lib.hid (own_below HOWN.out hb3)
                clear n0 n1 n2 m0 m1 m2 r0 r1 r2 l0 l1 l2 p0 p1 p2 z0 z1 z2 hb3
                obtain ⟨p0, p1, p2, z0, z1, z2⟩ := blk3 HP3.out
                go_wp2_with fail
                obtain ⟨hc6, hp6, ho6, hs6⟩ := yput2 HC3.out HP3.out HO3.out (.int .i64 (k3 : Nat)) (.int .i64 0) (.int .i64 0) (.int .i64 ((k3 : Int) + 1)) (.cells #[.int .i64 (k3 : Nat), .int .i64 0, .int .i64 0] 142)
                (with_reducible refine (HIT2.out _).mono ?_)
                rintro e w5 ⟨rfl, hb5⟩
                have hs7 := hb5.size
                rw [hs6] at hs7
                have hs8 : w.heap.size + 1 + 1 < w5.heap.size := by omega
                have hs9 : w.heap.size < w5.heap.size := by omega
                have HC7 := Lib.hid (hc6.below hb5)
                have HP7 := Lib.hid (hp6.below hb5 hp6.lt)
                have HO7 := Lib.hid (own_below ho6 hb5)
                clear hc6 hp6 ho6 hs6 hs7 hb5 p0 p1 p2 z0 z1 z2
                obtain ⟨p0, p1, p2, z0, z1, z2⟩ := blk3 HP7.out
                obtain ⟨hc5, hp5, ho5, hs5⟩ := yput HC7.out HP7.out HO7.out (.int .i64 (k4 : Nat)) (.int .i64 0) (.int .i64 0) (.cells #[.int .i64 (k4 : Nat), .int .i64 0, .int .i64 0] 142)
                have HC5 := Lib.hid hc5
                clear hc5 hp5 ho5 hs5
                go_wp2_with fail
                (with_reducible refine (C.out _).mono ?_)
                rintro e w6 ⟨rfl, hb6⟩
                have HC3' := Lib.hid (HC5.out.below hb6)
                clear hb6 HC3
                have HC3 := HC3'
                clear p0 p1 p2 z0 z1 z2
                obtain ⟨n0, n1, n2, m0, m1, m2⟩ := blk3 HC3.out.nb
                obtain ⟨r0, r1, r2, l0, l1, l2⟩ := blk3 HC3.out.rb
                go_wp2
                rw [HE.out]
                obtain ⟨W6, hW, hN, hP6, hb6, hk6, hz6⟩ := ysix HC3.out (.int .i64 0) (.slice none 0 0) (.slice none 0 0) (.int .i64 k4) (.int .i64 32) (.int .i64 k2)
                rw [← hW]
                clear hW n0 n1 n2 m0 m1 m2 r0 r1 r2 l0 l1 l2
                obtain ⟨n0, n1, n2, m0, m1, m2⟩ := blk3 hN
                obtain ⟨r0, r1, r2, l0, l1, l2⟩ := blk3 hP6
                refine bodyPost_ret (v := .tuple #[.agg #[.int .i64 0, .slice none 0 0, .slice none 0 0], .agg #[.int .i64 k4, .int .i64 32, .int .i64 k2]]) (by simp [results, Try.results141, go_sem, n0, n1, n2, r0, r1, r2]) rfl ⟨⟨0, none, 0, 0, none, 0, 0, k4, by rw [HW.out]⟩, hb6⟩
              · have HX := Lib.hid (show R = itemsPr false (k - k) (Ir.pre (acc ++ [(lo, hi)]) (k4 - k) (itemsF letterX false (restL s k4))) by
                  rw [HRR.out, yitems_dashOk hst hlt1 (by rw [hdr]; exact hd) (by rw [hdr1]; exact hlt2) hlh, Ir.pre_more, rest_drop, show k2 + (n + 1 + m) = k4 by omega, show k2 - k + (n + 1 + m) = k4 - k by omega])
                have hl' : ¬ (hi.toNat : Int) < (lo.toNat : Int) := by
                  intro h; exact hlh (UInt8.lt_iff_toNat_lt.2 (by omega))
                clear hk3 hdr hdr1 hd hlt1 hst hn hlt2 hc1 hk4 hlh hm
                go_wp2_with fail
                (with_reducible refine (HIT.out _).mono ?_)
                rintro e w3 ⟨rfl, hb3⟩
                have hs3 : w.heap.size + 1 + 1 < w3.heap.size := Nat.lt_of_lt_of_le hwl hb3.size
                have hs4 : w.heap.size < w3.heap.size := by omega
                have HC3 := Lib.hid (HCL.out.below hb3)
                have HP3 := Lib.hid (HP.out.below hb3 hol)
                have HO3 := Lib.hid (own_below HOWN.out hb3)
                clear n0 n1 n2 m0 m1 m2 r0 r1 r2 l0 l1 l2 p0 p1 p2 z0 z1 z2 hb3
                obtain ⟨p0, p1, p2, z0, z1, z2⟩ := blk3 HP3.out
                go_wp2_with fail
                obtain ⟨hc6, hp6, ho6, hs6⟩ := yput2 HC3.out HP3.out HO3.out (.int .i64 (k3 : Nat)) (.int .i64 0) (.int .i64 0) (.int .i64 ((k3 : Int) + 1)) (.cells #[.int .i64 (k3 : Nat), .int .i64 0, .int .i64 0] 142)
                (with_reducible refine (HIT2.out _).mono ?_)
                rintro e w5 ⟨rfl, hb5⟩
                have hs7 := hb5.size
                rw [hs6] at hs7
                have hs8 : w.heap.size + 1 + 1 < w5.heap.size := by omega
                have hs9 : w.heap.size < w5.heap.size := by omega
                have HC7 := Lib.hid (hc6.below hb5)
                have HP7 := Lib.hid (hp6.below hb5 hp6.lt)
                have HO7 := Lib.hid (own_below ho6 hb5)
                clear hc6 hp6 ho6 hs6 hs7 hb5 p0 p1 p2 z0 z1 z2
                obtain ⟨p0, p1, p2, z0, z1, z2⟩ := blk3 HP7.out
                obtain ⟨hc5, hp5, ho5, hs5⟩ := yput HC7.out HP7.out HO7.out (.int .i64 (k4 : Nat)) (.int .i64 0) (.int .i64 0) (.cells #[.int .i64 (k4 : Nat), .int .i64 0, .int .i64 0] 142)
                have HC5 := Lib.hid hc5
                have HP5 := Lib.hid hp5
                have HO5 := Lib.hid ho5
                have HN5 := Lib.hid (show ∀ o, (((((w5.setCell ⟨w.heap.size, 0, none⟩ (.int .i64 (k4 : Nat))).setCell ⟨w.heap.size, 1, none⟩ (.int .i64 0)).setCell ⟨w.heap.size, 2, none⟩ (.int .i64 0)).alloc (.cells #[.int .i64 (k4 : Nat), .int .i64 0, .int .i64 0] 142)).alloc o).heap[w5.heap.size + 1]? = some o from fun o => by
                  rw [← hs5]; exact heap_alloc_new _ _)
                clear hc5 hp5 ho5 hs5
                go_wp2_with (at_builtin; refine wpList_append_lies _ rfl (.tmp 123) (.tmp 127) 23 rfl (w.heap.size + 3) 37 i0 _ 2 2 Try.underlying23 hi0 hz0 hz1 hz2 rfl (by decide) _ _ _ rfl (HO5.out.alloc _) ⟨w5.heap.size + 1, 0, none⟩ 1 1 [.int .u8 (lo.toNat : Nat), .int .u8 (hi.toNat : Nat)] rfl rfl (World.news_of_block (HN5.out _)) (two_one _ _) (by decide) (by unfold maxLen; omega) (by omega) (by simp; omega) _ rfl ?_)
                intro g cap2 w4 hown4 hgrow hat hlt4
                have hgr : ∀ j, (Value.slice ao acc.length cap).ownBlock = some j → w.heap.size + 3 ≤ j := fun j hj => (HO7.out.lt j hj).1
                have HC6 := Lib.hid ((HC5.out.alloc _).grown hgrow hgr)
                have HP6 := Lib.hid ((HP5.out.alloc _).grown hgrow (fun e => by have := hgr _ e.symm; omega))
                have HO6 := Lib.hid hown4
                clear hgrow hat p0 p1 p2 z0 z1 z2 hown4
                go_wp2
                go_roundw
                case rel =>
                  refine ⟨HC6.out, Or.inl ⟨k4, acc ++ [(lo, hi)], by omega, hk4b.2, by simp; omega, HP6.out, ?_, Or.inr ⟨fun h => absurd h (by simp), HX.out⟩⟩⟩
                  rw [rgCells_append, List.length_append]; exact HO6.out
                case measure =>
                  rw [yLeft_go HP6.out, yLeft_go HP.out]
                  omega
set_option maxHeartbeats 8000000 in
set_option maxRecDepth 100000 in
theorem yclass_end (s : ByteArray) (k : Nat) (w : World) (hk : k ≤ s.size) (hs : s.size ≤ 256) (hkl : s.size ≤ k) {R : Pr} (hR : YRun s k k false R [] k) (hc : ∀ c o, R = .err c o → c ≠ 0) :
    Calls Try.prog 141 #[.string s, .agg #[.int .i64 (k : Nat), .int .i64 0, .int .i64 0]] w (YN w k R) := by
  obtain ⟨i0, hi0, hz0, hz1, hz2⟩ := info_parts rgInfo
  have HR := Lib.hid hR
  have HC := Lib.hid hc
  have mixed : Try.prog.follows .mixedOrders = true := by kernel_rfl
  have hkl' : ¬ (k : Int) < (s.size : Int) := by omega
  clear hR hc
  have START := Lib.hid (show YCl w ((((w.alloc (.cells #[.int .i64 (k : Nat), .int .i64 0, .int .i64 0] 142)).alloc (.cells #[.int .i64 0, .slice none 0 0, .slice none 0 0] 26)).alloc (.cells #[.int .i64 0, .int .i64 0, .int .i64 0] 142)).alloc (.cells #[] 37)) from ⟨((((Below.refl w.heap.size w).alloc (Nat.le_refl _) _).alloc (by simp) _).alloc (by simp; omega) _).alloc (by simp; omega) _, by
      have h1 := Blk.new (w.alloc (.cells #[.int .i64 (k : Nat), .int .i64 0, .int .i64 0] 142)) 26 #[.int .i64 0, .slice none 0 0, .slice none 0 0]
      have h2 := (h1.alloc (.cells #[.int .i64 0, .int .i64 0, .int .i64 0] 142)).alloc (.cells #[] 37)
      simpa using h2, by
      have h1 := Blk.new ((w.alloc (.cells #[.int .i64 (k : Nat), .int .i64 0, .int .i64 0] 142)).alloc (.cells #[.int .i64 0, .slice none 0 0, .slice none 0 0] 26)) 142 #[.int .i64 0, .int .i64 0, .int .i64 0]
      have h2 := h1.alloc (.cells #[] 37)
      simpa using h2⟩)
  have PSTART := Lib.hid (show Blk ((((w.alloc (.cells #[.int .i64 (k : Nat), .int .i64 0, .int .i64 0] 142)).alloc (.cells #[.int .i64 0, .slice none 0 0, .slice none 0 0] 26)).alloc (.cells #[.int .i64 0, .int .i64 0, .int .i64 0] 142)).alloc (.cells #[] 37)) w.heap.size 142 #[.int .i64 (k : Nat), .int .i64 0, .int .i64 0] from by
      have h1 := (((Blk.new w 142 #[.int .i64 (k : Nat), .int .i64 0, .int .i64 0]).alloc (.cells #[.int .i64 0, .slice none 0 0, .slice none 0 0] 26)).alloc (.cells #[.int .i64 0, .int .i64 0, .int .i64 0] 142)).alloc (.cells #[] 37)
      simpa using h1)
  have RSTART := Lib.hid (show ((((w.alloc (.cells #[.int .i64 (k : Nat), .int .i64 0, .int .i64 0] 142)).alloc (.cells #[.int .i64 0, .slice none 0 0, .slice none 0 0] 26)).alloc (.cells #[.int .i64 0, .int .i64 0, .int .i64 0] 142)).alloc (.cells #[] 37)).heap[w.heap.size + 3]? = some (.cells #[] 37 (0, 0)) from by
      have h1 := heap_alloc_new (((w.alloc (.cells #[.int .i64 (k : Nat), .int .i64 0, .int .i64 0] 142)).alloc (.cells #[.int .i64 0, .slice none 0 0, .slice none 0 0] 26)).alloc (.cells #[.int .i64 0, .int .i64 0, .int .i64 0] 142)) (.cells #[] 37)
      simpa using h1)
  go_enter Try.func141, Try.ntmps141
  go_wp2_with fail
  go_loopw [7] (fun v wr => YCl w wr ∧ (YGo w wr s k k false R v ∨ YBad w wr k R v)) (fun _ wr => yLeft s w.heap.size wr)
  case atStart => exact ⟨START.out, .inl ⟨k, [], Nat.le_refl _, by omega, Nat.zero_le _, PSTART.out, ⟨rfl, Or.inr ⟨w.heap.size + 3, 0, #[], rfl, Nat.le_refl _, RSTART.out, Nat.le_refl _, Nat.zero_le _, rfl, rfl⟩⟩, HR.out⟩⟩
  case round =>
    obtain ⟨hcl, hrel⟩ := hrel
    have HCL := Lib.hid hcl
    obtain ⟨n0, n1, n2, m0, m1, m2⟩ := blk3 hcl.nb
    obtain ⟨r0, r1, r2, l0, l1, l2⟩ := blk3 hcl.rb
    have hB := hcl.old.size
    have hwl := hcl.rb.lt
    rcases hrel with ⟨k2, acc, h12, h2s, hal, hP, hown, hrun⟩ | ⟨x, c, off, A, n, cp, rfl, hc, hRe, hP⟩
    rotate_left
    · have hc' : (c == 0) = false := by simpa using hc
      obtain ⟨p0, p1, p2, z0, z1, z2⟩ := blk3 hP
      have HE := Lib.hid hRe
      generalize hwh : ((k + off : Nat) : Int) = wh at p2 hP
      have HWH := Lib.hid hwh
      clear hcl hc hP hRe hwh
      go_wp2
      go_region
      rename_i K0 hK0
      refine hK0 _ _ (wp_ret ?_)
      rw [HE.out]
      obtain ⟨W6, hW, hN, hP6, hb6, hk6, hz6⟩ := ysix HCL.out (.int .i64 0) (.slice none 0 0) (.slice none 0 0) (.int .i64 x) (.int .i64 c) (.int .i64 wh)
      rw [← hW]
      clear hW hK0 n0 n1 n2 m0 m1 m2 r0 r1 r2 l0 l1 l2 HCL
      obtain ⟨n0, n1, n2, m0, m1, m2⟩ := blk3 hN
      obtain ⟨r0, r1, r2, l0, l1, l2⟩ := blk3 hP6
      refine bodyPost_ret (v := .tuple #[.agg #[.int .i64 0, .slice none 0 0, .slice none 0 0], .agg #[.int .i64 x, .int .i64 c, .int .i64 wh]]) (by simp [results, Try.results141, go_sem, n0, n1, n2, r0, r1, r2]) rfl ⟨⟨0, none, 0, 0, none, 0, 0, x, by rw [HWH.out]⟩, hb6.drew⟩
    · have HH := Lib.hid hrun
      obtain ⟨p0, p1, p2, z0, z1, z2⟩ := blk3 hP
      obtain ⟨ao, cap, hv⟩ := own_form hown
      subst hv
      have q2 : IntKind.i64.wrap ((k2 : Int) + 1) = (k2 : Int) + 1 := IntWalk.i64_in _ (by omega)
      by_cases hclose : k2 < s.size ∧ byteAt s k2 = 93
      · obtain ⟨hlt, h93⟩ := hclose
        have hlt' : (k2 : Int) < (s.size : Int) := by omega
        have hbt := byteAt_eq s k2 hlt
        have e3 : (((byteAt s k2).toNat : Int) == 93) = true := ybyte_true h93
        by_cases hem : acc = []
        · exact absurd hlt (by omega)
        · exact absurd hlt (by omega)
      · have hst : (!false && starts [93] (restL s k2)) = false := by
          rw [Bool.not_false, Bool.true_and]
          by_cases h : k2 < s.size
          · rw [ystarts_rest s k2 93 h]; simpa using fun e => hclose ⟨h, e⟩
          · rw [rest_nil s k2 (by omega), ystarts_nil]
        have hRR : R = itemsPr false (k - k) (Ir.pre acc (k2 - k) (itemsF letterX false (restL s k2))) := by
          rcases HH.out with ⟨_, _, h2, h3, _⟩ | ⟨_, h1⟩
          · exact absurd ⟨h2, h3⟩ hclose
          · exact h1
        have HRR := Lib.hid hRR
        have hway : (¬ ((k2 : Int) < (s.size : Int))) ∨ (∃ h : k2 < s.size, ((k2 : Int) < (s.size : Int)) ∧ s[k2] = byteAt s k2 ∧ (((byteAt s k2).toNat : Int) == 93) = false) := by
          by_cases h : k2 < s.size
          · exact Or.inr ⟨h, by omega, byteAt_eq s k2 h, ybyte_false fun e => hclose ⟨h, e⟩⟩
          · exact Or.inl (by omega)
        have HOWN := Lib.hid hown
        have HP := Lib.hid hP
        have hol := hP.lt
        clear hRR hclose hrun hcl
        cases hlt1 : letterX (restL s k2) with
        | err c o =>
          have HX := Lib.hid (show R = .err c (k2 - k + o) by rw [HRR.out, yitems_letterErr hst hlt1]; simp only [Ir.pre, itemsPr]; congr 1; omega)
          have hcne : c ≠ 0 := HC.out c _ HX.out
          have hcf : (c == 0) = false := by simpa using hcne
          have HCN := Lib.hid hcne
          obtain ⟨wh, hwh⟩ : ∃ wh : Int, wh = ((k + (k2 - k + o) : Nat) : Int) := ⟨_, rfl⟩
          have HWH := Lib.hid hwh
          have HIT := Lib.hid (fun W => (show Calls Try.prog 159 #[.string s, .agg #[.int .i64 (k2 : Nat), .int .i64 0, .int .i64 0]] W (fun e w' => (∃ x : Int, e = .returned (.tuple #[.int .u8 0, .agg #[.int .i64 x, .int .i64 c, .int .i64 wh]])) ∧ Below W.heap.size W w') by
            have h := yitem_any s k2 W h2s hs
            rw [hlt1] at h
            rw [hwh, show k + (k2 - k + o) = k2 + o by omega]
            exact h))
          clear hst hlt1 hcne hwh hown hP
          have e1 := hway.resolve_right (fun h => by obtain ⟨h0, _⟩ := h; omega)
          clear hway
          all_goals
            go_wp2_with fail
            (with_reducible refine (HIT.out _).mono ?_)
            rintro e w3 ⟨⟨x, rfl⟩, hb3⟩
            have hs3 : w.heap.size + 1 + 1 < w3.heap.size := Nat.lt_of_lt_of_le hwl hb3.size
            have hs4 : w.heap.size < w3.heap.size := by omega
            have HC3 := Lib.hid (HCL.out.below hb3)
            have HP3 := Lib.hid (HP.out.below hb3 hol)
            have HO3 := Lib.hid (own_below HOWN.out hb3)
            clear n0 n1 n2 m0 m1 m2 r0 r1 r2 l0 l1 l2 p0 p1 p2 z0 z1 z2 hb3
            obtain ⟨p0, p1, p2, z0, z1, z2⟩ := blk3 HP3.out
            obtain ⟨hc5, hp5, ho5, hs5⟩ := yput HC3.out HP3.out HO3.out (.int .i64 x) (.int .i64 c) (.int .i64 wh) (.cells #[.int .i64 x, .int .i64 c, .int .i64 wh] 142)
            have HC5 := Lib.hid hc5
            have HP5 := Lib.hid hp5
            have HO5 := Lib.hid ho5
            have HN5 := Lib.hid (show ∀ o, (((((w3.setCell ⟨w.heap.size, 0, none⟩ (.int .i64 x)).setCell ⟨w.heap.size, 1, none⟩ (.int .i64 c)).setCell ⟨w.heap.size, 2, none⟩ (.int .i64 wh)).alloc (.cells #[.int .i64 x, .int .i64 c, .int .i64 wh] 142)).alloc o).heap[w3.heap.size + 1]? = some o from fun o => by
              rw [← hs5]; exact heap_alloc_new _ _)
            clear hc5 hp5 ho5 hs5
            go_wp2_with (at_builtin; refine wpList_append_lies _ rfl (.tmp 123) (.tmp 127) 23 rfl (w.heap.size + 3) 37 i0 _ 2 2 Try.underlying23 hi0 hz0 hz1 hz2 rfl (by decide) _ _ _ rfl (HO5.out.alloc _) ⟨w3.heap.size + 1, 0, none⟩ 1 1 [.int .u8 0, .int .u8 0] rfl rfl (World.news_of_block (HN5.out _)) (two_one _ _) (by decide) (by unfold maxLen; omega) (by omega) (by simp; omega) _ rfl ?_)
            intro g cap2 w4 hown4 hgrow hat hlt4
            have hgr : ∀ j, (Value.slice ao acc.length cap).ownBlock = some j → w.heap.size + 3 ≤ j := fun j hj => (HO3.out.lt j hj).1
            have HC6 := Lib.hid ((HC5.out.alloc _).grown hgrow hgr)
            have HP6 := Lib.hid ((HP5.out.alloc _).grown hgrow (fun e => by have := hgr _ e.symm; omega))
            clear hgrow hat p0 p1 p2 z0 z1 z2
            go_wp2
            go_roundw
            case rel => exact ⟨HC6.out, Or.inr ⟨x, c, k2 - k + o, _, _, _, rfl, HCN.out, HX.out, by rw [← HWH.out]; exact HP6.out⟩⟩
            case measure =>
              rw [yLeft_bad HP6.out HCN.out, yLeft_go HP.out]
              omega
        | ok lo n =>
          have hn := (good_letterX _).1 _ _ hlt1
          rw [rest_len] at hn
          exact absurd hn (by omega)
theorem yrun_start (s : ByteArray) (k k1 : Nat) (neg : Bool) {R : Pr} (h : R = if starts [93] (restL s k1) then .err 30 (k1 - k) else itemsPr neg (k1 - k) (itemsF letterX false (restL s k1))) : YRun s k k1 neg R [] k1 := by
  by_cases h93 : k1 < s.size ∧ byteAt s k1 = 93
  · left
    rw [if_pos (by rw [ystarts_rest s k1 93 h93.1]; simp [h93.2])] at h
    exact ⟨rfl, rfl, h93.1, h93.2, h⟩
  · right
    refine ⟨fun _ => h93, ?_⟩
    rw [h, if_neg, Nat.sub_self, Ir.pre_nil]
    by_cases h1 : k1 < s.size
    · rw [ystarts_rest s k1 93 h1]; simpa using fun e => h93 ⟨h1, e⟩
    · rw [rest_nil s k1 (by omega), ystarts_nil]; simp
theorem yclass_any (s : ByteArray) (k : Nat) (w : World) (hk : k ≤ s.size) (hs : s.size ≤ 256) :
    Calls Try.prog 141 #[.string s, .agg #[.int .i64 (k : Nat), .int .i64 0, .int .i64 0]] w (YN w k (classX (restL s k))) := by
  have hc : ∀ c o, classX (restL s k) = .err c o → c ≠ 0 := fun c o => classX_code
  by_cases hkl : k < s.size
  · by_cases h94 : byteAt s k = 94
    · refine yclass_neg s k w hk hs hkl h94 (yrun_start s k (k + 1) true ?_) hc
      unfold classX
      rw [if_pos (by rw [ystarts_rest s k 94 hkl]; simp [h94]), rest_drop, show k + 1 - k = 1 by omega]
    · refine yclass_pos s k w hk hs hkl h94 (yrun_start s k k false ?_) hc
      unfold classX
      rw [if_neg (by rw [ystarts_rest s k 94 hkl]; simpa using h94), Nat.sub_self]
  · refine yclass_end s k w hk hs (by omega) (yrun_start s k k false ?_) hc
    unfold classX
    rw [if_neg (by rw [rest_nil s k (by omega), ystarts_nil]; simp), Nat.sub_self]
end Go.Proofs.Ytjnhmcgjeljcmaa
