/- pat.exact: the tree of a text that means itself. -/
import Derived.Test.YtgcbcdbfeaepkaaFa
import Derived.Test.YtgcbcdbfeaepkaaTw
import Derived.Test.YtgcbcdbfeaepkaaBt
import Derived.StillTailTactics
import Derived.BigRegion
import Derived.Maps.AppendAt
import Derived.Deep.MidRow
namespace Go.Proofs.Ytgcbcdbfeaepkaa
open Go.RowKit Go.Maps

def setC (c : UInt8) : Tr := .mk 1 [(c, c)] []
def ERel (w : World) (acc : List Tr) (wr : World) : Prop := ∃ (A : Option Addr) (cap : Nat) (cells : List Value),
  Blk wr w.heap.size 25 #[.int .i64 0, .slice none 0 0, .slice none 0 0] ∧ Blk wr (w.heap.size + 1) 25 #[.int .i64 2, .slice none 0 0, .slice A acc.length cap] ∧
  wr.ownsRow (w.heap.size + 2) 25 3 (.slice A acc.length cap) acc.length cells ∧ KidsAt wr (fun j => w.heap.size + 2 ≤ j ∧ j < wr.heap.size ∧ (Value.slice A acc.length cap).ownBlock ≠ some j) 1 acc cells ∧ Below w.heap.size w wr
theorem ERel.start (w : World) : ERel w [] ((w.alloc (.cells #[.int .i64 0, .slice none 0 0, .slice none 0 0] 25)).alloc (.cells #[.int .i64 2, .slice none 0 0, .slice none 0 0] 25)) := by
  refine ⟨none, 0, [], (Blk.new w _ _).alloc _, ?_, World.ownsRow_nil _ _ _ _, KidsAt.nil _ _ _, ((Below.refl _ w).alloc (Nat.le_refl _) _).alloc (by simp) _⟩
  have := Blk.new (w.alloc (.cells #[.int .i64 0, .slice none 0 0, .slice none 0 0] 25)) 25 #[.int .i64 2, .slice none 0 0, .slice none 0 0]
  simpa using this
/-- One more byte. -/
theorem ERel.step {w w1 w4 : World} {acc : List Tr} {A : Option Addr} {cap g cap2 : Nat} {cells : List Value} {c : UInt8}
    (hb0 : Blk w1 w.heap.size 25 #[.int .i64 0, .slice none 0 0, .slice none 0 0]) (hb1 : Blk w1 (w.heap.size + 1) 25 #[.int .i64 2, .slice none 0 0, .slice A acc.length cap])
    (hown : w1.ownsRow (w.heap.size + 2) 25 3 (.slice A acc.length cap) acc.length cells) (hk : KidsAt w1 (fun j => w.heap.size + 2 ≤ j ∧ j < w1.heap.size ∧ (Value.slice A acc.length cap).ownBlock ≠ some j) 1 acc cells) (hb : Below w.heap.size w w1)
    (hgrow : ((w1.alloc (.cells #[.int .u8 (c.toNat : Nat), .int .u8 (c.toNat : Nat)] 168)).alloc (.cells #[.int .i64 1, .slice (some ⟨w1.heap.size, 0, none⟩) 1 1, .slice none 0 0] 25)).grownBy w4 (Value.slice A acc.length cap).ownBlock)
    (hown4 : w4.ownsRow (w.heap.size + 2) 25 3 (.slice (some ⟨g, 0, none⟩) (acc.length + 1) cap2) (acc.length + 1) (cells ++ [.int .i64 1, .slice (some ⟨w1.heap.size, 0, none⟩) 1 1, .slice none 0 0]))
    (hat : (Value.slice A acc.length cap).ownBlock = some g ∨ g = w1.heap.size + 2) :
    ERel w (acc ++ [setC c]) (w4.setCell ⟨w.heap.size + 1, 2, none⟩ (.slice (some ⟨g, 0, none⟩) (acc.length + 1) cap2)) := by
  have hlen : (acc ++ [setC c]).length = acc.length + 1 := by simp
  have hlt1 := hb1.lt
  have hs4 : w1.heap.size + 2 ≤ w4.heap.size := by have := hgrow.size; simpa using this
  have hap : ∀ j, j < w.heap.size + 2 → some j ≠ (Value.slice A acc.length cap).ownBlock := fun j hj => own_apart hown hj
  have hown_lt : ∀ j, (Value.slice A acc.length cap).ownBlock = some j → w.heap.size + 2 ≤ j ∧ j < w1.heap.size := fun j hj => hown.lt j hj
  have keep : ∀ j, j ≠ w.heap.size + 1 → j < w1.heap.size → some j ≠ (Value.slice A acc.length cap).ownBlock → (w4.setCell ⟨w.heap.size + 1, 2, none⟩ (.slice (some ⟨g, 0, none⟩) (acc.length + 1) cap2)).heap[j]? = w1.heap[j]? := by
    intro j h2 h3 h4
    rw [Below.heap_setCell _ _ _ _ h2, hgrow.block j (by simp; omega) h4, Below.heap_alloc _ _ _ (by simp; omega), Below.heap_alloc _ _ _ h3]
  refine ⟨some ⟨g, 0, none⟩, cap2, cells ++ [.int .i64 1, .slice (some ⟨w1.heap.size, 0, none⟩) 1 1, .slice none 0 0], ?_, ?_, ?_, ?_, ?_⟩
  · exact (((hb0.alloc _).alloc _).grown hgrow (hap _ (by omega))).far (by simp) _
  · rw [hlen]
    exact ((((hb1.alloc _).alloc _).grown hgrow (hap _ (by omega))).set_ 2 _ : Blk _ _ _ _)
  · rw [hlen]
    exact ownsRow_setCell_below hown4 (by simp) _
  · rw [hlen]
    refine KidsAt.snoc ?_ ?_
    · refine (hk.keep (w' := w4.setCell ⟨w.heap.size + 1, 2, none⟩ (.slice (some ⟨g, 0, none⟩) (acc.length + 1) cap2)) fun j hj => ?_).mono fun j hj => ⟨hj.1, ?_, ?_⟩
      · exact keep j (by have := hj.1; omega) hj.2.1 (fun e => hj.2.2 e.symm)
      · simp [World.setCell]; have := hj.2.1; omega
      · simp only [Value.ownBlock, ne_eq, Option.some.injEq]
        rintro rfl
        rcases hat with h | h
        · exact hj.2.2 h
        · have := hj.2.1; omega
    · have hr : Blk (w4.setCell ⟨w.heap.size + 1, 2, none⟩ (.slice (some ⟨g, 0, none⟩) (acc.length + 1) cap2)) w1.heap.size 168 #[.int .u8 (c.toNat : Nat), .int .u8 (c.toNat : Nat)] :=
        (((Blk.new w1 _ _).alloc _).grown hgrow (fun e => by have := hown_lt _ e.symm; omega)).far (by simp; omega) _
      refine ⟨some ⟨w1.heap.size, 0, none⟩, 1, 1, none, 0, 0, rfl, by decide, ⟨Nat.zero_le _, Nat.le_refl _⟩, ⟨rfl, fun _ => ⟨w1.heap.size, 0, rfl, ?_, fun i r hr' => ?_⟩⟩, rfl, fun h => absurd h (by omega)⟩
      · refine ⟨by omega, by simp [World.setCell]; omega, ?_⟩
        simp only [Value.ownBlock, ne_eq, Option.some.injEq]
        rintro rfl
        rcases hat with h | h
        · have := hown_lt _ h; omega
        · omega
      · match i, hr' with
        | 0, hr' =>
          obtain rfl : (c, c) = r := by simpa using hr'
          exact ⟨hr.cell 0, hr.cell 1⟩
  · refine ⟨?_, ?_, ?_, ?_, fun j hj => ?_⟩
    · exact hgrow.os.trans hb.os
    · exact hgrow.tape.trans hb.tape
    · exact hgrow.output.trans hb.output
    · have := hb.size; simp [World.setCell]; omega
    · rw [keep j (by omega) (by omega) (hap j (by omega))]
      exact hb.block j hj
set_option maxHeartbeats 2000000 in
set_option maxRecDepth 100000 in
theorem exact_any (s : ByteArray) (w : World) : Calls Try.prog 85 #[.string s] w (TreePost w (exactP s.data.toList)) := by
  unfold exactP
  by_cases hl : 256 < s.data.toList.length
  · rw [if_pos hl]
    have hl' : (256 : Int) < (s.size : Int) := by have : s.data.toList.length = s.size := rfl; omega
    go_enter Try.func85, Try.ntmps85
    obtain ⟨p0, p1, p2, -, -, -⟩ := blk3 (Blk.new w 25 #[.int .i64 0, .slice none 0 0, .slice none 0 0])
    go_wp2
    exact bodyPost_ret (v := .tuple #[.agg #[.int .i64 0, .slice none 0 0, .slice none 0 0], .int .i64 2, .int .i64 0]) (by simp [results, Try.results85, go_sem, p0, p1, p2]) rfl ⟨1, 0, none, 0, 0, none, 0, 0, rfl, treeAt_zero _ _, (Below.refl _ w).alloc (Nat.le_refl _) _⟩
  · rw [if_neg hl]
    have hl' : ¬ (256 : Int) < (s.size : Int) := by have : s.data.toList.length = s.size := rfl; omega
    have hsz : s.size ≤ 256 := by have : s.data.toList.length = s.size := rfl; omega
    go_enter Try.func85, Try.ntmps85
    go_wp2
    go_loopw [15] (fun i wr => ∃ j : Nat, j ≤ s.size ∧ i = .int .i64 (j : Nat) ∧ ERel w ((s.data.toList.take j).map setC) wr) (fun i _ => s.size - (intOf i).toNat)
    case atStart => exact ⟨0, Nat.zero_le _, rfl, ERel.start w⟩
    case round =>
      obtain ⟨j, hj, rfl, hr⟩ := hrel
      by_cases hlt : j < s.size
      · have hlt' : (j : Int) < (s.size : Int) := by omega
        have hj0 : (0 : Int) ≤ (j : Int) := by omega
        obtain ⟨A, cap, cells, hb0, hb1, hown, hk, hb⟩ := hr
        have hlen : s.data.toList.length = s.size := rfl
        have hln : ((s.data.toList.take j).map setC).length = j := by
          rw [List.length_map, List.length_take]
          omega
        obtain ⟨c, hc⟩ : ∃ c : UInt8, c = s[j] := ⟨_, rfl⟩
        have hnx : (s.data.toList.take (j + 1)).map setC = (s.data.toList.take j).map setC ++ [setC c] := by
          rw [List.take_succ_eq_append_getElem (by omega), List.map_append, hc]; rfl
        generalize (s.data.toList.take j).map setC = acc at *
        have HN := Lib.hid hnx
        clear hnx
        subst hln
        have hlt1 := hb1.lt
        have hne : w.heap.size + 1 ≠ wr.heap.size := by omega
        go_wp2_with fail
        go_region
        rw [← hc]
        have C0 : Blk ((wr.alloc (.cells #[.int .u8 (c.toNat : Nat), .int .u8 (c.toNat : Nat)] 168)).drew) w.heap.size 25 #[.int .i64 0, .slice none 0 0, .slice none 0 0] := hb0.alloc _
        have C1 : Blk ((wr.alloc (.cells #[.int .u8 (c.toNat : Nat), .int .u8 (c.toNat : Nat)] 168)).drew) (w.heap.size + 1) 25 #[.int .i64 2, .slice none 0 0, .slice A acc.length cap] := hb1.alloc _
        have C2 : ((wr.alloc (.cells #[.int .u8 (c.toNat : Nat), .int .u8 (c.toNat : Nat)] 168)).drew).ownsRow (w.heap.size + 2) 25 3 (.slice A acc.length cap) acc.length cells := hown.alloc _
        have C3 : KidsAt ((wr.alloc (.cells #[.int .u8 (c.toNat : Nat), .int .u8 (c.toNat : Nat)] 168)).drew) (fun j => w.heap.size + 2 ≤ j ∧ j < ((wr.alloc (.cells #[.int .u8 (c.toNat : Nat), .int .u8 (c.toNat : Nat)] 168)).drew).heap.size ∧ (Value.slice A acc.length cap).ownBlock ≠ some j) 1 acc cells :=
          (hk.keep (w' := ((wr.alloc (.cells #[.int .u8 (c.toNat : Nat), .int .u8 (c.toNat : Nat)] 168)).drew)) fun j hj => Below.heap_alloc wr _ j hj.2.1).mono fun j hj => ⟨hj.1, by simp; have := hj.2.1; omega, hj.2.2⟩
        have C4 : Below w.heap.size w ((wr.alloc (.cells #[.int .u8 (c.toNat : Nat), .int .u8 (c.toNat : Nat)] 168)).drew) := by
          have := hb.alloc hb.size (.cells #[.int .u8 (c.toNat : Nat), .int .u8 (c.toNat : Nat)] 168)
          exact ⟨this.os, this.tape, this.output, this.size, this.block⟩
        have C5 : Blk ((wr.alloc (.cells #[.int .u8 (c.toNat : Nat), .int .u8 (c.toNat : Nat)] 168)).drew) wr.heap.size 168 #[.int .u8 (c.toNat : Nat), .int .u8 (c.toNat : Nat)] := Blk.new wr _ _
        clear hb0 hb1 hown hk hb hlt1 hne hc
        generalize ((wr.alloc (.cells #[.int .u8 (c.toNat : Nat), .int .u8 (c.toNat : Nat)] 168)).drew) = w1 at C0 C1 C2 C3 C4 C5 ⊢
        generalize wr.heap.size = rp at C5 ⊢
        clear wr
        obtain ⟨i0, hi0, hz0, hz1, hz2⟩ := info_parts nodeInfo
        obtain ⟨v', w4, q1, q2, q3, _, q5⟩ := run_append_own_at (P := Try.prog) (w := (w1.alloc (.cells #[.int .u8 (c.toNat : Nat), .int .u8 (c.toNat : Nat)] 168)).alloc (.cells #[.int .i64 1, .slice (some ⟨w1.heap.size, 0, none⟩) 1 1, .slice none 0 0] 25)) (w.heap.size + 2) 23 23 25 i0 _ 3 56 Try.underlying23 hi0 hz0 hz1 hz2 rfl (by decide) _ acc.length cells ((C2.alloc _).alloc _) ⟨w1.heap.size + 1, 0, none⟩ 1 1 [.int .i64 1, .slice (some ⟨w1.heap.size, 0, none⟩) 1 1, .slice none 0 0] rfl (fun j u hu => by
            have hn := Blk.new (w1.alloc (.cells #[.int .u8 (c.toNat : Nat), .int .u8 (c.toNat : Nat)] 168)) 25 #[.int .i64 1, .slice (some ⟨w1.heap.size, 0, none⟩) 1 1, .slice none 0 0]
            have hs : (w1.alloc (.cells #[.int .u8 (c.toNat : Nat), .int .u8 (c.toNat : Nat)] 168)).heap.size = w1.heap.size + 1 := by simp
            rw [hs] at hn
            rw [Addr.add_mid, Nat.zero_add, hn.cell j]
            rw [← hu]; simp) (three_one _ _ _ _ _ _ _) (by unfold maxLen; omega) (by omega) (by have := C1.lt; simp; omega)
        obtain ⟨g, cap2, rfl, -⟩ := q2.form (by omega)
        have HRUN := Lib.hid q1
        have HST := Lib.hid (ERel.step C0 C1 C2 C3 C4 q3 q2 (by
          rcases q5 with h | h
          · exact .inl h.symm
          · exact .inr (by simpa [Value.ownBlock] using h)))
        obtain ⟨y0, y1, y2, f0, f1, f2⟩ := blk3 C1
        obtain ⟨r0, r1, -, -⟩ := blk2 C5
        have Z1 : Blk w4 (w.heap.size + 1) 25 #[.int .i64 2, .slice none 0 0, .slice A acc.length cap] := ((C1.alloc _).alloc _).grown q3 (own_apart C2 (by omega))
        obtain ⟨-, -, -, e0, e1, e2⟩ := blk3 Z1
        have z2 := Z1.cell 2
        clear C0 C1 C2 C3 C4 C5 q1 q2 q3 q5 Z1
        go_wp2_with (at_builtin; refine wpList_append_run rfl (.tmp 26) (.tmp 30) 23 rfl _ _ _ rfl rfl HRUN.out ?_)
        go_roundw
        case rel => exact ⟨acc.length + 1, by omega, by go_num, by rw [HN.out]; exact HST.out⟩
        case measure => simp [intOf]; omega
      · have hlt' : ¬ (j : Int) < (s.size : Int) := by omega
        obtain ⟨A, cap, cells, hb0, hb1, hown, hk, hb⟩ := hr
        have htk : s.data.toList.take j = s.data.toList := List.take_of_length_le (by have : s.data.toList.length = s.size := rfl; omega)
        rw [htk] at hb1 hown hk
        have hE : exactT s.data.toList = .mk 2 [] (s.data.toList.map setC) := rfl
        generalize s.data.toList.map setC = acc at *
        have HE := Lib.hid hE
        have HTR := Lib.hid (tree_node (k := 2) (X := fun j => w.heap.size + 2 ≤ j ∧ j < wr.heap.size) hown (hk.mono fun j hj => ⟨hj.1, hj.2.1⟩) (fun b hb' => hown.lt b hb'))
        obtain ⟨y0, y1, y2, f0, f1, f2⟩ := blk3 hb1
        obtain ⟨z0, z1, z2, g0, g1, g2⟩ := blk3 hb0
        have Z := Lib.hid hb0
        have HB := Lib.hid hb
        clear hb0 hb1 hown hk hb htk hE
        go_wp2
        have ZZ : Blk _ w.heap.size 25 #[.int .i64 2, .slice none 0 0, .slice A acc.length cap] := ((Z.out.set_ 0 (.int .i64 2)).set_ 1 (.slice none 0 0)).set_ 2 (.slice A acc.length cap)
        obtain ⟨x0, x1, x2, -, -, -⟩ := blk3 ZZ
        refine bodyPost_ret (v := .tuple #[.agg #[.int .i64 2, .slice none 0 0, .slice A acc.length cap], .int .i64 0, .int .i64 0]) (by simp [results, Try.results85, go_sem, x0, x1, x2]) rfl ⟨2, 2, none, 0, 0, A, acc.length, cap, rfl, ?_, ?_⟩
        · show TreeAt _ (Fresh w (((wr.setCell ⟨w.heap.size, 0, none⟩ (.int .i64 2)).setCell ⟨w.heap.size, 1, none⟩ (.slice none 0 0)).setCell ⟨w.heap.size, 2, none⟩ (.slice A acc.length cap))) 2 (exactT s.data.toList) _
          rw [HE.out]
          refine (HTR.out.keep (w' := ((wr.setCell ⟨w.heap.size, 0, none⟩ (.int .i64 2)).setCell ⟨w.heap.size, 1, none⟩ (.slice none 0 0)).setCell ⟨w.heap.size, 2, none⟩ (.slice A acc.length cap)) fun j hj => ?_).mono fun j hj => ⟨?_, ?_⟩
          · have h1 := hj.1
            rw [Below.heap_setCell _ _ _ _ (by simp; omega), Below.heap_setCell _ _ _ _ (by simp; omega), Below.heap_setCell _ _ _ _ (by simp; omega)]
          · have h1 := hj.1; omega
          · have h1 := hj.2; simp [World.setCell]; omega
        · exact ((HB.out.setCell (p := ⟨w.heap.size, 0, none⟩) (Nat.le_refl _) _).setCell (p := ⟨w.heap.size, 1, none⟩) (Nat.le_refl _) _).setCell (p := ⟨w.heap.size, 2, none⟩) (Nat.le_refl _) _
end Go.Proofs.Ytgcbcdbfeaepkaa
