/- glob.pieces. -/
import Derived.Test.YtjnhmcgjeljcmaaGq
import Derived.Deep.RegionLaw
import Derived.Deep.LoopGhost
namespace Go.Proofs.Ytjnhmcgjeljcmaa
open Go.RowKit

/-- A row of nodes' cells that read as these trees. -/
def KidsAt (w : World) (X : Nat → Prop) (d : Nat) (ts : List Tr) (cells : List Value) : Prop :=
  cells.length = ts.length * 3 ∧ ∀ i t, ts[i]? = some t → ∃ v0 v1 v2, cells[i * 3]? = some v0 ∧ cells[i * 3 + 1]? = some v1 ∧ cells[i * 3 + 2]? = some v2 ∧ TreeAt w X d t [v0, v1, v2]
theorem KidsAt.keep {w w' : World} {X : Nat → Prop} {d : Nat} {ts : List Tr} {cells : List Value} (h : KidsAt w X d ts cells) (hk : ∀ b, X b → w'.heap[b]? = w.heap[b]?) : KidsAt w' X d ts cells :=
  ⟨h.1, fun i t ht => by obtain ⟨v0, v1, v2, a, b, c, ht'⟩ := h.2 i t ht; exact ⟨v0, v1, v2, a, b, c, ht'.keep hk⟩⟩
theorem KidsAt.mono {w : World} {X Y : Nat → Prop} {d : Nat} {ts : List Tr} {cells : List Value} (h : KidsAt w X d ts cells) (hXY : ∀ b, X b → Y b) : KidsAt w Y d ts cells :=
  ⟨h.1, fun i t ht => by obtain ⟨v0, v1, v2, a, b, c, ht'⟩ := h.2 i t ht; exact ⟨v0, v1, v2, a, b, c, ht'.mono hXY⟩⟩
theorem KidsAt.deeper {w : World} {X : Nat → Prop} {d d' : Nat} {ts : List Tr} {cells : List Value} (h : KidsAt w X d ts cells) (hd : d ≤ d') : KidsAt w X d' ts cells :=
  ⟨h.1, fun i t ht => by obtain ⟨v0, v1, v2, a, b, c, ht'⟩ := h.2 i t ht; exact ⟨v0, v1, v2, a, b, c, ht'.deeper hd⟩⟩
theorem KidsAt.nil (w : World) (X : Nat → Prop) (d : Nat) : KidsAt w X d [] [] := ⟨rfl, fun i t h => by simp at h⟩
theorem KidsAt.snoc {w : World} {X : Nat → Prop} {d : Nat} {ts : List Tr} {cells : List Value} {t : Tr} {v0 v1 v2 : Value} (h : KidsAt w X d ts cells) (ht : TreeAt w X d t [v0, v1, v2]) : KidsAt w X d (ts ++ [t]) (cells ++ [v0, v1, v2]) := by
  have hl := h.1
  refine ⟨by simp [hl]; omega, fun i t' hi => ?_⟩
  rcases Nat.lt_or_ge i ts.length with h1 | h1
  · rw [List.getElem?_append_left h1] at hi
    obtain ⟨a, b, c, e0, e1, e2, ht'⟩ := h.2 i t' hi
    have hlt : i * 3 + 2 < cells.length := by omega
    refine ⟨a, b, c, ?_, ?_, ?_, ht'⟩
    · rw [List.getElem?_append_left (by omega)]; exact e0
    · rw [List.getElem?_append_left (by omega)]; exact e1
    · rw [List.getElem?_append_left (by omega)]; exact e2
  · rw [List.getElem?_append_right h1] at hi
    have h0 : i - ts.length = 0 := by
      rcases Nat.eq_zero_or_pos (i - ts.length) with h | h
      · exact h
      · rw [List.getElem?_eq_none (by simp; omega)] at hi; cases hi
    rw [h0] at hi
    simp at hi
    subst hi
    refine ⟨v0, v1, v2, ?_, ?_, ?_, ht⟩
    · rw [List.getElem?_append_right (by omega), show i * 3 - cells.length = 0 by omega]; rfl
    · rw [List.getElem?_append_right (by omega), show i * 3 + 1 - cells.length = 1 by omega]; rfl
    · rw [List.getElem?_append_right (by omega), show i * 3 + 2 - cells.length = 2 by omega]; rfl
/-- A node over a row of its own. -/
theorem tree_node {w : World} {X : Nat → Prop} {B d n cap : Nat} {k : Int} {ts : List Tr} {cells : List Value} {A : Option Addr} (h : w.ownsRow B 26 3 (.slice A n cap) n cells) (hk : KidsAt w X d ts cells) (hX : ∀ b, (Value.slice A n cap).ownBlock = some b → X b) :
    TreeAt w X (d + 1) (.mk k [] ts) [.int .i64 k, .slice none 0 0, .slice A n cap] := by
  have hn : ts.length = n := by have := h.1; have := hk.1; omega
  have hm : n ≤ maxLen ∧ n ≤ cap := by
    rcases h.2 with ⟨_, h0⟩ | ⟨g, c, cur, hv, _, _, h3, h4, _⟩
    · omega
    · injection hv with _ _ hv; subst hv; omega
  refine ⟨none, 0, 0, A, n, cap, rfl, Nat.zero_le _, hm, RgAt.nil _ _ _, hn, fun h0 => ?_⟩
  obtain ⟨g, c, hv, _, _⟩ := h.form h0
  injection hv with hv _ hv2
  subst hv hv2
  refine ⟨g, 0, rfl, hX g rfl, fun i t ht => ?_⟩
  have hi : i < ts.length := (List.getElem?_eq_some_iff.1 ht).1
  obtain ⟨v0, v1, v2, e0, e1, e2, ht'⟩ := hk.2 i t ht
  simp only [Nat.zero_add]
  exact ⟨v0, v1, v2, by rw [h.cellAt _ (by omega)]; exact e0, by rw [h.cellAt _ (by omega)]; exact e1, by rw [h.cellAt _ (by omega)]; exact e2, ht'⟩
theorem three_one (k : Int) (A : Option Addr) (n c : Nat) (A' : Option Addr) (n' c' : Nat) : ∀ u ∈ [Value.int .i64 k, .slice A n c, .slice A' n' c'], u.oneCell' = true := by
  intro u hu; simp at hu; rcases hu with rfl | rfl | rfl <;> rfl

theorem own_apart {w : World} {B e sz n g : Nat} {v : Value} {xs : List Value} (h : w.ownsRow B e sz v n xs) (hg : g < B) : some g ≠ v.ownBlock := fun e => by
  have := (h.lt g e.symm).1; omega
def KsPost (w : World) (b : Nat) (_ : ByteArray) (k : Nat) (r : Ks) (e : Ending) (w' : World) : Prop :=
  match r with
  | .ok ts => NodeRes w (.mk 2 [] ts) e w' ∧ w.grownBy w' (some b)
  | .err code off => e = flawE code (k + off) ∧ w.grownBy w' (some b)

def PiRel (w : World) (b : Nat) (s : ByteArray) (kind : Int) (k2 : Nat) (acc : List Tr) (wr : World) : Prop := ∃ (A : Option Addr) (cap d : Nat) (cells : List Value),
  Blk wr w.heap.size 26 #[.int .i64 0, .slice none 0 0, .slice none 0 0] ∧ Blk wr (w.heap.size + 1) 26 #[.int .i64 kind, .slice none 0 0, .slice A acc.length cap] ∧
  wr.ownsRow (w.heap.size + 2) 26 3 (.slice A acc.length cap) acc.length cells ∧ KidsAt wr (fun j => w.heap.size + 2 ≤ j ∧ j < wr.heap.size ∧ (Value.slice A acc.length cap).ownBlock ≠ some j) d acc cells ∧
  Cur wr b s k2 ∧ w.grownBy wr (some b)
theorem PiRel.start {w : World} {b k : Nat} {s : ByteArray} {kind : Int} (hc : Cur w b s k) :
    PiRel w b s kind k [] ((w.alloc (.cells #[.int .i64 0, .slice none 0 0, .slice none 0 0] 26)).alloc (.cells #[.int .i64 kind, .slice none 0 0, .slice none 0 0] 26)) := by
  refine ⟨none, 0, 0, [], (Blk.new w _ _).alloc _, ?_, World.ownsRow_nil _ _ _ _, KidsAt.nil _ _ _, Blk.alloc (Blk.alloc hc _) _, gb_alloc (gb_alloc (gb_refl _ _) _) _⟩
  have := Blk.new (w.alloc (.cells #[.int .i64 0, .slice none 0 0, .slice none 0 0] 26)) 26 #[.int .i64 kind, .slice none 0 0, .slice none 0 0]
  simpa using this
theorem PiRel.step {w wr w3 w4 : World} {b k3 q d d3 g cap cap2 H : Nat} {s : ByteArray} {kind : Int} {acc : List Tr} {A : Option Addr} {cells : List Value} {t : Tr} {v0 v1 v2 : Value}
    (hb0 : b < w.heap.size) (hblk : Blk wr w.heap.size 26 #[.int .i64 0, .slice none 0 0, .slice none 0 0])
    (hown : wr.ownsRow (w.heap.size + 2) 26 3 (.slice A acc.length cap) acc.length cells)
    (hkids : KidsAt wr (fun j => w.heap.size + 2 ≤ j ∧ j < wr.heap.size ∧ (Value.slice A acc.length cap).ownBlock ≠ some j) d acc cells) (gw : w.grownBy wr (some b)) (hlt1 : w.heap.size + 1 < wr.heap.size)
    (g3 : (wr.drewN q).grownBy w3 (some b)) (ht3 : TreeAt w3 (Fresh (wr.drewN q) w3) d3 t [v0, v1, v2]) (hc3 : Cur w3 b s k3)
    (hgrow : (w3.alloc (.cells #[v0, v1, v2] 26)).grownBy w4 (Value.slice A acc.length cap).ownBlock)
    (hown4 : w4.ownsRow (w.heap.size + 2) 26 3 (.slice (some ⟨g, 0, none⟩) (acc.length + 1) cap2) (acc.length + 1) (cells ++ [v0, v1, v2]))
    (hat : (Value.slice A acc.length cap).ownBlock = some g ∨ g = H) (hH : w3.heap.size < H)
    (hn4 : Blk w4 (w.heap.size + 1) 26 #[.int .i64 kind, .slice none 0 0, .slice A acc.length cap]) :
    PiRel w b s kind k3 (acc ++ [t]) (w4.setCell ⟨w.heap.size + 1, 2, none⟩ (.slice (some ⟨g, 0, none⟩) (acc.length + 1) cap2)) := by
  have hs3 : wr.heap.size ≤ w3.heap.size := g3.size
  have hs4 : w3.heap.size + 1 ≤ w4.heap.size := by have := hgrow.size; simpa using this
  have hlen : (acc ++ [t]).length = acc.length + 1 := by simp
  have hap : ∀ j, j < w.heap.size + 2 → some j ≠ (Value.slice A acc.length cap).ownBlock := fun j hj => own_apart hown hj
  -- blocks that stay
  have keep : ∀ j, j ≠ b → j ≠ w.heap.size + 1 → j < w3.heap.size → some j ≠ (Value.slice A acc.length cap).ownBlock → (w4.setCell ⟨w.heap.size + 1, 2, none⟩ (.slice (some ⟨g, 0, none⟩) (acc.length + 1) cap2)).heap[j]? = w3.heap[j]? := by
    intro j h1 h2 h3 h4
    rw [Below.heap_setCell _ _ _ _ h2, hgrow.block j (by simp; omega) h4, Below.heap_alloc _ _ _ h3]
  have hown_lt : ∀ j, (Value.slice A acc.length cap).ownBlock = some j → w.heap.size + 2 ≤ j ∧ j < wr.heap.size := fun j hj => hown.lt j hj
  refine ⟨some ⟨g, 0, none⟩, cap2, max d d3, cells ++ [v0, v1, v2], ?_, ?_, ?_, ?_, ?_, ?_⟩
  · have h1 : Blk w3 w.heap.size 26 _ := (hblk.drewN q).grown g3 (by simp; omega)
    exact ((h1.alloc _).grown hgrow (hap _ (by omega))).far (by simp) _
  · have h1 := hn4.set_ 2 (.slice (some ⟨g, 0, none⟩) (acc.length + 1) cap2)
    rw [hlen]; exact h1
  · rw [hlen]
    exact ownsRow_setCell_below hown4 (by simp) _
  · rw [hlen]
    refine KidsAt.snoc ?_ ?_
    · refine ((hkids.keep (w' := w4.setCell ⟨w.heap.size + 1, 2, none⟩ (.slice (some ⟨g, 0, none⟩) (acc.length + 1) cap2)) fun j hj => ?_).mono fun j hj => ⟨hj.1, ?_, ?_⟩).deeper (Nat.le_max_left _ _)
      · rw [keep j (by have := hj.1; omega) (by have := hj.1; omega) (by have := hj.2.1; omega) (fun e => hj.2.2 e.symm)]
        exact g3.block j hj.2.1 (by have := hj.1; simp; omega)
      · simp [World.setCell]; have := hj.2.1; omega
      · simp only [Value.ownBlock, ne_eq, Option.some.injEq]
        rintro rfl
        rcases hat with h | h
        · exact hj.2.2 h
        · have := hj.2.1; omega
    · refine ((TreeAt.keep (w' := w4.setCell ⟨w.heap.size + 1, 2, none⟩ (.slice (some ⟨g, 0, none⟩) (acc.length + 1) cap2)) (fun j hj => ?_) ht3).mono fun j hj => ⟨?_, ?_, ?_⟩).deeper (Nat.le_max_right _ _)
      · have h1 : wr.heap.size ≤ j := hj.1
        exact keep j (by omega) (by omega) hj.2 (fun e => by have := hown_lt j e.symm; omega)
      · have h1 : wr.heap.size ≤ j := hj.1
        omega
      · have h2 := hj.2
        simp [World.setCell]; omega
      · have h1 : wr.heap.size ≤ j := hj.1
        have h2 := hj.2
        simp only [Value.ownBlock, ne_eq, Option.some.injEq]
        rintro rfl
        rcases hat with h | h
        · have := hown_lt _ h; omega
        · omega
  · exact ((Blk.alloc hc3 _).grown hgrow (hap b (by omega))).far (by simp; omega) _
  · have h1 : w.grownBy w3 (some b) := gb_trans (gb_drewN gw q) g3
    exact gb_set (gb_step (gb_alloc h1 _) hgrow (fun j hj => Or.inr (by have := hown_lt j hj; omega))) (.inr (by simp)) _
set_option maxHeartbeats 1000000 in
set_option maxRecDepth 100000 in
theorem pieces_any (b : Nat) (s : ByteArray) (w : World) (hc : Cur w b s 0) (hs : s.size ≤ 256) :
    Calls Try.prog 95 #[.pointer (some ⟨b, 0, none⟩)] w (KsPost w b s 0 (piecesF (restL s 0))) := by
  obtain ⟨i0, hi0, hz0, hz1, hz2⟩ := info_parts nodeInfo
  have hsm : s.size ≤ maxLen := by unfold maxLen; omega
  have hb0 : b < w.heap.size := Blk.lt hc
  generalize hR : piecesF (restL s 0) = R
  have HR := Lib.hid hR
  clear hR
  go_enter Try.func95, Try.ntmps95
  go_wp2_with fail
  go_loopg [5] (s.size + 1) (fun gn _ wr => ∃ (k2 : Nat) (acc : List Tr), k2 ≤ s.size ∧ gn = s.size + 1 - k2 ∧ acc.length ≤ k2 ∧ R = Ks.pre acc k2 (piecesF (restL s k2)) ∧ PiRel w b s 2 k2 acc wr)
  case atStart => exact ⟨0, [], Nat.zero_le _, by omega, Nat.zero_le _, by rw [Ks.pre_nil]; exact HR.out.symm, PiRel.start hc⟩
  case round =>
    obtain ⟨k2, acc, h2s, rfl, hal, hRR, A, cap, d, cells, hblk, hn, hown, hkids, hc2, gw⟩ := hrel
    have HRR := Lib.hid hRR
    clear hRR
    obtain ⟨n0, n1, n2, z0, z1, z2⟩ := blk3 hn
    have hlt1 := hn.lt
    cases ho : overB s k2
    · have h2l : k2 < s.size := by simp [overB] at ho; omega
      cases hp : pieceG (restL s k2) with
      | err c o =>
        have HP := Lib.hid hp
        have HR2 := Lib.hid (show R = .err c (k2 + o) by rw [HRR.out, piecesF_err (by rw [rest_cons s k2 h2l]; simp) hp]; rfl)
        clear hp
        go_wp2_with fail
        refine (over_any b k2 s _ hc2).mono ?_
        rintro e w2 ⟨rfl, nq, rfl⟩
        go_wp2
        have HPC := Lib.hid (fun W (h : Cur W b s k2) => piece_any b k2 s W h h2s hs)
        refine wp_region_any (by kernel_rfl) ?_
        change wpAny _ _ _ _ _ _ _ (World.drew _)
        refine wpAny_take (i := 0) (v := .pointer (some ⟨w.heap.size + 1, 2, none⟩)) rfl (by kernel_rfl) (by kernel_rfl) (by kernel_rfl) (fun _ _ _ h => h) (Or.inl ⟨by rfl, fun W => by go_simp⟩) ?_
        refine wpAny_take (i := 2) (v := .pointer (some ⟨b, 0, none⟩)) rfl (by kernel_rfl) (by kernel_rfl) (by kernel_rfl) (fun _ _ _ h => h) (Or.inl ⟨by rfl, fun W => by go_simp⟩) ?_
        refine wpAny_ready (rs := [1, 3]) (by kernel_rfl) (by simp) ?_
        refine AllReady.cons rfl (fun K hK => ?_) (AllReady.cons rfl (fun K hK => ?_) AllReady.nil)
        · go_simp
          refine hK _ _ ?_
          refine wpAny_ready (rs := [3]) (by kernel_rfl) (by simp) ?_
          refine AllReady.cons rfl (fun K hK => ?_) AllReady.nil
          go_simp
          go_wp2_with fail
          refine (HPC.out _ (hc2.drewN _)).mono ?_
          intro e w3 hp
          obtain ⟨rfl, g3⟩ := hp.err_ HP.out
          refine ⟨rfl, ?_⟩
          rw [HR2.out]
          exact ⟨flaw_eq (show k2 + o = 0 + (k2 + o) by omega), gb_trans (gb_drewN gw _) g3⟩
        · go_simp
          go_wp2_with fail
          refine (HPC.out _ (hc2.drewN _)).mono ?_
          intro e w3 hp
          obtain ⟨rfl, g3⟩ := hp.err_ HP.out
          refine ⟨rfl, ?_⟩
          rw [HR2.out]
          exact ⟨flaw_eq (show k2 + o = 0 + (k2 + o) by omega), gb_trans (gb_drewN gw _) g3⟩
      | ok t n =>
        have hpn := (pieceG_bd _).1 t n hp
        rw [rest_len] at hpn
        have HP := Lib.hid hp
        have HR2 := Lib.hid (show R = Ks.pre (acc ++ [t]) (k2 + n) (piecesF (restL s (k2 + n))) by
          rw [HRR.out, piecesF_more (by rw [rest_cons s k2 h2l]; simp) hp, Ks.pre_pre, rest_drop])
        clear hp
        have HPC := Lib.hid (fun W (h : Cur W b s k2) => piece_any b k2 s W h h2s hs)
        go_wp2_with fail
        refine (over_any b k2 s _ hc2).mono ?_
        rintro e w2 ⟨rfl, nq, rfl⟩
        go_wp2
        refine wp_region_any (by kernel_rfl) ?_
        change wpAny _ _ _ _ _ _ _ (World.drew _)
        refine wpAny_take (i := 0) (v := .pointer (some ⟨w.heap.size + 1, 2, none⟩)) rfl (by kernel_rfl) (by kernel_rfl) (by kernel_rfl) (fun _ _ _ h => h) (Or.inl ⟨by rfl, fun W => by go_simp⟩) ?_
        refine wpAny_take (i := 2) (v := .pointer (some ⟨b, 0, none⟩)) rfl (by kernel_rfl) (by kernel_rfl) (by kernel_rfl) (fun _ _ _ h => h) (Or.inl ⟨by rfl, fun W => by go_simp⟩) ?_
        refine wpAny_ready (rs := [1, 3]) (by kernel_rfl) (by simp) ?_
        refine AllReady.cons rfl (fun K hK => ?_) (AllReady.cons rfl (fun K hK => ?_) AllReady.nil)
        · go_simp
          refine hK _ _ ?_
          clear hK K
          refine wpAny_ready (rs := [3]) (by kernel_rfl) (by simp) ?_
          refine AllReady.cons rfl (fun K hK => ?_) AllReady.nil
          go_simp
          go_wp2_with fail
          refine (HPC.out _ (hc2.drewN _)).mono ?_
          intro e w3 hp
          obtain ⟨⟨d3, kk, A3, n3, c3, A3', n3', c3', rfl, ht3⟩, hc3, g3⟩ := hp.ok_ HP.out
          have hn3 := (hn.drewN (nq + 1)).grown g3 (by simp; omega)
          obtain ⟨_, _, n32, _, _, z32⟩ := blk3 hn3
          have hown3 : w3.ownsRow (w.heap.size + 2) 26 3 (.slice A acc.length cap) acc.length cells := own_grown (w := wr.drewN (nq + 1)) hown g3 (by omega)
          have hs3 := hn3.lt
          refine hK _ _ ?_
          refine wpAny_ready (rs := [4]) (by kernel_rfl) (by simp) ?_
          refine AllReady.cons rfl (fun K hK => ?_) AllReady.nil
          go_simp
          refine hK _ _ ?_
          refine wpAny_ready (rs := [5]) (by kernel_rfl) (by simp) ?_
          refine AllReady.cons rfl (fun K hK => ?_) AllReady.nil
          refine step_append_lies _ (by rfl) (.tmp 9) (.tmp 12) 24 (by rfl) (w.heap.size + 2) 26 i0 _ 3 56 Try.underlying24 hi0 hz0 hz1 hz2 rfl (by decide) _ acc.length cells (by rfl) (by exact hown3.alloc _) ⟨w3.heap.size, 0, none⟩ 1 1 [.int .i64 kk, .slice A3 n3 c3, .slice A3' n3' c3'] (by rfl) rfl (by exact World.news_of_block (heap_alloc_new w3 _)) (three_one _ _ _ _ _ _ _) (by decide) (by unfold maxLen; omega) (by omega) (by simp; omega) _ (by rfl) ?_
          intro g cap2 w4 hown4 hgrow hat hlt4
          have hn4 := (hn3.alloc (.cells #[.int .i64 kk, .slice A3 n3 c3, .slice A3' n3' c3'] 26)).grown hgrow (own_apart hown3 (by omega))
          obtain ⟨_, _, n42, _, _, z42⟩ := blk3 hn4
          refine hK _ _ ?_
          refine wpAny_take (i := 6) (v := .pointer (some ⟨w.heap.size + 1, 2, none⟩)) rfl (by kernel_rfl) (by kernel_rfl) (by kernel_rfl) (fun _ _ _ h => h) (Or.inl ⟨by rfl, fun W => by go_simp⟩) ?_
          refine wpAny_ready (rs := [7]) (by kernel_rfl) (by simp) ?_
          refine AllReady.cons rfl (fun K hK => ?_) AllReady.nil
          go_simp
          refine hK _ _ ?_
          refine wpAny_done (by kernel_rfl) ?_ _
          go_wp2
          go_roundg (s.size + 1 - (k2 + n))
          case measure => omega
          case rel => exact ⟨k2 + n, acc ++ [t], by omega, rfl, by simp; omega, HR2.out, PiRel.step hb0 hblk hown hkids gw hlt1 g3 ht3 hc3 hgrow hown4 hat (by simp) hn4⟩
        · go_simp
          go_wp2_with fail
          refine (HPC.out _ (hc2.drewN _)).mono ?_
          intro e w3 hp
          obtain ⟨⟨d3, kk, A3, n3, c3, A3', n3', c3', rfl, ht3⟩, hc3, g3⟩ := hp.ok_ HP.out
          have hn3 := (hn.drewN (nq + 1)).grown g3 (by simp; omega)
          obtain ⟨_, _, n32, _, _, z32⟩ := blk3 hn3
          have hown3 : w3.ownsRow (w.heap.size + 2) 26 3 (.slice A acc.length cap) acc.length cells := own_grown (w := wr.drewN (nq + 1)) hown g3 (by omega)
          have hs3 := hn3.lt
          refine hK _ _ ?_
          clear hK K
          refine wpAny_ready (rs := [1, 4]) (by kernel_rfl) (by simp) ?_
          refine AllReady.cons rfl (fun K hK => ?_) (AllReady.cons rfl (fun K hK => ?_) AllReady.nil)
          · go_simp
            refine hK _ _ ?_
            clear hK K
            refine wpAny_ready (rs := [4]) (by kernel_rfl) (by simp) ?_
            refine AllReady.cons rfl (fun K hK => ?_) AllReady.nil
            go_simp
            refine hK _ _ ?_
            refine wpAny_ready (rs := [5]) (by kernel_rfl) (by simp) ?_
            refine AllReady.cons rfl (fun K hK => ?_) AllReady.nil
            refine step_append_lies _ (by rfl) (.tmp 9) (.tmp 12) 24 (by rfl) (w.heap.size + 2) 26 i0 _ 3 56 Try.underlying24 hi0 hz0 hz1 hz2 rfl (by decide) _ acc.length cells (by rfl) (by exact hown3.alloc _) ⟨w3.heap.size, 0, none⟩ 1 1 [.int .i64 kk, .slice A3 n3 c3, .slice A3' n3' c3'] (by rfl) rfl (by exact World.news_of_block (heap_alloc_new w3 _)) (three_one _ _ _ _ _ _ _) (by decide) (by unfold maxLen; omega) (by omega) (by simp; omega) _ (by rfl) ?_
            intro g cap2 w4 hown4 hgrow hat hlt4
            have hn4 := (hn3.alloc (.cells #[.int .i64 kk, .slice A3 n3 c3, .slice A3' n3' c3'] 26)).grown hgrow (own_apart hown3 (by omega))
            obtain ⟨_, _, n42, _, _, z42⟩ := blk3 hn4
            refine hK _ _ ?_
            refine wpAny_take (i := 6) (v := .pointer (some ⟨w.heap.size + 1, 2, none⟩)) rfl (by kernel_rfl) (by kernel_rfl) (by kernel_rfl) (fun _ _ _ h => h) (Or.inl ⟨by rfl, fun W => by go_simp⟩) ?_
            refine wpAny_ready (rs := [7]) (by kernel_rfl) (by simp) ?_
            refine AllReady.cons rfl (fun K hK => ?_) AllReady.nil
            go_simp
            refine hK _ _ ?_
            refine wpAny_done (by kernel_rfl) ?_ _
            go_wp2
            go_roundg (s.size + 1 - (k2 + n))
            case measure => omega
            case rel => exact ⟨k2 + n, acc ++ [t], by omega, rfl, by simp; omega, HR2.out, PiRel.step hb0 hblk hown hkids gw hlt1 g3 ht3 hc3 hgrow hown4 hat (by simp) hn4⟩
          · go_simp
            refine hK _ _ ?_
            clear hK K
            refine wpAny_ready (rs := [1]) (by kernel_rfl) (by simp) ?_
            refine AllReady.cons rfl (fun K hK => ?_) AllReady.nil
            go_simp
            refine hK _ _ ?_
            clear hK K
            refine wpAny_ready (rs := [5]) (by kernel_rfl) (by simp) ?_
            refine AllReady.cons rfl (fun K hK => ?_) AllReady.nil
            refine step_append_lies _ (by rfl) (.tmp 9) (.tmp 12) 24 (by rfl) (w.heap.size + 2) 26 i0 _ 3 56 Try.underlying24 hi0 hz0 hz1 hz2 rfl (by decide) _ acc.length cells (by rfl) (by exact hown3.alloc _) ⟨w3.heap.size, 0, none⟩ 1 1 [.int .i64 kk, .slice A3 n3 c3, .slice A3' n3' c3'] (by rfl) rfl (by exact World.news_of_block (heap_alloc_new w3 _)) (three_one _ _ _ _ _ _ _) (by decide) (by unfold maxLen; omega) (by omega) (by simp; omega) _ (by rfl) ?_
            intro g cap2 w4 hown4 hgrow hat hlt4
            have hn4 := (hn3.alloc (.cells #[.int .i64 kk, .slice A3 n3 c3, .slice A3' n3' c3'] 26)).grown hgrow (own_apart hown3 (by omega))
            obtain ⟨_, _, n42, _, _, z42⟩ := blk3 hn4
            refine hK _ _ ?_
            refine wpAny_take (i := 6) (v := .pointer (some ⟨w.heap.size + 1, 2, none⟩)) rfl (by kernel_rfl) (by kernel_rfl) (by kernel_rfl) (fun _ _ _ h => h) (Or.inl ⟨by rfl, fun W => by go_simp⟩) ?_
            refine wpAny_ready (rs := [7]) (by kernel_rfl) (by simp) ?_
            refine AllReady.cons rfl (fun K hK => ?_) AllReady.nil
            go_simp
            refine hK _ _ ?_
            refine wpAny_done (by kernel_rfl) ?_ _
            go_wp2
            go_roundg (s.size + 1 - (k2 + n))
            case measure => omega
            case rel => exact ⟨k2 + n, acc ++ [t], by omega, rfl, by simp; omega, HR2.out, PiRel.step hb0 hblk hown hkids gw hlt1 g3 ht3 hc3 hgrow hown4 hat (by simp) hn4⟩
    · have h2e : k2 = s.size := by simpa [overB] using ho
      have HR2 := Lib.hid (show R = .ok acc by rw [HRR.out, rest_nil s k2 (by omega), piecesF_nil]; simp [Ks.pre])
      obtain ⟨p0, p1, p2, f0, f1, f2⟩ := blk3 hblk
      clear h2e
      go_wp2_with fail
      refine (over_any b k2 s _ hc2).mono ?_
      rintro e w2 ⟨rfl, nq, rfl⟩
      have HT := Lib.hid (tree_node (k := 2) hown (hkids.mono (Y := fun j => w.heap.size + 2 ≤ j ∧ j < wr.heap.size) fun j hj => ⟨hj.1, hj.2.1⟩) (fun j hj => hown.lt j hj))
      go_wp2
      rw [HR2.out]
      refine bodyPost_ret (v := .agg #[.int .i64 2, .slice none 0 0, .slice A acc.length cap]) (by simp [results, Try.results95, go_sem, *]) rfl ⟨⟨d + 1, 2, none, 0, 0, A, acc.length, cap, rfl, ?_⟩, ?_⟩
      · refine (HT.out.keep (w' := (((wr.drewN nq).setCell ⟨w.heap.size, 0, none⟩ _).setCell ⟨w.heap.size, 1, none⟩ _).setCell ⟨w.heap.size, 2, none⟩ _) fun j hj => ?_).mono fun j hj => ⟨by have := hj.1; omega, ?_⟩
        · have hne : j ≠ w.heap.size := by have := hj.1; omega
          rw [Below.heap_setCell _ _ _ _ hne, Below.heap_setCell _ _ _ _ hne, Below.heap_setCell _ _ _ _ hne]; rfl
        · simp [World.setCell]; exact hj.2
      · exact gb_store (gb_drewN gw nq) (Nat.le_refl _)
end Go.Proofs.Ytjnhmcgjeljcmaa
