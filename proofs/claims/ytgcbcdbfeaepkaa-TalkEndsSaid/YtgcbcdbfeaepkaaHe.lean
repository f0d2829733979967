/- talk.Wait. -/
import Derived.Test.YtgcbcdbfeaepkaaHd
import Derived.WalkMore
import Derived.ScopeJumps
namespace Go.Proofs.Ytgcbcdbfeaepkaa
open Go.RowKit Go.Maps

/-- How many chunks a session in memory has left. -/
def chunksOf (lp : Nat) (w : World) : Nat := match w.cell? ⟨lp, 0, none⟩ with
  | some (.slice _ n _) => n
  | _ => 0
section
variable {w0 w w' : World} {lp bp : Nat} {X R Y : Nat → Prop} {A : Option Addr} {n : Nat} {cs : List Cl} {Z : Nat → Nat → Prop} {s : Ls} {bs : List UInt8} {most : Nat} {gone : Int}
theorem LS.chunks (h : LS w0 w lp X R s) : chunksOf lp w = s.ds.length := by
  obtain ⟨A, n, c, cks, SA, sn, sc, h1, h2, -⟩ := h.at_
  unfold chunksOf
  rw [h1.top.cell 0]
  have := h1.ch.1
  rw [← h2]
  unfold plainD
  rw [List.length_map, this]
  rfl
theorem next_less {s : Ls} {l : Int} (h : (nextS s l).1 = 1) : (nextS s l).2.2.ds.length < s.ds.length := by
  unfold nextS at h ⊢
  split at h
  · rename_i d r hd
    split at h
    · simp at h
    · rename_i hlt
      rw [hd]
      simp only [if_neg hlt]
      simp
  · split at h
    · split at h
      · simp at h
      · rename_i h1 h2
        simp only at h
        omega
    · simp at h
def WaitP (w0 w : World) (lp bp : Nat) (X R Y : Nat → Prop) (A : Option Addr) (n : Nat) (cs : List Cl) (Z : Nat → Nat → Prop) (most : Nat) (gone0 : Int) (r : Out × Ls × List UInt8) (e : Ending) (w' : World) : Prop :=
  ∃ Y', OutP w r.1 e w' ∧ TS w0 w' lp bp X R Y' A n cs Z r.2.1 r.2.2 most (gone0 + (r.1.gone : Nat)) ∧ (∀ j, Y' j → Y j ∨ w.heap.size ≤ j) ∧ Kept (fun j => X j ∨ Y j ∨ ZB A Z j) w w'
theorem kept4s {S : Nat → Prop} (w : World) {g : Nat} (hS : S g) (a b c d : Value) : Kept S w ((((w.setCell ⟨g, 0, none⟩ a).setCell ⟨g, 1, none⟩ b).setCell ⟨g, 2, none⟩ c).setCell ⟨g, 3, none⟩ d) :=
  ((((Kept.refl S w).set_ (p := ⟨g, 0, none⟩) (.inl hS) _).set_ (p := ⟨g, 1, none⟩) (.inl hS) _).set_ (p := ⟨g, 2, none⟩) (.inl hS) _).set_ (p := ⟨g, 3, none⟩) (.inl hS) _
theorem kept_fin {S : Nat → Prop} (w : World) {p g : Nat} (hp : S p) (hg : S g) (a b c d e a2 b2 c2 d2 : Value) : Kept S w (((((((((w.setCell ⟨p, 0, none⟩ a).setCell ⟨p, 1, none⟩ b).setCell ⟨p, 2, none⟩ c).setCell ⟨p, 3, none⟩ d).setCell ⟨p, 3, none⟩ e).setCell ⟨g, 0, none⟩ a2).setCell ⟨g, 1, none⟩ b2).setCell ⟨g, 2, none⟩ c2).setCell ⟨g, 3, none⟩ d2) :=
  ((kept4s w hp a b c d).set_ (p := ⟨p, 3, none⟩) (.inl hp) e).trans (kept4s _ hg a2 b2 c2 d2) (fun _ h => .inl h)
theorem wait_fin {V W : World} {Y' : Nat → Prop} {s1 : Ls} {bs1 : List UInt8} {kd cl : Int} {g : Nat} {D : Option Addr} {m cc : Nat} {txt : List UInt8} {S : Nat → Prop} (H : TS w0 w lp bp X R Y A n cs Z s bs most gone) (hk : Kept (fun j => X j ∨ Y j ∨ ZB A Z j) w V) (ht : TS w0 V lp bp X R Y' A n cs Z s1 bs1 most (gone + (g : Nat))) (hY : ∀ j, Y' j → Y j ∨ w.heap.size < j)
    (hrow : RowAt V D m cc txt) (hfr : ∀ j, InB D j → w.heap.size < j) (hm2 : m ≤ 2000) (hSo : ∀ j, ((X j ∨ R j) ∨ Y' j ∨ ZB A Z j) → ¬ S j) (hSD : ∀ j, InB D j → ¬ S j) (hSw : ∀ j, S j → w.heap.size ≤ j) (hW : Kept S V W) :
    WaitP w0 w lp bp X R Y A n cs Z most gone (⟨kd, cl, txt, g⟩, s1, bs1) (.returned (.agg #[.int .i64 kd, .int .i64 cl, .slice D m cc, .int .i64 (g : Nat)])) W :=
  ⟨Y', ⟨D, m, cc, rfl, hrow.kept hW hSD, fun j hj => Nat.le_of_lt (hfr j hj), hm2⟩, ht.keep hW hSo (fun j hj => Nat.le_trans H.buf.old.size (hSw j hj)), fun j hj => (hY j hj).imp id Nat.le_of_lt, hk.trans hW (fun j hj => .inr (hSw j hj))⟩
/-- What holds at the label. -/
def WaitJ (w0 w : World) (lp bp : Nat) (X R Y : Nat → Prop) (A : Option Addr) (n c : Nat) (cs : List Cl) (Z : Nat → Nat → Prop) (most : Nat) (u bd : Int) (gone0 : Int) (goal : Out × Ls × List UInt8) (a' : Act) (w' : World) : Prop :=
  ∃ (k : Nat) (come : Bool) (g : Nat) (s : Ls) (bs : List UInt8) (Y' : Nat → Prop) (u13 u14 u15 u16 u17 u18 u19 u20 u21 u22 u23 u24 u25 u26 u27 u28 u29 u30 u31 u32 u33 u34 u35 u36 u37 u38 u39 u40 u41 u42 u43 u44 u45 u46 u47 u48 u49 u50 u51 u52 u53 u54 : Value),
    a' = { tmps := #[.pointer (some ⟨lp, 0, none⟩), .pointer (some ⟨bp, 0, none⟩), .slice A n c, .int .i64 u, .int .i64 bd, undef, undef, undef, undef, undef, .pointer (some ⟨w.heap.size, 0, none⟩), .int .i64 (g : Nat), .bool come, u13, u14, u15, u16, u17, u18, u19, u20, u21, u22, u23, u24, u25, u26, u27, u28, u29, u30, u31, u32, u33, u34, u35, u36, u37, u38, u39, u40, u41, u42, u43, u44, u45, u46, u47, u48, u49, u50, u51, u52, u53, u54], defers := [] } ∧
    waitT cs most u bd k come g s bs = goal ∧ waitOk cs most u bd k come g s bs ∧ TS w0 w' lp bp X R Y' A n cs Z s bs most (gone0 + (g : Nat)) ∧ (∀ j, Y' j → Y j ∨ w.heap.size < j) ∧ Kept (fun j => X j ∨ Y j ∨ ZB A Z j) w w' ∧ Blk w' w.heap.size 105 #[.int .i64 0, .int .i64 0, .slice none 0 0, .int .i64 0]
set_option maxHeartbeats 1000000 in
set_option maxRecDepth 100000 in
theorem wait_any (h : TS w0 w lp bp X R Y A n cs Z s bs most gone) (c : Nat) (u bd : Int) (k : Nat) (ok : waitOk cs most u bd k false 0 s bs) (hg0 : 0 ≤ gone) (hg1 : gone ≤ 100000000000) :
    Calls Try.prog 44 #[.pointer (some ⟨lp, 0, none⟩), .pointer (some ⟨bp, 0, none⟩), .slice A n c, .int .i64 u, .int .i64 bd] w (WaitP w0 w lp bp X R Y A n cs Z most gone (waitT cs most u bd k false 0 s bs)) := by
  have H := Lib.hid h
  obtain ⟨goal, hgoal⟩ : ∃ goal, goal = waitT cs most u bd k false 0 s bs := ⟨_, rfl⟩
  have ba := (Below.refl w.heap.size w).alloc (Nat.le_refl _) (.cells #[.int .i64 0, .int .i64 0, .slice none 0 0, .int .i64 0] 105)
  have START := Lib.hid (fun (a' : Act) (ha : ∃ (u13 u14 u15 u16 u17 u18 u19 u20 u21 u22 u23 u24 u25 u26 u27 u28 u29 u30 u31 u32 u33 u34 u35 u36 u37 u38 u39 u40 u41 u42 u43 u44 u45 u46 u47 u48 u49 u50 u51 u52 u53 u54 : Value), a' = { tmps := #[.pointer (some ⟨lp, 0, none⟩), .pointer (some ⟨bp, 0, none⟩), .slice A n c, .int .i64 u, .int .i64 bd, undef, undef, undef, undef, undef, .pointer (some ⟨w.heap.size, 0, none⟩), .int .i64 0, .bool false, u13, u14, u15, u16, u17, u18, u19, u20, u21, u22, u23, u24, u25, u26, u27, u28, u29, u30, u31, u32, u33, u34, u35, u36, u37, u38, u39, u40, u41, u42, u43, u44, u45, u46, u47, u48, u49, u50, u51, u52, u53, u54], defers := [] }) => show WaitJ w0 w lp bp X R Y A n c cs Z most u bd gone goal a' (w.alloc (.cells #[.int .i64 0, .int .i64 0, .slice none 0 0, .int .i64 0] 105)) from by
    obtain ⟨u13, u14, u15, u16, u17, u18, u19, u20, u21, u22, u23, u24, u25, u26, u27, u28, u29, u30, u31, u32, u33, u34, u35, u36, u37, u38, u39, u40, u41, u42, u43, u44, u45, u46, u47, u48, u49, u50, u51, u52, u53, u54, rfl⟩ := ha
    exact ⟨k, false, 0, s, bs, Y, u13, u14, u15, u16, u17, u18, u19, u20, u21, u22, u23, u24, u25, u26, u27, u28, u29, u30, u31, u32, u33, u34, u35, u36, u37, u38, u39, u40, u41, u42, u43, u44, u45, u46, u47, u48, u49, u50, u51, u52, u53, u54, rfl, hgoal.symm, ok, by simpa using h.below ba, fun j hj => .inl hj, kept_below ba, Blk.new w _ _⟩)
  rw [← hgoal]
  clear h ba ok hgoal
  go_enter Try.func44, Try.ntmps44
  go_wp2_with fail
  refine (fun (pass : ∀ a w', WaitJ w0 w lp bp X R Y A n c cs Z most u bd gone goal a w' → Code.wp Try.prog _ (Exit.jump 0 (fun a' w'' => WaitJ w0 w lp bp X R Y A n c cs Z most u bd gone goal a' w'' ∧ chunksOf lp w'' < chunksOf lp w') _) a w') => wp_scope_jumps 0 (WaitJ w0 w lp bp X R Y A n c cs Z most u bd gone goal) (fun _ w' => chunksOf lp w') rfl ?_ (fun a w' hJ => wp_seq (wp_skip (pass a w' hJ)))) ?_
  · have PASS := Lib.hid pass
    clear pass
    go_wp2_with fail
    go_step3
    rename_i K hK
    refine hK _ _ ?_
    exact wp_mono (PASS.out _ _ (START.out _ ⟨_, _, _, _, _, _, _, _, _, _, _, _, _, _, _, _, _, _, _, _, _, _, _, _, _, _, _, _, _, _, _, _, _, _, _, _, _, _, _, _, _, _, rfl⟩)) (by
      intro e a w h
      cases e <;> first | exact h | exact ⟨h.1, h.2.1⟩)
  · rintro a' V ⟨k, come, g, s, bs, Y', u13, u14, u15, u16, u17, u18, u19, u20, u21, u22, u23, u24, u25, u26, u27, u28, u29, u30, u31, u32, u33, u34, u35, u36, u37, u38, u39, u40, u41, u42, u43, u44, u45, u46, u47, u48, u49, u50, u51, u52, u53, u54, rfl, hgoal, hok, ht, hY, hk, hT⟩
    clear START
    obtain ⟨L, hL⟩ : ∃ L, L = min u bd := ⟨_, rfl⟩
    have hways : (u < bd ∧ L = u) ∨ (¬ u < bd ∧ L = bd) := by omega
    have HL := Lib.hid hL
    cases k with
    | zero => exact False.elim hok
    | succ k =>
      have HT0 := Lib.hid ht
      have HY := Lib.hid hY
      have hsz := ht.buf.size
      have hlt0 : w.heap.size < V.heap.size := hT.lt
      have HN0 := Lib.hid (show ∀ j, ((X j ∨ R j) ∨ Y' j ∨ ZB A Z j) → ¬ j = w.heap.size from fun j hj e => by
        subst e
        rcases hj with hj | hj | hj
        · have := (H.out.line.inn _ hj).1; omega
        · rcases hY _ hj with h | h
          · have := (H.out.buf.inn _ h).1; omega
          · omega
        · have := (H.out.zin _ hj).1; omega)
      have F := Lib.hid (found_any ht c)
      obtain ⟨r, hr⟩ : ∃ r, r = foundT cs 0 bs := ⟨_, rfl⟩
      unfold waitT at hgoal
      unfold waitOk at hok
      rw [← hr] at F hgoal hok
      clear hr
      rcases r with _ | ⟨i, a, b⟩
      rotate_left
      · clear hok
        have GOAL := Lib.hid (show ((⟨1, (i : Nat), (bs.take b).drop a, g⟩ : Out), s, bs.drop b) = goal from hgoal)
        clear hgoal
        go_wp2_with fail
        refine F.out.mono ?_
        rintro e w1 ⟨⟨D, m, cc, he, hrow, hfr, hm2⟩, ht1, hk1⟩
        have he' : e = .returned (.agg #[.int .i64 1, .int .i64 (i : Nat), .slice D m cc, .int .i64 0]) := he
        subst he'
        have K1 := hk.trans hk1 (fun j hj => by
          rcases hj with hj | hj
          · rcases hY j hj with h | h
            · exact .inl (.inr (.inl h))
            · exact .inr (Nat.le_of_lt h)
          · exact .inl (.inr (.inr hj)))
        have G1 := (hk1.block _ hlt0 (fun hx => HN0.out _ (.inr hx) rfl)).trans hT
        have hlt1 : w.heap.size < w1.heap.size := Blk.lt G1
        have hpw : w.heap.size < w1.heap.size := hlt1
        obtain ⟨⟨d0, d1, d2, d3⟩, f0, f1, f2, f3⟩ := blk4 (show Blk w1 w.heap.size 105 #[.int .i64 0, .int .i64 0, .slice none 0 0, .int .i64 0] from G1)
        have hne : ¬ w1.heap.size = w.heap.size := by omega
        have hne' : ¬ w.heap.size = w1.heap.size := by omega
        have FIN := Lib.hid (fun (W : World) (hW : Kept (fun j => j = w.heap.size ∨ j = w1.heap.size) w1 W) => wait_fin (kd := 1) (cl := (i : Nat)) (g := g) (txt := (bs.take b).drop a) (bs1 := bs.drop b) H.out K1 ht1 HY.out hrow (fun j hj => by have := hfr j hj; omega) hm2 (fun j hj h => by
          rcases h with h | h
          · exact HN0.out j hj h
          · exact ht1.new (Nat.le_refl _) j hj h) (fun j hj h => by have := hfr j hj; have := hrow.lt hj; omega) (fun j hj => by omega) hW)
        rw [GOAL.out] at FIN
        clear hrow hfr ht1 hk1 K1 G1 F
        go_wp2
        refine bodyPost_ret (v := .agg #[.int .i64 1, .int .i64 (i : Nat), .slice D m cc, .int .i64 (g : Nat)]) (by simp [results, Try.results44, go_sem, *]) rfl ?_
        refine FIN.out _ ?_
        exact (kept4s w1 (.inl rfl) _ _ _ _).alloc _
      · have hgoal' : (if fullT cs most come bs = true then ((⟨2, firstK 7 cs 0, bs, g⟩ : Out), s, []) else if (nextS s (min u bd)).1 = 1 then waitT cs most u bd k true (g + goneBy bs (nextS s (min u bd)).2.1 most) (nextS s (min u bd)).2.2 ((bs ++ (nextS s (min u bd)).2.1).drop (goneBy bs (nextS s (min u bd)).2.1 most)) else (endedT cs (nextS s (min u bd)).1 (decide (bd < u)) g, (nextS s (min u bd)).2.2, bs)) = goal := hgoal
        have hok' : fullT cs most come bs = true ∨ (0 ≤ s.last ∧ s.last ≤ 4611686018427387904 ∧ g ≤ 100000000000 ∧ ((nextS s (min u bd)).1 = 1 → (nextS s (min u bd)).2.1.length ≤ 1000000000 ∧ waitOk cs most u bd k true (g + goneBy bs (nextS s (min u bd)).2.1 most) (nextS s (min u bd)).2.2 ((bs ++ (nextS s (min u bd)).2.1).drop (goneBy bs (nextS s (min u bd)).2.1 most)))) := hok
        clear hgoal hok
        rw [← HL.out] at hgoal' hok'
        have HGO := Lib.hid hgoal'
        have HOK := Lib.hid hok'
        clear hgoal' hok'
        go_wp2_with fail
        refine F.out.mono ?_
        rintro e w1 ⟨⟨D, m, cc, he, hrow, hfr, hm2⟩, ht1, hk1⟩
        have he' : e = .returned (.agg #[.int .i64 0, .int .i64 0, .slice D m cc, .int .i64 0]) := he
        subst he'
        have ba := (Below.refl w1.heap.size w1).alloc (Nat.le_refl _) (.cells #[.int .i64 0, .int .i64 0, .slice D m cc, .int .i64 0] 105)
        have K1 := Lib.hid ((hk.trans hk1 (fun j hj => by
          rcases hj with hj | hj
          · rcases hY j hj with h | h
            · exact .inl (.inr (.inl h))
            · exact .inr (Nat.le_of_lt h)
          · exact .inl (.inr (.inr hj)))).trans (kept_below (X := fun _ => False) ba) (fun _ h => False.elim h))
        have g1 := (hk1.block _ hlt0 (fun hx => HN0.out _ (.inr hx) rfl)).trans hT
        have hpw : w.heap.size < w1.heap.size := Blk.lt g1
        have G1 := Lib.hid (show Blk (w1.alloc (.cells #[.int .i64 0, .int .i64 0, .slice D m cc, .int .i64 0] 105)) w.heap.size 105 #[.int .i64 0, .int .i64 0, .slice none 0 0, .int .i64 0] from Blk.below (B := w1.heap.size) g1 ba (Blk.lt g1))
        have T1 := Lib.hid (show TS w0 (w1.alloc (.cells #[.int .i64 0, .int .i64 0, .slice D m cc, .int .i64 0] 105)) lp bp X R Y' A n cs Z s bs most (gone + (g : Nat)) from TS.below (bs := bs) ht1 ba)
        have HNp := Lib.hid (fun j hj => show ¬ j = w1.heap.size from fun h => ht1.new (Nat.le_refl _) j hj h)
        have P1 := Lib.hid (show Blk (w1.alloc (.cells #[.int .i64 0, .int .i64 0, .slice D m cc, .int .i64 0] 105)) w1.heap.size 105 #[.int .i64 0, .int .i64 0, .slice D m cc, .int .i64 0] from Blk.new w1 _ _)
        clear hrow hfr ht1 hk1 g1 ba F hk hT hY ht he
        cases come
        · have GOAL := Lib.hid (show (if (nextS s L).1 = 1 then waitT cs most u bd k true (g + goneBy bs (nextS s L).2.1 most) (nextS s L).2.2 ((bs ++ (nextS s L).2.1).drop (goneBy bs (nextS s L).2.1 most)) else (endedT cs (nextS s L).1 (decide (bd < u)) g, (nextS s L).2.2, bs)) = goal from HGO.out)
          have OL := Lib.hid (HOK.out.resolve_left (by simp [fullT]))
          have T2 := T1; have P2 := P1; have G2 := G1; have K2 := K1
          clear T1 P1 G1 K1 HGO HOK
          have qa : (if u < bd then u else bd) = L := by split <;> omega
          have qb : (if u ≤ bd then u else bd) = L := by split <;> omega
          have qc : (if bd < u then bd else u) = L := by split <;> omega
          have qd : (if bd ≤ u then bd else u) = L := by split <;> omega
          clear hways hL
          obtain ⟨nx, hnx⟩ : ∃ nx, nx = nextS s L := ⟨_, rfl⟩
          have NX0 := T2.out.line.next2 OL.out.1 OL.out.2.1 L
          have OK3 := OL.out.2.2.2
          have hgl := OL.out.2.2.1
          have GOAL3 := GOAL.out
          have NL := Lib.hid (fun h => next_less (s := s) (l := L) h)
          rw [← hnx] at NX0 OK3 GOAL3 NL
          obtain ⟨wh, ys, s'⟩ := nx
          have NX := Lib.hid NX0
          dsimp only at OK3 GOAL3 NL
          clear NX0 hnx
          go_wp2_with fail
          refine NX.out.mono ?_
          rintro e w3 ⟨B, m3, d3, he3, hx3, hl3, hk3, hR3, hmd, hdm⟩
          have he3' : e = .returned (.tuple #[.int .i64 wh, .slice B m3 d3]) := he3
          subst he3'
          have ht3 := T2.out.went hk3 hl3
          have hlen3 := hl3.chunks
          dsimp only at hx3 ht3 hlen3
          have T3 := Lib.hid ht3
          have P3 := Lib.hid (show Blk w3 w1.heap.size 105 _ from (hk3.block _ P2.out.lt (fun hx => HNp.out w1.heap.size (.inl (.inl hx)) rfl)).trans P2.out)
          have G3 := Lib.hid (show Blk w3 w.heap.size 105 #[.int .i64 0, .int .i64 0, .slice none 0 0, .int .i64 0] from (hk3.block _ G2.out.lt (fun hx => HN0.out _ (.inl (.inl hx)) rfl)).trans G2.out)
          have K3 := Lib.hid (K2.out.trans hk3 (fun j hj => .inl (.inl hj)))
          have X3 := Lib.hid (show BytesAt w3 B m3 ys from hx3)
          have LEN3 := Lib.hid (show chunksOf lp w3 = s'.ds.length from hlen3)
          have hpl3 : w1.heap.size < w3.heap.size := P3.out.lt
          have hgl3 : w.heap.size < w3.heap.size := G3.out.lt
          clear hx3 hl3 hk3 hR3 ht3 hlen3 NX he3
          by_cases h1 : wh = 1
          · subst h1
            obtain ⟨hyl, hok4⟩ := OK3 rfl
            have GOAL4 := Lib.hid (show waitT cs most u bd k true (g + goneBy bs ys most) s' ((bs ++ ys).drop (goneBy bs ys most)) = goal from by simpa using GOAL3)
            have OK4 := Lib.hid (show waitOk cs most u bd k true (g + goneBy bs ys most) s' ((bs ++ ys).drop (goneBy bs ys most)) from hok4)
            have hyl2 : m3 ≤ 1000000000 := by rw [← X3.out.1]; exact hyl
            have PT := Lib.hid (T3.out.buf.put X3.out hmd hdm hyl2 (by omega) (by omega))
            obtain ⟨gb, hgb⟩ : ∃ gb, gb = goneBy bs ys most := ⟨_, rfl⟩
            have HGB := Lib.hid hgb
            have hgbl : gb ≤ 2000000000 := by rw [hgb]; unfold goneBy; rw [List.length_append, X3.out.1]; omega
            rw [← hgb] at PT GOAL4 OK4
            have hwr : IntKind.i64.wrap ((g : Int) + (gb : Int)) = (g : Int) + (gb : Int) := IntWalk.i64_in _ (by omega)
            clear hgb OK3 GOAL3 hok4
            go_wp2_with fail
            refine PT.out.mono ?_
            rintro e w4 ⟨rfl, Y4, hb4, hk4, hy4⟩
            have HJ := Lib.hid (fun (a' : Act) (ha : ∃ (u13 u14 u15 u16 u17 u18 u19 u20 u21 u22 u23 u24 u25 u26 u27 u28 u29 u30 u31 u32 u33 u34 u35 u36 u37 u38 u39 u40 u41 u42 u43 u44 u45 u46 u47 u48 u49 u50 u51 u52 u53 u54 : Value), a' = { tmps := #[.pointer (some ⟨lp, 0, none⟩), .pointer (some ⟨bp, 0, none⟩), .slice A n c, .int .i64 u, .int .i64 bd, undef, undef, undef, undef, undef, .pointer (some ⟨w.heap.size, 0, none⟩), .int .i64 ((g : Int) + (gb : Int)), .bool true, u13, u14, u15, u16, u17, u18, u19, u20, u21, u22, u23, u24, u25, u26, u27, u28, u29, u30, u31, u32, u33, u34, u35, u36, u37, u38, u39, u40, u41, u42, u43, u44, u45, u46, u47, u48, u49, u50, u51, u52, u53, u54], defers := [] }) => show WaitJ w0 w lp bp X R Y A n c cs Z most u bd gone goal a' w4 ∧ chunksOf lp w4 < chunksOf lp V from by
              obtain ⟨u13, u14, u15, u16, u17, u18, u19, u20, u21, u22, u23, u24, u25, u26, u27, u28, u29, u30, u31, u32, u33, u34, u35, u36, u37, u38, u39, u40, u41, u42, u43, u44, u45, u46, u47, u48, u49, u50, u51, u52, u53, u54, rfl⟩ := ha
              rw [show (g : Int) + (gb : Int) = ((g + gb : Nat) : Int) by omega]
              have t4 := T3.out.put hk4 hb4 hy4
              refine ⟨⟨k, true, g + gb, s', _, Y4, u13, u14, u15, u16, u17, u18, u19, u20, u21, u22, u23, u24, u25, u26, u27, u28, u29, u30, u31, u32, u33, u34, u35, u36, u37, u38, u39, u40, u41, u42, u43, u44, u45, u46, u47, u48, u49, u50, u51, u52, u53, u54, rfl, GOAL4.out, OK4.out, ?_, fun j hj => ?_, K3.out.trans hk4 (fun j hj => ?_), (hk4.block _ hgl3 (fun hy => HN0.out _ (.inr (.inl hy)) rfl)).trans G3.out⟩, ?_⟩
              · rw [show gone + ((g + gb : Nat) : Int) = gone + (g : Int) + (gb : Int) by omega]; exact t4
              · rcases hy4 j hj with h | h
                · exact HY.out j h
                · exact .inr (by omega)
              · rcases HY.out j hj with h | h
                · exact .inl (.inr (.inl h))
                · exact .inr (Nat.le_of_lt h)
              · rw [t4.line.chunks, HT0.out.line.chunks]
                exact NL.out (by simp))
            clear hb4 hk4 hy4
            go_wp2_with fail
            go_step3
            refine ⟨rfl, HJ.out _ ?_⟩
            exact ⟨_, _, _, _, _, _, _, _, _, _, _, _, _, _, _, _, _, _, _, _, _, _, _, _, _, _, _, _, _, _, _, _, _, _, _, _, _, _, _, _, _, _, rfl⟩
          · have h1b : (wh == 1) = false := by simpa using h1
            have GOAL4 := Lib.hid (show (endedT cs wh (decide (bd < u)) g, s', bs) = goal from by simpa [h1] using GOAL3)
            obtain ⟨sp, hsp⟩ : ∃ sp, sp = decide (bd < u) := ⟨_, rfl⟩
            rw [← hsp] at GOAL4
            have hsp2 : decide (bd < u) = sp := hsp.symm
            have EN := Lib.hid (ended_any T3.out.cls wh sp c)
            clear hsp OK3 GOAL3 h1
            go_wp2_with fail
            refine EN.out.mono ?_
            rintro e w4 ⟨rfl, b4⟩
            obtain ⟨kd, cl, heo⟩ : ∃ kd cl, ∀ g, endedT cs wh sp g = ⟨kd, cl, [], g⟩ := by
              unfold endedT
              by_cases q2 : wh = 2
              · exact ⟨_, _, fun g => by rw [if_pos q2]⟩
              · by_cases q3 : wh = 3
                · exact ⟨_, _, fun g => by rw [if_neg q2, if_pos q3]⟩
                · cases sp
                  · exact ⟨_, _, fun g => by rw [if_neg q2, if_neg q3, if_neg (by decide)]⟩
                  · exact ⟨_, _, fun g => by rw [if_neg q2, if_neg q3, if_pos rfl]⟩
            rw [heo] at GOAL4
            rw [show outV (endedT cs wh sp 0) none 0 0 = .agg #[.int .i64 kd, .int .i64 cl, .slice none 0 0, .int .i64 0] by rw [heo]; rfl]
            have P4 := P3.out.below b4 hpl3
            have G4 := G3.out.below b4 hgl3
            obtain ⟨⟨q0, q1, q2, q3⟩, e0, e1, e2, e3⟩ := blk4 P4
            have hx3 : (((((w4.setCell ⟨w1.heap.size, 0, none⟩ (.int .i64 kd)).setCell ⟨w1.heap.size, 1, none⟩ (.int .i64 cl)).setCell ⟨w1.heap.size, 2, none⟩ (.slice none 0 0)).setCell ⟨w1.heap.size, 3, none⟩ (.int .i64 0)).setCell ⟨w1.heap.size, 3, none⟩ (.int .i64 (g : Nat))).cell? ⟨w1.heap.size, 3, none⟩ = some (.int .i64 (g : Nat)) := (((((P4.set_ 0 _).set_ 1 _).set_ 2 _).set_ 3 _).set_ 3 _ : Blk _ _ _ _).cell 3
            obtain ⟨⟨d0, d1, d2, d3⟩, f0, f1, f2, f3⟩ := blk4 G4
            have FIN := Lib.hid (fun (W : World) (hW : Kept (fun j => j = w.heap.size ∨ j = w1.heap.size) w4 W) => wait_fin (kd := kd) (cl := cl) (g := g) (D := none) (m := 0) (cc := 0) (txt := []) H.out (K3.out.trans (kept_below (X := fun _ => False) b4) (fun _ h => False.elim h)) (T3.out.below b4) HY.out (RowAt.nil w4) (fun j hj => by obtain ⟨o, e⟩ := hj; cases e) (by decide) (fun j hj h => by
              rcases h with h | h
              · exact HN0.out j hj h
              · exact HNp.out j hj h) (fun j hj => by obtain ⟨o, e⟩ := hj; cases e) (fun j hj => by omega) hW)
            rw [GOAL4.out] at FIN
            have hne : ¬ w1.heap.size = w.heap.size := by omega
            have hne' : ¬ w.heap.size = w1.heap.size := by omega
            clear P4 G4 b4 heo EN
            go_wp2
            refine bodyPost_ret (v := .agg #[.int .i64 kd, .int .i64 cl, .slice none 0 0, .int .i64 (g : Nat)]) (by simp [results, Try.results44, go_sem, *]) rfl ?_
            refine FIN.out _ ?_
            exact kept_fin w4 (.inr rfl) (.inl rfl) _ _ _ _ _ _ _ _ _

        · have C2 := Lib.hid (filled_any T1.out c)
          go_wp2_with fail
          refine C2.out.mono ?_
          rintro e w2 (⟨hf, ⟨D2, m2, c2, he2, hrow, hfr, hm3⟩, ht2, hk2⟩ | ⟨hf, ⟨D2, m2, c2, he2, hrow, hfr, hm3⟩, ht2, hk2⟩)
          · have he3 : e = .returned (.agg #[.int .i64 2, .int .i64 (firstK 7 cs 0), .slice D2 m2 c2, .int .i64 0]) := he2
            subst he3
            have GOAL4 := HGO.out
            rw [if_pos hf] at GOAL4
            obtain ⟨cl, hcl⟩ : ∃ cl, cl = firstK 7 cs 0 := ⟨_, rfl⟩
            rw [← hcl] at GOAL4 ⊢
            have P4 := (hk2.block _ P1.out.lt (fun hy => HNp.out _ (.inr (.inl hy)) rfl)).trans P1.out
            have G4 := (hk2.block _ G1.out.lt (fun hy => HN0.out _ (.inr (.inl hy)) rfl)).trans G1.out
            have P4 : Blk w2 w1.heap.size 105 #[.int .i64 0, .int .i64 0, .slice D m cc, .int .i64 0] := P4
            have G4 : Blk w2 w.heap.size 105 #[.int .i64 0, .int .i64 0, .slice none 0 0, .int .i64 0] := G4
            obtain ⟨⟨q0, q1, q2, q3⟩, e0, e1, e2, e3⟩ := blk4 P4
            have hx3 : (((((w2.setCell ⟨w1.heap.size, 0, none⟩ (.int .i64 2)).setCell ⟨w1.heap.size, 1, none⟩ (.int .i64 cl)).setCell ⟨w1.heap.size, 2, none⟩ (.slice D2 m2 c2)).setCell ⟨w1.heap.size, 3, none⟩ (.int .i64 0)).setCell ⟨w1.heap.size, 3, none⟩ (.int .i64 (g : Nat))).cell? ⟨w1.heap.size, 3, none⟩ = some (.int .i64 (g : Nat)) := (((((P4.set_ 0 _).set_ 1 _).set_ 2 _).set_ 3 _).set_ 3 _ : Blk _ _ _ _).cell 3
            obtain ⟨⟨d0, d1, d2, d3⟩, f0, f1, f2, f3⟩ := blk4 G4
            have hw1 : w.heap.size < w1.heap.size := hpw
            have hw1a : (w1.alloc (.cells #[.int .i64 0, .int .i64 0, .slice D m cc, .int .i64 0] 105)).heap.size = w1.heap.size + 1 := by simp
            have FIN := Lib.hid (fun (W : World) (hW : Kept (fun j => j = w.heap.size ∨ j = w1.heap.size) w2 W) => wait_fin (kd := 2) (cl := cl) (g := g) (txt := bs) H.out (K1.out.trans hk2 (fun j hj => by
              rcases HY.out j hj with h | h
              · exact .inl (.inr (.inl h))
              · exact .inr (Nat.le_of_lt h))) ht2 HY.out hrow (fun j hj => by have := hfr j hj; omega) hm3 (fun j hj h => by
              rcases h with h | h
              · exact HN0.out j hj h
              · exact HNp.out j hj h) (fun j hj h => by have := hfr j hj; omega) (fun j hj => by omega) hW)
            rw [GOAL4] at FIN
            have hne : ¬ w1.heap.size = w.heap.size := by omega
            have hne' : ¬ w.heap.size = w1.heap.size := by omega
            clear P4 G4 hf he2 hrow hfr ht2 hk2 GOAL4 hcl C2 hw1a hways hL
            go_wp2
            refine bodyPost_ret (v := .agg #[.int .i64 2, .int .i64 cl, .slice D2 m2 c2, .int .i64 (g : Nat)]) (by simp [results, Try.results44, go_sem, *]) rfl ?_
            refine FIN.out _ ?_
            exact kept_fin w2 (.inr rfl) (.inl rfl) _ _ _ _ _ _ _ _ _
          · have he3 : e = .returned (.agg #[.int .i64 0, .int .i64 0, .slice D2 m2 c2, .int .i64 0]) := he2
            subst he3
            have GOAL := HGO.out
            rw [if_neg (by rw [hf]; decide)] at GOAL
            have GOAL := Lib.hid GOAL
            have OL := Lib.hid (HOK.out.resolve_left (by rw [hf]; decide))
            have P4 := (hk2.block _ P1.out.lt (fun hy => HNp.out _ (.inr (.inl hy)) rfl)).trans P1.out
            have G4 := (hk2.block _ G1.out.lt (fun hy => HN0.out _ (.inr (.inl hy)) rfl)).trans G1.out
            have P4 : Blk w2 w1.heap.size 105 #[.int .i64 0, .int .i64 0, .slice D m cc, .int .i64 0] := P4
            have G4 : Blk w2 w.heap.size 105 #[.int .i64 0, .int .i64 0, .slice none 0 0, .int .i64 0] := G4
            obtain ⟨⟨q0, q1, q2, q3⟩, e0, e1, e2, e3⟩ := blk4 P4
            have hkp := kept4s (S := fun j => j = w1.heap.size) w2 rfl (.int .i64 0) (.int .i64 0) (.slice D2 m2 c2) (.int .i64 0)
            have hs0 := H.out.buf.old.size
            have P2 := Lib.hid (show Blk ((((w2.setCell ⟨w1.heap.size, 0, none⟩ (.int .i64 0)).setCell ⟨w1.heap.size, 1, none⟩ (.int .i64 0)).setCell ⟨w1.heap.size, 2, none⟩ (.slice D2 m2 c2)).setCell ⟨w1.heap.size, 3, none⟩ (.int .i64 0)) w1.heap.size 105 #[.int .i64 0, .int .i64 0, .slice D2 m2 c2, .int .i64 0] from ((((P4.set_ 0 _).set_ 1 _).set_ 2 _).set_ 3 _ : Blk _ _ _ _))
            have G2 := Lib.hid ((hkp.block w.heap.size G4.lt (by omega)).trans G4)
            have G2 := Lib.hid (show Blk ((((w2.setCell ⟨w1.heap.size, 0, none⟩ (.int .i64 0)).setCell ⟨w1.heap.size, 1, none⟩ (.int .i64 0)).setCell ⟨w1.heap.size, 2, none⟩ (.slice D2 m2 c2)).setCell ⟨w1.heap.size, 3, none⟩ (.int .i64 0)) w.heap.size 105 #[.int .i64 0, .int .i64 0, .slice none 0 0, .int .i64 0] from G2.out)
            have T2 := Lib.hid (ht2.keep hkp (fun j hj => HNp.out j hj) (fun j hj => by omega))
            have K2 := Lib.hid ((K1.out.trans hk2 (fun j hj => by
              rcases HY.out j hj with h | h
              · exact .inl (.inr (.inl h))
              · exact .inr (Nat.le_of_lt h))).trans hkp (fun j hj => .inr (by omega)))
            obtain ⟨⟨r0, r1, r2, r3⟩, e0', e1', e2', e3'⟩ := blk4 P2.out
            have qa : (if u < bd then u else bd) = L := by split <;> omega
            have qb : (if u ≤ bd then u else bd) = L := by split <;> omega
            have qc : (if bd < u then bd else u) = L := by split <;> omega
            have qd : (if bd ≤ u then bd else u) = L := by split <;> omega
            clear P4 G4 hkp hf he2 hrow hfr ht2 hk2 C2 T1 P1 G1 K1 HGO HOK hways hL
            obtain ⟨nx, hnx⟩ : ∃ nx, nx = nextS s L := ⟨_, rfl⟩
            have NX0 := T2.out.line.next2 OL.out.1 OL.out.2.1 L
            have OK3 := OL.out.2.2.2
            have hgl := OL.out.2.2.1
            have GOAL3 := GOAL.out
            have NL := Lib.hid (fun h => next_less (s := s) (l := L) h)
            rw [← hnx] at NX0 OK3 GOAL3 NL
            obtain ⟨wh, ys, s'⟩ := nx
            have NX := Lib.hid NX0
            dsimp only at OK3 GOAL3 NL
            clear NX0 hnx
            go_wp2_with fail
            refine NX.out.mono ?_
            rintro e w3 ⟨B, m3, d3, he3, hx3, hl3, hk3, hR3, hmd, hdm⟩
            have he3' : e = .returned (.tuple #[.int .i64 wh, .slice B m3 d3]) := he3
            subst he3'
            have ht3 := T2.out.went hk3 hl3
            have hlen3 := hl3.chunks
            dsimp only at hx3 ht3 hlen3
            have T3 := Lib.hid ht3
            have P3 := Lib.hid (show Blk w3 w1.heap.size 105 _ from (hk3.block _ P2.out.lt (fun hx => HNp.out w1.heap.size (.inl (.inl hx)) rfl)).trans P2.out)
            have G3 := Lib.hid (show Blk w3 w.heap.size 105 #[.int .i64 0, .int .i64 0, .slice none 0 0, .int .i64 0] from (hk3.block _ G2.out.lt (fun hx => HN0.out _ (.inl (.inl hx)) rfl)).trans G2.out)
            have K3 := Lib.hid (K2.out.trans hk3 (fun j hj => .inl (.inl hj)))
            have X3 := Lib.hid (show BytesAt w3 B m3 ys from hx3)
            have LEN3 := Lib.hid (show chunksOf lp w3 = s'.ds.length from hlen3)
            have hpl3 : w1.heap.size < w3.heap.size := P3.out.lt
            have hgl3 : w.heap.size < w3.heap.size := G3.out.lt
            clear hx3 hl3 hk3 hR3 ht3 hlen3 NX he3
            by_cases h1 : wh = 1
            · subst h1
              obtain ⟨hyl, hok4⟩ := OK3 rfl
              have GOAL4 := Lib.hid (show waitT cs most u bd k true (g + goneBy bs ys most) s' ((bs ++ ys).drop (goneBy bs ys most)) = goal from by simpa using GOAL3)
              have OK4 := Lib.hid (show waitOk cs most u bd k true (g + goneBy bs ys most) s' ((bs ++ ys).drop (goneBy bs ys most)) from hok4)
              have hyl2 : m3 ≤ 1000000000 := by rw [← X3.out.1]; exact hyl
              have PT := Lib.hid (T3.out.buf.put X3.out hmd hdm hyl2 (by omega) (by omega))
              obtain ⟨gb, hgb⟩ : ∃ gb, gb = goneBy bs ys most := ⟨_, rfl⟩
              have HGB := Lib.hid hgb
              have hgbl : gb ≤ 2000000000 := by rw [hgb]; unfold goneBy; rw [List.length_append, X3.out.1]; omega
              rw [← hgb] at PT GOAL4 OK4
              have hwr : IntKind.i64.wrap ((g : Int) + (gb : Int)) = (g : Int) + (gb : Int) := IntWalk.i64_in _ (by omega)
              clear hgb OK3 GOAL3 hok4
              go_wp2_with fail
              refine PT.out.mono ?_
              rintro e w4 ⟨rfl, Y4, hb4, hk4, hy4⟩
              have HJ := Lib.hid (fun (a' : Act) (ha : ∃ (u13 u14 u15 u16 u17 u18 u19 u20 u21 u22 u23 u24 u25 u26 u27 u28 u29 u30 u31 u32 u33 u34 u35 u36 u37 u38 u39 u40 u41 u42 u43 u44 u45 u46 u47 u48 u49 u50 u51 u52 u53 u54 : Value), a' = { tmps := #[.pointer (some ⟨lp, 0, none⟩), .pointer (some ⟨bp, 0, none⟩), .slice A n c, .int .i64 u, .int .i64 bd, undef, undef, undef, undef, undef, .pointer (some ⟨w.heap.size, 0, none⟩), .int .i64 ((g : Int) + (gb : Int)), .bool true, u13, u14, u15, u16, u17, u18, u19, u20, u21, u22, u23, u24, u25, u26, u27, u28, u29, u30, u31, u32, u33, u34, u35, u36, u37, u38, u39, u40, u41, u42, u43, u44, u45, u46, u47, u48, u49, u50, u51, u52, u53, u54], defers := [] }) => show WaitJ w0 w lp bp X R Y A n c cs Z most u bd gone goal a' w4 ∧ chunksOf lp w4 < chunksOf lp V from by
                obtain ⟨u13, u14, u15, u16, u17, u18, u19, u20, u21, u22, u23, u24, u25, u26, u27, u28, u29, u30, u31, u32, u33, u34, u35, u36, u37, u38, u39, u40, u41, u42, u43, u44, u45, u46, u47, u48, u49, u50, u51, u52, u53, u54, rfl⟩ := ha
                rw [show (g : Int) + (gb : Int) = ((g + gb : Nat) : Int) by omega]
                have t4 := T3.out.put hk4 hb4 hy4
                refine ⟨⟨k, true, g + gb, s', _, Y4, u13, u14, u15, u16, u17, u18, u19, u20, u21, u22, u23, u24, u25, u26, u27, u28, u29, u30, u31, u32, u33, u34, u35, u36, u37, u38, u39, u40, u41, u42, u43, u44, u45, u46, u47, u48, u49, u50, u51, u52, u53, u54, rfl, GOAL4.out, OK4.out, ?_, fun j hj => ?_, K3.out.trans hk4 (fun j hj => ?_), (hk4.block _ hgl3 (fun hy => HN0.out _ (.inr (.inl hy)) rfl)).trans G3.out⟩, ?_⟩
                · rw [show gone + ((g + gb : Nat) : Int) = gone + (g : Int) + (gb : Int) by omega]; exact t4
                · rcases hy4 j hj with h | h
                  · exact HY.out j h
                  · exact .inr (by omega)
                · rcases HY.out j hj with h | h
                  · exact .inl (.inr (.inl h))
                  · exact .inr (Nat.le_of_lt h)
                · rw [t4.line.chunks, HT0.out.line.chunks]
                  exact NL.out (by simp))
              clear hb4 hk4 hy4
              go_wp2_with fail
              go_step3
              refine ⟨rfl, HJ.out _ ?_⟩
              exact ⟨_, _, _, _, _, _, _, _, _, _, _, _, _, _, _, _, _, _, _, _, _, _, _, _, _, _, _, _, _, _, _, _, _, _, _, _, _, _, _, _, _, _, rfl⟩
            · have h1b : (wh == 1) = false := by simpa using h1
              have GOAL4 := Lib.hid (show (endedT cs wh (decide (bd < u)) g, s', bs) = goal from by simpa [h1] using GOAL3)
              obtain ⟨sp, hsp⟩ : ∃ sp, sp = decide (bd < u) := ⟨_, rfl⟩
              rw [← hsp] at GOAL4
              have hsp2 : decide (bd < u) = sp := hsp.symm
              have EN := Lib.hid (ended_any T3.out.cls wh sp c)
              clear hsp OK3 GOAL3 h1
              go_wp2_with fail
              refine EN.out.mono ?_
              rintro e w4 ⟨rfl, b4⟩
              obtain ⟨kd, cl, heo⟩ : ∃ kd cl, ∀ g, endedT cs wh sp g = ⟨kd, cl, [], g⟩ := by
                unfold endedT
                by_cases q2 : wh = 2
                · exact ⟨_, _, fun g => by rw [if_pos q2]⟩
                · by_cases q3 : wh = 3
                  · exact ⟨_, _, fun g => by rw [if_neg q2, if_pos q3]⟩
                  · cases sp
                    · exact ⟨_, _, fun g => by rw [if_neg q2, if_neg q3, if_neg (by decide)]⟩
                    · exact ⟨_, _, fun g => by rw [if_neg q2, if_neg q3, if_pos rfl]⟩
              rw [heo] at GOAL4
              rw [show outV (endedT cs wh sp 0) none 0 0 = .agg #[.int .i64 kd, .int .i64 cl, .slice none 0 0, .int .i64 0] by rw [heo]; rfl]
              have P4 := P3.out.below b4 hpl3
              have G4 := G3.out.below b4 hgl3
              obtain ⟨⟨q0, q1, q2, q3⟩, e0, e1, e2, e3⟩ := blk4 P4
              have hx3 : (((((w4.setCell ⟨w1.heap.size, 0, none⟩ (.int .i64 kd)).setCell ⟨w1.heap.size, 1, none⟩ (.int .i64 cl)).setCell ⟨w1.heap.size, 2, none⟩ (.slice none 0 0)).setCell ⟨w1.heap.size, 3, none⟩ (.int .i64 0)).setCell ⟨w1.heap.size, 3, none⟩ (.int .i64 (g : Nat))).cell? ⟨w1.heap.size, 3, none⟩ = some (.int .i64 (g : Nat)) := (((((P4.set_ 0 _).set_ 1 _).set_ 2 _).set_ 3 _).set_ 3 _ : Blk _ _ _ _).cell 3
              obtain ⟨⟨d0, d1, d2, d3⟩, f0, f1, f2, f3⟩ := blk4 G4
              have FIN := Lib.hid (fun (W : World) (hW : Kept (fun j => j = w.heap.size ∨ j = w1.heap.size) w4 W) => wait_fin (kd := kd) (cl := cl) (g := g) (D := none) (m := 0) (cc := 0) (txt := []) H.out (K3.out.trans (kept_below (X := fun _ => False) b4) (fun _ h => False.elim h)) (T3.out.below b4) HY.out (RowAt.nil w4) (fun j hj => by obtain ⟨o, e⟩ := hj; cases e) (by decide) (fun j hj h => by
                rcases h with h | h
                · exact HN0.out j hj h
                · exact HNp.out j hj h) (fun j hj => by obtain ⟨o, e⟩ := hj; cases e) (fun j hj => by omega) hW)
              rw [GOAL4.out] at FIN
              have hne : ¬ w1.heap.size = w.heap.size := by omega
              have hne' : ¬ w.heap.size = w1.heap.size := by omega
              clear P4 G4 b4 heo EN
              go_wp2
              refine bodyPost_ret (v := .agg #[.int .i64 kd, .int .i64 cl, .slice none 0 0, .int .i64 (g : Nat)]) (by simp [results, Try.results44, go_sem, *]) rfl ?_
              refine FIN.out _ ?_
              exact kept_fin w4 (.inr rfl) (.inl rfl) _ _ _ _ _ _ _ _ _

end
end Go.Proofs.Ytgcbcdbfeaepkaa
