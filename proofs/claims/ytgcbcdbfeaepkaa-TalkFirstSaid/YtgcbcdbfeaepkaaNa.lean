/- bytes.Clone of bytes anywhere; Bytes, Take of a buffer. A buffer that a law has made, with its blocks; two of them and a row beside; the document's example (alive). A session in memory: ticks, coming, shift. -/
import Derived.Test.YtgcbcdbfeaepkaaBf
namespace Go.Proofs.Ytgcbcdbfeaepkaa
open Go.RowKit Go.Maps

theorem cl_yes (w : World) (n c : Nat) : (binOp .eql 52 (.slice none n c) (.slice none 0 0)).run Try.prog w = .ok (.bool true) w := by kernel_rfl
theorem cl_no (w : World) (ad : Addr) (n c : Nat) : (binOp .eql 52 (.slice (some ad) n c) (.slice none 0 0)).run Try.prog w = .ok (.bool false) w := by kernel_rfl
/-- An empty row of its own. -/
theorem row_empty (w : World) : RowAt (w.alloc (.cells #[] 5)) (some ⟨w.heap.size, 0, none⟩) 0 0 [] :=
  ⟨rfl, Nat.le_refl _, Nat.zero_le _, .inr ⟨w.heap.size, 0, rfl, by simp, fun i z hi => by simp at hi, fun j hj => by omega⟩⟩
def CloneP (w : World) (n : Nat) (bs : List UInt8) (e : Ending) (w' : World) : Prop := ∃ A' c', e = .returned (.slice A' n c') ∧ RowAt w' A' n c' bs ∧ (∀ j, InB A' j → w.heap.size ≤ j) ∧ Below w.heap.size w w'
set_option maxHeartbeats 1000000 in
set_option maxRecDepth 100000 in
theorem clone_row {w : World} {A : Option Addr} {n : Nat} {bs : List UInt8} (c : Nat) (h : BytesAt w A n bs) (hl : n ≤ 140737488355328) : Calls Try.prog 75 #[.slice A n c] w (CloneP w n bs) := by
  obtain rfl := h.1
  cases A with
  | none =>
    obtain rfl : bs = [] := List.eq_nil_of_length_eq_zero (by
      rcases Nat.eq_zero_or_pos bs.length with h0 | h0
      · exact h0
      · obtain ⟨b, o, e, _⟩ := h.2 h0; cases e)
    show Calls Try.prog 75 #[.slice none 0 c] w (CloneP w 0 [])
    have hny := cl_yes w 0 c
    go_enter Try.func75, Try.ntmps75
    go_wp2
    go_ret
    exact ⟨none, 0, rfl, RowAt.nil _, (fun j hj => by obtain ⟨o, e⟩ := hj; cases e), Below.refl _ _⟩
  | some ad =>
    obtain ⟨n, hn⟩ : ∃ n, n = bs.length := ⟨_, rfl⟩
    rw [← hn] at h hl ⊢
    have hb1 : BytesAt (w.alloc (.cells #[] 5)) (some ad) n bs := h.up (fun b hb => Below.heap_alloc w _ b hb) (by simp)
    obtain ⟨A', c', w1, hrun, hr, hk, hin⟩ := row_append (d := c) 52 (row_empty w) hb1 (by omega)
    rw [Nat.zero_add] at hrun hr
    have HRUN := Lib.hid hrun
    have hfar : ∀ j, InB A' j → w.heap.size ≤ j := fun j hj => by
      rcases hin j hj with ⟨o, e⟩ | h2
      · injection e with e; injection e with e _ _; omega
      · simp at h2; omega
    have HR := Lib.hid (show CloneP w n bs (.returned (.slice A' n c')) w1 from ⟨A', c', rfl, hr, hfar, ((kept_below ((Below.refl w.heap.size w).alloc (Nat.le_refl _) _)).trans hk (fun j ⟨o, e⟩ => by
      right; injection e with e; injection e with e _ _; omega) : Kept (fun _ => False) w w1).below (Nat.le_refl _) (fun j hj => False.elim hj)⟩)
    clear hrun hr hk hin hfar hb1 h hn
    have hnn := cl_no w ad n c
    go_enter Try.func75, Try.ntmps75
    go_wp2_with (at_builtin; refine wpList_append_run rfl (.tmp 5) (.tmp 6) 52 rfl _ _ _ rfl rfl HRUN.out ?_)
    go_ret
    exact HR.out
section
variable {w w' : World} {bp : Nat} {A B : Option Addr} {c m d most : Nat} {bs xs : List UInt8} {gone : Int}
set_option maxRecDepth 100000 in
theorem bbytes_any (h : BufAt w bp A c bs most gone) : Calls Try.prog 46 #[.pointer (some ⟨bp, 0, none⟩)] w (CloneP w bs.length bs) := by
  have C := Lib.hid (clone_row c h.row.bytes (by have := h.fit; have := h.most2; omega))
  obtain ⟨c0, c1, c2, f0, f1, f2⟩ := blk3 h.top
  obtain ⟨n, hn⟩ : ∃ n, n = bs.length := ⟨_, rfl⟩
  rw [← hn] at C c0 ⊢
  clear h hn
  go_enter Try.func46, Try.ntmps46
  go_wp2_with fail
  refine C.out.mono ?_
  rintro e w1 ⟨A', c', rfl, hr, hf, hb⟩
  have H := Lib.hid (show CloneP w n bs (.returned (.slice A' n c')) w1 from ⟨A', c', rfl, hr, hf, hb⟩)
  clear hr hf hb C
  go_wp2
  go_ret
  exact H.out
theorem behind_zero (A : Option Addr) (c : Nat) : behind A c 0 = A := by
  unfold behind
  split
  · rfl
  · cases A with
    | none => rfl
    | some a => simp [Addr.add]
/-- How many are taken. -/
def takeN (k : Int) (n : Nat) : Nat := (min (max k 0) (n : Int)).toNat
theorem takeN_le (k : Int) (n : Nat) : takeN k n ≤ n := by unfold takeN; omega
def TakeP (w : World) (bp : Nat) (A : Option Addr) (bs : List UInt8) (most : Nat) (gone : Int) (t : Nat) (e : Ending) (w' : World) : Prop := ∃ A2 c2 A' c', e = .returned (.slice A2 t c2) ∧ RowAt w' A2 t c2 (bs.take t) ∧ BufAt w' bp A' c' (bs.drop t) most gone ∧ Kept (bufF bp A) w w' ∧ (∀ j, InB A' j → InB A j) ∧ ∀ j, InB A2 j → w.heap.size ≤ j
set_option maxHeartbeats 2000000 in
set_option maxRecDepth 100000 in
theorem btake_any (h : BufAt w bp A c bs most gone) (k : Int) : Calls Try.prog 105 #[.pointer (some ⟨bp, 0, none⟩), .int .i64 k] w (TakeP w bp A bs most gone (takeN k bs.length)) := by
  obtain ⟨n, hn⟩ : ∃ n, n = bs.length := ⟨_, rfl⟩
  obtain ⟨t, ht⟩ : ∃ t, t = takeN k n := ⟨_, rfl⟩
  have htn : t ≤ n := ht ▸ takeN_le k n
  rw [← hn, ← ht]
  have hfit := h.fit
  have hm1 := h.most1
  have hm2 := h.most2
  have hap := h.apart
  have htop := h.top
  have hrow := h.row
  have hle := hrow.le
  have hmx := hrow.max
  unfold maxLen at hmx
  rw [← hn] at htop hrow hle hfit
  have C := Lib.hid (clone_row (w := w) c (hrow.bytes.cut htn) (by omega))
  obtain ⟨c0, c1, c2, f0, f1, f2⟩ := blk3 htop
  have HTOP := Lib.hid htop
  have HROW := Lib.hid hrow
  have HAP := Lib.hid hap
  have HN := Lib.hid hn
  obtain ⟨A1, hA1⟩ : ∃ A1, A1 = behind A c t := ⟨_, rfl⟩
  have hrd := hrow.drop htn
  rw [← hA1] at hrd
  have HRD := Lib.hid hrd
  have hA2 : (if c = t then A else Option.map (fun x => x.add t) A) = A1 := hA1.symm
  have HIN := Lib.hid (fun (j : Nat) (hj : InB A1 j) => show InB A j from hrow.behind_in (hA1 ▸ hj))
  have htc : t ≤ c := by omega
  have hways : (k < 0 ∧ t = 0) ∨ ∃ kk : Nat, k = (kk : Int) ∧ t = min kk n := by
    unfold takeN at ht
    rcases Int.lt_or_le k 0 with h0 | h0
    · exact .inl ⟨h0, by omega⟩
    · exact .inr ⟨k.toNat, by omega, by omega⟩
  clear h htop hrow hap hn ht hA1 hrd
  have fin : ∀ (w1 : World) (A2 : Option Addr) (c2 : Nat), RowAt w1 A2 t c2 (bs.take t) → (∀ j, InB A2 j → w.heap.size ≤ j) → Below w.heap.size w w1 → TakeP w bp A bs most gone t (.returned (.slice A2 t c2)) (w1.setCell ⟨bp, 0, none⟩ (.slice A1 (n - t) (c - t))) := by
    intro w1 A2 c2 hr hf hb
    have hlt := HTOP.out.lt
    have hl : (bs.drop t).length = n - t := by rw [List.length_drop, ← HN.out]
    have hn1 : ¬ InB A1 bp := fun h => HAP.out (HIN.out bp h)
    refine ⟨A2, c2, A1, c - t, rfl, hr.set_ (p := ⟨bp, 0, none⟩) (fun h => by have := hf bp h; omega) _, ⟨?_, ?_, by rw [hl]; omega, hm1, hm2, hn1⟩, ((kept_below (X := fun _ => False) hb).mono (fun j _ hx => False.elim hx)).set_ (p := ⟨bp, 0, none⟩) (.inl (.inl rfl)) _, HIN.out, hf⟩
    · rw [hl]
      exact ((HTOP.out.below hb hlt).set_ 0 _ : Blk _ _ _ _)
    · rw [hl]
      exact (HRD.out.below hb).set_ (p := ⟨bp, 0, none⟩) hn1 _
  have FIN := Lib.hid fin
  clear fin
  rcases hways with ⟨hk, rfl⟩ | ⟨kk, rfl, hkt⟩
  · have e : A1 = A := hA2.symm.trans (behind_zero A c)
    rw [e, Nat.sub_zero, Nat.sub_zero] at FIN
    clear hA2 HRD HIN e
    go_enter Try.func105, Try.ntmps105
    go_wp2_with fail
    refine C.out.mono ?_
    rintro e w1 ⟨A', c', rfl, hr, hf, hb⟩
    have H := Lib.hid (FIN.out w1 A' c' hr hf hb)
    have hlt := HTOP.out.lt
    have T1 := HTOP.out.below hb hlt
    obtain ⟨d0, d1, d2, k0, k1, k2⟩ := blk3 T1
    clear hr hf hb C c0 c1 c2 f0 f1 f2 T1 hlt
    go_wp2
    go_ret
    exact H.out
  · have q1 : (if n < kk then (n : Int) else (kk : Int)) = (t : Int) := by split <;> omega
    clear hkt
    go_enter Try.func105, Try.ntmps105
    go_wp2_with fail
    refine C.out.mono ?_
    rintro e w1 ⟨A', c', rfl, hr, hf, hb⟩
    have H := Lib.hid (FIN.out w1 A' c' hr hf hb)
    have hlt := HTOP.out.lt
    have T1 := HTOP.out.below hb hlt
    obtain ⟨d0, d1, d2, k0, k1, k2⟩ := blk3 T1
    clear hr hf hb C c0 c1 c2 f0 f1 f2 T1 hlt q1
    go_wp2
    go_ret
    exact H.out
end
end Go.Proofs.Ytgcbcdbfeaepkaa
namespace Go.Proofs.Ytgcbcdbfeaepkaa
open Go.RowKit Go.Maps

/-- A buffer whose blocks are among X, all made since w0. -/
structure BS (w0 w : World) (bp : Nat) (X : Nat → Prop) (bs : List UInt8) (most : Nat) (gone : Int) : Prop where
  at_ : ∃ A c, BufAt w bp A c bs most gone ∧ ∀ j, bufF bp A j → X j
  inn : ∀ j, X j → j < w.heap.size ∧ w0.heap.size ≤ j
  old : Below w0.heap.size w0 w
/-- What a call leaves that turns the buffer. -/
def Aft (w0 w : World) (bp : Nat) (X : Nat → Prop) (bs : List UInt8) (most : Nat) (gone : Int) (w' : World) : Prop := ∃ X', BS w0 w' bp X' bs most gone ∧ Kept X w w' ∧ ∀ j, X' j → X j ∨ w.heap.size ≤ j
section
variable {w0 w w' : World} {bp : Nat} {A B : Option Addr} {X Y : Nat → Prop} {m d most : Nat} {bs xs : List UInt8} {gone : Int}
theorem old_kept (h : Below w0.heap.size w0 w) (hk : Kept Y w w') (hY : ∀ j, Y j → w0.heap.size ≤ j) : Below w0.heap.size w0 w' := h.trans (hk.below h.size hY)
theorem BS.kept (h : BS w0 w bp X bs most gone) (hk : Kept Y w w') (hX : ∀ j, X j → ¬ Y j) (hY : ∀ j, Y j → w0.heap.size ≤ j) : BS w0 w' bp X bs most gone :=
  ⟨by obtain ⟨A, c, h1, h2⟩ := h.at_; exact ⟨A, c, h1.kept hk (fun b hb => hX b (h2 b hb)), h2⟩, fun j hj => ⟨Nat.lt_of_lt_of_le (h.inn j hj).1 hk.size, (h.inn j hj).2⟩, old_kept h.old hk hY⟩
theorem BS.below (h : BS w0 w bp X bs most gone) (hb : Below w.heap.size w w') : BS w0 w' bp X bs most gone := h.kept (kept_below (X := fun _ => False) hb) (fun _ _ h => h) (fun _ h => False.elim h)
theorem BS.own (h : BS w0 w bp X bs most gone) : ∀ j, X j → w0.heap.size ≤ j := fun j hj => (h.inn j hj).2
theorem BS.lt (h : BS w0 w bp X bs most gone) : bp < w.heap.size := by
  obtain ⟨A, c, h1, h2⟩ := h.at_
  exact (h.inn bp (h2 bp (.inl rfl))).1
theorem BS.size (h : BS w0 w bp X bs most gone) : bs.length ≤ most ∧ 1 ≤ most ∧ most ≤ 2000 := by
  obtain ⟨A, c, h1, h2⟩ := h.at_
  exact ⟨h1.fit, h1.most1, h1.most2⟩
theorem bs_new (k : Int) (w : World) (hw : Below w0.heap.size w0 w) : Calls Try.prog 42 #[.int .i64 k] w fun e w' => e = .returned (.pointer (some ⟨w.heap.size, 0, none⟩)) ∧ BS w0 w' w.heap.size (fun j => j = w.heap.size) [] (mostOf k) 0 ∧ Below w.heap.size w w' ∧ w'.heap.size = w.heap.size + 1 :=
  (bnew_any k w).mono fun e w' ⟨he, hb, hbl, hs⟩ => ⟨he, ⟨⟨none, 0, hb, fun j hj => by
    rcases hj with rfl | ⟨o, e⟩
    · rfl
    · cases e⟩, fun j hj => ⟨by rw [hj, hs]; omega, by rw [hj]; exact hw.size⟩, hw.trans (hbl.mono hw.size)⟩, hbl, hs⟩
theorem BS.put (h : BS w0 w bp X bs most gone) (hx : BytesAt w B m xs) (hd : m ≤ d) (hdm : d ≤ maxLen) (hm : m ≤ 1000000000) (hg0 : 0 ≤ gone) (hg1 : gone ≤ 1000000000000) :
    Calls Try.prog 79 #[.pointer (some ⟨bp, 0, none⟩), .slice B m d] w fun e w' => e = .returned (.int .i64 (goneBy bs xs most : Nat)) ∧ Aft w0 w bp X ((bs ++ xs).drop (goneBy bs xs most)) most (gone + (goneBy bs xs most : Nat)) w' := by
  obtain ⟨A, c, h1, h2⟩ := h.at_
  refine (bput_any h1 hx hd hdm hm hg0 hg1).mono ?_
  rintro e w' ⟨he, A', c', h3, hk, hin⟩
  have hlt := h1.lt (.inl rfl)
  refine ⟨he, fun j => X j ∨ (bufF bp A' j ∧ w.heap.size ≤ j), ⟨⟨A', c', h3, fun j hj => ?_⟩, fun j hj => ?_, old_kept h.old hk (fun j hj => h.own j (h2 j hj))⟩, hk.mono (fun j _ hj => h2 j hj), fun j hj => ?_⟩
  · rcases hj with rfl | hj
    · exact .inl (h2 j (.inl rfl))
    · rcases hin j hj with h4 | h4
      · exact .inl (h2 j (.inr h4))
      · exact .inr ⟨.inr hj, h4⟩
  · rcases hj with hj | ⟨hj, hl⟩
    · exact ⟨Nat.lt_of_lt_of_le (h.inn j hj).1 hk.size, (h.inn j hj).2⟩
    · have := (h.inn bp (h2 bp (.inl rfl)))
      exact ⟨h3.lt hj, by omega⟩
  · rcases hj with hj | ⟨_, hl⟩
    · exact .inl hj
    · exact .inr hl
def TakeQ (w0 w : World) (bp : Nat) (X : Nat → Prop) (bs : List UInt8) (most : Nat) (gone : Int) (t : Nat) (e : Ending) (w' : World) : Prop := ∃ A2 c2, e = .returned (.slice A2 t c2) ∧ RowAt w' A2 t c2 (bs.take t) ∧ BS w0 w' bp X (bs.drop t) most gone ∧ Kept X w w' ∧ ∀ j, InB A2 j → w.heap.size ≤ j
theorem BS.take (h : BS w0 w bp X bs most gone) (k : Int) : Calls Try.prog 105 #[.pointer (some ⟨bp, 0, none⟩), .int .i64 k] w (TakeQ w0 w bp X bs most gone (takeN k bs.length)) := by
  obtain ⟨A, c, h1, h2⟩ := h.at_
  refine (btake_any h1 k).mono ?_
  rintro e w' ⟨A2, c2, A', c', he, hr, h3, hk, hin, hf⟩
  refine ⟨A2, c2, he, hr, ⟨⟨A', c', h3, fun j hj => ?_⟩, fun j hj => ⟨Nat.lt_of_lt_of_le (h.inn j hj).1 hk.size, (h.inn j hj).2⟩, old_kept h.old hk (fun j hj => h.own j (h2 j hj))⟩, hk.mono (fun j _ hj => h2 j hj), hf⟩
  rcases hj with rfl | hj
  · exact h2 j (.inl rfl)
  · exact h2 j (.inr (hin j hj))
theorem BS.bytes (h : BS w0 w bp X bs most gone) : Calls Try.prog 46 #[.pointer (some ⟨bp, 0, none⟩)] w (CloneP w bs.length bs) := by
  obtain ⟨A, c, h1, h2⟩ := h.at_
  exact bbytes_any h1
theorem BS.full (h : BS w0 w bp X bs most gone) : Calls Try.prog 107 #[.pointer (some ⟨bp, 0, none⟩)] w fun e w' => e = .returned (.bool (decide (bs.length = most))) ∧ Below w.heap.size w w' := by
  obtain ⟨A, c, h1, h2⟩ := h.at_
  exact (bfull_any h1).mono fun e w' ⟨he, k, hw⟩ => ⟨he, hw ▸ ⟨rfl, rfl, rfl, Nat.le_refl _, fun _ _ => rfl⟩⟩
end
end Go.Proofs.Ytgcbcdbfeaepkaa
namespace Go.Proofs.Ytgcbcdbfeaepkaa
open Go.RowKit Go.Maps

/-- A chunk: its ticks; where its bytes lie, and what they are. -/
structure Ck where
  wait : Int
  A : Option Addr
  m : Nat
  d : Nat
  bs : List UInt8
  deriving Inhabited
/-- Ticks within their bounds. -/
def tk (n : Int) : Int := min (max n 0) 1000000
theorem tk_bd (n : Int) : 0 ≤ tk n ∧ tk n ≤ 1000000 := by unfold tk; omega
def ChAt (w : World) (A : Option Addr) (n c : Nat) (cks : List Ck) : Prop :=
  cks.length = n ∧ n ≤ c ∧ c ≤ maxLen ∧ (∀ k ∈ cks, BytesAt w k.A k.m k.bs ∧ k.m ≤ k.d ∧ k.d ≤ maxLen) ∧ (0 < n → ∃ b o, A = some ⟨b, o, none⟩ ∧ b < w.heap.size ∧ ∀ i k, cks[i]? = some k → w.cell? ⟨b, o + i * 2, none⟩ = some (.int .i64 k.wait) ∧ w.cell? ⟨b, o + i * 2 + 1, none⟩ = some (.slice k.A k.m k.d) ∧ w.frozen? ⟨b, o + i * 2 + 1, none⟩ = false)
structure LineAt (w : World) (lp : Nat) (A : Option Addr) (n c : Nat) (cks : List Ck) (fin wait last now : Int) (SA : Option Addr) (sn sc : Nat) (sent : List UInt8) : Prop where
  top : Blk w lp 158 #[.slice A n c, .int .i64 fin, .int .i64 wait, .int .i64 last, .int .i64 now, .slice SA sn sc]
  ch : ChAt w A n c cks
  row : RowAt w SA sn sc sent
  a1 : ¬ InB A lp ∧ ¬ InB SA lp ∧ ∀ j, InB A j → ¬ InB SA j
  a2 : ∀ k ∈ cks, ∀ j, InB k.A j → j ≠ lp ∧ ¬ InB A j ∧ ¬ InB SA j
theorem blk6 {w : World} {g : Nat} {t : TypeId} {a b c d e f : Value} (h : Blk w g t #[a, b, c, d, e, f]) : (w.cell? ⟨g, 0, none⟩ = some a ∧ w.cell? ⟨g, 1, none⟩ = some b ∧ w.cell? ⟨g, 2, none⟩ = some c ∧ w.cell? ⟨g, 3, none⟩ = some d ∧ w.cell? ⟨g, 4, none⟩ = some e ∧ w.cell? ⟨g, 5, none⟩ = some f) ∧ w.frozen? ⟨g, 0, none⟩ = false ∧ w.frozen? ⟨g, 3, none⟩ = false ∧ w.frozen? ⟨g, 4, none⟩ = false ∧ w.frozen? ⟨g, 5, none⟩ = false :=
  ⟨⟨h.cell 0, h.cell 1, h.cell 2, h.cell 3, h.cell 4, h.cell 5⟩, h.frozen 0, h.frozen 3, h.frozen 4, h.frozen 5⟩
def comK (cks : List Ck) (fin : Int) : Int := match cks with | _ :: _ => 1 | [] => if fin = 1 then 2 else if fin = 2 then 3 else 4
def comD (cks : List Ck) (fin wait last : Int) : Int := match cks with | k :: _ => last + tk k.wait | [] => if fin = 1 then last + tk wait else if fin = 2 then last + tk wait else 0
set_option maxRecDepth 100000 in
theorem ticks_any (n : Int) (w : World) : Calls Try.prog 130 #[.int .i64 n] w fun e w' => e = .returned (.int .i64 (tk n)) ∧ w' = w := by
  have key : (n < 0 ∧ tk n = 0) ∨ (¬ n < 0 ∧ 1000000 < n ∧ tk n = 1000000) ∨ (¬ n < 0 ∧ ¬ 1000000 < n ∧ tk n = n) := by unfold tk; omega
  rcases key with ⟨h1, h2⟩ | ⟨h1, h2, h3⟩ | ⟨h1, h2, h3⟩
  · rw [h2]
    clear h2
    go_enter Try.func130, Try.ntmps130
    go_wp2
    go_ret
    exact ⟨rfl, rfl⟩
  · rw [h3]
    clear h3
    go_enter Try.func130, Try.ntmps130
    go_wp2
    go_ret
    exact ⟨rfl, rfl⟩
  · rw [h3]
    clear h3
    go_enter Try.func130, Try.ntmps130
    go_wp2
    all_goals
      go_ret
      first | exact ⟨rfl, rfl⟩ | (exfalso; omega) | exact ⟨by congr 2; omega, rfl⟩
section
variable {w w' : World} {lp : Nat} {A SA : Option Addr} {n c sn sc : Nat} {cks : List Ck} {fin wait last now : Int} {sent : List UInt8}
def ComP (w : World) (k d : Int) (e : Ending) (w' : World) : Prop := e = .returned (.tuple #[.int .i64 k, .int .i64 d]) ∧ ∃ q, w' = w.drewN q
set_option maxHeartbeats 1000000 in
set_option maxRecDepth 100000 in
theorem coming_any (h : LineAt w lp A n c cks fin wait last now SA sn sc sent) (hl0 : 0 ≤ last) (hl1 : last ≤ 4611686018427387904) : Calls Try.prog 108 #[.pointer (some ⟨lp, 0, none⟩)] w (ComP w (comK cks fin) (comD cks fin wait last)) := by
  obtain ⟨⟨c0, c1, c2, c3, c4, c5⟩, -⟩ := blk6 h.top
  obtain ⟨hcl, hnc, hcm, -, hch⟩ := h.ch
  have T := Lib.hid (fun n w => ticks_any n w)
  unfold maxLen at hcm
  clear h
  cases cks with
  | cons k0 rest =>
    have hn : 1 ≤ n := by simp at hcl; omega
    obtain ⟨b, o, rfl, hb, hcs⟩ := hch (by omega)
    obtain ⟨y0, y1, -⟩ := hcs 0 k0 rfl
    have hn' : (0 : Int) < (n : Int) := by omega
    have hb2 := tk_bd k0.wait
    obtain ⟨t, ht⟩ : ∃ t, t = tk k0.wait := ⟨_, rfl⟩
    have T0 := Lib.hid (fun w => ticks_any k0.wait w)
    have hD : comD (k0 :: rest) fin wait last = last + tk k0.wait := rfl
    have hK : comK (k0 :: rest) fin = 1 := rfl
    rw [hD, hK]
    rw [← ht] at hb2 T0 ⊢
    have q : IntKind.i64.wrap (last + t) = last + t := IntWalk.i64_in _ (by omega)
    rw [Nat.zero_mul, Nat.add_zero] at y0 y1
    clear hch hcs hcl ht hD hK
    go_enter Try.func108, Try.ntmps108
    go_wp2_with fail
    go_quiet ((go_at_call 130; exact Calls.quiet_of_same (T0.out _)))
    go_wp2
    go_ret2
    exact ⟨rfl, _, rfl⟩
  | nil =>
    obtain rfl : n = 0 := by simpa using hcl.symm
    have hb2 := tk_bd wait
    obtain ⟨t, ht⟩ : ∃ t, t = tk wait := ⟨_, rfl⟩
    have T0 := Lib.hid (fun w => ticks_any wait w)
    rw [← ht] at hb2 T0
    have q : IntKind.i64.wrap (last + t) = last + t := IntWalk.i64_in _ (by omega)
    by_cases h1 : fin = 1
    · subst h1
      have hD : comD [] 1 wait last = last + t := by rw [ht]; rfl
      have hK : comK [] 1 = 2 := rfl
      rw [hD, hK]
      clear hch hcl ht hD hK
      go_enter Try.func108, Try.ntmps108
      go_wp2_with fail
      go_quiet ((go_at_call 130; exact Calls.quiet_of_same (T0.out _)))
      go_wp2
      go_ret2
      exact ⟨rfl, _, rfl⟩
    · by_cases h2 : fin = 2
      · subst h2
        have hD : comD [] 2 wait last = last + t := by rw [ht]; rfl
        have hK : comK [] 2 = 3 := rfl
        rw [hD, hK]
        clear hch hcl ht hD hK
        go_enter Try.func108, Try.ntmps108
        go_wp2_with fail
        go_quiet ((go_at_call 130; exact Calls.quiet_of_same (T0.out _)))
        go_wp2
        go_ret2
        exact ⟨rfl, _, rfl⟩
      · have hD : comD [] fin wait last = 0 := by unfold comD; rw [if_neg h1, if_neg h2]
        have hK : comK [] fin = 4 := by unfold comK; rw [if_neg h1, if_neg h2]
        have h1b : (fin == 1) = false := by rw [beq_eq_false_iff_ne]; exact h1
        have h2b : (fin == 2) = false := by rw [beq_eq_false_iff_ne]; exact h2
        rw [hD, hK]
        clear hch hcl ht hD hK h1 h2
        go_enter Try.func108, Try.ntmps108
        go_wp2_with fail
        go_ret2
        exact ⟨rfl, 0, rfl⟩
def ShiftP (w : World) (lp : Nat) (A : Option Addr) (n c : Nat) (k0 : Ck) (rest : List Ck) (fin wait last now : Int) (SA : Option Addr) (sn sc : Nat) (sent : List UInt8) (e : Ending) (w' : World) : Prop := ∃ A', e = .returned (.slice k0.A k0.m k0.d) ∧ LineAt w' lp A' (n - 1) (c - 1) rest fin wait last now SA sn sc sent ∧ (∀ j, InB A' j → InB A j) ∧ Kept (fun j => j = lp ∨ InB A j) w w'
set_option maxHeartbeats 1000000 in
set_option maxRecDepth 100000 in
theorem shift_any {k0 : Ck} {rest : List Ck} (h : LineAt w lp A n c (k0 :: rest) fin wait last now SA sn sc sent) : Calls Try.prog 109 #[.pointer (some ⟨lp, 0, none⟩)] w (ShiftP w lp A n c k0 rest fin wait last now SA sn sc sent) := by
  obtain ⟨⟨c0, c1, c2, c3, c4, c5⟩, f0, f3, f4, f5⟩ := blk6 h.top
  obtain ⟨hcl, hnc, hcm, hby, hch⟩ := h.ch
  have hn : 1 ≤ n := by simp at hcl; omega
  obtain ⟨b, o, rfl, hb, hcs⟩ := hch (by omega)
  obtain ⟨y0, y1, y2⟩ := hcs 0 k0 rfl
  rw [Nat.zero_mul, Nat.add_zero] at y0 y1 y2
  have hblp : b ≠ lp := fun e => h.a1.1 ⟨o, by rw [e]⟩
  have HH := Lib.hid h
  have HCS := Lib.hid hcs
  have HCL := Lib.hid hcl
  have HBY := Lib.hid hby
  have HBL := Lib.hid hblp
  have T1 := (HH.out.top.far (p := ⟨b, o + 1, none⟩) (fun e => hblp e.symm) (.slice none 0 0))
  obtain ⟨⟨g0, g1, g2, g3, g4, g5⟩, e0, e3, e4, e5⟩ := blk6 T1
  unfold maxLen at hcm
  obtain ⟨A', hA'⟩ : ∃ A', (if c = 1 then some (⟨b, o, none⟩ : Addr) else some ⟨b, o + 2, none⟩) = A' := ⟨_, rfl⟩
  have FIN := Lib.hid (show ShiftP w lp (some ⟨b, o, none⟩) n c k0 rest fin wait last now SA sn sc sent (.returned (.slice k0.A k0.m k0.d)) ((w.setCell ⟨b, o + 1, none⟩ (.slice none 0 0)).setCell ⟨lp, 0, none⟩ (.slice A' (n - 1) (c - 1))) from by
    have hAin : ∀ j, InB A' j → InB (some (⟨b, o, none⟩ : Addr)) j := fun j hj => by
      obtain ⟨o2, e⟩ := hj
      rw [← hA'] at e
      split at e <;> (injection e with e; injection e with e _ _; exact ⟨o, by rw [e]⟩)
    have hk : Kept (fun j => j = lp ∨ InB (some (⟨b, o, none⟩ : Addr)) j) w ((w.setCell ⟨b, o + 1, none⟩ (.slice none 0 0)).setCell ⟨lp, 0, none⟩ (.slice A' (n - 1) (c - 1))) :=
      ((Kept.refl _ w).set_ (p := ⟨b, o + 1, none⟩) (.inl (.inr ⟨o, rfl⟩)) _).set_ (p := ⟨lp, 0, none⟩) (.inl (.inl rfl)) _
    refine ⟨A', rfl, ⟨((T1.set_ 0 _ : Blk _ _ _ _)), ⟨by rw [List.length_cons] at hcl; omega, by omega, by unfold maxLen; omega, fun k hk2 => ⟨(hby k (List.mem_cons_of_mem _ hk2)).1.kept hk (fun b2 o2 e2 hx => ?_), (hby k (List.mem_cons_of_mem _ hk2)).2⟩, fun hn2 => ⟨b, o + 2, ?_, by simpa [World.setCell] using hb, fun i k hi => ?_⟩⟩, h.row.kept hk (fun j hj hx => ?_), ⟨fun hx => h.a1.1 (hAin _ hx), h.a1.2.1, fun j hj => h.a1.2.2 j (hAin j hj)⟩, fun k hk2 j hj => ?_⟩, hAin, hk⟩
    · have := h.a2 k (List.mem_cons_of_mem _ hk2) b2 ⟨o2, e2⟩
      rcases hx with hx | hx
      · exact this.1 hx
      · exact this.2.1 hx
    · rw [← hA', if_neg (by omega)]
    · have hl := (List.getElem?_eq_some_iff.1 hi).1
      obtain ⟨z0, z1, z2⟩ := hcs (i + 1) k (by rw [List.getElem?_cons_succ]; exact hi)
      have off : ∀ x, x ≠ o + 1 → ((w.setCell ⟨b, o + 1, none⟩ (.slice none 0 0)).setCell ⟨lp, 0, none⟩ (.slice A' (n - 1) (c - 1))).cell? ⟨b, x, none⟩ = w.cell? ⟨b, x, none⟩ := fun x hx => by
        rw [World.cell?_setCell_far _ _ _ _ (fun e => hblp e.symm)]
        apply World.cell?_setCell_other
        intro e
        injection e with _ e _
        exact hx e.symm
      refine ⟨?_, ?_, ?_⟩
      · rw [off _ (by omega), show o + 2 + i * 2 = o + (i + 1) * 2 by omega]; exact z0
      · rw [off _ (by omega), show o + 2 + i * 2 + 1 = o + (i + 1) * 2 + 1 by omega]; exact z1
      · rw [World.frozen?_setCell, World.frozen?_setCell, show o + 2 + i * 2 + 1 = o + (i + 1) * 2 + 1 by omega]; exact z2
    · rcases hx with hx | hx
      · exact h.a1.2.1 (hx ▸ hj)
      · exact h.a1.2.2 j hx hj
    · have := h.a2 k (List.mem_cons_of_mem _ hk2) j hj
      exact ⟨this.1, fun hx => this.2.1 (hAin j hx), this.2.2⟩)
  have hn' : (1 : Int) ≤ (n : Int) := by omega
  have hnc' : (n : Int) ≤ (c : Int) := by omega
  clear h T1 hcs hch hcl hby HH hblp
  have hb1 : ¬ b = lp := HBL.out
  have hb2 : ¬ lp = b := fun e => HBL.out e.symm
  go_enter Try.func109, Try.ntmps109
  go_wp2_with fail
  trace_state
  go_ret
  exact FIN.out
end
end Go.Proofs.Ytgcbcdbfeaepkaa
