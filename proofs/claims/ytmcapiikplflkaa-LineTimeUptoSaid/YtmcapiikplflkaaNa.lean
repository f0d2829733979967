/- A session in memory: ticks, coming, shift. -/
import Derived.Test.YtmcapiikplflkaaBg
namespace Go.Proofs.Ytmcapiikplflkaa
open Go.RowKit Go.Maps

/-- A chunk: its ticks; where its bytes lie, and what they are. -/
structure Ck where
  wait : Int
  A : Option Addr
  m : Nat
  d : Nat
  bs : List UInt8
  deriving Inhabited
/-- Ticks within their bounds. -/
def tk (n : Int) : Int := min (max n 0) 1000000
theorem tk_bd (n : Int) : 0 ≤ tk n ∧ tk n ≤ 1000000 := by unfold tk; omega
def ChAt (w : World) (A : Option Addr) (n c : Nat) (cks : List Ck) : Prop :=
  cks.length = n ∧ n ≤ c ∧ c ≤ maxLen ∧ (∀ k ∈ cks, BytesAt w k.A k.m k.bs) ∧ (0 < n → ∃ b o, A = some ⟨b, o, none⟩ ∧ b < w.heap.size ∧ ∀ i k, cks[i]? = some k → w.cell? ⟨b, o + i * 2, none⟩ = some (.int .i64 k.wait) ∧ w.cell? ⟨b, o + i * 2 + 1, none⟩ = some (.slice k.A k.m k.d) ∧ w.frozen? ⟨b, o + i * 2 + 1, none⟩ = false)
structure LineAt (w : World) (lp : Nat) (A : Option Addr) (n c : Nat) (cks : List Ck) (fin wait last now : Int) (SA : Option Addr) (sn sc : Nat) (sent : List UInt8) : Prop where
  top : Blk w lp 129 #[.slice A n c, .int .i64 fin, .int .i64 wait, .int .i64 last, .int .i64 now, .slice SA sn sc]
  ch : ChAt w A n c cks
  row : RowAt w SA sn sc sent
  a1 : ¬ InB A lp ∧ ¬ InB SA lp ∧ ∀ j, InB A j → ¬ InB SA j
  a2 : ∀ k ∈ cks, ∀ j, InB k.A j → j ≠ lp ∧ ¬ InB A j ∧ ¬ InB SA j
theorem blk6 {w : World} {g : Nat} {t : TypeId} {a b c d e f : Value} (h : Blk w g t #[a, b, c, d, e, f]) : (w.cell? ⟨g, 0, none⟩ = some a ∧ w.cell? ⟨g, 1, none⟩ = some b ∧ w.cell? ⟨g, 2, none⟩ = some c ∧ w.cell? ⟨g, 3, none⟩ = some d ∧ w.cell? ⟨g, 4, none⟩ = some e ∧ w.cell? ⟨g, 5, none⟩ = some f) ∧ w.frozen? ⟨g, 0, none⟩ = false ∧ w.frozen? ⟨g, 3, none⟩ = false ∧ w.frozen? ⟨g, 4, none⟩ = false ∧ w.frozen? ⟨g, 5, none⟩ = false :=
  ⟨⟨h.cell 0, h.cell 1, h.cell 2, h.cell 3, h.cell 4, h.cell 5⟩, h.frozen 0, h.frozen 3, h.frozen 4, h.frozen 5⟩
def comK (cks : List Ck) (fin : Int) : Int := match cks with | _ :: _ => 1 | [] => if fin = 1 then 2 else if fin = 2 then 3 else 4
def comD (cks : List Ck) (fin wait last : Int) : Int := match cks with | k :: _ => last + tk k.wait | [] => if fin = 1 then last + tk wait else if fin = 2 then last + tk wait else 0
set_option maxRecDepth 100000 in
theorem ticks_any (n : Int) (w : World) : Calls Try.prog 90 #[.int .i64 n] w fun e w' => e = .returned (.int .i64 (tk n)) ∧ w' = w := by
  have key : (n < 0 ∧ tk n = 0) ∨ (¬ n < 0 ∧ 1000000 < n ∧ tk n = 1000000) ∨ (¬ n < 0 ∧ ¬ 1000000 < n ∧ tk n = n) := by unfold tk; omega
  rcases key with ⟨h1, h2⟩ | ⟨h1, h2, h3⟩ | ⟨h1, h2, h3⟩
  · rw [h2]
    clear h2
    go_enter Try.func90, Try.ntmps90
    go_wp2
    go_ret
    exact ⟨rfl, rfl⟩
  · rw [h3]
    clear h3
    go_enter Try.func90, Try.ntmps90
    go_wp2
    go_ret
    exact ⟨rfl, rfl⟩
  · rw [h3]
    clear h3
    go_enter Try.func90, Try.ntmps90
    go_wp2
    all_goals
      go_ret
      first | exact ⟨rfl, rfl⟩ | (exfalso; omega) | exact ⟨by congr 2; omega, rfl⟩
section
variable {w w' : World} {lp : Nat} {A SA : Option Addr} {n c sn sc : Nat} {cks : List Ck} {fin wait last now : Int} {sent : List UInt8}
def ComP (w : World) (k d : Int) (e : Ending) (w' : World) : Prop := e = .returned (.tuple #[.int .i64 k, .int .i64 d]) ∧ ∃ q, w' = w.drewN q
set_option maxHeartbeats 1000000 in
set_option maxRecDepth 100000 in
theorem coming_any (h : LineAt w lp A n c cks fin wait last now SA sn sc sent) (hl0 : 0 ≤ last) (hl1 : last ≤ 4611686018427387904) : Calls Try.prog 75 #[.pointer (some ⟨lp, 0, none⟩)] w (ComP w (comK cks fin) (comD cks fin wait last)) := by
  obtain ⟨⟨c0, c1, c2, c3, c4, c5⟩, -⟩ := blk6 h.top
  obtain ⟨hcl, hnc, hcm, -, hch⟩ := h.ch
  have T := Lib.hid (fun n w => ticks_any n w)
  unfold maxLen at hcm
  clear h
  cases cks with
  | cons k0 rest =>
    have hn : 1 ≤ n := by simp at hcl; omega
    obtain ⟨b, o, rfl, hb, hcs⟩ := hch (by omega)
    obtain ⟨y0, y1, -⟩ := hcs 0 k0 rfl
    have hn' : (0 : Int) < (n : Int) := by omega
    have hb2 := tk_bd k0.wait
    obtain ⟨t, ht⟩ : ∃ t, t = tk k0.wait := ⟨_, rfl⟩
    have T0 := Lib.hid (fun w => ticks_any k0.wait w)
    have hD : comD (k0 :: rest) fin wait last = last + tk k0.wait := rfl
    have hK : comK (k0 :: rest) fin = 1 := rfl
    rw [hD, hK]
    rw [← ht] at hb2 T0 ⊢
    have q : IntKind.i64.wrap (last + t) = last + t := IntWalk.i64_in _ (by omega)
    rw [Nat.zero_mul, Nat.add_zero] at y0 y1
    clear hch hcs hcl ht hD hK
    go_enter Try.func75, Try.ntmps75
    go_wp2_with fail
    go_quiet ((go_at_call 90; exact Calls.quiet_of_same (T0.out _)))
    go_wp2
    go_ret2
    exact ⟨rfl, _, rfl⟩
  | nil =>
    obtain rfl : n = 0 := by simpa using hcl.symm
    have hb2 := tk_bd wait
    obtain ⟨t, ht⟩ : ∃ t, t = tk wait := ⟨_, rfl⟩
    have T0 := Lib.hid (fun w => ticks_any wait w)
    rw [← ht] at hb2 T0
    have q : IntKind.i64.wrap (last + t) = last + t := IntWalk.i64_in _ (by omega)
    by_cases h1 : fin = 1
    · subst h1
      have hD : comD [] 1 wait last = last + t := by rw [ht]; rfl
      have hK : comK [] 1 = 2 := rfl
      rw [hD, hK]
      clear hch hcl ht hD hK
      go_enter Try.func75, Try.ntmps75
      go_wp2_with fail
      go_quiet ((go_at_call 90; exact Calls.quiet_of_same (T0.out _)))
      go_wp2
      go_ret2
      exact ⟨rfl, _, rfl⟩
    · by_cases h2 : fin = 2
      · subst h2
        have hD : comD [] 2 wait last = last + t := by rw [ht]; rfl
        have hK : comK [] 2 = 3 := rfl
        rw [hD, hK]
        clear hch hcl ht hD hK
        go_enter Try.func75, Try.ntmps75
        go_wp2_with fail
        go_quiet ((go_at_call 90; exact Calls.quiet_of_same (T0.out _)))
        go_wp2
        go_ret2
        exact ⟨rfl, _, rfl⟩
      · have hD : comD [] fin wait last = 0 := by unfold comD; rw [if_neg h1, if_neg h2]
        have hK : comK [] fin = 4 := by unfold comK; rw [if_neg h1, if_neg h2]
        have h1b : (fin == 1) = false := by rw [beq_eq_false_iff_ne]; exact h1
        have h2b : (fin == 2) = false := by rw [beq_eq_false_iff_ne]; exact h2
        rw [hD, hK]
        clear hch hcl ht hD hK h1 h2
        go_enter Try.func75, Try.ntmps75
        go_wp2_with fail
        go_ret2
        exact ⟨rfl, 0, rfl⟩
def ShiftP (w : World) (lp : Nat) (A : Option Addr) (n c : Nat) (k0 : Ck) (rest : List Ck) (fin wait last now : Int) (SA : Option Addr) (sn sc : Nat) (sent : List UInt8) (e : Ending) (w' : World) : Prop := ∃ A', e = .returned (.slice k0.A k0.m k0.d) ∧ LineAt w' lp A' (n - 1) (c - 1) rest fin wait last now SA sn sc sent ∧ (∀ j, InB A' j → InB A j) ∧ Kept (fun j => j = lp ∨ InB A j) w w'
set_option maxHeartbeats 1000000 in
set_option maxRecDepth 100000 in
theorem shift_any {k0 : Ck} {rest : List Ck} (h : LineAt w lp A n c (k0 :: rest) fin wait last now SA sn sc sent) : Calls Try.prog 76 #[.pointer (some ⟨lp, 0, none⟩)] w (ShiftP w lp A n c k0 rest fin wait last now SA sn sc sent) := by
  obtain ⟨⟨c0, c1, c2, c3, c4, c5⟩, f0, f3, f4, f5⟩ := blk6 h.top
  obtain ⟨hcl, hnc, hcm, hby, hch⟩ := h.ch
  have hn : 1 ≤ n := by simp at hcl; omega
  obtain ⟨b, o, rfl, hb, hcs⟩ := hch (by omega)
  obtain ⟨y0, y1, y2⟩ := hcs 0 k0 rfl
  rw [Nat.zero_mul, Nat.add_zero] at y0 y1 y2
  have hblp : b ≠ lp := fun e => h.a1.1 ⟨o, by rw [e]⟩
  have HH := Lib.hid h
  have HCS := Lib.hid hcs
  have HCL := Lib.hid hcl
  have HBY := Lib.hid hby
  have HBL := Lib.hid hblp
  have T1 := (HH.out.top.far (p := ⟨b, o + 1, none⟩) (fun e => hblp e.symm) (.slice none 0 0))
  obtain ⟨⟨g0, g1, g2, g3, g4, g5⟩, e0, e3, e4, e5⟩ := blk6 T1
  unfold maxLen at hcm
  obtain ⟨A', hA'⟩ : ∃ A', (if c = 1 then some (⟨b, o, none⟩ : Addr) else some ⟨b, o + 2, none⟩) = A' := ⟨_, rfl⟩
  have FIN := Lib.hid (show ShiftP w lp (some ⟨b, o, none⟩) n c k0 rest fin wait last now SA sn sc sent (.returned (.slice k0.A k0.m k0.d)) ((w.setCell ⟨b, o + 1, none⟩ (.slice none 0 0)).setCell ⟨lp, 0, none⟩ (.slice A' (n - 1) (c - 1))) from by
    have hAin : ∀ j, InB A' j → InB (some (⟨b, o, none⟩ : Addr)) j := fun j hj => by
      obtain ⟨o2, e⟩ := hj
      rw [← hA'] at e
      split at e <;> (injection e with e; injection e with e _ _; exact ⟨o, by rw [e]⟩)
    have hk : Kept (fun j => j = lp ∨ InB (some (⟨b, o, none⟩ : Addr)) j) w ((w.setCell ⟨b, o + 1, none⟩ (.slice none 0 0)).setCell ⟨lp, 0, none⟩ (.slice A' (n - 1) (c - 1))) :=
      ((Kept.refl _ w).set_ (p := ⟨b, o + 1, none⟩) (.inl (.inr ⟨o, rfl⟩)) _).set_ (p := ⟨lp, 0, none⟩) (.inl (.inl rfl)) _
    refine ⟨A', rfl, ⟨((T1.set_ 0 _ : Blk _ _ _ _)), ⟨by rw [List.length_cons] at hcl; omega, by omega, by unfold maxLen; omega, fun k hk2 => (hby k (List.mem_cons_of_mem _ hk2)).kept hk (fun b2 o2 e2 hx => ?_), fun hn2 => ⟨b, o + 2, ?_, by simpa [World.setCell] using hb, fun i k hi => ?_⟩⟩, h.row.kept hk (fun j hj hx => ?_), ⟨fun hx => h.a1.1 (hAin _ hx), h.a1.2.1, fun j hj => h.a1.2.2 j (hAin j hj)⟩, fun k hk2 j hj => ?_⟩, hAin, hk⟩
    · have := h.a2 k (List.mem_cons_of_mem _ hk2) b2 ⟨o2, e2⟩
      rcases hx with hx | hx
      · exact this.1 hx
      · exact this.2.1 hx
    · rw [← hA', if_neg (by omega)]
    · have hl := (List.getElem?_eq_some_iff.1 hi).1
      obtain ⟨z0, z1, z2⟩ := hcs (i + 1) k (by rw [List.getElem?_cons_succ]; exact hi)
      have off : ∀ x, x ≠ o + 1 → ((w.setCell ⟨b, o + 1, none⟩ (.slice none 0 0)).setCell ⟨lp, 0, none⟩ (.slice A' (n - 1) (c - 1))).cell? ⟨b, x, none⟩ = w.cell? ⟨b, x, none⟩ := fun x hx => by
        rw [World.cell?_setCell_far _ _ _ _ (fun e => hblp e.symm)]
        apply World.cell?_setCell_other
        intro e
        injection e with _ e _
        exact hx e.symm
      refine ⟨?_, ?_, ?_⟩
      · rw [off _ (by omega), show o + 2 + i * 2 = o + (i + 1) * 2 by omega]; exact z0
      · rw [off _ (by omega), show o + 2 + i * 2 + 1 = o + (i + 1) * 2 + 1 by omega]; exact z1
      · rw [World.frozen?_setCell, World.frozen?_setCell, show o + 2 + i * 2 + 1 = o + (i + 1) * 2 + 1 by omega]; exact z2
    · rcases hx with hx | hx
      · exact h.a1.2.1 (hx ▸ hj)
      · exact h.a1.2.2 j hx hj
    · have := h.a2 k (List.mem_cons_of_mem _ hk2) j hj
      exact ⟨this.1, fun hx => this.2.1 (hAin j hx), this.2.2⟩)
  have hn' : (1 : Int) ≤ (n : Int) := by omega
  have hnc' : (n : Int) ≤ (c : Int) := by omega
  clear h T1 hcs hch hcl hby HH hblp
  have hb1 : ¬ b = lp := HBL.out
  have hb2 : ¬ lp = b := fun e => HBL.out e.symm
  go_enter Try.func76, Try.ntmps76
  go_wp2_with fail
  trace_state
  go_ret
  exact FIN.out
end
end Go.Proofs.Ytmcapiikplflkaa
