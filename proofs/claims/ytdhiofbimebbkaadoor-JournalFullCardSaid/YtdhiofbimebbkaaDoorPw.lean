/- pack.Num, pack.Text: b with a number, a text behind it. -/
import Derived.Test.YtdhiofbimebbkaaDoorPn
import Derived.WalkMore
import Derived.ScopeJumps
import Derived.Laws.MakeOwn
namespace Go.Proofs.YtdhiofbimebbkaaDoor
open Go.RowKit

def NumPost (w : World) (xs : List UInt8) (e : Ending) (w' : World) : Prop := ∃ v, e = .returned v ∧ w'.ownsRow w.heap.size 5 1 v xs.length (xs.map u8V) ∧ Below w.heap.size w w'
def NumJ (w : World) (A : Option Addr) (m c : Nat) (bs : List UInt8) (goal : List UInt8) (a' : Act) (w' : World) : Prop := ∃ (r k : Nat) (done : List UInt8) (v u6 u7 u8 u9 u10 u11 u12 u13 u14 u15 u16 u17 u18 u19 u20 u21 u22 u23 u24 u25 u26 u27 u28 u29 u30 : Value),
  a' = { tmps := #[.slice A m c, .int .i64 (r : Nat), undef, undef, .slice none 0 0, v, u6, u7, u8, u9, u10, u11, u12, u13, u14, u15, u16, u17, u18, u19, u20, u21, u22, u23, u24, u25, u26, u27, u28, u29, u30], defers := [] } ∧ r < 128 ^ (k + 1) ∧ k ≤ 8 ∧ done.length + k ≤ 8 ∧ done ++ numF k r = goal ∧ w'.ownsRow w.heap.size 5 1 v (bs ++ done).length ((bs ++ done).map u8V) ∧ Below w.heap.size w w'
/-- A byte more behind a row of the call's own. -/
theorem push_byte {w W : World} {v : Value} {xs : List UInt8} {z : UInt8} {B : Nat} (ty : TypeId) (ho : W.ownsRow B 5 1 v xs.length (xs.map u8V)) (hB : B ≤ W.heap.size) (hbel : Below B w W) (hl : xs.length + 1 ≤ 1000000000) (q : Value) (hq : q = u8V z) :
    ∃ A' c' W', (Builtin.append_ #[30, 30] ty #[v, .slice (some ⟨W.heap.size, 0, none⟩) 1 1]).run Tryd.prog (W.alloc (.cells #[q] 5)) = .ok (.slice A' (xs.length + 1) c') W' ∧ W'.ownsRow B 5 1 (.slice A' (xs.length + 1) c') (xs ++ [z]).length ((xs ++ [z]).map u8V) ∧ Below B w W' := by
  subst hq
  have h0 := row_base (ho.alloc (.cells #[u8V z] 5)) (Nat.zero_le B)
  obtain ⟨A', c', W', h1, h2, h3, h4⟩ := append_bytes (c := 1) ty h0 (bytes_new W [z] (0, 0)) (by simpa using hl)
  have hlt : ∀ r, v.ownBlock = some r → B ≤ r := fun r hr => (ho.lt r hr).1
  have hb2 : ∀ r, (Value.slice A' (xs.length + 1) c').ownBlock = some r → B ≤ r := fun r hr => by
    rcases h4 with h4 | h4
    · have h4' : (Value.slice A' (xs.length + 1) c').ownBlock = v.ownBlock := h4
      rw [h4'] at hr; exact hlt r hr
    · have h4' : (Value.slice A' (xs.length + 1) c').ownBlock = some (W.alloc (.cells #[u8V z] 5)).heap.size := h4
      rw [h4'] at hr; injection hr with hr; rw [← hr]; simp; omega
  exact ⟨A', c', W', h1, row_at h2 hb2, (hbel.alloc hB _).grown h3 (by simp; omega) hlt⟩
theorem u8_add128 {r : Nat} : Value.int .u8 (IntKind.u8.wrap (IntKind.u8.wrap ((r : Int) % 128) + 128)) = u8V (UInt8.ofNat (r % 128 + 128)) := by
  have h1 : (UInt8.ofNat (r % 128 + 128)).toNat = r % 128 + 128 := u8_of_lt (by omega)
  have e1 : IntKind.u8.wrap ((r : Int) % 128) = (r : Int) % 128 := by unfold IntKind.wrap; simp [IntKind.bits, IntKind.signed]; omega
  have e2 : IntKind.u8.wrap ((r : Int) % 128 + 128) = (r : Int) % 128 + 128 := by unfold IntKind.wrap; simp [IntKind.bits, IntKind.signed]; omega
  unfold u8V
  rw [h1, e1, e2]
  congr 1
set_option maxHeartbeats 4000000 in
set_option maxRecDepth 100000 in
theorem num_any {w : World} {A : Option Addr} {m c : Nat} {bs : List UInt8} (hb : BytesAt w A m bs) (hm : m ≤ 500000000) (n : Int) :
    Calls Tryd.prog 25 #[.slice A m c, .int .i64 n] w (NumPost w (bs ++ numL (numC n))) := by
  obtain ⟨i0, hi0, hz0, hz1, hz2⟩ := info_parts byte_info
  have hbl := hb.1
  obtain ⟨w1, hmk, ho1, hg1⟩ := run_make_own (P := Tryd.prog) w w.heap.size 30 5 i0 _ 1 Tryd.underlying30 hi0 hz0 hz1 .i64 .i64 (m + 9) (by rw [hz2]; omega) (by unfold maxLen; omega) (Nat.le_refl _)
  rw [show ((m + 9 : Nat) : Int) = (m : Int) + 9 by omega] at hmk
  have bel1 : Below w.heap.size w w1 := ⟨hg1.os, hg1.tape, hg1.output, hg1.size, fun j hj => hg1.block j hj (by simp)⟩
  obtain ⟨A1, c1, w2, hrun, ho2, hg2, hat⟩ := append_bytes (c := c) (xs := []) 30 (row_base ho1 (Nat.zero_le _)) (hb.below bel1) (by simp; omega)
  have own1 : ∀ r, (Value.slice (some ⟨w.heap.size, 0, none⟩) 0 (m + 9)).ownBlock = some r → w.heap.size ≤ r := fun r hr => by
    have : w.heap.size = r := by simpa [Value.ownBlock] using hr
    omega
  have own2 : ∀ r, (Value.slice A1 (([] : List UInt8).length + m) c1).ownBlock = some r → w.heap.size ≤ r := fun r hr => by
    rcases hat with h1 | h1
    · rw [h1] at hr; exact own1 r hr
    · rw [h1] at hr; injection hr with hr; have := bel1.size; omega
  have bel2 : Below w.heap.size w w2 := bel1.grown hg2 bel1.size own1
  have ho3 := row_at ho2 own2
  rw [List.nil_append] at ho3
  rw [List.length_nil, Nat.zero_add] at hrun ho3
  have HRUN := Lib.hid hrun
  have HO := Lib.hid ho3
  have HB2 := Lib.hid bel2
  clear hrun ho2 hg2 hat own1 own2 ho1 hg1 bel1 bel2 ho3 hb
  go_enter Tryd.func25, Tryd.ntmps25
  go_wp2_with fail
  refine (fun (pass : ∀ a w', NumJ w A m c bs (numL (numC n)) a w' → Code.wp Tryd.prog _ (Exit.jump 0 (fun a' w'' => NumJ w A m c bs (numL (numC n)) a' w'' ∧ (intOf (a'.tmps.getD 1 undef)).toNat < (intOf (a.tmps.getD 1 undef)).toNat) _) a w') => wp_scope_jumps 0 (NumJ w A m c bs (numL (numC n))) (fun a' _ => (intOf (a'.tmps.getD 1 undef)).toNat) rfl ?_ (fun a w' hJ => wp_seq (wp_skip (pass a w' hJ)))) ?_
  · have PASS := Lib.hid pass
    clear pass
    have fin : ∀ (r : Nat) (a' : Act), r = numC n → (∃ u6 u7 u8 u9 u10 u11 u12 u13 u14 u15 u16 u17 u18 u19 u20 u21 u22 u23 u24 u25 u26 u27 u28 u29 u30 : Value, a' = { tmps := #[.slice A m c, .int .i64 (r : Nat), undef, undef, .slice none 0 0, .slice A1 m c1, u6, u7, u8, u9, u10, u11, u12, u13, u14, u15, u16, u17, u18, u19, u20, u21, u22, u23, u24, u25, u26, u27, u28, u29, u30], defers := [] }) → NumJ w A m c bs (numL (numC n)) a' w2 := by
      rintro r a' hr ⟨u6, u7, u8, u9, u10, u11, u12, u13, u14, u15, u16, u17, u18, u19, u20, u21, u22, u23, u24, u25, u26, u27, u28, u29, u30, rfl⟩
      have hle := numC_le n
      refine ⟨r, 8, [], _, _, _, _, _, _, _, _, _, _, _, _, _, _, _, _, _, _, _, _, _, _, _, _, _, _, rfl, by omega, Nat.le_refl _, by simp, by rw [hr]; rfl, ?_, HB2.out⟩
      rw [List.append_nil]
      have := HO.out
      exact this
    have FIN := Lib.hid fin
    have HC := Lib.hid (numC_eq n)
    have hmm : (m : Int) + 9 ≤ 9223372036854775807 := by omega
    clear fin HO HB2
    rcases Int.lt_or_le n 0 with hn | hn
    · have HZ := Lib.hid (show 0 = numC n by have := HC.out; omega)
      go_wp2_with (at_builtin; refine wpList_append_run rfl (.tmp 9) (.tmp 10) 30 rfl _ _ _ rfl rfl HRUN.out ?_)
      go_step3
      rename_i K hK
      refine hK _ _ ?_
      exact wp_mono (PASS.out _ _ (FIN.out 0 _ HZ.out ⟨_, _, _, _, _, _, _, _, _, _, _, _, _, _, _, _, _, _, _, _, _, _, _, _, _, rfl⟩)) (by
        intro e a w h
        cases e <;> first | exact h | exact ⟨h.1, h.2.1⟩)
    · rcases Int.lt_or_le 4611686018427387904 n with hn2 | hn2
      · have HZ := Lib.hid (show 4611686018427387904 = numC n by have := HC.out; omega)
        go_wp2_with (at_builtin; refine wpList_append_run rfl (.tmp 9) (.tmp 10) 30 rfl _ _ _ rfl rfl HRUN.out ?_)
        go_step3
        rename_i K hK
        refine hK _ _ ?_
        exact wp_mono (PASS.out _ _ (FIN.out 4611686018427387904 _ HZ.out ⟨_, _, _, _, _, _, _, _, _, _, _, _, _, _, _, _, _, _, _, _, _, _, _, _, _, rfl⟩)) (by
          intro e a w h
          cases e <;> first | exact h | exact ⟨h.1, h.2.1⟩)
      · obtain ⟨q, rfl⟩ : ∃ q : Nat, n = (q : Int) := ⟨n.toNat, by omega⟩
        have HZ := Lib.hid (show q = numC (q : Int) by have := HC.out; omega)
        go_wp2_with (at_builtin; refine wpList_append_run rfl (.tmp 9) (.tmp 10) 30 rfl _ _ _ rfl rfl HRUN.out ?_)
        go_step3
        rename_i K hK
        refine hK _ _ ?_
        exact wp_mono (PASS.out _ _ (FIN.out q _ HZ.out ⟨_, _, _, _, _, _, _, _, _, _, _, _, _, _, _, _, _, _, _, _, _, _, _, _, _, rfl⟩)) (by
          intro e a w h
          cases e <;> first | exact h | exact ⟨h.1, h.2.1⟩)
  · rintro a' w' ⟨r, k, done, v, u6, u7, u8, u9, u10, u11, u12, u13, u14, u15, u16, u17, u18, u19, u20, u21, u22, u23, u24, u25, u26, u27, u28, u29, u30, rfl, hr, hk, hdk, hgoal, hown, hbel⟩
    have hxl : (bs ++ done).length + 1 ≤ 1000000000 := by rw [List.length_append]; omega
    obtain ⟨xs, hxs⟩ : ∃ xs, xs = bs ++ done := ⟨_, rfl⟩
    rw [← hxs] at hown hxl
    obtain ⟨L, hL⟩ : ∃ L, xs.length = L := ⟨_, rfl⟩
    have HXS := Lib.hid hxs
    have HL := Lib.hid hL
    have hr9 : (128 : Nat) ^ (k + 1) ≤ 128 ^ 9 := Nat.pow_le_pow_right (by decide) (by omega)
    have hrb : r < 9223372036854775808 := Nat.lt_of_lt_of_le hr hr9
    have hrbI : (r : Int) < 9223372036854775808 := by omega
    have HG := Lib.hid hgoal
    have HR := Lib.hid hr
    by_cases h128 : 128 ≤ r
    · have h128' : (128 : Int) ≤ (r : Int) := by omega
      obtain ⟨A3, c3, W3, hrun3, ho3, hb3⟩ := push_byte (w := w) (z := UInt8.ofNat (r % 128 + 128)) 30 hown hbel.size hbel hxl (.int .u8 ((r : Int) % 128 + 128)) (by
        unfold u8V; rw [u8_of_lt (by omega)]; congr 1)
      obtain ⟨A2, c2, ev, _, _⟩ := row_shape (row_base hown (Nat.zero_le _))
      subst ev
      rw [hL] at hrun3 ho3 ⊢
      have H3 := Lib.hid hrun3
      have HO3 := Lib.hid ho3
      have HB3 := Lib.hid hb3
      clear hr hr9 hgoal hrun3 ho3 hb3 hown hbel hxl hxs hL HRUN HO HB2 hmk
      go_wp2_with (at_builtin; refine wpList_append_run rfl (.tmp 17) (.tmp 22) 30 rfl _ _ _ rfl rfl H3.out ?_)
      go_step3
      obtain ⟨k', rfl⟩ : ∃ k', k = k' + 1 := ⟨k - 1, by
        rcases Nat.eq_zero_or_pos k with h0 | h0
        · have := HR.out; rw [h0] at this; simp at this; omega
        · omega⟩
      have hdiv : ((r : Int) / 128) = ((r / 128 : Nat) : Int) := by omega
      rw [hdiv]
      refine ⟨rfl, ⟨r / 128, k', done ++ [UInt8.ofNat (r % 128 + 128)], _, _, _, _, _, _, _, _, _, _, _, _, _, _, _, _, _, _, _, _, _, _, _, _, _, _, rfl, ?_, by omega, by simp; omega, ?_, ?_, HB3.out⟩, ?_⟩
      · rw [Nat.div_lt_iff_lt_mul (by decide)]
        have := HR.out
        rw [Nat.pow_succ] at this; exact this
      · rw [← HG.out]
        have : numF (k' + 1) r = UInt8.ofNat (r % 128 + 128) :: numF k' (r / 128) := by
          show (if r < 128 then _ else _) = _
          rw [if_neg (by omega)]
        rw [this, List.append_assoc]; rfl
      · rw [← List.append_assoc, ← HXS.out]
        have := HO3.out
        rw [List.length_append, HL.out] at this ⊢
        exact this
      · simp [intOf]; omega
    · have h128' : ¬ (128 : Int) ≤ (r : Int) := by omega
      obtain ⟨A3, c3, W3, hrun3, ho3, hb3⟩ := push_byte (w := w) (z := UInt8.ofNat r) 30 hown hbel.size hbel hxl (.int .u8 (r : Int)) (by
        unfold u8V; rw [u8_of_lt (by omega)])
      obtain ⟨A2, c2, ev, _, _⟩ := row_shape (row_base hown (Nat.zero_le _))
      subst ev
      rw [hL] at hrun3 ho3 ⊢
      have H3 := Lib.hid hrun3
      have HO3 := Lib.hid ho3
      have HB3 := Lib.hid hb3
      have HF := Lib.hid (show numF k r = [UInt8.ofNat r] by
        cases k with
        | zero => rfl
        | succ k => unfold numF; rw [if_pos (by omega)])
      clear hr hr9 hgoal hrun3 ho3 hb3 hown hbel hxl hxs hL HRUN HO HB2 hmk
      go_wp2_with (at_builtin; refine wpList_append_run rfl (.tmp 26) (.tmp 29) 30 rfl _ _ _ rfl rfl H3.out ?_)
      simp only [Exit.jump]
      go_ret
      refine ⟨_, rfl, ?_, HB3.out⟩
      rw [← HG.out, HF.out, ← List.append_assoc, ← HXS.out]
      have := HO3.out
      rw [List.length_append, HL.out] at this ⊢
      exact this
end Go.Proofs.YtdhiofbimebbkaaDoor
