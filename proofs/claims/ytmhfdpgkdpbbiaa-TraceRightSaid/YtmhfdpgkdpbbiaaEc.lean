/- A trace in memory; IndexFunc, decided, Verdict, both ways. -/
import Derived.Test.YtmhfdpgkdpbbiaaEb
namespace Go.Proofs.Ytmhfdpgkdpbbiaa
open Go.RowKit

def EvsAt (w : World) (A : Option Addr) (n : Nat) (es : List Ev) : Prop :=
  es.length = n ∧ n ≤ 9223372036854775807 ∧ (0 < n → ∃ b f, A = some ⟨b, f, none⟩ ∧ b < w.heap.size ∧ ∀ i e, es[i]? = some e → w.cell? ⟨b, f + i * 4, none⟩ = some (.int .i64 e.kind) ∧ w.cell? ⟨b, f + i * 4 + 1, none⟩ = some (.int .i64 e.n) ∧ w.cell? ⟨b, f + i * 4 + 2, none⟩ = some (.string e.text) ∧ w.cell? ⟨b, f + i * 4 + 3, none⟩ = some (.int .i64 e.at_))
section
variable {w w' : World} {A : Option Addr} {n c : Nat} {es : List Ev}
theorem EvsAt.up (h : EvsAt w A n es) (hb : ∀ b, b < w.heap.size → w'.heap[b]? = w.heap[b]?) (hs : w.heap.size ≤ w'.heap.size) : EvsAt w' A n es :=
  ⟨h.1, h.2.1, fun hn => by
    obtain ⟨b, f, e, hlt, hc⟩ := h.2.2 hn
    refine ⟨b, f, e, Nat.lt_of_lt_of_le hlt hs, fun i x hx => ?_⟩
    have k := fun o => World.cell?_of_block (a := ⟨b, o, none⟩) (hb b hlt)
    obtain ⟨h0, h1, h2, h3⟩ := hc i x hx
    exact ⟨(k _).trans h0, (k _).trans h1, (k _).trans h2, (k _).trans h3⟩⟩
theorem EvsAt.below (h : EvsAt w A n es) (hb : Below w.heap.size w w') : EvsAt w' A n es := h.up (fun b hlt => hb.block b hlt) hb.size
theorem EvsAt.lt {B : Nat} (h : EvsAt w A n es) {i : Nat} {x : Ev} (hi : es[i]? = some x) : i < n := by rw [← h.1]; exact (List.getElem?_eq_some_iff.1 hi).1
end
/-- The place of the first event that decides. -/
def firstL : List Ev → Int → Int
  | [], _ => -1
  | e :: r, i => if decB e = true then i else firstL r (i + 1)
theorem firstL_hit {es : List Ev} {j : Nat} {e : Ev} (he : es[j]? = some e) (hd : decB e = true) (i : Int) : firstL (es.drop j) i = i := by
  obtain ⟨hl, hg⟩ := List.getElem?_eq_some_iff.1 he
  rw [List.drop_eq_getElem_cons hl, hg]
  simp [firstL, hd]
theorem firstL_miss {es : List Ev} {j : Nat} {e : Ev} (he : es[j]? = some e) (hd : decB e = false) (i : Int) : firstL (es.drop j) i = firstL (es.drop (j + 1)) (i + 1) := by
  obtain ⟨hl, hg⟩ := List.getElem?_eq_some_iff.1 he
  rw [List.drop_eq_getElem_cons hl, hg]
  simp [firstL, hd]
def IntPost (w : World) (k : Int) (e : Ending) (w' : World) : Prop := e = .returned (.int .i64 k) ∧ Below w.heap.size w w'
theorem enter_dec (args : Array Value) (W : World) : (callFunc 10 args).run Try.prog W = .ok (.enter 10 args) W := by kernel_rfl
set_option maxHeartbeats 1000000 in
set_option maxRecDepth 100000 in
theorem index_any {w : World} {A : Option Addr} {n : Nat} {es : List Ev} (c : Nat) (h : EvsAt w A n es) :
    Calls Try.prog 19 #[.slice A n c, .func (.func 10) #[] #[]] w (IntPost w (firstL es 0)) := by
  have hl := h.1
  have hn := h.2.1
  have HE := fun args W => enter_dec args W
  go_enter Try.func19, Try.ntmps19
  go_wp2
  go_loopw [8] (fun i wr => ∃ j : Nat, j ≤ n ∧ i = .int .i64 (j : Nat) ∧ firstL es 0 = firstL (es.drop j) (j : Nat) ∧ Below w.heap.size w wr) (fun i _ => n - (intOf i).toNat)
  case atStart => exact ⟨0, Nat.zero_le _, rfl, rfl, Below.refl _ _⟩
  case round =>
    obtain ⟨j, hj, rfl, hf, hb⟩ := hrel
    have HF := Lib.hid hf
    clear hf
    by_cases hlt : j < n
    · have hlt' : (j : Int) < (n : Int) := by omega
      have hj0 : (0 : Int) ≤ (j : Int) := by omega
      obtain ⟨⟨k, m, t, a⟩, hz⟩ : ∃ z, es[j]? = some z := ⟨es[j]'(by omega), List.getElem?_eq_getElem _⟩
      obtain ⟨b1, o1, rfl, hb1, hc1⟩ := (h.below hb).2.2 (by omega)
      obtain ⟨c0, c1, c2, c3⟩ := hc1 j _ hz
      clear hc1
      have C := Lib.hid (decides_any k m t a wr)
      rcases hd : decB ⟨k, m, t, a⟩ with _ | _
      · have HM := Lib.hid (firstL_miss hz hd (j : Nat))
        rw [hd] at C
        clear hd hz
        go_wp2_with fail
        refine C.out.mono ?_
        rintro e w2 ⟨rfl, b2⟩
        go_wp2
        go_roundw
        case rel => exact ⟨j + 1, by omega, by go_num, HF.out.trans HM.out, hb.trans (b2.mono hb.size)⟩
        case measure => simp [intOf]; omega
      · have HM := Lib.hid (firstL_hit hz hd (j : Nat))
        rw [hd] at C
        clear hd hz
        go_wp2_with fail
        refine C.out.mono ?_
        rintro e w2 ⟨rfl, b2⟩
        go_wp2
        go_ret
        exact ⟨by rw [HF.out, HM.out]; rfl, hb.trans (b2.mono hb.size)⟩
    · have hlt' : ¬ (j : Int) < (n : Int) := by omega
      go_wp2
      go_ret
      exact ⟨by rw [HF.out, List.drop_of_length_le (by omega)]; rfl, hb⟩
theorem firstL_cases : ∀ (es : List Ev) (i : Nat), (firstL es i = -1 ∧ verL false es = 5 ∧ verL true es = 5) ∨ ∃ (j : Nat) (e : Ev), firstL es i = ((i + j : Nat) : Int) ∧ es[j]? = some e ∧ decB e = true ∧ (∀ x, verL x es = verK x e.kind)
  | [], _ => .inl ⟨rfl, rfl, rfl⟩
  | e :: r, i => by
    by_cases h : decB e = true
    · exact .inr ⟨0, e, by simp [firstL, h], rfl, h, fun x => by simp [verL, h]⟩
    · rcases firstL_cases r (i + 1) with ⟨h1, h2, h3⟩ | ⟨j, e', h1, h2, h3, h4⟩
      · exact .inl ⟨by simpa [firstL, h] using h1, by simpa [verL, h] using h2, by simpa [verL, h] using h3⟩
      · refine .inr ⟨j + 1, e', ?_, by simpa using h2, h3, fun x => by simpa [verL, h] using h4 x⟩
        have : ((i + (j + 1) : Nat) : Int) = ((i + 1 + j : Nat) : Int) := by omega
        rw [this]
        simpa [firstL, h] using h1
set_option maxHeartbeats 1000000 in
set_option maxRecDepth 100000 in
theorem decided_any {w : World} {A : Option Addr} {n : Nat} {es : List Ev} (c : Nat) (h : EvsAt w A n es) :
    Calls Try.prog 16 #[.slice A n c] w (IntPost w (verL false es)) := by
  have hl := h.1
  have hn := h.2.1
  have C := Lib.hid (index_any c h)
  rcases firstL_cases es 0 with ⟨h1, h2, -⟩ | ⟨j, e, h1, h2, h3, h4⟩
  · rw [show firstL es 0 = -1 from h1] at C
    have H2 := Lib.hid h2
    clear h1 h2
    go_enter Try.func16, Try.ntmps16
    go_wp2_with fail
    refine C.out.mono ?_
    rintro e w2 ⟨rfl, b2⟩
    go_wp2
    go_ret
    exact ⟨by rw [H2.out]; rfl, b2⟩
  · rw [show firstL es 0 = ((j : Nat) : Int) by simpa using h1] at C
    have hjn := h.lt (B := 0) h2
    have H4 := Lib.hid (h4 false)
    have H2 := Lib.hid h2
    have hj0 : (0 : Int) ≤ (j : Int) := by omega
    have hj1 : (j : Int) < (n : Int) := by omega
    have HH := Lib.hid h
    clear h1 h2 h3 h4 h hl
    obtain ⟨k, m, t, a⟩ := e
    have hk : k = 12 ∨ k = 13 ∨ k = 11 ∨ (¬ k = 12 ∧ ¬ k = 13 ∧ ¬ k = 11) := by omega
    go_enter Try.func16, Try.ntmps16
    go_wp2_with fail
    refine C.out.mono ?_
    rintro e w2 ⟨rfl, b2⟩
    obtain ⟨b1, o1, rfl, hb1, hc1⟩ := (HH.out.below b2).2.2 (by omega)
    obtain ⟨c0, -, -, -⟩ := hc1 j _ H2.out
    clear hc1
    rcases hk with rfl | rfl | rfl | ⟨q1, q2, q3⟩
    all_goals
      go_wp2
      go_ret
      exact ⟨by rw [H4.out]; simp_all [verK], b2⟩
set_option maxHeartbeats 1000000 in
set_option maxRecDepth 100000 in
theorem verdict_any {w : World} {A : Option Addr} {n : Nat} {es : List Ev} (kind : Int) (c : Nat) (x : Bool) (h : EvsAt w A n es) :
    Calls Try.prog 8 #[.int .i64 kind, .slice A n c, .bool x] w (IntPost w (verT kind es x)) := by
  have hk : kind = 1 ∨ kind = 2 ∨ (¬ kind = 1 ∧ ¬ kind = 2) := by omega
  rcases hk with rfl | rfl | ⟨h1, h2⟩
  · go_enter Try.func8, Try.ntmps8
    go_wp2
    go_ret
    exact ⟨by simp [verT], Below.refl _ _⟩
  · go_enter Try.func8, Try.ntmps8
    go_wp2
    go_ret
    exact ⟨by simp [verT], Below.refl _ _⟩
  · have C := Lib.hid (decided_any c h)
    have HV := Lib.hid (verL_cases false es)
    have HT : Hid (verT kind es x = verL x es) := by unfold verT; rw [if_neg h1, if_neg h2]; exact Lib.hid rfl
    clear h
    go_enter Try.func8, Try.ntmps8
    go_wp2_with fail
    refine C.out.mono ?_
    rintro e w2 ⟨rfl, b2⟩
    rcases HV.out with ⟨e1, e2⟩ | ⟨e1, e2⟩ | ⟨e1, e2⟩
    all_goals
      cases x
      all_goals
        simp only [Bool.not_false, Bool.not_true, Bool.false_eq_true, if_false, if_true] at e1 e2
        have E1 := Lib.hid e1
        have E2 := Lib.hid e2
        rw [e1]
        clear e1 e2
        go_wp2
        go_ret
        first | exact ⟨by rw [HT.out, E1.out]; rfl, b2⟩ | exact ⟨by rw [HT.out, E2.out]; rfl, b2⟩
set_option maxHeartbeats 2000000 in
set_option maxRecDepth 100000 in
theorem rverdict_any {w : World} {A : Option Addr} {n : Nat} {es : List Ev} (kind : Int) (c : Nat) (x : Bool) (h : EvsAt w A n es) :
    Calls Try.prog 9 #[.int .i64 kind, .slice A n c, .bool x] w (IntPost w (verT kind es x)) := by
  have hl := h.1
  have hn := h.2.1
  have hk : kind = 1 ∨ kind = 2 ∨ (¬ kind = 1 ∧ ¬ kind = 2) := by omega
  rcases hk with rfl | rfl | ⟨h1, h2⟩
  · go_enter Try.func9, Try.ntmps9
    go_wp2
    go_ret
    exact ⟨by simp [verT], Below.refl _ _⟩
  · go_enter Try.func9, Try.ntmps9
    go_wp2
    go_ret
    exact ⟨by simp [verT], Below.refl _ _⟩
  · have HT : Hid (verT kind es x = verL x es) := by unfold verT; rw [if_neg h1, if_neg h2]; exact Lib.hid rfl
    have e1 : (kind == 1) = false := by simpa using h1
    have e2 : (kind == 2) = false := by simpa using h2
    go_enter Try.func9, Try.ntmps9
    go_wp2
    go_loopw [7] (fun i wr => ∃ j : Nat, j ≤ n ∧ i = .int .i64 (j : Nat) ∧ verL x es = verL x (es.drop j) ∧ Below w.heap.size w wr) (fun i _ => n - (intOf i).toNat)
    case atStart => exact ⟨0, Nat.zero_le _, rfl, rfl, Below.refl _ _⟩
    case round =>
      obtain ⟨j, hj, rfl, hf, hb⟩ := hrel
      have HF := Lib.hid hf
      clear hf
      by_cases hlt : j < n
      · have hlt' : (j : Int) < (n : Int) := by omega
        have hj0 : (0 : Int) ≤ (j : Int) := by omega
        obtain ⟨⟨k, m, t, a⟩, hz⟩ : ∃ z, es[j]? = some z := ⟨es[j]'(by omega), List.getElem?_eq_getElem _⟩
        obtain ⟨b1, o1, rfl, hb1, hc1⟩ := (h.below hb).2.2 (by omega)
        obtain ⟨c0, c1, c2, c3⟩ := hc1 j _ hz
        clear hc1
        have C := Lib.hid (rdecides_any k m t a wr)
        rcases hd : decB ⟨k, m, t, a⟩ with _ | _
        · have HM := Lib.hid (verL_drop (x := x) hz hd)
          rw [hd] at C
          clear hd hz
          go_wp2_with fail
          refine C.out.mono ?_
          rintro e w2 ⟨rfl, b2⟩
          go_wp2
          go_roundw
          case rel => exact ⟨j + 1, by omega, by go_num, HF.out.trans HM.out, hb.trans (b2.mono hb.size)⟩
          case measure => simp [intOf]; omega
        · have HM := Lib.hid (verL_hit (x := x) hz hd)
          rw [hd] at C
          have hk2 : k = 12 ∨ k = 13 ∨ k = 11 ∨ (¬ k = 12 ∧ ¬ k = 13 ∧ ¬ k = 11) := by omega
          clear hd hz
          go_wp2_with fail
          refine C.out.mono ?_
          rintro e w2 ⟨rfl, b2⟩
          obtain ⟨q0, -⟩ := b2.cell (p := ⟨b1, o1 + j * 4, none⟩) hb1 ▸ (⟨c0, trivial⟩ : _ ∧ True)
          rcases hk2 with rfl | rfl | rfl | ⟨q1, q2, q3⟩
          all_goals
            cases x
            all_goals
              go_wp2
              go_ret
              exact ⟨by rw [HT.out, HF.out, HM.out]; simp_all [verK], hb.trans (b2.mono hb.size)⟩
      · have hlt' : ¬ (j : Int) < (n : Int) := by omega
        go_wp2
        go_ret
        exact ⟨by rw [HT.out, HF.out, List.drop_of_length_le (by omega)]; rfl, hb⟩
end Go.Proofs.Ytmhfdpgkdpbbiaa
