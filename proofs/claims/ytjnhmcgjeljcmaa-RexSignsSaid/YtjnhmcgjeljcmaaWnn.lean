/- rex.writer.begin, all nodes. -/
import Derived.Test.YtjnhmcgjeljcmaaWna
import Derived.Test.YtjnhmcgjeljcmaaWnb
import Derived.Test.YtjnhmcgjeljcmaaWns
import Derived.Test.YtjnhmcgjeljcmaaXw
namespace Go.Proofs.Ytjnhmcgjeljcmaa
open Go.RowKit

theorem wr_up {B b d : Nat} {o : List UInt8} {fs : List Fr} {w w' : World} (h : WrAt B b d o fs w) (hB : B ≤ w.heap.size) (hb : Below w.heap.size w w') : WrAt B b d o fs w' := by
  obtain ⟨ov, cells, hw, hown, hfs⟩ := h
  exact ⟨ov, cells, isw_below hw hb, own_below hown hb, hfs.keep fun j hj => hb.block j (by omega)⟩
set_option maxHeartbeats 1000000 in
set_option maxRecDepth 100000 in
theorem begin_other (B b d : Nat) (o : List UInt8) (fs : List Fr) (w : World) (h : WrAt B b d o fs w) (hB : B ≤ w.heap.size) (k : Int) (wi : Bool) (A : Option Addr) (n c : Nat) (A' : Option Addr) (n' c' : Nat)
    (hk1 : (k == 1) = false) (hk2 : (k == 2) = false) (hk3 : (k == 3) = false) (hk4 : (k == 4) = false) (hk5 : (k == 5) = false) (hk6 : (k == 6) = false) :
    Calls Try.prog 36 #[.pointer (some ⟨b, 0, none⟩), .agg #[.int .i64 k, .slice A n c, .slice A' n' c'], .bool wi] w (BPost B b d o fs w) := by
  go_enter Try.func36, Try.ntmps36
  go_wp2
  go_end0
  exact ⟨rfl, wr_up h hB ((Below.refl _ w).alloc (Nat.le_refl _) _), ((Below.refl _ w).alloc (Nat.le_refl _) _).mono hB⟩
set_option maxHeartbeats 1000000 in
set_option maxRecDepth 100000 in
theorem begin_bare (B b d : Nat) (o : List UInt8) (fs : List Fr) (w : World) (h : WrAt B b d o fs w) (hB : B ≤ w.heap.size) (k : Int) (hk : k = 4 ∨ k = 5 ∨ k = 6) (wi : Bool) (A : Option Addr) (n c : Nat) (A' : Option Addr) (c' : Nat) :
    Calls Try.prog 36 #[.pointer (some ⟨b, 0, none⟩), .agg #[.int .i64 k, .slice A n c, .slice A' 0 c'], .bool wi] w (BPost B b d o fs w) := by
  rcases hk with rfl | rfl | rfl
  · go_enter Try.func36, Try.ntmps36
    go_wp2
    go_end0
    exact ⟨rfl, wr_up h hB ((Below.refl _ w).alloc (Nat.le_refl _) _), ((Below.refl _ w).alloc (Nat.le_refl _) _).mono hB⟩
  · go_enter Try.func36, Try.ntmps36
    go_wp2
    go_end0
    exact ⟨rfl, wr_up h hB ((Below.refl _ w).alloc (Nat.le_refl _) _), ((Below.refl _ w).alloc (Nat.le_refl _) _).mono hB⟩
  · go_enter Try.func36, Try.ntmps36
    go_wp2
    go_end0
    exact ⟨rfl, wr_up h hB ((Below.refl _ w).alloc (Nat.le_refl _) _), ((Below.refl _ w).alloc (Nat.le_refl _) _).mono hB⟩
theorem begin_any (B b d : Nat) (o : List UInt8) (fs : List Fr) (w : World) (h : WrAt B b d o fs w) (hB : B ≤ w.heap.size) (wi : Bool) (t : Tr) (k : Int) (A : Option Addr) (n c : Nat) (A' : Option Addr) (n' c' : Nat)
    (ht : TreeAt w (· < B) d t [.int .i64 k, .slice A n c, .slice A' n' c']) (ho : o.length ≤ 35184372088832) (hfl : fs.length ≤ 1000000) :
    Calls Try.prog 36 #[.pointer (some ⟨b, 0, none⟩), .agg #[.int .i64 k, .slice A n c, .slice A' n' c'], .bool wi] w (BPost B b d (o ++ nowT wi t) (fs ++ openT wi t) w) := by
  obtain ⟨k0, rs, kids⟩ := t
  have hh := ht.heads
  obtain ⟨rfl, hn', _, _⟩ := hh
  unfold nowT openT
  dsimp only
  by_cases h1 : k = 1
  · subst h1
    rw [if_pos rfl, if_pos rfl, List.append_nil]
    exact begin_set B b d o fs w h hB wi rs kids A n c A' n' c' ht ho
  · rw [if_neg h1, if_neg h1]
    by_cases h2 : k = 2
    · subst h2
      have h23 : (2 : Int) = 2 ∨ (2 : Int) = 3 := .inl rfl
      rw [if_pos h23, if_pos h23]
      cases wi with
      | false => simp only [Bool.false_eq_true, if_false, List.append_nil]; exact begin_2_n B b d o fs w h hB rs kids A n c A' n' c' ht hfl
      | true => simp only [if_true]; exact begin_2_w B b d o fs w h hB rs kids A n c A' n' c' ht hfl ho
    · by_cases h3 : k = 3
      · subst h3
        have h23 : (3 : Int) = 2 ∨ (3 : Int) = 3 := .inr rfl
        rw [if_pos h23, if_pos h23]
        cases wi with
        | false => simp only [Bool.false_eq_true, if_false, List.append_nil]; exact begin_3_n B b d o fs w h hB rs kids A n c A' n' c' ht hfl
        | true => simp only [if_true]; exact begin_3_w B b d o fs w h hB rs kids A n c A' n' c' ht hfl ho
      · have h23 : ¬ (k = 2 ∨ k = 3) := by omega
        rw [if_neg h23, if_neg h23, List.append_nil]
        by_cases h4 : k = 4 ∨ k = 5 ∨ k = 6
        · rw [if_pos h4]
          cases kids with
          | nil =>
            simp only [List.append_nil]
            obtain rfl : n' = 0 := hn'
            exact begin_bare B b d o fs w h hB k h4 wi A n c A' c'
          | cons t0 ts => exact begin_sign B b d o fs w h hB k h4 wi rs t0 ts A n c A' n' c' ht hfl
        · rw [if_neg h4, List.append_nil]
          exact begin_other B b d o fs w h hB k wi A n c A' n' c' (by simpa using h1) (by simpa using h2) (by simpa using h3) (by simp; omega) (by simp; omega) (by simp; omega)
end Go.Proofs.Ytjnhmcgjeljcmaa
