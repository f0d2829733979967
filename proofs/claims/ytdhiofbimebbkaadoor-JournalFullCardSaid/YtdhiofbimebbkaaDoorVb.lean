/- The disk in memory: what it is, what keeps it; the look-up of a file. -/
import Derived.Test.YtdhiofbimebbkaaDoorBt
import Derived.Test.YtdhiofbimebbkaaDoorVa
import Derived.Maps.OwnOps
import Derived.Deep.RegionHeld3
namespace Go.Proofs.YtdhiofbimebbkaaDoor
open Go.RowKit Go.Maps

/-- How a pointer to a file reads. -/
def ptrElem : Value → Option (DataW Unit × List MemPlace)
  | .pointer (some ⟨b, 0, none⟩) => some (.lit (.int .i64 (b : Nat)), [])
  | .pointer none => some (.nil, [])
  | _ => none
theorem ptrElem_lit {v : Value} {b : Nat} {ps : List MemPlace} (h : ptrElem v = some (.lit (.int .i64 (b : Nat)), ps)) : v = .pointer (some ⟨b, 0, none⟩) := by
  unfold ptrElem at h
  split at h
  · simp only [Option.some.injEq, Prod.mk.injEq, DataW.lit.injEq, Lit.int.injEq, true_and, Int.natCast_inj] at h; rw [h.1]
  · simp at h
  · cases h
theorem ptrElem_nil {v : Value} {ps : List MemPlace} (h : ptrElem v = some (.nil, ps)) : v = .pointer none := by
  unfold ptrElem at h
  split at h
  · simp at h
  · rfl
  · cases h

def FileAt (w : World) (f : Fl) : Prop :=
  Blk w f.fb 64 #[f.v, .int .i64 (f.safe : Nat)] ∧ w.ownsRow 0 5 1 f.v f.bytes.length (f.bytes.map u8V) ∧ f.safe ≤ f.bytes.length
/-- The disk that lies at dp. -/
structure FsAt (w : World) (dp bm : Nat) (M : List Fl) (free fuse : Nat) (down : Bool) : Prop where
  top : Blk w dp 49 #[.map (some bm), .int .i64 (free : Nat), .int .i64 (fuse : Nat), .bool down]
  mp : w.ownsMap Tryd.prog 9 ptrElem bm M.length (dOf M)
  rise : Rise M
  files : ∀ f ∈ M, FileAt w f
  fbs : ∀ f ∈ M, ∀ g ∈ M, f.fb = g.fb → f = g
  rbs : ∀ f ∈ M, ∀ g ∈ M, ∀ r, f.v.ownBlock = some r → g.v.ownBlock = some r → f = g
/-- The blocks of a disk. -/
def Own (dp bm : Nat) (M : List Fl) (j : Nat) : Prop := j = dp ∨ j = bm ∨ ∃ f ∈ M, f.fb = j ∨ f.v.ownBlock = some j
theorem blk4 {w : World} {g : Nat} {t : TypeId} {a b c d : Value} (h : Blk w g t #[a, b, c, d]) : w.cell? ⟨g, 0, none⟩ = some a ∧ w.cell? ⟨g, 1, none⟩ = some b ∧ w.cell? ⟨g, 2, none⟩ = some c ∧ w.cell? ⟨g, 3, none⟩ = some d ∧ w.frozen? ⟨g, 1, none⟩ = false ∧ w.frozen? ⟨g, 2, none⟩ = false ∧ w.frozen? ⟨g, 3, none⟩ = false :=
  ⟨h.cell 0, h.cell 1, h.cell 2, h.cell 3, h.frozen 1, h.frozen 2, h.frozen 3⟩

section
variable {w w' : World} {dp bm free fuse : Nat} {M : List Fl} {down : Bool}
theorem FileAt.keep {f : Fl} (h : FileAt w f) (h1 : w'.heap[f.fb]? = w.heap[f.fb]?) (h2 : ∀ r, f.v.ownBlock = some r → w'.heap[r]? = w.heap[r]?) : FileAt w' f := by
  obtain ⟨a, ⟨b1, b2⟩, c⟩ := h
  refine ⟨h1.trans a, ⟨b1, ?_⟩, c⟩
  rcases b2 with b2 | ⟨g, cap, cur, e, x1, x2, x3⟩
  · exact .inl b2
  · exact .inr ⟨g, cap, cur, e, x1, (h2 g (by rw [e]; rfl)).trans x2, x3⟩
/-- The disk stays while its blocks do. -/
theorem FsAt.keep (h : FsAt w dp bm M free fuse down) (hk : ∀ j, Own dp bm M j → w'.heap[j]? = w.heap[j]?) : FsAt w' dp bm M free fuse down where
  top := (hk dp (.inl rfl)).trans h.top
  mp := by
    obtain ⟨es, clock, hb, F, hs, hD⟩ := h.mp
    exact ⟨es, clock, (hk bm (.inr (.inl rfl))).trans hb, F, hs, hD⟩
  rise := h.rise
  files := fun f hf => (h.files f hf).keep (hk _ (.inr (.inr ⟨f, hf, .inl rfl⟩))) fun r hr => hk r (.inr (.inr ⟨f, hf, .inr hr⟩))
  fbs := h.fbs
  rbs := h.rbs
theorem FileAt.lt {f : Fl} (h : FileAt w f) : f.fb < w.heap.size ∧ ∀ r, f.v.ownBlock = some r → r < w.heap.size := by
  refine ⟨h.1.lt, fun r hr => ?_⟩
  rcases h.2.1.2 with ⟨e, _⟩ | ⟨g, cap, cur, e, _, hb, _⟩
  · rw [e] at hr; cases hr
  · rw [e] at hr
    obtain rfl : g = r := by simpa [Value.ownBlock] using hr
    exact (Array.getElem?_eq_some_iff.1 hb).1
theorem FsAt.own_lt (h : FsAt w dp bm M free fuse down) {j : Nat} (hj : Own dp bm M j) : j < w.heap.size := by
  rcases hj with rfl | rfl | ⟨f, hf, h1 | h1⟩
  · exact h.top.lt
  · exact h.mp.lt
  · rw [← h1]; exact (h.files f hf).lt.1
  · exact (h.files f hf).lt.2 j h1
theorem FsAt.alloc (h : FsAt w dp bm M free fuse down) (o : Obj) : FsAt (w.alloc o) dp bm M free fuse down := h.keep fun j hj => Below.heap_alloc w o j (h.own_lt hj)
theorem FsAt.drewN (h : FsAt w dp bm M free fuse down) (n : Nat) : FsAt (w.drewN n) dp bm M free fuse down := h.keep fun _ _ => rfl
theorem FsAt.drew (h : FsAt w dp bm M free fuse down) : FsAt w.drew dp bm M free fuse down := h.keep fun _ _ => rfl
theorem FsAt.below (h : FsAt w dp bm M free fuse down) (hb : Below w.heap.size w w') : FsAt w' dp bm M free fuse down := h.keep fun j hj => hb.block j (h.own_lt hj)
/-- Blocks of different kinds are different. -/
theorem FileAt.row {f : Fl} (h : FileAt w f) {r : Nat} (hr : f.v.ownBlock = some r) : ∃ cap cur, f.v = .slice (some ⟨r, 0, none⟩) f.bytes.length cap ∧ w.heap[r]? = some (.cells cur 5 (0, 0)) ∧ f.bytes.length ≤ cap ∧ cap ≤ maxLen ∧ cur.size = cap * 1 ∧ cur.toList.take (f.bytes.length * 1) = f.bytes.map u8V := by
  rcases h.2.1.2 with ⟨e, _⟩ | ⟨g, cap, cur, e, _, hb, x1, x2, x3, x4⟩
  · rw [e] at hr; cases hr
  · rw [e] at hr
    obtain rfl : g = r := by simpa [Value.ownBlock] using hr
    exact ⟨cap, cur, e, hb, x1, x2, x3, x4⟩
theorem FsAt.ap (h : FsAt w dp bm M free fuse down) : dp ≠ bm ∧ (∀ f ∈ M, f.fb ≠ dp ∧ f.fb ≠ bm ∧ f.v.ownBlock ≠ some dp ∧ f.v.ownBlock ≠ some bm) ∧ ∀ f ∈ M, ∀ g ∈ M, g.v.ownBlock ≠ some f.fb := by
  obtain ⟨es, clock, hb, _⟩ := h.mp
  have ht : w.heap[dp]? = some (.cells #[.map (some bm), .int .i64 (free : Nat), .int .i64 (fuse : Nat), .bool down] 49 (0, 0)) := h.top
  refine ⟨fun e => ?_, fun f hf => ?_, fun f hf g hg hr => ?_⟩
  · rw [e, hb] at ht; cases ht
  · have hF : w.heap[f.fb]? = some (.cells #[f.v, .int .i64 (f.safe : Nat)] 64 (0, 0)) := (h.files f hf).1
    refine ⟨fun e => ?_, fun e => ?_, fun e => ?_, fun e => ?_⟩
    · rw [e, ht] at hF; injection hF with hF; injection hF with _ hF _; exact absurd hF (by decide)
    · rw [e, hb] at hF; cases hF
    · obtain ⟨cap, cur, _, hc, _⟩ := (h.files f hf).row e
      rw [ht] at hc; cases hc
    · obtain ⟨cap, cur, _, hc, _⟩ := (h.files f hf).row e
      rw [hb] at hc; cases hc
  · have hF : w.heap[f.fb]? = some (.cells #[f.v, .int .i64 (f.safe : Nat)] 64 (0, 0)) := (h.files f hf).1
    obtain ⟨cap, cur, _, hc, _⟩ := (h.files g hg).row hr
    rw [hF] at hc; cases hc
theorem law_str : Keyed Tryd.prog 9 := string_keyed Tryd.underlying9
theorem zero_pf (w : World) : (zeroValue 62).run Tryd.prog w = .ok (.pointer none) w := by kernel_rfl
theorem key_str {s : ByteArray} (hs : s.size ≤ maxLen) : keyOf Tryd.prog 9 (.string s) = some (.string s.data.toList) := WideMaps.keyOf_string_mk Tryd.underlying9 hs
def ptrOf : Option Fl → Value
  | some f => .pointer (some ⟨f.fb, 0, none⟩)
  | none => .pointer none
/-- The look-up of a name, as the walk takes it. -/
theorem FsAt.lookup (h : FsAt w dp bm M free fuse down) (s : ByteArray) (hs : s.size ≤ maxLen) :
    (Instr.lookup 47 (.map (some bm)) (.string s) false).run Tryd.prog w = .ok (ptrOf (look s.data.toList M)) w := by
  obtain ⟨v, ps, hrun, hv⟩ := h.mp.lookup law_str Tryd.underlying47 (zero_pf w) (zd := .nil) (zp := []) rfl (key_str hs)
  rw [hrun]
  rw [dOf_at] at hv
  cases hl : look s.data.toList M with
  | none => rw [hl] at hv; rw [ptrElem_nil hv]; rfl
  | some f => rw [hl] at hv; rw [ptrElem_lit hv]; rfl
end
end Go.Proofs.YtdhiofbimebbkaaDoor
