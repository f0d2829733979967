/- A journal's calls in plain words; the law's own journal beside its disk. -/
import Derived.Test.YtdhiofbimebbkaaDoorJe
namespace Go.Proofs.YtdhiofbimebbkaaDoor
open Go.RowKit Go.Maps
def putS (nm : List UInt8) (k : Nat) (data : List UInt8) (r : Sta × List Itm) : Int × Sta × List Itm :=
  if hasK r.2 k then (5, r) else ((appendS nm (recI (k, data)) r.1).1, (appendS nm (recI (k, data)) r.1).2, if (appendS nm (recI (k, data)) r.1).1 = 0 then r.2 ++ [(k, data)] else r.2)
def loadS (nm : List UInt8) (s : Sta) : Int × List UInt8 × Sta :=
  if (readS nm s).1 = 4 then ((createS nm s).1, [], (createS nm s).2) else ((readS nm s).1, (readS nm s).2, s)
def keptS (nm : List UInt8) (bs : List UInt8) (s : Sta) : Int × Sta :=
  if (fileL (scanL [] bs)).length < bs.length then cutS nm ((fileL (scanL [] bs)).length : Nat) s else (0, s)
def openS (nm : List UInt8) (s : Sta) : Int × Sta × List Itm :=
  if (loadS nm s).1 ≠ 0 then ((loadS nm s).1, (loadS nm s).2.2, [])
  else if (keptS nm (loadS nm s).2.1 (loadS nm s).2.2).1 ≠ 0 then ((keptS nm (loadS nm s).2.1 (loadS nm s).2.2).1, (keptS nm (loadS nm s).2.1 (loadS nm s).2.2).2, [])
  else ((syncS nm (keptS nm (loadS nm s).2.1 (loadS nm s).2.2).2).1, (syncS nm (keptS nm (loadS nm s).2.1 (loadS nm s).2.2).2).2, scanL [] (loadS nm s).2.1)
/-- The law's disk, and the journal that it has opened on it. -/
structure JB (w0 w : World) (dp jp jm : Nat) (nm : ByteArray) (X Y : Nat → Prop) (s : Sta) (L : List Ent) : Prop where
  disk : Disk w dp X s
  jat : JAt w jp jm dp nm Y L
  sep : ∀ j, Y j → ¬ X j
  own : ∀ j, X j ∨ Y j → w0.heap.size ≤ j
  old : Below w0.heap.size w0 w
section
variable {w0 w w' : World} {dp jp jm : Nat} {nm : ByteArray} {X Y : Nat → Prop} {s s' : Sta} {L : List Ent}
theorem JB.below (h : JB w0 w dp jp jm nm X Y s L) (hb : Below w.heap.size w w') : JB w0 w' dp jp jm nm X Y s L :=
  ⟨h.disk.keep fun j hj => hb.block j (h.disk.lt hj), h.jat.below hb, h.sep, h.own, h.old.trans (hb.mono h.old.size)⟩
theorem JB.alloc (h : JB w0 w dp jp jm nm X Y s L) (o : Obj) : JB w0 (w.alloc o) dp jp jm nm X Y s L := h.below ((Below.refl _ w).alloc (Nat.le_refl _) o)
theorem JB.db (h : JB w0 w dp jp jm nm X Y s L) : DB w0 w dp X s := ⟨h.disk, fun j hj => h.own j (.inl hj), h.old⟩
theorem Disk.dp_in (h : Disk w dp X s) : X dp := by
  obtain ⟨bm, M, _, _, rfl⟩ := h; exact .inl rfl
/-- A call of the disk, beside the journal. -/
theorem JB.after (h : JB w0 w dp jp jm nm X Y s L) (ha : After w dp X s' w') : ∃ X', JB w0 w' dp jp jm nm X' Y s' L := by
  obtain ⟨X', h1, h2, h3⟩ := ha
  have hs := h.old.size
  refine ⟨X', h1, h.jat.kept h3 h.sep, fun j hy hx => ?_, fun j hj => ?_, h.old.trans (h3.below hs fun j hj => h.own j (.inl hj))⟩
  · rcases h2 j hx with h4 | h4
    · exact h.sep j hy h4
    · have := h.jat.lt j hy; omega
  · rcases hj with hj | hj
    · rcases h2 j hj with h4 | h4
      · exact h.own j (.inl h4)
      · omega
    · exact h.own j (.inr hj)
theorem JB.after2 (h : JB w0 w dp jp jm nm X Y s L) (ha : After w dp X s' w') : ∃ X', JB w0 w' dp jp jm nm X' Y s' L ∧ (∀ j, X' j → X j ∨ w.heap.size ≤ j) ∧ Kept X w w' := by
  obtain ⟨X', h1, h2, h3⟩ := ha
  have hs := h.old.size
  refine ⟨X', ⟨h1, h.jat.kept h3 h.sep, fun j hy hx => ?_, fun j hj => ?_, h.old.trans (h3.below hs fun j hj => h.own j (.inl hj))⟩, h2, h3⟩
  · rcases h2 j hx with h4 | h4
    · exact h.sep j hy h4
    · have := h.jat.lt j hy; omega
  · rcases hj with hj | hj
    · rcases h2 j hj with h4 | h4
      · exact h.own j (.inl h4)
      · omega
    · exact h.own j (.inr hj)
def JRes (w0 : World) (dp jp jm : Nat) (nm : ByteArray) (r : Int × Sta × List Itm) (e : Ending) (w' : World) : Prop :=
  e = .returned (.int .i64 r.1) ∧ ∃ X Y L, JB w0 w' dp jp jm nm X Y r.2.1 L ∧ itms L = r.2.2
theorem jb_sync (h : JB w0 w dp jp jm nm X Y s L) (ok : Ok s) (hn : nm.size ≤ maxLen) : Calls Tryd.prog 10 #[.pointer (some ⟨jp, 0, none⟩)] w (JRes w0 dp jp jm nm ((syncS nm.data.toList s).1, (syncS nm.data.toList s).2, itms L)) := by
  refine (jsync_any h.jat h.disk ok hn).mono ?_
  rintro e w' ⟨rfl, ha⟩
  obtain ⟨X', h'⟩ := h.after ha
  exact ⟨rfl, X', Y, L, h', rfl⟩
end
end Go.Proofs.YtdhiofbimebbkaaDoor
