/- VfsPlays: the calls of all kinds at once. -/
import Derived.Test.YteokiaeojgjpdaaYf1
import Derived.Test.YteokiaeojgjpdaaYf2
import Derived.Test.YteokiaeojgjpdaaYf3
import Derived.Test.YteokiaeojgjpdaaYf4
import Derived.Test.YteokiaeojgjpdaaYf5
import Derived.Test.YteokiaeojgjpdaaYf6
import Derived.Test.YteokiaeojgjpdaaYg
import Derived.Test.YteokiaeojgjpdaaYh
import Derived.Test.YteokiaeojgjpdaaYi
import Derived.Test.YteokiaeojgjpdaaYj
import Derived.Test.YteokiaeojgjpdaaYk1
namespace Go.Proofs.Yteokiaeojgjpdaa
open Go.RowKit Go.Maps Go.Sort

theorem IntsAt.up' {w w' : World} {A : Option Addr} {n : Nat} {zs : List Int} (h : IntsAt w A n zs) (hb : Below w.heap.size w w') : IntsAt w' A n zs :=
  ⟨h.1, fun hn => by
    obtain ⟨b, o, e, hl, hc⟩ := h.2 hn
    exact ⟨b, o, e, Nat.lt_of_lt_of_le hl hb.size, fun i z hz => (hb.cell (p := ⟨b, o + i, none⟩) hl).trans (hc i z hz)⟩⟩
def opS (kd : Int) (a z : List UInt8) (num : Int) (bs : List UInt8) (s : Sta) : Int × Sta :=
  if kd = 1 then createS a s else if kd = 2 then appendS a bs s else if kd = 3 then syncS a s else if kd = 4 then renameS a z s else if kd = 5 then cutS a num s else removeS a s
theorem does_all {w : World} {dp : Nat} {X : Nat → Prop} {s : Sta} (h : Disk w dp X s) (ok : Ok s) (kd : Int) (h1 : 1 ≤ kd) (h6 : kd ≤ 6) (a z : ByteArray) (ha : a.size ≤ maxLen) (hz : z.size ≤ maxLen) (num : Int) {A : Option Addr} {m d : Nat} {bs : List UInt8} (hb : BytesAt w A m bs) (hm : m ≤ 400000000) (hdj : 0 < m → ∀ b o, A = some ⟨b, o, none⟩ → b ≠ dp) (K : Option Addr) (kn kc : Nat) :
    Calls Try.prog 25 #[.pointer (some ⟨dp, 0, none⟩), .agg #[.int .i64 kd, .string a, .string z, .int .i64 num, .slice A m d, .slice K kn kc]] w (Res w dp X (opS kd a.data.toList z.data.toList num bs s)) := by
  rcases (by omega : kd = 1 ∨ kd = 2 ∨ kd = 3 ∨ kd = 4 ∨ kd = 5 ∨ kd = 6) with rfl | rfl | rfl | rfl | rfl | rfl
  · exact does1 h ok a z ha hz num hb hm hdj K kn kc
  · exact does2 h ok a z ha hz num hb hm hdj K kn kc
  · exact does3 h ok a z ha hz num hb hm hdj K kn kc
  · exact does4 h ok a z ha hz num hb hm hdj K kn kc
  · exact does5 h ok a z ha hz num hb hm hdj K kn kc
  · exact does6 h ok a z ha hz num hb hm hdj K kn kc
theorem do_all {w : World} {Y : Nat → Prop} {A : Option Addr} {n c : Nat} {fs : List FR} (h : RefAt w Y A n fs) (hY : Low w.heap.size Y) (hn : n ≤ 100000) (V : FV) (free fuse : Nat) (down : Bool) (hV : fs.map FR.t = V) (hR : RiseV V) (most fu : Int) (hfu : down = false → fu = (fuse : Nat)) (hsf : fuse ≤ 9223372036854775807) (kd : Int) (h1 : 1 ≤ kd) (h6 : kd ≤ 6) (a z : ByteArray) (ha : a.size ≤ maxLen) (hz : z.size ≤ maxLen) (num : Int) (B : Option Addr) (m d : Nat) (bs : List UInt8) (hb : BytesAt w B m bs) (hm : m ≤ 400000000) (hmost : most = ((free + tot V : Nat) : Int)) (hroom : free + tot V ≤ 9223372036854775807) (htot : tot V ≤ 400000000) :
    Calls Try.prog 26 #[.agg #[.slice A n c, .int .i64 most, .int .i64 fu, .bool down], .agg #[.int .i64 kd, .string a, .string z, .int .i64 num, .slice B m d]] w (DoPost w Y most (opS kd a.data.toList z.data.toList num bs ⟨V, free, fuse, down⟩)) := by
  rcases (by omega : kd = 1 ∨ kd = 2 ∨ kd = 3 ∨ kd = 4 ∨ kd = 5 ∨ kd = 6) with rfl | rfl | rfl | rfl | rfl | rfl
  · exact do1_any h hY hn V free fuse down hV hR most fu hfu hsf a z ha hz num B m d
  · exact do2_any h hY hn V free fuse down hV hR most fu hfu hsf a z ha hz num B m d bs hb hm hmost hroom htot
  · exact do3_any h hY hn V free fuse down hV hR most fu hfu hsf a z ha hz num B m d
  · exact do4_any h hY hn V free fuse down hV hR most fu hfu hsf a z ha hz num B m d
  · exact do5_any h hY hn V free fuse down hV hR most fu hfu hsf a z ha hz num B m d
  · exact do6_any h hY hn V free fuse down hV hR most fu hfu hsf a z ha hz num B m d
theorem PI.op {most k T m : Nat} {s : Sta} {a z bs : List UInt8} (h : PI most k T s) (hR : RiseV s.V) (hm : bs.length = m) (kd num : Int) : PI most (k + 1) (T + m) (opS kd a z num bs s).2 := by
  unfold opS
  split
  · exact h.create
  · split
    · exact h.append hR hm
    · split
      · exact h.sync hR
      · split
        · exact h.rename hR
        · split
          · exact h.cut hR num
          · exact h.remove hR
theorem same_all {w : World} {dp : Nat} {X : Nat → Prop} {Y : Nat → Prop} {A : Option Addr} {n c : Nat} {fs : List FR} {s : Sta} (hD : Disk w dp X s) (ok : Ok s) (h : RefAt w Y A n fs) (hY : Low w.heap.size Y) (hV : fs.map FR.t = s.V) (most fu : Int) (hmost : most = ((s.free + tot s.V : Nat) : Int)) :
    Calls Try.prog 30 #[.pointer (some ⟨dp, 0, none⟩), .agg #[.slice A n c, .int .i64 most, .int .i64 fu, .bool s.down]] w fun e w' => e = .returned (.bool true) ∧ Below w.heap.size w w' := by
  have hR := disk_rise hD
  obtain ⟨V, free, fuse, down⟩ := s
  cases down with
  | true => exact same_off hD ok h hY hV hR most fu hmost
  | false => exact same_up hD ok h hY hV hR most fu hmost
/-- What the law has behind each round: its disk, the document's, both the same. -/
structure Pl (w : World) (dp p8 : Nat) (most : Nat) (U : Nat) (X : Nat → Prop) (s : Sta) (A : Option Addr) (n c : Nat) (fs : List FR) (fu : Int) (wr : World) : Prop where
  db : DB w wr dp X s
  pi : PI most U U s
  top : Blk wr p8 53 #[.slice A n c, .int .i64 (most : Nat), .int .i64 fu, .bool s.down]
  ref : RefAt wr (fun b => w.heap.size ≤ b ∧ b < wr.heap.size ∧ ¬ X b ∧ b ≠ p8) A n fs
  view : fs.map FR.t = s.V
  fz : s.down = false → fu = (s.fuse : Nat)
  p8X : ¬ X p8
  p8w : w.heap.size ≤ p8
theorem Pl.low {w : World} {dp p8 most U : Nat} {X : Nat → Prop} {s : Sta} {A : Option Addr} {n c : Nat} {fs : List FR} {fu : Int} {wr : World} : Low wr.heap.size (fun b => w.heap.size ≤ b ∧ b < wr.heap.size ∧ ¬ X b ∧ b ≠ p8) := fun b h => h.2.1
theorem Pl.below {w : World} {dp p8 most U : Nat} {X : Nat → Prop} {s : Sta} {A : Option Addr} {n c : Nat} {fs : List FR} {fu : Int} {wr w' : World} (h : Pl w dp p8 most U X s A n c fs fu wr) (hb : Below wr.heap.size wr w') : Pl w dp p8 most U X s A n c fs fu w' :=
  ⟨h.db.below hb, h.pi, h.top.below hb h.top.lt, (h.ref.below (fun b h => h.2.1) hb).mono fun b hb2 => ⟨hb2.1, Nat.lt_of_lt_of_le hb2.2.1 hb.size, hb2.2.2⟩, h.view, h.fz, h.p8X, h.p8w⟩
/-- The document's fuse set anew. -/
theorem Pl.one {w : World} {dp p8 most U : Nat} {X : Nat → Prop} {s : Sta} {A : Option Addr} {n c : Nat} {fs : List FR} {fu fu0 : Int} {w7 : World} {Y : Nat → Prop} (hdb : DB w w7 dp X s) (hpi : PI most U U s) (ht : Blk w7 p8 53 #[.slice A n c, .int .i64 (most : Nat), .int .i64 fu0, .bool s.down]) (hr : RefAt w7 Y A n fs)
    (hY : ∀ b, Y b → w.heap.size ≤ b ∧ b < w7.heap.size ∧ ¬ X b ∧ b ≠ p8) (hV : fs.map FR.t = s.V) (hfz : s.down = false → fu = (s.fuse : Nat)) (hpX : ¬ X p8) (hpw : w.heap.size ≤ p8) :
    Pl w dp p8 most U X s A n c fs fu (w7.setCell ⟨p8, 2, none⟩ (.int .i64 fu)) := by
  have hz : (w7.setCell ⟨p8, 2, none⟩ (.int .i64 fu)).heap.size = w7.heap.size := by simp [World.setCell]
  refine ⟨⟨hdb.disk.keep fun j hj => Below.heap_setCell _ _ _ j (fun e => hpX (by have e' : j = p8 := e; rw [← e']; exact hj)), hdb.own, hdb.old.setCell (p := ⟨p8, 2, none⟩) hpw _⟩, hpi, ht.set_ 2 (.int .i64 fu), (hr.set_ (p := ⟨p8, 2, none⟩) (fun h => (hY p8 h).2.2.2 rfl) _).mono fun b hb => ?_, hV, hfz, hpX, hpw⟩
  rw [hz]
  exact hY b hb
/-- What the law has behind a call of each side: the document's disk is stored anew. -/
theorem Pl.turn {w : World} {dp p8 most U : Nat} {X : Nat → Prop} {s : Sta} {A : Option Addr} {n c M : Nat} {fs : List FR} {fu : Int} {w7 : World} {Y : Nat → Prop} {cs : Array Value} (hdb : DB w w7 dp X s) (hpi : PI most U U s) (ht : Blk w7 p8 53 cs) (hcs : cs.size = 4) (hr : RefAt w7 (fun b => Y b ∨ (M ≤ b ∧ b < w7.heap.size)) A n fs)
    (hY : ∀ b, Y b → w.heap.size ≤ b ∧ b < w7.heap.size ∧ ¬ X b ∧ b ≠ p8) (hM : ∀ b, M ≤ b → ¬ X b) (hpM : p8 < M) (hwM : w.heap.size ≤ M) (hV : fs.map FR.t = s.V) (hfz : s.down = false → fu = (s.fuse : Nat)) (hpX : ¬ X p8) (hpw : w.heap.size ≤ p8) :
    Pl w dp p8 most U X s A n c fs fu ((((w7.setCell ⟨p8, 0, none⟩ (.slice A n c)).setCell ⟨p8, 1, none⟩ (.int .i64 (most : Nat))).setCell ⟨p8, 2, none⟩ (.int .i64 fu)).setCell ⟨p8, 3, none⟩ (.bool s.down)) := by
  have hz : ((((w7.setCell ⟨p8, 0, none⟩ (.slice A n c)).setCell ⟨p8, 1, none⟩ (.int .i64 (most : Nat))).setCell ⟨p8, 2, none⟩ (.int .i64 fu)).setCell ⟨p8, 3, none⟩ (.bool s.down)).heap.size = w7.heap.size := by simp [World.setCell]
  have hn : ¬ (Y p8 ∨ (M ≤ p8 ∧ p8 < w7.heap.size)) := by
    rintro (h1 | h1)
    · exact (hY p8 h1).2.2.2 rfl
    · omega
  have h4 := (((hr.set_ (p := ⟨p8, 0, none⟩) hn (.slice A n c)).set_ (p := ⟨p8, 1, none⟩) hn (.int .i64 (most : Nat))).set_ (p := ⟨p8, 2, none⟩) hn (.int .i64 fu)).set_ (p := ⟨p8, 3, none⟩) hn (.bool s.down)
  obtain ⟨a, b, c', d, rfl⟩ : ∃ a b c' d, cs = #[a, b, c', d] := by
    obtain ⟨l⟩ := cs
    match l, hcs with
    | [a, b, c', d], _ => exact ⟨a, b, c', d, rfl⟩
  refine ⟨⟨hdb.disk.keep fun j hj => ?_, hdb.own, below_set4 hdb.old hpw _ _ _ _⟩, hpi, ?_, ?_, hV, hfz, hpX, hpw⟩
  · have hne : j ≠ p8 := fun e => hpX (e ▸ hj)
    rw [Below.heap_setCell _ _ _ j hne, Below.heap_setCell _ _ _ j hne, Below.heap_setCell _ _ _ j hne, Below.heap_setCell _ _ _ j hne]
  · exact (((ht.set_ 0 (.slice A n c)).set_ 1 (.int .i64 (most : Nat))).set_ 2 (.int .i64 fu)).set_ 3 (.bool s.down)
  · refine h4.mono fun b hb => ?_
    rw [hz]
    rcases hb with h1 | h1
    · exact hY b h1
    · exact ⟨by omega, h1.2, hM b h1.1, by omega⟩
end Go.Proofs.Yteokiaeojgjpdaa
