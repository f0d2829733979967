/- A law's call of a disk by its kind (does). -/
import Derived.Test.YteokiaeojgjpdaaUa
import Derived.Test.YteokiaeojgjpdaaVp
import Derived.Test.YteokiaeojgjpdaaLv
namespace Go.Proofs.Yteokiaeojgjpdaa
open Go.RowKit Go.Maps Go.Sort

theorem After.shift {w w1 w' : World} {dp : Nat} {X : Nat → Prop} {s : Sta} (hk : Kept X w w1) (h : After w1 dp X s w') : After w dp X s w' := by
  obtain ⟨X', h1, h2, h3⟩ := h
  refine ⟨X', h1, fun j hj => ?_, hk.trans h3 (fun j hj => .inl hj)⟩
  rcases h2 j hj with h4 | h4
  · exact .inl h4
  · have := hk.size; exact .inr (by omega)
def DoesP (w : World) (dp : Nat) (X : Nat → Prop) (r k m kd : Nat) (s : Sta) (e : Ending) (w' : World) : Prop := ∃ c s2, e = .returned (.int .i64 c) ∧ After w dp X s2 w' ∧ Does r k m kd s (c, s2)
set_option maxHeartbeats 4000000 in
set_option maxRecDepth 100000 in
theorem does_any {w : World} {dp : Nat} {X : Nat → Prop} {s : Sta} {r k : Nat} (h : Disk w dp X s) (hI : Inv r k s) (hr : r ≤ 1000) (hk : k ≤ 1000) (kd : Nat) (h1 : 1 ≤ kd) (h6 : kd ≤ 6) (a z : ByteArray) (ha : a.size ≤ maxLen) (hz : z.size ≤ maxLen) (num : Int) {A : Option Addr} {m d : Nat} {bs : List UInt8} (hb : BytesAt w A m bs) (hm : m ≤ 1000) (hdj : 0 < m → ∀ b o, A = some ⟨b, o, none⟩ → b ≠ dp) (K : Option Addr) (kn kc : Nat) :
    Calls Try.prog 25 #[.pointer (some ⟨dp, 0, none⟩), .agg #[.int .i64 (kd : Nat), .string a, .string z, .int .i64 num, .slice A m d, .slice K kn kc]] w (DoesP w dp X r k m kd s) := by
  have ok := hI.ok hr hk
  have hR := disk_rise h
  have bal : Below w.heap.size w (w.alloc (.cells #[.int .i64 (kd : Nat), .string a, .string z, .int .i64 num, .slice A m d, .slice K kn kc] 57)) := (Below.refl _ w).alloc (Nat.le_refl _) _
  have hD : Disk (w.alloc (.cells #[.int .i64 (kd : Nat), .string a, .string z, .int .i64 num, .slice A m d, .slice K kn kc] 57)) dp X s := h.keep fun j hj => bal.block j (h.lt hj)
  have hkp : Kept X w (w.alloc (.cells #[.int .i64 (kd : Nat), .string a, .string z, .int .i64 num, .slice A m d, .slice K kn kc] 57)) := (Kept.refl X w).alloc _
  have hbl := hb.1
  rcases (by omega : kd = 1 ∨ kd = 2 ∨ kd = 3 ∨ kd = 4 ∨ kd = 5 ∨ kd = 6) with rfl | rfl | rfl | rfl | rfl | rfl
  · have C := Lib.hid (hD.create ok a ha)
    have DD := Lib.hid (show Does r k m 1 s (createS a.data.toList s) from does_create hI)
    have HK := Lib.hid hkp
    generalize hx : createS a.data.toList s = x at C DD
    obtain ⟨cd, s2⟩ := x
    clear hx ok hR bal hD hkp hbl hb hdj hI h h1 h6
    go_enter Try.func25, Try.ntmps25
    go_wp2_with fail
    refine C.out.mono ?_
    rintro e w1 ⟨rfl, ha⟩
    have FIN := Lib.hid (show DoesP w dp X r k m 1 s (.returned (.int .i64 cd)) w1 from ⟨cd, s2, rfl, ha.shift HK.out, DD.out⟩)
    clear ha C
    go_wp2_with fail
    go_ret
    exact FIN.out
  · have C := Lib.hid (hD.append (c := d) ok a ha (hb.below bal) hdj (by omega))
    have DD := Lib.hid (show Does r k m 2 s (appendS a.data.toList bs s) from does_append hI hR hbl)
    have HK := Lib.hid hkp
    generalize hx : appendS a.data.toList bs s = x at C DD
    obtain ⟨cd, s2⟩ := x
    clear hx ok hR bal hD hkp hbl hb hdj hI h h1 h6
    go_enter Try.func25, Try.ntmps25
    go_wp2_with fail
    refine C.out.mono ?_
    rintro e w1 ⟨rfl, ha⟩
    have FIN := Lib.hid (show DoesP w dp X r k m 2 s (.returned (.int .i64 cd)) w1 from ⟨cd, s2, rfl, ha.shift HK.out, DD.out⟩)
    clear ha C
    go_wp2_with fail
    go_ret
    exact FIN.out
  · have C := Lib.hid (hD.sync ok a ha)
    have DD := Lib.hid (show Does r k m 3 s (syncS a.data.toList s) from does_sync hI hR)
    have HK := Lib.hid hkp
    generalize hx : syncS a.data.toList s = x at C DD
    obtain ⟨cd, s2⟩ := x
    clear hx ok hR bal hD hkp hbl hb hdj hI h h1 h6
    go_enter Try.func25, Try.ntmps25
    go_wp2_with fail
    refine C.out.mono ?_
    rintro e w1 ⟨rfl, ha⟩
    have FIN := Lib.hid (show DoesP w dp X r k m 3 s (.returned (.int .i64 cd)) w1 from ⟨cd, s2, rfl, ha.shift HK.out, DD.out⟩)
    clear ha C
    go_wp2_with fail
    go_ret
    exact FIN.out
  · have C := Lib.hid (hD.rename ok a z ha hz)
    have DD := Lib.hid (show Does r k m 4 s (renameS a.data.toList z.data.toList s) from does_rename hI hR)
    have HK := Lib.hid hkp
    generalize hx : renameS a.data.toList z.data.toList s = x at C DD
    obtain ⟨cd, s2⟩ := x
    clear hx ok hR bal hD hkp hbl hb hdj hI h h1 h6
    go_enter Try.func25, Try.ntmps25
    go_wp2_with fail
    refine C.out.mono ?_
    rintro e w1 ⟨rfl, ha⟩
    have FIN := Lib.hid (show DoesP w dp X r k m 4 s (.returned (.int .i64 cd)) w1 from ⟨cd, s2, rfl, ha.shift HK.out, DD.out⟩)
    clear ha C
    go_wp2_with fail
    go_ret
    exact FIN.out
  · have C := Lib.hid (hD.cut ok a ha num)
    have DD := Lib.hid (show Does r k m 5 s (cutS a.data.toList num s) from does_cut hI hR num)
    have HK := Lib.hid hkp
    generalize hx : cutS a.data.toList num s = x at C DD
    obtain ⟨cd, s2⟩ := x
    clear hx ok hR bal hD hkp hbl hb hdj hI h h1 h6
    go_enter Try.func25, Try.ntmps25
    go_wp2_with fail
    refine C.out.mono ?_
    rintro e w1 ⟨rfl, ha⟩
    have FIN := Lib.hid (show DoesP w dp X r k m 5 s (.returned (.int .i64 cd)) w1 from ⟨cd, s2, rfl, ha.shift HK.out, DD.out⟩)
    clear ha C
    go_wp2_with fail
    go_ret
    exact FIN.out
  · have C := Lib.hid (hD.remove ok a ha)
    have DD := Lib.hid (show Does r k m 6 s (removeS a.data.toList s) from does_remove hI hR (by decide))
    have HK := Lib.hid hkp
    generalize hx : removeS a.data.toList s = x at C DD
    obtain ⟨cd, s2⟩ := x
    clear hx ok hR bal hD hkp hbl hb hdj hI h h1 h6
    go_enter Try.func25, Try.ntmps25
    go_wp2_with fail
    refine C.out.mono ?_
    rintro e w1 ⟨rfl, ha⟩
    have FIN := Lib.hid (show DoesP w dp X r k m 6 s (.returned (.int .i64 cd)) w1 from ⟨cd, s2, rfl, ha.shift HK.out, DD.out⟩)
    clear ha C
    go_wp2_with fail
    go_ret
    exact FIN.out
end Go.Proofs.Yteokiaeojgjpdaa
