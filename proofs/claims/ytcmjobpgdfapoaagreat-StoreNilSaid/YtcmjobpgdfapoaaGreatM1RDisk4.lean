/- Of the proofs of layer 4, merged: RDisk4. -/
import Derived.Test.YtcmjobpgdfapoaaGreatMRDisk2
import Derived.Lib.ConvBytes

/- The document's Disk: Read. -/
namespace Go.Proofs.YtcmjobpgdfapoaaGreat
open Go.RowKit

theorem conv_str (l : List UInt8) (w : World) : ∃ c W', (convert 9 23 (.string ⟨l.toArray⟩)).run Tryz.prog w = .ok (.slice (some ⟨w.heap.size, 0, none⟩) l.length c) W' ∧ Rd W' W'.heap.size (some ⟨w.heap.size, 0, none⟩) l.length l ∧ Below w.heap.size w W' ∧ (l.length ≤ c ∧ (l.length ≤ 1000 → c ≤ 9223372036854775807)) := by
  have h := Lib.run_convert_string_bytes (P := Tryz.prog) w 9 23 5 ⟨l.toArray⟩ Tryz.underlying9 Tryz.underlying23 Tryz.underlying5
  have hs : (⟨l.toArray⟩ : ByteArray).size = l.length := by simp [ByteArray.size]
  rw [hs] at h
  refine ⟨_, _, h, ⟨rfl, fun _ => ⟨_, 0, rfl, by rw [Lib.bytesWorld_size]; omega, fun j hj => ?_⟩⟩, ⟨?_, ?_, ?_, ?_, fun k hk => Lib.bytesWorld_at_old w 5 _ k hk⟩, ⟨grownCap_ge _ _ _ _, fun hl => grownCap_le_maxLen _ _ _ _ (by unfold maxLen; omega)⟩⟩
  · rw [Nat.zero_add, Lib.bytesWorld_cell w 5 _ j (by rw [hs]; exact hj)]
    simp [List.getD, hj]
  · rfl
  · rfl
  · rfl
  · rw [Lib.bytesWorld_size]; omega

theorem seen_take (s : List (List UInt8)) (ws : List (Nat × List UInt8)) (i j : Nat) (hj : j < ws.length) : seen s (ws.take (j + 1)) i = if ws[j].1 = i then ws[j].2 else seen s (ws.take j) i := by
  unfold seen
  rw [List.take_succ_eq_append_getElem hj, List.foldl_append]
  rfl

/-- What a Read answers. -/
def Tells (l : List UInt8) (r : Int) (w : World) (e : Ending) (w' : World) : Prop := ∃ A c, e = .returned (.tuple #[.slice A l.length c, .int .i64 r]) ∧ Rd w' w'.heap.size A l.length l ∧ (l.length ≤ c ∧ (l.length ≤ 1000 → c ≤ 9223372036854775807)) ∧ Below w.heap.size w w'
theorem Tells.none_ (r : Int) (w : World) : Tells [] r w (.returned (.tuple #[.slice none 0 0, .int .i64 r])) w := ⟨none, 0, rfl, Rd.nil _ _ _, ⟨Nat.le_refl _, fun _ => by omega⟩, Below.refl _ _⟩

set_option maxRecDepth 100000 in
set_option maxHeartbeats 4000000 in
theorem rread_any (M : Nat) (d : Dk) (F : Nat → Prop) (a : Int) (w : World) (hwl : d.waits.length ≤ 1000000000) (h : RD w F M d) :
    Calls Tryz.prog 157 #[.pointer (some ⟨M, 0, none⟩), .int .i64 a] w (Tells (d.read a).1 (d.read a).2 w) := by
  have c3 := h.downCell
  have hlen := h.len
  obtain ⟨sv, wv, hr, _⟩ := h
  obtain ⟨ms, cs, rfl⟩ := own_someR hr.rsafe (by omega)
  have c0 : w.cell? ⟨M, 0, none⟩ = some (.slice (some ⟨ms, 0, none⟩) d.safe.length cs) := hr.blk.cell 0
  unfold Dk.read
  by_cases hd : d.down = true
  · rw [if_pos hd]
    rw [hd] at c3
    generalize d.safe.length = N at *
    clear hr
    go_enter Tryz.func157, Tryz.ntmps157
    go_wp2
    go_ret2
    exact Tells.none_ _ _
  · rw [if_neg hd]
    have hd' : d.down = false := by simpa using hd
    rw [hd'] at c3
    by_cases ho : a < 0 ∨ (d.safe.length : Int) ≤ a
    · rw [if_pos ho]
      generalize d.safe.length = N at *
      clear hr
      by_cases h0 : a < 0
      all_goals
        go_enter Tryz.func157, Tryz.ntmps157
        go_wp2
        go_ret2
        exact Tells.none_ _ _
    · rw [if_neg ho]
      obtain ⟨k, rfl⟩ := Int.eq_ofNat_of_zero_le (show 0 ≤ a by omega)
      have hk : k < d.safe.length := by omega
      rw [show ((k : Int)).toNat = k from Int.toNat_natCast k]
      have sc := hr.safeAt k hk
      obtain ⟨A, c, rfl, _⟩ := own_shape hr.rwaits
      have c1 : w.cell? ⟨M, 1, none⟩ = some (.slice A d.waits.length c) := hr.blk.cell 1
      have HR := Lib.hid hr
      have Hcv := Lib.hid (fun l => conv_str l w)
      clear hr
      have ha0 : (0 : Int) ≤ (k : Int) := by omega
      have ha1 : (k : Int) < (d.safe.length : Int) := by omega
      generalize hn : d.waits.length = n at *
      have Hn := Lib.hid hn
      generalize hs : d.safe.length = s at *
      have Hs := Lib.hid hs
      unfold strV at sc
      clear hn hs ho
      go_enter Tryz.func157, Tryz.ntmps157
      go_wp2
      go_loopg [6, 7] n (fun gk x i wr => ∃ j : Nat, i = .int .i64 j ∧ j + gk = n ∧ x = .string ⟨(seen d.safe (d.waits.take j) k).toArray⟩ ∧ w = wr)
      case atStart => exact ⟨0, rfl, by omega, rfl, rfl⟩
      case round =>
        obtain ⟨j, rfl, hgk, rfl, rfl⟩ := hrel
        clear sc
        by_cases hj : j < n
        · have hjl : j < d.waits.length := by rw [Hn.out]; exact hj
          obtain ⟨mw, rfl⟩ : ∃ mw, A = some ⟨mw, 0, none⟩ := by
            rcases HR.out.rwaits.2 with ⟨h', h0⟩ | ⟨mw, cap, cur, hv, _⟩
            · omega
            · injection hv with e1; exact ⟨mw, e1⟩
          have hse := seen_take d.safe d.waits k j hjl
          obtain ⟨wc0, wc1⟩ := HR.out.waitAt j hjl
          generalize d.waits[j] = x at *
          obtain ⟨at_, what⟩ := x
          simp only at hse wc0 wc1
          generalize seen d.safe (d.waits.take j) k = old at *
          unfold strV at wc1
          by_cases e : at_ = k
          · rw [if_pos e] at hse
            subst e
            have Hse := Lib.hid hse
            clear hjl hse
            go_wp2
            go_roundg (gk - 1)
            case measure => omega
            case rel => exact ⟨j + 1, by go_num, by omega, by rw [Hse.out], rfl⟩
          · rw [if_neg e] at hse
            have Hse := Lib.hid hse
            have hne : ((at_ : Int) == (k : Int)) = false := by simp; omega
            clear hjl e hse
            go_wp2
            go_roundg (gk - 1)
            case measure => omega
            case rel => exact ⟨j + 1, by go_num, by omega, by rw [Hse.out], rfl⟩
        · obtain rfl : j = n := by omega
          have hall : d.waits.take j = d.waits := List.take_of_length_le (by rw [Hn.out]; exact Nat.le_refl _)
          rw [hall]
          generalize seen d.safe d.waits k = l at *
          obtain ⟨c', W', hcv, hrd, hbe, hle⟩ := Hcv.out l
          have Hrd := Lib.hid hrd
          have Hbe := Lib.hid hbe
          have Hle := Lib.hid hle
          clear hrd hbe hle hall
          go_wp2
          go_ret2
          exact (⟨_, c', rfl, Hrd.out, Hle.out, Hbe.out⟩ : Tells l 0 w _ W')
end Go.Proofs.YtcmjobpgdfapoaaGreat
