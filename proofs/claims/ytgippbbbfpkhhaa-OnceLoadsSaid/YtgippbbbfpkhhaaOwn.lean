/- ref00.Own answers true, and changes nothing below the lists' own blocks, if each list lies in memory of its own. -/
import Derived.Test.YtgippbbbfpkhhaaProg
import Derived.Test.YtgippbbbfpkhhaaOwnP
import Derived.Test.YtgippbbbfpkhhaaRefPut
import Derived.Deep.LoopGhost
namespace Go.Proofs.Ytgippbbbfpkhhaa
open Go.RowKit

section
variable {w w' : World} {base e e2 : Nat} {lv v : Value} {vals : List Value} {L : Nat → List UInt8}
theorem Lies.cell (h : Lies w base e e2 lv vals L) {gl c0 i : Nat} (hlv : lv = .slice (some ⟨gl, 0, none⟩) vals.length c0) (hi : vals[i]? = some v) : w.cell? ⟨gl, i, none⟩ = some v := by
  have hr := h.row
  rw [hlv] at hr
  rw [hr.cellAt i (by have := (List.getElem?_eq_some_iff.1 hi).1; omega), hi]
theorem own_head {n : Nat} {xs : List Value} {b s : Nat} {u : Value} (h : w.ownsRow b e s u n xs) (hn : 0 < n) : ∃ g c, u = .slice (some ⟨g, 0, none⟩) n c ∧ n ≤ c ∧ b ≤ g := by
  rcases h.2 with ⟨_, h0⟩ | ⟨g, cap, cur, rfl, hb, _, h1, _⟩
  · omega
  · exact ⟨g, cap, rfl, h1, hb⟩
end

theorem Try.infoBytes : (Try.prog.info? 33).map (fun i => (i.zero, i.size, i.bytes)) = some (some (.slice none 0 0), 1, 24) := by kernel_rfl

theorem Long.start {w : World} {base : Nat} {lv : Value} {vals : List Value} {ns : Nat → Nat} (h : Lies w base 5 33 lv vals fun i => F i (ns i)) : Long w base 5 33 lv vals ns (.slice none 0 0) [] :=
  ⟨h, World.ownsRow_nil _ _ _ _, fun j x hx => by simp at hx, Apart.nil _, fun j k x v _ hx => by simp at hx, fun i j v u _ hv => by simp at hv⟩

theorem wbyte (x : Int) : (IntKind.u8.wrap x) = x % 256 := IntKind.wrap_u8 x

/-- The first loop's state. -/
def S1 (base : Nat) (lv : Value) (vals : List Value) (L0 : Nat → List UInt8) (j k : Nat) (wr : World) : Prop :=
  ∃ L, Lies wr base 5 33 lv vals L ∧ (∀ i, (L i).length = (L0 i).length) ∧ (∀ i, i < j → L i = F i (L0 i).length) ∧ Done j k (L j)

theorem S1.next {base : Nat} {lv : Value} {vals : List Value} {L0 : Nat → List UInt8} {j : Nat} {wr : World} (h : S1 base lv vals L0 j (L0 j).length wr) : S1 base lv vals L0 (j + 1) 0 wr := by
  obtain ⟨L, h1, h2, h3, h4⟩ := h
  refine ⟨L, h1, h2, fun i hi => ?_, Done.zero _ _⟩
  by_cases hij : i = j
  · subst hij
    rw [← h2 i] at h4 ⊢
    exact h4.all
  · exact h3 i (by omega)

theorem S1.store {base : Nat} {lv : Value} {vals : List Value} {L0 : Nat → List UInt8} {j k : Nat} {wr : World} (h : S1 base lv vals L0 j k wr) (hap : AllApart vals) {g n c : Nat} (hv : vals[j]? = some (.slice (some ⟨g, 0, none⟩) n c)) :
    S1 base lv vals L0 j (k + 1) (wr.setCell ⟨g, k, none⟩ (.int .u8 ((fb j k).toNat : Int))) := by
  obtain ⟨L, h1, h2, h3, h4⟩ := h
  refine ⟨_, h1.store (by decide) hap hv (fb j k), fun i => ?_, fun i hi => ?_, ?_⟩
  · by_cases hi : i = j
    · subst hi; rw [upd_same, List.length_set, h2]
    · rw [upd_other _ _ _ _ hi, h2]
  · rw [upd_other _ _ _ _ (by omega)]; exact h3 i hi
  · rw [upd_same]; exact h4.step

theorem S1.done {base : Nat} {lv : Value} {vals : List Value} {L0 : Nat → List UInt8} {wr : World} (h : S1 base lv vals L0 vals.length 0 wr) : Lies wr base 5 33 lv vals fun i => F i (L0 i).length := by
  obtain ⟨L, h1, h2, h3, _⟩ := h
  exact h1.congr fun i hi => h3 i hi

theorem S1.shape {base : Nat} {lv : Value} {vals : List Value} {L0 : Nat → List UInt8} {j k : Nat} {wr : World} (h : S1 base lv vals L0 j k wr) {v : Value} (hv : vals[j]? = some v) : ∃ l, wr.ownsRow base 5 1 v (L0 j).length (u8s l) := by
  obtain ⟨L, h1, h2, _⟩ := h
  have := h1.each j v hv
  rw [h2 j] at this
  exact ⟨_, this⟩
theorem S1.cell {base c0 gl : Nat} {vals : List Value} {L0 : Nat → List UInt8} {j k i : Nat} {wr : World} (h : S1 base (.slice (some ⟨gl, 0, none⟩) vals.length c0) vals L0 j k wr) {v : Value} (hv : vals[i]? = some v) : wr.cell? ⟨gl, i, none⟩ = some v := by
  obtain ⟨L, h1, _⟩ := h
  exact h1.cell rfl hv

set_option maxHeartbeats 4000000 in
set_option maxRecDepth 100000 in
theorem own_any (A : Option Addr) (K c0 base : Nat) (vals : List Value) (L0 : Nat → List UInt8) (w : World) (hK : vals.length = K) (h : Lies w base 5 33 (.slice A K c0) vals L0) (hap : AllApart vals) (hbase : base ≤ w.heap.size)
    (hKs : K ≤ 1099511627776) (hns : ∀ i, (L0 i).length ≤ 1099511627776) :
    Calls Try.prog 28 #[.slice A K c0] w fun e w' => e = .returned (.bool true) ∧ Below base w w' := by
  obtain ⟨i0, hi0, hz0, hz1, hz2⟩ := info_parts Try.infoU8
  obtain ⟨i1, hi1, hy0, hy1, hy2⟩ := info_parts Try.infoBytes
  have Hns := Lib.hid hns
  have Hap := Lib.hid hap
  have Hs : Hid (S1 base (.slice A K c0) vals L0 0 0 w) := ⟨L0, h, fun _ => rfl, fun _ h => absurd h (by omega), Done.zero _ _⟩
  have HA : Hid (0 < K → ∃ gl, A = some ⟨gl, 0, none⟩) := by
    intro h0
    obtain ⟨g, c, hv, _⟩ := own_head h.row (by omega)
    injection hv with hv _ _
    exact ⟨g, hv⟩
  clear hns hap h
  subst hK
  go_enter Try.func28, Try.ntmps28
  go_wp2
  go_loopg [4] vals.length (fun g i wr => ∃ j : Nat, i = .int .i64 j ∧ j + g = vals.length ∧ Hid (S1 base (.slice A vals.length c0) vals L0 j 0 wr) ∧ Below base w wr)
  case atStart => exact ⟨0, rfl, by omega, Hs, Below.refl _ _⟩
  case round =>
    clear Hs
    obtain ⟨j, rfl, hj, Hs, hb⟩ := hrel
    obtain ⟨go, rfl⟩ : ∃ go : Nat, go = gk := ⟨_, rfl⟩
    by_cases hjl : j < vals.length
    · obtain ⟨gl, rfl⟩ := HA.out (by omega)
      obtain ⟨v, hv⟩ : ∃ v, vals[j]? = some v := ⟨_, List.getElem?_eq_getElem hjl⟩
      obtain ⟨l1, hl1⟩ := Hs.out.shape hv
      obtain ⟨Av, cv, rfl, hcv, hcm⟩ := own_shape hl1
      have Hv := Lib.hid hv
      have Hn := Hns.out j
      obtain ⟨wo, rfl⟩ : ∃ wo : World, wo = wr := ⟨_, rfl⟩
      clear hv hl1
      go_wp2
      go_loopg [5] (L0 j).length (fun g i wr => ∃ k : Nat, i = .int .i64 k ∧ k + g = (L0 j).length ∧ Hid (S1 base (.slice (some ⟨gl, 0, none⟩) vals.length c0) vals L0 j k wr) ∧ Below base w wr)
      case atStart => exact ⟨0, rfl, by omega, Hs, hb⟩
      case round =>
        clear Hs hb
        obtain ⟨k, rfl, hk, Hs, hb⟩ := hrel
        have hcell : wr.cell? ⟨gl, j, none⟩ = some (.slice Av (L0 j).length cv) := Hs.out.cell Hv.out
        by_cases hkl : k < (L0 j).length
        · obtain ⟨l2, hl2⟩ := Hs.out.shape Hv.out
          obtain ⟨g, cg, hvg, _, hbg⟩ := own_head hl2 (by omega)
          obtain ⟨rfl, rfl⟩ : Av = some ⟨g, 0, none⟩ ∧ cv = cg := by injection hvg with h1 _ h3; exact ⟨h1, h3⟩
          have hl2l : l2.length = (L0 j).length := by have := hl2.1; rw [u8s_len] at this; omega
          have hcell2 : wr.cell? ⟨g, k, none⟩ = some (.int .u8 ((l2[k]'(by omega)).toNat : Int)) := by
            rw [hl2.cellAt k (by omega), u8s_at l2 k (by omega)]
          have hfr := hl2.frozenAt k
          have hst := Hs.out.store Hap.out Hv.out (k := k)
          have hb2 := hb.setCell (p := ⟨g, k, none⟩) hbg (.int .u8 ((fb j k).toNat : Int))
          rw [fb_val] at hst hb2
          have Hst := Lib.hid hst
          have Hb2 := Lib.hid hb2
          have hwb := wbyte ((j : Int) * 31 + (k : Int) % 7)
          generalize (l2[k]'(by omega)).toNat = y at hcell2
          clear hst hb2 hb Hs hl2 hl2l hvg
          go_wp2
          go_roundg (gk - 1)
          case measure => omega
          case rel => exact ⟨k + 1, by go_num, by omega, Hst, Hb2.out⟩
        · have e : k = (L0 j).length := by omega
          have Hn1 : Hid (S1 base (.slice (some ⟨gl, 0, none⟩) vals.length c0) vals L0 (j + 1) 0 wr) := by
            have := Hs.out
            rw [e] at this
            exact this.next
          clear e Hs
          go_wp2
          go_roundg (go - 1)
          case measure => omega
          case rel => exact ⟨j + 1, by go_num, by omega, Hn1, hb⟩
    · obtain rfl : j = vals.length := by omega
      have Hl := Lib.hid (Hs.out.done)
      clear Hs
      go_wp2
      go_loopg [3, 6] vals.length (fun g lg i wr => ∃ (j : Nat) (xs : List Value), i = .int .i64 j ∧ j + g = vals.length ∧ xs.length = j ∧ Hid (Long wr base 5 33 (.slice A vals.length c0) vals (fun i => (L0 i).length) lg xs) ∧ Below base w wr)
      case atStart => exact ⟨0, [], rfl, by omega, rfl, Long.start Hl.out, hb⟩
      case round =>
        clear Hl hb
        obtain ⟨j, xs, rfl, hj, rfl, Hs, hb⟩ := hrel
        obtain ⟨go, rfl⟩ : ∃ go : Nat, go = gk := ⟨_, rfl⟩
        by_cases hjl : xs.length < vals.length
        · obtain ⟨gl, rfl⟩ := HA.out (by omega)
          obtain ⟨v, hv⟩ : ∃ v, vals[xs.length]? = some v := ⟨_, List.getElem?_eq_getElem hjl⟩
          have hcell : wr.cell? ⟨gl, xs.length, none⟩ = some v := Hs.out.lies.cell rfl hv
          have Hg := Lib.hid (Grows.start Hs.out Hap.out hv)
          have Hv := Lib.hid hv
          have Hn := Hns.out xs.length
          have Hns2 : Hid ((fun i => (L0 i).length) xs.length = (L0 xs.length).length) := rfl
          obtain ⟨lg, rfl⟩ : ∃ lg : Value, lg = u3 := ⟨_, rfl⟩
          clear hv Hs
          go_wp2
          go_loopg [7, 8] 4 (fun g x k wr => ∃ q : Nat, k = .int .i64 q ∧ q + g = 4 ∧ Hid (Grows wr base 5 33 (.slice (some ⟨gl, 0, none⟩) vals.length c0) vals (fun i => (L0 i).length) lg xs q x) ∧ Below base w wr)
          case atStart => exact ⟨0, rfl, by omega, Hg, hb⟩
          case round =>
            clear Hg hb hcell Hv
            obtain ⟨q, rfl, hq, Hg, hb⟩ := hrel
            obtain ⟨x, rfl⟩ : ∃ x : Value, x = u7 := ⟨_, rfl⟩
            have hsz := hb.size
            by_cases hq4 : q < 4
            · have hgo := Hg.out.own
              have hwb := wbyte (200 + (xs.length : Int) * 5 + (q : Int))
              go_wp2_with (at_builtin; refine wpList_append_app _ rfl _ _ 33 rfl base 5 i0 (.int .u8 0) 1 1 Try.underlying33 hi0 hz0 hz1 hz2 rfl _ _ _ rfl (hgo.alloc _) (some ⟨wr.heap.size, 0, none⟩) 1 1 [Value.int .u8 ((200 + (xs.length : Int) * 5 + (q : Int)) % 256)] rfl rfl (by intro h; cases h) (cell_new1 _ _ _) (by intro u hu; simp at hu; subst hu; rfl) (by unfold maxLen; omega) (by omega) (by simp; omega) ?_)
              intro x' w2 ha
              have hb1 := hb.alloc (by omega) (.cells #[Value.int .u8 ((200 + (xs.length : Int) * 5 + (q : Int)) % 256)] 5)
              have Hb2 := Lib.hid (ha.below hb1 (by simp; omega) (own_block_ge hgo))
              have hst := (Hg.out.below ((Below.refl wr.heap.size wr).alloc (Nat.le_refl _) (.cells #[Value.int .u8 ((200 + (xs.length : Int) * 5 + (q : Int)) % 256)] 5))).step (by decide) (x' := x') (w' := w2) (by rw [gb_val]; exact ha)
              have Hst := Lib.hid hst
              clear hst ha hb1 hb Hg hgo
              go_wp2
              go_roundg (gk - 1)
              case measure => omega
              case rel => exact ⟨q + 1, by go_num, by omega, Hst, Hb2.out⟩
            · obtain rfl : q = 4 := by omega
              have hgl := Hg.out.st.long
              obtain ⟨Ax, cx, hxv, _⟩ := own_shape Hg.out.own
              generalize (L0 xs.length).length + 4 = nx at hxv
              subst hxv
              go_wp2_with (at_builtin; refine wpList_append_app _ rfl _ _ 57 rfl base 33 i1 (.slice none 0 0) 1 24 Try.underlying57 hi1 hy0 hy1 hy2 rfl _ _ _ rfl (hgl.alloc _) (some ⟨wr.heap.size, 0, none⟩) 1 1 [Value.slice Ax nx cx] rfl rfl (by intro h; cases h) (cell_new1 _ _ _) (by intro u hu; simp at hu; subst hu; rfl) (by unfold maxLen; omega) (by omega) (by simp; omega) ?_)
              intro lg' w2 ha
              have hb1 := hb.alloc (by omega) (.cells #[Value.slice Ax nx cx] 33)
              have Hb2 := Lib.hid (ha.below hb1 (by simp; omega) (own_block_ge hgl))
              have hst := (Hg.out.below ((Below.refl wr.heap.size wr).alloc (Nat.le_refl _) (.cells #[Value.slice Ax nx cx] 33))).finish (by decide) ha
              have Hst := Lib.hid hst
              clear hst ha hb1 hb Hg hgl
              go_wp2
              go_roundg (go - 1)
              case measure => omega
              case rel => exact ⟨xs.length + 1, xs ++ [Value.slice Ax nx cx], by go_num, by omega, by simp, Hst, Hb2.out⟩
        · have hxl : xs.length = vals.length := by omega
          have Hxl := Lib.hid hxl
          have Hb := Lib.hid hb
          have HL : Hid (0 < vals.length → ∃ gx cx, u3 = .slice (some ⟨gx, 0, none⟩) xs.length cx ∧ xs.length ≤ cx) := by
            intro h0
            obtain ⟨g, c, hv, hc, _⟩ := own_head Hs.out.long (by omega)
            exact ⟨g, c, hv, hc⟩
          clear hb
          go_wp2
          go_loopg [9] vals.length (fun g i w1 => ∃ j : Nat, i = .int .i64 j ∧ j + g = vals.length ∧ wr = w1)
          case atStart => exact ⟨0, rfl, by omega, rfl⟩
          case round =>
            obtain ⟨j, rfl, hj2, rfl⟩ := hrel
            obtain ⟨go2, rfl⟩ : ∃ go2 : Nat, go2 = gk := ⟨_, rfl⟩
            by_cases hjv : j < vals.length
            · obtain ⟨gl, rfl⟩ := HA.out (by omega)
              obtain ⟨gx, cx, rfl, hxc⟩ := HL.out (by omega)
              obtain ⟨v, hv⟩ : ∃ v, vals[j]? = some v := ⟨_, List.getElem?_eq_getElem hjv⟩
              obtain ⟨x, hx⟩ : ∃ x, xs[j]? = some x := ⟨_, List.getElem?_eq_getElem (by omega)⟩
              have hcell : wr.cell? ⟨gl, j, none⟩ = some v := Hs.out.lies.cell rfl hv
              have hcellx : wr.cell? ⟨gx, j, none⟩ = some x := by rw [Hs.out.long.cellAt j (by omega), hx]
              have hov := Hs.out.lies.each j v hv
              have hox := Hs.out.more j x hx
              rw [F_len] at hov
              obtain ⟨Av, cv, rfl, hcv, hcm⟩ := own_shape hov
              obtain ⟨g2, c2, rfl, hc2, _⟩ := own_head hox (by omega)
              have hn := Hns.out j
              generalize hnn : (L0 j).length = n at *
              have Hnn := Lib.hid hnn
              have Hov := Lib.hid hov
              have Hox := Lib.hid hox
              clear hv hx hnn hov hox
              go_wp2
              go_loopg [11] n (fun g i w1 => ∃ k : Nat, i = .int .i64 k ∧ k + g = n ∧ wr = w1)
              case atStart => exact ⟨0, rfl, by omega, rfl⟩
              case round =>
                obtain ⟨k, rfl, hk, rfl⟩ := hrel
                by_cases hkn : k < n
                · obtain ⟨g3, c3, hv3, _⟩ := own_head Hov.out (by omega)
                  obtain ⟨rfl, rfl⟩ : Av = some ⟨g3, 0, none⟩ ∧ cv = c3 := by injection hv3 with h1 _ h3; exact ⟨h1, h3⟩
                  have hc3 : wr.cell? ⟨g3, k, none⟩ = some (.int .u8 (((j : Int) * 31 + (k : Int) % 7) % 256)) := by
                    rw [Hov.out.cellAt k (by omega), u8s_get, F_at j n k hkn, Option.map_some, fb_val]
                  have hwb := wbyte ((j : Int) * 31 + (k : Int) % 7)
                  clear hv3
                  go_wp2
                  go_roundg (gk - 1)
                  case measure => omega
                  case rel => exact ⟨k + 1, by go_num, by omega, rfl⟩
                · go_wp2
                  go_loopg [12] 4 (fun g i w1 => ∃ k : Nat, i = .int .i64 k ∧ k + g = 4 ∧ wr = w1)
                  case atStart => exact ⟨0, rfl, by omega, rfl⟩
                  case round =>
                    obtain ⟨k4, rfl, hk4, rfl⟩ := hrel
                    by_cases hkn4 : k4 < 4
                    · have hc4 : wr.cell? ⟨g2, n + k4, none⟩ = some (.int .u8 ((200 + (j : Int) * 5 + (k4 : Int)) % 256)) := by
                        rw [Hox.out.cellAt (n + k4) (by omega), u8s_get, List.getElem?_append_right (by rw [F_len]; omega), F_len, Nat.add_sub_cancel_left, G_at j 4 k4 hkn4, Option.map_some, gb_val]
                      have hwb := wbyte (200 + (j : Int) * 5 + (k4 : Int))
                      go_wp2
                      go_roundg (gk - 1)
                      case measure => omega
                      case rel => exact ⟨k4 + 1, by go_num, by omega, rfl⟩
                    · go_wp2
                      go_roundg (go2 - 1)
                      case measure => omega
                      case rel => exact ⟨j + 1, by go_num, by omega, rfl⟩
            · go_wp2
              go_ret
              exact ⟨rfl, Hb.out⟩
end Go.Proofs.Ytgippbbbfpkhhaa
