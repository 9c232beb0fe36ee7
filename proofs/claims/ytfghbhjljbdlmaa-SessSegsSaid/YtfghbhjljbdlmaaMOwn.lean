/- Of the proofs of layer 4, merged: Own, Fam, Lent. -/
import Derived.Test.YtfghbhjljbdlmaaProg
import Derived.Test.YtfghbhjljbdlmaaMWords
import Derived.Test.YtfghbhjljbdlmaaM1RefPut
import Derived.Deep.LoopGhost

/- ref00.Own answers true, and changes nothing below the lists' own blocks, if each list lies in memory of its own. -/
namespace Go.Proofs.Ytfghbhjljbdlmaa
open Go.RowKit

section
variable {w w' : World} {base e e2 : Nat} {lv v : Value} {vals : List Value} {L : Nat → List UInt8}
theorem Lies.cell (h : Lies w base e e2 lv vals L) {gl c0 i : Nat} (hlv : lv = .slice (some ⟨gl, 0, none⟩) vals.length c0) (hi : vals[i]? = some v) : w.cell? ⟨gl, i, none⟩ = some v := by
  have hr := h.row
  rw [hlv] at hr
  rw [hr.cellAt i (by have := (List.getElem?_eq_some_iff.1 hi).1; omega), hi]
theorem own_head {n : Nat} {xs : List Value} {b s : Nat} {u : Value} (h : w.ownsRow b e s u n xs) (hn : 0 < n) : ∃ g c, u = .slice (some ⟨g, 0, none⟩) n c ∧ n ≤ c ∧ b ≤ g := by
  rcases h.2 with ⟨_, h0⟩ | ⟨g, cap, cur, rfl, hb, _, h1, _⟩
  · omega
  · exact ⟨g, cap, rfl, h1, hb⟩
end

theorem Try.infoBytes : (Try.prog.info? 32).map (fun i => (i.zero, i.size, i.bytes)) = some (some (.slice none 0 0), 1, 24) := by kernel_rfl

theorem Long.start {w : World} {base : Nat} {lv : Value} {vals : List Value} {ns : Nat → Nat} (h : Lies w base 5 32 lv vals fun i => F i (ns i)) : Long w base 5 32 lv vals ns (.slice none 0 0) [] :=
  ⟨h, World.ownsRow_nil _ _ _ _, fun j x hx => by simp at hx, Apart.nil _, fun j k x v _ hx => by simp at hx, fun i j v u _ hv => by simp at hv⟩

theorem wbyte (x : Int) : (IntKind.u8.wrap x) = x % 256 := IntKind.wrap_u8 x

/-- The first loop's state. -/
def S1 (base : Nat) (lv : Value) (vals : List Value) (L0 : Nat → List UInt8) (j k : Nat) (wr : World) : Prop :=
  ∃ L, Lies wr base 5 32 lv vals L ∧ (∀ i, (L i).length = (L0 i).length) ∧ (∀ i, i < j → L i = F i (L0 i).length) ∧ Done j k (L j)

theorem S1.next {base : Nat} {lv : Value} {vals : List Value} {L0 : Nat → List UInt8} {j : Nat} {wr : World} (h : S1 base lv vals L0 j (L0 j).length wr) : S1 base lv vals L0 (j + 1) 0 wr := by
  obtain ⟨L, h1, h2, h3, h4⟩ := h
  refine ⟨L, h1, h2, fun i hi => ?_, Done.zero _ _⟩
  by_cases hij : i = j
  · subst hij
    rw [← h2 i] at h4 ⊢
    exact h4.all
  · exact h3 i (by omega)

theorem S1.store {base : Nat} {lv : Value} {vals : List Value} {L0 : Nat → List UInt8} {j k : Nat} {wr : World} (h : S1 base lv vals L0 j k wr) (hap : AllApart vals) {g n c : Nat} (hv : vals[j]? = some (.slice (some ⟨g, 0, none⟩) n c)) :
    S1 base lv vals L0 j (k + 1) (wr.setCell ⟨g, k, none⟩ (.int .u8 ((fb j k).toNat : Int))) := by
  obtain ⟨L, h1, h2, h3, h4⟩ := h
  refine ⟨_, h1.store (by decide) hap hv (fb j k), fun i => ?_, fun i hi => ?_, ?_⟩
  · by_cases hi : i = j
    · subst hi; rw [upd_same, List.length_set, h2]
    · rw [upd_other _ _ _ _ hi, h2]
  · rw [upd_other _ _ _ _ (by omega)]; exact h3 i hi
  · rw [upd_same]; exact h4.step

theorem S1.done {base : Nat} {lv : Value} {vals : List Value} {L0 : Nat → List UInt8} {wr : World} (h : S1 base lv vals L0 vals.length 0 wr) : Lies wr base 5 32 lv vals fun i => F i (L0 i).length := by
  obtain ⟨L, h1, h2, h3, _⟩ := h
  exact h1.congr fun i hi => h3 i hi

theorem S1.shape {base : Nat} {lv : Value} {vals : List Value} {L0 : Nat → List UInt8} {j k : Nat} {wr : World} (h : S1 base lv vals L0 j k wr) {v : Value} (hv : vals[j]? = some v) : ∃ l, wr.ownsRow base 5 1 v (L0 j).length (u8s l) := by
  obtain ⟨L, h1, h2, _⟩ := h
  have := h1.each j v hv
  rw [h2 j] at this
  exact ⟨_, this⟩
theorem S1.cell {base c0 gl : Nat} {vals : List Value} {L0 : Nat → List UInt8} {j k i : Nat} {wr : World} (h : S1 base (.slice (some ⟨gl, 0, none⟩) vals.length c0) vals L0 j k wr) {v : Value} (hv : vals[i]? = some v) : wr.cell? ⟨gl, i, none⟩ = some v := by
  obtain ⟨L, h1, _⟩ := h
  exact h1.cell rfl hv

set_option maxHeartbeats 4000000 in
set_option maxRecDepth 100000 in
theorem own_any (A : Option Addr) (K c0 base : Nat) (vals : List Value) (L0 : Nat → List UInt8) (w : World) (hK : vals.length = K) (h : Lies w base 5 32 (.slice A K c0) vals L0) (hap : AllApart vals) (hbase : base ≤ w.heap.size)
    (hKs : K ≤ 1099511627776) (hns : ∀ i, (L0 i).length ≤ 1099511627776) :
    Calls Try.prog 31 #[.slice A K c0] w fun e w' => e = .returned (.bool true) ∧ Below base w w' := by
  obtain ⟨i0, hi0, hz0, hz1, hz2⟩ := info_parts Try.infoU8
  obtain ⟨i1, hi1, hy0, hy1, hy2⟩ := info_parts Try.infoBytes
  have Hns := Lib.hid hns
  have Hap := Lib.hid hap
  have Hs : Hid (S1 base (.slice A K c0) vals L0 0 0 w) := ⟨L0, h, fun _ => rfl, fun _ h => absurd h (by omega), Done.zero _ _⟩
  have HA : Hid (0 < K → ∃ gl, A = some ⟨gl, 0, none⟩) := by
    intro h0
    obtain ⟨g, c, hv, _⟩ := own_head h.row (by omega)
    injection hv with hv _ _
    exact ⟨g, hv⟩
  clear hns hap h
  subst hK
  go_enter Try.func31, Try.ntmps31
  go_wp2
  go_loopg [4] vals.length (fun g i wr => ∃ j : Nat, i = .int .i64 j ∧ j + g = vals.length ∧ Hid (S1 base (.slice A vals.length c0) vals L0 j 0 wr) ∧ Below base w wr)
  case atStart => exact ⟨0, rfl, by omega, Hs, Below.refl _ _⟩
  case round =>
    clear Hs
    obtain ⟨j, rfl, hj, Hs, hb⟩ := hrel
    obtain ⟨go, rfl⟩ : ∃ go : Nat, go = gk := ⟨_, rfl⟩
    by_cases hjl : j < vals.length
    · obtain ⟨gl, rfl⟩ := HA.out (by omega)
      obtain ⟨v, hv⟩ : ∃ v, vals[j]? = some v := ⟨_, List.getElem?_eq_getElem hjl⟩
      obtain ⟨l1, hl1⟩ := Hs.out.shape hv
      obtain ⟨Av, cv, rfl, hcv, hcm⟩ := own_shape hl1
      have Hv := Lib.hid hv
      have Hn := Hns.out j
      obtain ⟨wo, rfl⟩ : ∃ wo : World, wo = wr := ⟨_, rfl⟩
      clear hv hl1
      go_wp2
      go_loopg [5] (L0 j).length (fun g i wr => ∃ k : Nat, i = .int .i64 k ∧ k + g = (L0 j).length ∧ Hid (S1 base (.slice (some ⟨gl, 0, none⟩) vals.length c0) vals L0 j k wr) ∧ Below base w wr)
      case atStart => exact ⟨0, rfl, by omega, Hs, hb⟩
      case round =>
        clear Hs hb
        obtain ⟨k, rfl, hk, Hs, hb⟩ := hrel
        have hcell : wr.cell? ⟨gl, j, none⟩ = some (.slice Av (L0 j).length cv) := Hs.out.cell Hv.out
        by_cases hkl : k < (L0 j).length
        · obtain ⟨l2, hl2⟩ := Hs.out.shape Hv.out
          obtain ⟨g, cg, hvg, _, hbg⟩ := own_head hl2 (by omega)
          obtain ⟨rfl, rfl⟩ : Av = some ⟨g, 0, none⟩ ∧ cv = cg := by injection hvg with h1 _ h3; exact ⟨h1, h3⟩
          have hl2l : l2.length = (L0 j).length := by have := hl2.1; rw [u8s_len] at this; omega
          have hcell2 : wr.cell? ⟨g, k, none⟩ = some (.int .u8 ((l2[k]'(by omega)).toNat : Int)) := by
            rw [hl2.cellAt k (by omega), u8s_at l2 k (by omega)]
          have hfr := hl2.frozenAt k
          have hst := Hs.out.store Hap.out Hv.out (k := k)
          have hb2 := hb.setCell (p := ⟨g, k, none⟩) hbg (.int .u8 ((fb j k).toNat : Int))
          rw [fb_val] at hst hb2
          have Hst := Lib.hid hst
          have Hb2 := Lib.hid hb2
          have hwb := wbyte ((j : Int) * 31 + (k : Int) % 7)
          generalize (l2[k]'(by omega)).toNat = y at hcell2
          clear hst hb2 hb Hs hl2 hl2l hvg
          go_wp2
          go_roundg (gk - 1)
          case measure => omega
          case rel => exact ⟨k + 1, by go_num, by omega, Hst, Hb2.out⟩
        · have e : k = (L0 j).length := by omega
          have Hn1 : Hid (S1 base (.slice (some ⟨gl, 0, none⟩) vals.length c0) vals L0 (j + 1) 0 wr) := by
            have := Hs.out
            rw [e] at this
            exact this.next
          clear e Hs
          go_wp2
          go_roundg (go - 1)
          case measure => omega
          case rel => exact ⟨j + 1, by go_num, by omega, Hn1, hb⟩
    · obtain rfl : j = vals.length := by omega
      have Hl := Lib.hid (Hs.out.done)
      clear Hs
      go_wp2
      go_loopg [3, 6] vals.length (fun g lg i wr => ∃ (j : Nat) (xs : List Value), i = .int .i64 j ∧ j + g = vals.length ∧ xs.length = j ∧ Hid (Long wr base 5 32 (.slice A vals.length c0) vals (fun i => (L0 i).length) lg xs) ∧ Below base w wr)
      case atStart => exact ⟨0, [], rfl, by omega, rfl, Long.start Hl.out, hb⟩
      case round =>
        clear Hl hb
        obtain ⟨j, xs, rfl, hj, rfl, Hs, hb⟩ := hrel
        obtain ⟨go, rfl⟩ : ∃ go : Nat, go = gk := ⟨_, rfl⟩
        by_cases hjl : xs.length < vals.length
        · obtain ⟨gl, rfl⟩ := HA.out (by omega)
          obtain ⟨v, hv⟩ : ∃ v, vals[xs.length]? = some v := ⟨_, List.getElem?_eq_getElem hjl⟩
          have hcell : wr.cell? ⟨gl, xs.length, none⟩ = some v := Hs.out.lies.cell rfl hv
          have Hg := Lib.hid (Grows.start Hs.out Hap.out hv)
          have Hv := Lib.hid hv
          have Hn := Hns.out xs.length
          have Hns2 : Hid ((fun i => (L0 i).length) xs.length = (L0 xs.length).length) := rfl
          obtain ⟨lg, rfl⟩ : ∃ lg : Value, lg = u3 := ⟨_, rfl⟩
          clear hv Hs
          go_wp2
          go_loopg [7, 8] 4 (fun g x k wr => ∃ q : Nat, k = .int .i64 q ∧ q + g = 4 ∧ Hid (Grows wr base 5 32 (.slice (some ⟨gl, 0, none⟩) vals.length c0) vals (fun i => (L0 i).length) lg xs q x) ∧ Below base w wr)
          case atStart => exact ⟨0, rfl, by omega, Hg, hb⟩
          case round =>
            clear Hg hb hcell Hv
            obtain ⟨q, rfl, hq, Hg, hb⟩ := hrel
            obtain ⟨x, rfl⟩ : ∃ x : Value, x = u7 := ⟨_, rfl⟩
            have hsz := hb.size
            by_cases hq4 : q < 4
            · have hgo := Hg.out.own
              have hwb := wbyte (200 + (xs.length : Int) * 5 + (q : Int))
              go_wp2_with (at_builtin; refine wpList_append_app _ rfl _ _ 32 rfl base 5 i0 (.int .u8 0) 1 1 Try.underlying32 hi0 hz0 hz1 hz2 rfl _ _ _ rfl (hgo.alloc _) (some ⟨wr.heap.size, 0, none⟩) 1 1 [Value.int .u8 ((200 + (xs.length : Int) * 5 + (q : Int)) % 256)] rfl rfl (by intro h; cases h) (cell_new1 _ _ _) (by intro u hu; simp at hu; subst hu; rfl) (by unfold maxLen; omega) (by omega) (by simp; omega) ?_)
              intro x' w2 ha
              have hb1 := hb.alloc (by omega) (.cells #[Value.int .u8 ((200 + (xs.length : Int) * 5 + (q : Int)) % 256)] 5)
              have Hb2 := Lib.hid (ha.below hb1 (by simp; omega) (own_block_ge hgo))
              have hst := (Hg.out.below ((Below.refl wr.heap.size wr).alloc (Nat.le_refl _) (.cells #[Value.int .u8 ((200 + (xs.length : Int) * 5 + (q : Int)) % 256)] 5))).step (by decide) (x' := x') (w' := w2) (by rw [gb_val]; exact ha)
              have Hst := Lib.hid hst
              clear hst ha hb1 hb Hg hgo
              go_wp2
              go_roundg (gk - 1)
              case measure => omega
              case rel => exact ⟨q + 1, by go_num, by omega, Hst, Hb2.out⟩
            · obtain rfl : q = 4 := by omega
              have hgl := Hg.out.st.long
              obtain ⟨Ax, cx, hxv, _⟩ := own_shape Hg.out.own
              generalize (L0 xs.length).length + 4 = nx at hxv
              subst hxv
              go_wp2_with (at_builtin; refine wpList_append_app _ rfl _ _ 55 rfl base 32 i1 (.slice none 0 0) 1 24 Try.underlying55 hi1 hy0 hy1 hy2 rfl _ _ _ rfl (hgl.alloc _) (some ⟨wr.heap.size, 0, none⟩) 1 1 [Value.slice Ax nx cx] rfl rfl (by intro h; cases h) (cell_new1 _ _ _) (by intro u hu; simp at hu; subst hu; rfl) (by unfold maxLen; omega) (by omega) (by simp; omega) ?_)
              intro lg' w2 ha
              have hb1 := hb.alloc (by omega) (.cells #[Value.slice Ax nx cx] 32)
              have Hb2 := Lib.hid (ha.below hb1 (by simp; omega) (own_block_ge hgl))
              have hst := (Hg.out.below ((Below.refl wr.heap.size wr).alloc (Nat.le_refl _) (.cells #[Value.slice Ax nx cx] 32))).finish (by decide) ha
              have Hst := Lib.hid hst
              clear hst ha hb1 hb Hg hgl
              go_wp2
              go_roundg (go - 1)
              case measure => omega
              case rel => exact ⟨xs.length + 1, xs ++ [Value.slice Ax nx cx], by go_num, by omega, by simp, Hst, Hb2.out⟩
        · have hxl : xs.length = vals.length := by omega
          have Hxl := Lib.hid hxl
          have Hb := Lib.hid hb
          have HL : Hid (0 < vals.length → ∃ gx cx, u3 = .slice (some ⟨gx, 0, none⟩) xs.length cx ∧ xs.length ≤ cx) := by
            intro h0
            obtain ⟨g, c, hv, hc, _⟩ := own_head Hs.out.long (by omega)
            exact ⟨g, c, hv, hc⟩
          clear hb
          go_wp2
          go_loopg [9] vals.length (fun g i w1 => ∃ j : Nat, i = .int .i64 j ∧ j + g = vals.length ∧ wr = w1)
          case atStart => exact ⟨0, rfl, by omega, rfl⟩
          case round =>
            obtain ⟨j, rfl, hj2, rfl⟩ := hrel
            obtain ⟨go2, rfl⟩ : ∃ go2 : Nat, go2 = gk := ⟨_, rfl⟩
            by_cases hjv : j < vals.length
            · obtain ⟨gl, rfl⟩ := HA.out (by omega)
              obtain ⟨gx, cx, rfl, hxc⟩ := HL.out (by omega)
              obtain ⟨v, hv⟩ : ∃ v, vals[j]? = some v := ⟨_, List.getElem?_eq_getElem hjv⟩
              obtain ⟨x, hx⟩ : ∃ x, xs[j]? = some x := ⟨_, List.getElem?_eq_getElem (by omega)⟩
              have hcell : wr.cell? ⟨gl, j, none⟩ = some v := Hs.out.lies.cell rfl hv
              have hcellx : wr.cell? ⟨gx, j, none⟩ = some x := by rw [Hs.out.long.cellAt j (by omega), hx]
              have hov := Hs.out.lies.each j v hv
              have hox := Hs.out.more j x hx
              rw [F_len] at hov
              obtain ⟨Av, cv, rfl, hcv, hcm⟩ := own_shape hov
              obtain ⟨g2, c2, rfl, hc2, _⟩ := own_head hox (by omega)
              have hn := Hns.out j
              generalize hnn : (L0 j).length = n at *
              have Hnn := Lib.hid hnn
              have Hov := Lib.hid hov
              have Hox := Lib.hid hox
              clear hv hx hnn hov hox
              go_wp2
              go_loopg [11] n (fun g i w1 => ∃ k : Nat, i = .int .i64 k ∧ k + g = n ∧ wr = w1)
              case atStart => exact ⟨0, rfl, by omega, rfl⟩
              case round =>
                obtain ⟨k, rfl, hk, rfl⟩ := hrel
                by_cases hkn : k < n
                · obtain ⟨g3, c3, hv3, _⟩ := own_head Hov.out (by omega)
                  obtain ⟨rfl, rfl⟩ : Av = some ⟨g3, 0, none⟩ ∧ cv = c3 := by injection hv3 with h1 _ h3; exact ⟨h1, h3⟩
                  have hc3 : wr.cell? ⟨g3, k, none⟩ = some (.int .u8 (((j : Int) * 31 + (k : Int) % 7) % 256)) := by
                    rw [Hov.out.cellAt k (by omega), u8s_get, F_at j n k hkn, Option.map_some, fb_val]
                  have hwb := wbyte ((j : Int) * 31 + (k : Int) % 7)
                  clear hv3
                  go_wp2
                  go_roundg (gk - 1)
                  case measure => omega
                  case rel => exact ⟨k + 1, by go_num, by omega, rfl⟩
                · go_wp2
                  go_loopg [12] 4 (fun g i w1 => ∃ k : Nat, i = .int .i64 k ∧ k + g = 4 ∧ wr = w1)
                  case atStart => exact ⟨0, rfl, by omega, rfl⟩
                  case round =>
                    obtain ⟨k4, rfl, hk4, rfl⟩ := hrel
                    by_cases hkn4 : k4 < 4
                    · have hc4 : wr.cell? ⟨g2, n + k4, none⟩ = some (.int .u8 ((200 + (j : Int) * 5 + (k4 : Int)) % 256)) := by
                        rw [Hox.out.cellAt (n + k4) (by omega), u8s_get, List.getElem?_append_right (by rw [F_len]; omega), F_len, Nat.add_sub_cancel_left, G_at j 4 k4 hkn4, Option.map_some, gb_val]
                      have hwb := wbyte (200 + (j : Int) * 5 + (k4 : Int))
                      go_wp2
                      go_roundg (gk - 1)
                      case measure => omega
                      case rel => exact ⟨k4 + 1, by go_num, by omega, rfl⟩
                    · go_wp2
                      go_roundg (go2 - 1)
                      case measure => omega
                      case rel => exact ⟨j + 1, by go_num, by omega, rfl⟩
            · go_wp2
              go_ret
              exact ⟨rfl, Hb.out⟩
end Go.Proofs.Ytfghbhjljbdlmaa

/- A family of lists that the call has made one behind the other: each its own, all apart; and what Own says of them. -/
namespace Go.Proofs.Ytfghbhjljbdlmaa
open Go.RowKit

structure Fam (w : World) (base : Nat) (vals : List Value) (ls : List (List UInt8)) : Prop where
  len : vals.length = ls.length
  each : ∀ (i : Nat) (v : Value), vals[i]? = some v → w.ownsRow base 5 1 v (ls.getD i []).length (u8s (ls.getD i []))
  apart : AllApart vals

theorem Fam.nil (w : World) (base : Nat) : Fam w base [] [] := ⟨rfl, fun i v h => by simp at h, fun i j v u _ h => by simp at h⟩

theorem Fam.up {w w' : World} {base : Nat} {vals : List Value} {ls : List (List UInt8)} (h : Fam w base vals ls) (hb : Below w.heap.size w w') : Fam w' base vals ls :=
  ⟨h.len, fun i v hv => own_below (h.each i v hv) hb fun k hk => ((h.each i v hv).lt k hk).2, h.apart⟩

/-- Whatever may have turned, if not in one of their rows. -/
theorem Fam.grown {w w' : World} {base : Nat} {vals : List Value} {ls : List (List UInt8)} {row : Option Nat} (h : Fam w base vals ls) (hg : w.grownBy w' row) (hr : ∀ (i : Nat) (v : Value), vals[i]? = some v → v.ownBlock = none ∨ v.ownBlock ≠ row) : Fam w' base vals ls :=
  ⟨h.len, fun i v hv => (h.each i v hv).kept hg (hr i v hv), h.apart⟩

theorem append_get {α : Type} {xs : List α} {x : α} {i : Nat} {u : α} (h : (xs ++ [x])[i]? = some u) : (i < xs.length ∧ xs[i]? = some u) ∨ (i = xs.length ∧ u = x) := by
  by_cases hi : i < xs.length
  · rw [List.getElem?_append_left hi] at h; exact .inl ⟨hi, h⟩
  · rw [List.getElem?_append_right (by omega)] at h
    have h0 : i - xs.length = 0 := by
      by_cases h0 : i - xs.length = 0
      · exact h0
      · rw [List.getElem?_eq_none (by simp; omega)] at h; cases h
    rw [h0] at h
    exact .inr ⟨by omega, by simpa using h.symm⟩

/-- One list more, made behind all of them. -/
theorem Fam.push {w w' : World} {base : Nat} {vals : List Value} {ls : List (List UInt8)} {v : Value} {l : List UInt8} (h : Fam w base vals ls) (hb : Below w.heap.size w w') (hv : w'.ownsRow w.heap.size 5 1 v l.length (u8s l)) (hbase : base ≤ w.heap.size) :
    Fam w' base (vals ++ [v]) (ls ++ [l]) := by
  have h' := h.up hb
  have hl := h.len
  have hap : ∀ (i : Nat) (u : Value), vals[i]? = some u → Apart u v := by
    intro i u hu g hg hvg
    have h1 := ((h.each i u hu).lt g hg).2
    have h2 := (hv.lt g hvg).1
    omega
  refine ⟨by simp [hl], fun i u hu => ?_, fun i j u x hij hu hx => ?_⟩
  · rcases append_get hu with ⟨hi, hu⟩ | ⟨rfl, rfl⟩
    · have := h'.each i u hu
      have e : (ls ++ [l]).getD i [] = ls.getD i [] := by simp [List.getD, List.getElem?_append_left (show i < ls.length by omega)]
      rw [e]
      exact this
    · have e : (ls ++ [l]).getD vals.length [] = l := by simp [List.getD, hl]
      rw [e]
      exact own_mono hv hbase
  · rcases append_get hu with ⟨_, hu'⟩ | ⟨rfl, rfl⟩
    · rcases append_get hx with ⟨_, hx'⟩ | ⟨rfl, rfl⟩
      · exact h.apart i j u x hij hu' hx'
      · exact hap i u hu'
    · rcases append_get hx with ⟨_, hx'⟩ | ⟨rfl, rfl⟩
      · exact (hap j x hx').symm
      · exact absurd rfl hij

/-- Own of a row that holds them. -/
theorem Fam.own {w : World} {base : Nat} {vals : List Value} {ls : List (List UInt8)} (h : Fam w base vals ls) {A : Option Addr} {K c : Nat} (hrow : w.ownsRow base 32 1 (.slice A K c) vals.length vals) (hK : vals.length = K) (hbase : base ≤ w.heap.size)
    (hKs : K ≤ 1099511627776) (hns : ∀ l ∈ ls, l.length ≤ 1099511627776) :
    Calls Try.prog 31 #[.slice A K c] w fun e w' => e = .returned (.bool true) ∧ Below base w w' := by
  refine own_any A K c base vals (fun i => ls.getD i []) w hK ⟨hrow, h.each⟩ h.apart hbase hKs fun i => ?_
  by_cases hi : i < ls.length
  · have e : ls.getD i [] = ls[i] := by simp [List.getD, hi]
    rw [e]
    exact hns _ (List.getElem_mem hi)
  · have e : ls.getD i [] = [] := by simp [List.getD, hi]
    rw [e]
    simp

/-- A literal row of them. -/
theorem Fam.lit {w : World} {base : Nat} {vals : List Value} {ls : List (List UInt8)} (h : Fam w base vals ls) {cs : Array Value} (hcs : cs = vals.toArray) {K g : Nat} (hK : vals.length = K) (hg : g = w.heap.size) (hbase : base ≤ w.heap.size) (hKs : K ≤ 1099511627776) (hns : ∀ l ∈ ls, l.length ≤ 1099511627776) :
    Calls Try.prog 31 #[.slice (some ⟨g, 0, none⟩) K K] (w.alloc (.cells cs 32)) fun e w' => e = .returned (.bool true) ∧ Below base (w.alloc (.cells cs 32)) w' := by
  subst hcs hg hK
  refine (h.up ((Below.refl _ _).alloc (Nat.le_refl _) _)).own ?_ rfl (by simp; omega) hKs hns
  exact own_mono (World.ownsRow_lit w vals.toArray vals.length (Nat.le_refl _) (by unfold maxLen; omega) (by simp)) hbase
end Go.Proofs.Ytfghbhjljbdlmaa

/- ref00.Copy, Lent, Whole, Spoil. -/
namespace Go.Proofs.Ytfghbhjljbdlmaa
open Go.RowKit

set_option maxHeartbeats 1000000 in
set_option maxRecDepth 100000 in
theorem copy_any (A : Option Addr) (n c B : Nat) (l : List UInt8) (w : World) (hn : n ≤ 140737488355328) (h : Rd w B A n l) :
    Calls Try.prog 35 #[.slice A n c] w fun e w' => ∃ v, e = .returned v ∧ w'.ownsRow w.heap.size 5 1 v n (u8s l) ∧ Below w.heap.size w w' := by
  obtain ⟨i0, hi0, hz0, hz1, hz2⟩ := info_parts Try.infoU8
  have hA : A = none → n = 0 := by
    intro e
    rcases Nat.eq_zero_or_pos n with h0 | h0
    · exact h0
    · obtain ⟨b, o, e', _⟩ := h.2 h0; rw [e] at e'; cases e'
  go_enter Try.func35, Try.ntmps35
  go_wp2_with (at_builtin; refine wpList_append_app _ rfl _ _ 32 rfl w.heap.size 5 i0 (.int .u8 0) 1 1 Try.underlying32 hi0 hz0 hz1 hz2 rfl _ 0 [] rfl (World.ownsRow_nil _ _ _ _) A n c (u8s l) rfl (by rw [u8s_len, h.1, Nat.mul_one]) hA h.cells (u8s_one l) (by unfold maxLen; omega) (by omega) (Nat.le_refl _) ?_)
  intro v' w1 ha
  have hb1 := ha.below (Below.refl w.heap.size w) (Nat.le_refl _) (by simp [Value.ownBlock])
  have ho := ha.own
  rw [Nat.zero_add, List.nil_append] at ho
  go_wp2
  go_ret
  exact ⟨v', rfl, ho, hb1⟩

theorem cells_new2 (w : World) (x y : Value) (t : TypeId) : ∀ a, (some ⟨w.heap.size, 0, none⟩ : Option Addr) = some a → ∀ j u, [x, y][j]? = some u → (w.alloc (.cells #[x, y] t)).cell? (a.add j) = some u := by
  intro a ha j u hu
  obtain rfl := Option.some.inj ha
  rw [Addr.add_lit, Nat.zero_add, World.cell?_alloc_at _ _ _ _ rfl]
  match j, hu with
  | 0, hu => simpa using hu
  | 1, hu => simpa using hu

set_option maxHeartbeats 1000000 in
set_option maxRecDepth 100000 in
theorem lent_any (A : Option Addr) (n c B : Nat) (l : List UInt8) (w : World) (hn : n ≤ 140737488355000) (h : Rd w B A n l) :
    Calls Try.prog 34 #[.slice A n c] w fun e w' => ∃ g cap, e = .returned (.slice (some ⟨g, 0, none⟩) n cap) ∧ w'.ownsRow w.heap.size 5 1 (.slice (some ⟨g, 0, none⟩) (n + 2) cap) (n + 2) (u8s (l ++ [91, 92])) ∧ Below w.heap.size w w' := by
  obtain ⟨i0, hi0, hz0, hz1, hz2⟩ := info_parts Try.infoU8
  have Hc := Lib.hid (copy_any A n c B l w (by omega) h)
  clear h
  go_enter Try.func34, Try.ntmps34
  go_wp2_with fail
  refine Hc.out.mono ?_
  rintro e w1 ⟨v, rfl, hown, hb⟩
  have hsz := hb.size
  clear Hc
  go_wp2_with (at_builtin; refine wpList_append_app _ rfl _ _ 32 rfl w.heap.size 5 i0 (.int .u8 0) 1 1 Try.underlying32 hi0 hz0 hz1 hz2 rfl _ _ _ rfl (hown.alloc _) (some ⟨w1.heap.size, 0, none⟩) 2 2 [Value.int .u8 91, Value.int .u8 92] rfl rfl (by intro h; cases h) (cells_new2 _ _ _ _) (by intro u hu; simp at hu; rcases hu with rfl | rfl <;> rfl) (by unfold maxLen; omega) (by omega) (by simp; omega) ?_)
  intro v' w2 ha
  have hb2 := ha.below (hb.alloc hsz _) (by simp; omega) (own_block_ge hown)
  have ho := ha.own
  have hsh : ∃ g cap, v' = .slice (some ⟨g, 0, none⟩) (n + 2) cap ∧ n + 2 ≤ cap := by
    rcases ho.2 with ⟨_, h0⟩ | ⟨g, cap, cur, hv, _, _, h1, _⟩
    · omega
    · exact ⟨g, cap, hv, h1⟩
  obtain ⟨g, cap, rfl, hcap⟩ := hsh
  have hcm := (own_shape ho).choose_spec.choose_spec.2.2
  go_wp2
  go_ret
  refine ⟨g, cap, rfl, ?_, hb2⟩
  rw [u8s_append]
  exact ho

set_option maxHeartbeats 1000000 in
set_option maxRecDepth 100000 in
theorem whole_any (g cap base n c B : Nat) (A : Option Addr) (l : List UInt8) (w : World) (hn : n ≤ 140737488355000) (hx : w.ownsRow base 5 1 (.slice (some ⟨g, 0, none⟩) (n + 2) cap) (n + 2) (u8s (l ++ [91, 92]))) (h : Rd w B A n l) :
    Calls Try.prog 42 #[.slice (some ⟨g, 0, none⟩) n cap, .slice A n c] w fun e w' => e = .returned (.bool true) ∧ w = w' := by
  have hl := h.1
  have c1 : w.cell? ⟨g, n, none⟩ = some (.int .u8 91) := by
    rw [hx.cellAt n (by omega), u8s_at _ _ (by simp; omega)]
    simp [hl]
  have c2 : w.cell? ⟨g, n + 1, none⟩ = some (.int .u8 92) := by
    rw [hx.cellAt (n + 1) (by omega), u8s_at _ _ (by simp; omega)]
    simp [hl]
  have hcap : n + 2 ≤ cap := by
    rcases hx.2 with ⟨h', _⟩ | ⟨g', cap', cur, hv, _, _, h1, _⟩
    · cases h'
    · injection hv with _ _ hc; omega
  have hxr : Rd w w.heap.size (some ⟨g, 0, none⟩) n l := by
    have hlt : g < w.heap.size := (hx.lt g rfl).2
    refine ⟨hl, fun _ => ⟨g, 0, rfl, hlt, fun j hj => ?_⟩⟩
    rw [Nat.zero_add, hx.cellAt j (by omega), u8s_at _ _ (by simp; omega)]
    simp [List.getElem_append_left hj]
  have k1 := hxr.str Try.underlying32 Try.underlying5 Try.underlying9 cap
  have k2 := h.str Try.underlying32 Try.underlying5 Try.underlying9 c
  have i1 : (n : Int) + 1 < ((n + 2 : Nat) : Int) := by omega
  have i2 : (n : Int) < ((n + 2 : Nat) : Int) := by omega
  clear hx h hxr hl
  go_enter Try.func42, Try.ntmps42
  go_wp2
  go_ret
  exact ⟨rfl, rfl⟩

set_option maxHeartbeats 1000000 in
set_option maxRecDepth 100000 in
theorem spoil_any (g n cap base : Nat) (l : List UInt8) (w : World) (hn : n ≤ 140737488355000) (hx : w.ownsRow base 5 1 (.slice (some ⟨g, 0, none⟩) n cap) n (u8s l)) :
    Calls Try.prog 43 #[.slice (some ⟨g, 0, none⟩) n cap] w fun e w' => e = .returned (.tuple #[]) ∧ w.grownBy w' (some g) := by
  have hl : l.length = n := by have := hx.1; rw [u8s_len] at this; omega
  go_enter Try.func43, Try.ntmps43
  go_wp2
  go_loopg [2] n (fun k i wr => ∃ (j : Nat) (l' : List UInt8), i = .int .i64 j ∧ j + k = n ∧ l'.length = n ∧ wr.ownsRow base 5 1 (.slice (some ⟨g, 0, none⟩) n cap) n (u8s l') ∧ w.grownBy wr (some g))
  case atStart => exact ⟨0, l, rfl, by omega, hl, hx, World.grownBy.refl w _⟩
  case round =>
    clear hx hl l
    obtain ⟨j, l, rfl, hk, hl, hx, hg⟩ := hrel
    by_cases hj : j < n
    · have hcell : wr.cell? ⟨g, j, none⟩ = some (.int .u8 ((l[j]'(by omega)).toNat : Int)) := by
        rw [hx.cellAt j (by omega), u8s_at l j (by omega)]
      have hfr := hx.frozenAt j
      have hx2 := u8_lt (l[j]'(by omega))
      generalize (l[j]'(by omega)).toNat = y at *
      have hxor : bits .xor .u8 (y : Int) 165 = ((y ^^^ 165 : Nat) : Int) := u8_xor_nat y 165 hx2 (by decide)
      have hlt : y ^^^ 165 < 2 ^ 8 := Nat.xor_lt_two_pow (by omega) (by decide)
      obtain ⟨h1, h2⟩ := hx.stored j (.int .u8 ((y ^^^ 165 : Nat) : Int))
      have hset := u8s_set l j (y ^^^ 165).toUInt8
      rw [Lib.toUInt8_toNat (by omega)] at hset
      rw [hset] at h1
      have Hh : Hid (((wr.setCell ⟨g, j, none⟩ (.int .u8 ((y ^^^ 165 : Nat) : Int))).ownsRow base 5 1 (.slice (some ⟨g, 0, none⟩) n cap) n (u8s (l.set j (y ^^^ 165).toUInt8))) ∧ w.grownBy (wr.setCell ⟨g, j, none⟩ (.int .u8 ((y ^^^ 165 : Nat) : Int))) (some g)) := ⟨h1, hg.trans h2⟩
      have Hl := Lib.hid hl
      clear h1 h2 hg hx hset hl
      generalize y ^^^ 165 = z at *
      go_wp2
      go_roundg (gk - 1)
      case measure => omega
      case rel => exact ⟨j + 1, _, by go_num, by omega, by rw [List.length_set, Hl.out], Hh.out⟩
    · have Hg := Lib.hid hg
      clear hg hl
      go_wp2
      go_end0
      exact ⟨rfl, Hg.out⟩
end Go.Proofs.Ytfghbhjljbdlmaa
