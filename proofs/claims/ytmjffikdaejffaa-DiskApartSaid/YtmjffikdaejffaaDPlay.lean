/- Layer 3's law: play, an act of both disks. -/
import Derived.Test.YtmjffikdaejffaaPDisk8
import Derived.Test.YtmjffikdaejffaaRDisk6
import Derived.Test.YtmjffikdaejffaaDRow
import Derived.Test.YtmjffikdaejffaaDActs
import Derived.Test.YtmjffikdaejffaaLent
namespace Go.Proofs.Ytmjffikdaejffaa
open Go.RowKit

/-- Both disks, side by side, of one state. -/
def Both (w : World) (H : Nat → Prop) (g M : Nat) (d : Dk) : Prop :=
  ∃ F G, PD w F g d ∧ RD w G M d ∧ (∀ k, F k → ¬ G k) ∧ (∀ k, F k → H k) ∧ (∀ k, G k → H k) ∧ (∀ k, H k → k < w.heap.size)
theorem Both.below {w w' : World} {H : Nat → Prop} {g M : Nat} {d : Dk} (h : Both w H g M d) (hb : Below w.heap.size w w') : Both w' H g M d := by
  obtain ⟨F, G, h1, h2, h3, h4, h5, h6⟩ := h
  exact ⟨F, G, h1.below hb, h2.below hb, h3, h4, h5, fun k hk => Nat.lt_of_lt_of_le (h6 k hk) hb.size⟩
theorem Both.kp {w w' : World} {H K : Nat → Prop} {g M : Nat} {d : Dk} (h : Both w H g M d) (hk : Kp K w w') (hd : ∀ k, H k → ¬ K k) : Both w' H g M d := by
  obtain ⟨F, G, h1, h2, h3, h4, h5, h6⟩ := h
  exact ⟨F, G, h1.kp hk fun k hf => hd k (h4 k hf), h2.kp hk fun k hf => hd k (h5 k hf), h3, h4, h5, fun k hk' => Nat.lt_of_lt_of_le (h6 k hk') hk.size⟩
theorem both_step {w w1 w2 : World} {F F' G G' H : Nat → Prop} {g M : Nat} {d' : Dk} (hG : ∀ k, G k → k < w.heap.size) (hFG : ∀ k, F k → ¬ G k) (hFH : ∀ k, F k → H k) (hGH : ∀ k, G k → H k) (hH : ∀ k, H k → k < w.heap.size)
    (h1 : PD w1 F' g d') (m1 : Mv F F' w w1) (h2 : RD w2 G' M d') (m2 : Mv G G' w1 w2) : Both w2 (fun k => H k ∨ F' k ∨ G' k) g M d' ∧ Mv H (fun k => H k ∨ F' k ∨ G' k) w w2 := by
  have hd : ∀ k, F' k → ¬ G k := m1.apart hG hFG
  have hd2 : ∀ k, F' k → ¬ G' k := fun k hf hg => by
    rcases m2.new k hg with h | h
    · exact hd k hf h
    · have := h1.lt k hf; omega
  have h1' := h1.kp m2.kp hd
  refine ⟨⟨F', G', h1', h2, hd2, fun k h => .inr (.inl h), fun k h => .inr (.inr h), ?_⟩, ⟨?_, ?_⟩⟩
  · rintro k (h | h | h)
    · exact Nat.lt_of_lt_of_le (hH k h) (Nat.le_trans m1.kp.size m2.kp.size)
    · exact h1'.lt k h
    · exact h2.lt k h
  · exact (m1.kp.mono hFH).trans (m2.kp.mono hGH)
  · rintro k (h | h | h)
    · exact .inl h
    · rcases m1.new k h with h | h
      · exact .inl (hFH k h)
      · exact .inr h
    · rcases m2.new k h with h | h
      · exact .inl (hGH k h)
      · exact .inr (Nat.le_trans m1.kp.size h)

/-- An act. -/
def Dk.play (d : Dk) (x : Ac) : Dk :=
  if x.kind = 0 then (d.write x.at_ (rowB x.fill (rowLen x.n))).2 else if x.kind = 1 then d.sync.2 else if x.kind = 2 then d.arm x.n else if x.kind = 3 then d.crash x.keep else d
def Played (w : World) (H : Nat → Prop) (g M : Nat) (d : Dk) (e : Ending) (w' : World) : Prop := e = .returned (.bool true) ∧ ∃ H', Both w' H' g M d ∧ Mv H H' w w'

theorem write_small (d : Dk) (a : Int) (b : List UInt8) : 0 ≤ (d.write a b).1 ∧ (d.write a b).1 ≤ 30 := by
  unfold Dk.write
  split
  · simp
  split
  · simp
  split <;> simp
theorem sync_small (d : Dk) : 0 ≤ d.sync.1 ∧ d.sync.1 ≤ 30 := by
  unfold Dk.sync
  split <;> simp

theorem spoil_zero (A : Option Addr) (c : Nat) (w : World) : Calls Try.prog 30 #[.slice A 0 c] w fun e w' => e = .returned (.tuple #[]) ∧ w = w' := by
  go_enter Try.func30, Try.ntmps30
  go_wp2
  go_loopg [2] 0 (fun g i wr => i = .int .i64 0 ∧ w = wr)
  case atStart => exact ⟨rfl, rfl⟩
  case round =>
    obtain ⟨rfl, rfl⟩ := hrel
    go_wp2
    go_end0
    exact ⟨rfl, rfl⟩
/-- What the call owns, spoilt: only its own row turns. -/
theorem spoil_own (A : Option Addr) (n c base : Nat) (l : List UInt8) (w : World) (hn : n ≤ 140737488355000) (hx : w.ownsRow base 5 1 (.slice A n c) n (u8s l)) :
    Calls Try.prog 30 #[.slice A n c] w fun e w' => e = .returned (.tuple #[]) ∧ Kp (fun k => base ≤ k ∧ Value.ownBlock (.slice A n c) = some k) w w' := by
  rcases hx.2 with ⟨hv, h0⟩ | ⟨g, cap, cur, hv, hb, _⟩
  · subst h0
    exact (spoil_zero A c w).mono fun e w' ⟨h1, h2⟩ => ⟨h1, h2 ▸ Kp.refl _ w⟩
  · injection hv with e1 _ e3
    subst e1 e3
    exact (spoil_any g n c base l w hn hx).mono fun e w' ⟨h1, h2⟩ => ⟨h1, Kp.of_grown h2 ⟨hb, rfl⟩⟩

set_option maxRecDepth 100000 in
set_option maxHeartbeats 4000000 in
theorem play_any (g M : Nat) (d : Dk) (H : Nat → Prop) (x : Ac) (w : World) (B : Nat) (hwl : d.waits.length ≤ 1000000) (hx : x.Ok w B) (hB : B ≤ w.heap.size) (hBH : ∀ k, H k → B ≤ k) (h : Both w H g M d) :
    Calls Try.prog 12 #[.pointer (some ⟨g, 0, none⟩), .pointer (some ⟨M, 0, none⟩), .agg #[.int .i64 x.kind, .int .i64 x.at_, .int .u8 (x.fill.toNat : Int), .int .i64 x.n, .slice x.ka x.kn x.kc]] w (Played w H g M (d.play x)) := by
  obtain ⟨kind, at_, fill, n, keep, ka, kn, kc⟩ := x
  have hba := (Below.refl w.heap.size w).alloc (Nat.le_refl _) (.cells #[.int .i64 kind, .int .i64 at_, .int .u8 (fill.toNat : Int), .int .i64 n, .slice ka kn kc] 34)
  have h0 := h.below hba
  have hN := Bk.new w 34 #[.int .i64 kind, .int .i64 at_, .int .u8 (fill.toNat : Int), .int .i64 n, .slice ka kn kc]
  have hHlt : ∀ k, H k → k < w.heap.size := by
    obtain ⟨F, G, _, _, _, _, _, h6⟩ := h
    exact h6
  have hM0 : Mv H H w (w.alloc (.cells #[.int .i64 kind, .int .i64 at_, .int .u8 (fill.toNat : Int), .int .i64 n, .slice ka kn kc] 34)) := Mv.of (Kp.alloc H w _)
  have hks := (hx.below (hba.mono hB)).keep
  have hxn := hx.n
  have hcap := hx.cap
  have hz : (w.alloc (.cells #[.int .i64 kind, .int .i64 at_, .int .u8 (fill.toNat : Int), .int .i64 n, .slice ka kn kc] 34)).heap.size = w.heap.size + 1 := by simp
  simp only at hks hxn hcap
  unfold Dk.play
  simp only
  have H0 := Lib.hid h0
  have HN := Lib.hid hN
  have HHlt := Lib.hid hHlt
  have HM0 := Lib.hid hM0
  have Hks := Lib.hid hks
  have Hz := Lib.hid hz
  have HBH := Lib.hid hBH
  clear hba h0 hN hHlt hM0 hks hx h hz hBH
  by_cases k0 : kind = 0
  · subst k0
    rw [if_pos rfl]
    go_enter Try.func12, Try.ntmps12
    go_wp2_with fail
    refine (row_any fill n _ hxn.1 hxn.2).mono ?_
    rintro e w1 ⟨A, c, rfl, ho, hb⟩
    generalize w.alloc (.cells #[.int .i64 0, .int .i64 at_, .int .u8 (fill.toNat : Int), .int .i64 n, .slice ka kn kc] 34) = W0 at *
    have hm : (rowB fill (rowLen n)).length ≤ 32 := by rw [rowB_len]; exact rowLen_le n
    generalize rowB fill (rowLen n) = b at *
    have Hm := Lib.hid hm
    have hzz := Hz.out
    have h1 := H0.out.below hb
    have hN1 := HN.out.below hb HN.out.lt
    have hsz1 := hb.size
    obtain ⟨F, G, hp, hr, hFG, hFH, hGH, hH1⟩ := h1
    have hob := ho.lt
    have hapF : ∀ ad, A = some ad → ¬ F ad.block := fun ad e hf => by
      subst e
      have h1 := hob ad.block rfl
      have h2 := HHlt.out _ (hFH _ hf)
      omega
    have hapG : ∀ ad, A = some ad → ¬ G ad.block := fun ad e hf => by
      subst e
      have h1 := hob ad.block rfl
      have h2 := HHlt.out _ (hGH _ hf)
      omega
    have hNF : ¬ F w.heap.size := fun hf => by have := HHlt.out _ (hFH _ hf); omega
    have b1 : w1.cell? ⟨w.heap.size, 1, none⟩ = some (.int .i64 at_) := hN1.cell 1
    have HC1 := Lib.hid (write_any g d F at_ A b.length c b w1 (by omega) (by omega) (Rd.of_own ho) hapF hp)
    have HR1 : Hid (∀ w2, Kp F w1 w2 → Calls Try.prog 29 #[.pointer (some ⟨M, 0, none⟩), .int .i64 at_, .slice A b.length c] w2 _) := fun w2 hk => rwrite_any M d G at_ A b.length c b w2 (by omega) (by omega) (((Rd.of_own ho).kpB hk hapF).more hk.size) hapG (hr.kp hk fun k hg hf => hFG k hf hg)
    have Hd : Hid ((∀ k, G k → k < w1.heap.size) ∧ (∀ k, F k → ¬ G k) ∧ (∀ k, F k → H k) ∧ (∀ k, G k → H k) ∧ (∀ k, H k → k < w1.heap.size)) := ⟨fun k hk => hH1 k (hGH k hk), hFG, hFH, hGH, hH1⟩
    have Ho := Lib.hid ho
    have Hap := Lib.hid (And.intro hapF hapG)
    have HNF := Lib.hid hNF
    have HM1 : Hid (Mv H H w w1) := HM0.out.trans (Mv.of (Kp.of_below hb))
    have Hsz1 := Lib.hid hsz1
    have hws := write_small d at_ b
    clear ho hb hp hr hFG hFH hGH hH1 hob hapF hapG hNF hN1 hsz1 H0 HM0 Hks
    go_wp2_with fail
    refine HC1.out.mono ?_
    rintro e w2 ⟨rfl, F', hp2, m1⟩
    have b2 : w2.cell? ⟨w.heap.size, 1, none⟩ = some (.int .i64 at_) := cell_kp b1 m1.kp HNF.out
    have Hp2 := Lib.hid hp2
    have Hm1 := Lib.hid m1
    have HR2 := Lib.hid (HR1.out w2 m1.kp)
    clear hp2 m1 HC1 HR1 b1
    go_wp2_with fail
    refine HR2.out.mono ?_
    rintro e w3 ⟨rfl, G', hr3, m2⟩
    obtain ⟨d1, d2, d3, d4, d5⟩ := Hd.out
    obtain ⟨hboth, hmv⟩ := both_step d1 d2 d3 d4 d5 Hp2.out Hm1.out hr3 m2
    have hHlt := HHlt.out
    have hob := Ho.out.lt
    have hzz2 := Hz.out
    have ho3 := own_kp (own_kp Ho.out Hm1.out.kp (fun k e hf => by have h1 := hob k e; have h2 := hHlt _ (d3 _ hf); omega)) m2.kp (fun k e hf => by have h1 := hob k e; have h2 := hHlt _ (d4 _ hf); omega)
    have Ho3 := Lib.hid ho3
    have Hboth := Lib.hid hboth
    have Hmv := Lib.hid (HM1.out.trans hmv)
    have Hf1 : Hid (∀ k, F' k → F k ∨ w1.heap.size ≤ k) := Hm1.out.new
    have Hf2 : Hid (∀ k, G' k → G k ∨ w1.heap.size ≤ k) := fun k hk => (m2.new k hk).imp id fun h => Nat.le_trans Hm1.out.kp.size h
    have Hs := Lib.hid (spoil_own A b.length c W0.heap.size b w3 (by omega) ho3)
    have Hob := Lib.hid hob
    clear hr3 m2 hboth hmv ho3 hob hHlt hzz2 d1 d2 d5 HR2 b2 Hp2 Hm1 Ho Hap
    go_wp2_with fail
    refine Hs.out.mono ?_
    rintro e w4 ⟨rfl, hk4⟩
    have hsz := Hz.out
    have HF : Hid (∃ H', Both w4 H' g M (d.write at_ b).2 ∧ Mv H H' w w4) := by
      refine ⟨_, Hboth.out.kp hk4 ?_, ⟨?_, Hmv.out.new⟩⟩
      · rintro k hk ⟨hk5, hk6⟩
        have hlt := (Hob.out k hk6).2
        rcases hk with hk | hk | hk
        · have := HHlt.out k hk; omega
        · rcases Hf1.out k hk with h | h
          · have := HHlt.out k (d3 k h); omega
          · omega
        · rcases Hf2.out k hk with h | h
          · have := HHlt.out k (d4 k h); omega
          · omega
      · exact Hmv.out.kp.trans' hk4 fun k hk => .inr (by omega)
    clear hk4 hsz Hs Hboth Hmv Hf1 Hf2 Hob Ho3 d3 d4 hzz
    generalize (d.write at_ b).1 = r at *
    go_wp2
    go_ret
    exact ⟨rfl, HF.out⟩
  · rw [if_neg k0]
    by_cases k1 : kind = 1
    · subst k1
      rw [if_pos rfl]
      obtain ⟨F, G, hp, hr, hFG, hFH, hGH, hH1⟩ := H0.out
      have HC1 := Lib.hid (sync_any g d F _ (by omega) hp)
      have HC2 : Hid (∀ w2, Kp F (w.alloc (.cells #[.int .i64 1, .int .i64 at_, .int .u8 (fill.toNat : Int), .int .i64 n, .slice ka kn kc] 34)) w2 → Calls Try.prog 31 #[.pointer (some ⟨M, 0, none⟩)] w2 _) := fun w2 hk => rsync_any M d G w2 (by omega) (hr.kp hk fun k hg hf => hFG k hf hg)
      have Hst : Hid (∀ F' G' w1 w2, PD w1 F' g d.sync.2 → Mv F F' (w.alloc (.cells #[.int .i64 1, .int .i64 at_, .int .u8 (fill.toNat : Int), .int .i64 n, .slice ka kn kc] 34)) w1 → RD w2 G' M d.sync.2 → Mv G G' w1 w2 → ∃ H', Both w2 H' g M d.sync.2 ∧ Mv H H' w w2) := fun F' G' w1 w2 h1 h2 h3 h4 => by
        obtain ⟨a, b⟩ := both_step (fun k hk => hH1 k (hGH k hk)) hFG hFH hGH hH1 h1 h2 h3 h4
        exact ⟨_, a, HM0.out.trans b⟩
      have hss := sync_small d
      clear hp hr hFG hFH hGH hH1 H0 HM0 HN Hks Hz
      go_enter Try.func12, Try.ntmps12
      go_wp2_with fail
      refine HC1.out.mono ?_
      rintro e w1 ⟨rfl, F', hp1, m1⟩
      have Hp1 := Lib.hid hp1
      have Hm1 := Lib.hid m1
      have HC3 := Lib.hid (HC2.out w1 m1.kp)
      clear hp1 m1 HC1 HC2
      go_wp2_with fail
      refine HC3.out.mono ?_
      rintro e w2 ⟨rfl, G', hr2, m2⟩
      have HF := Lib.hid (Hst.out F' G' w1 w2 Hp1.out Hm1.out hr2 m2)
      clear hr2 m2 HC3 Hst Hp1 Hm1
      generalize d.sync.1 = r at *
      go_wp2
      go_ret
      exact ⟨rfl, HF.out⟩
    · rw [if_neg k1]
      by_cases k2 : kind = 2
      · subst k2
        rw [if_pos rfl]
        obtain ⟨F, G, hp, hr, hFG, hFH, hGH, hH1⟩ := H0.out
        have HC1 := Lib.hid (arm_meth g d F n _ hxn.1 hxn.2 hp)
        have HC2 : Hid (∀ w2, Kp F (w.alloc (.cells #[.int .i64 2, .int .i64 at_, .int .u8 (fill.toNat : Int), .int .i64 n, .slice ka kn kc] 34)) w2 → Calls Try.prog 32 #[.pointer (some ⟨M, 0, none⟩), .int .i64 n] w2 _) := fun w2 hk => rarm_meth M d G n w2 hxn.2 (hr.kp hk fun k hg hf => hFG k hf hg)
        have Hst : Hid (∀ F' G' w1 w2, PD w1 F' g (d.arm n) → Mv F F' (w.alloc (.cells #[.int .i64 2, .int .i64 at_, .int .u8 (fill.toNat : Int), .int .i64 n, .slice ka kn kc] 34)) w1 → RD w2 G' M (d.arm n) → Mv G G' w1 w2 → ∃ H', Both w2 H' g M (d.arm n) ∧ Mv H H' w w2) := fun F' G' w1 w2 h1 h2 h3 h4 => by
          obtain ⟨a, b⟩ := both_step (fun k hk => hH1 k (hGH k hk)) hFG hFH hGH hH1 h1 h2 h3 h4
          exact ⟨_, a, HM0.out.trans b⟩
        have b3 := HN.out.cell 3
        have HNF : Hid (¬ F w.heap.size) := fun hf => by have := HHlt.out _ (hFH _ hf); omega
        clear hp hr hFG hFH hGH hH1 H0 HM0 HN Hks Hz
        go_enter Try.func12, Try.ntmps12
        go_wp2_with fail
        refine HC1.out.mono ?_
        rintro e w1 ⟨rfl, hp1, m1⟩
        have b3' : w1.cell? ⟨w.heap.size, 3, none⟩ = some (.int .i64 n) := cell_kp b3 m1 HNF.out
        have Hp1 := Lib.hid hp1
        have Hm1 := Lib.hid m1
        have HC3 := Lib.hid (HC2.out w1 m1)
        clear hp1 m1 HC1 HC2 b3
        go_wp2_with fail
        refine HC3.out.mono ?_
        rintro e w2 ⟨rfl, hr2, m2⟩
        have HF := Lib.hid (Hst.out F G w1 w2 Hp1.out (Mv.of Hm1.out) hr2 (Mv.of m2))
        clear hr2 m2 HC3 Hst Hp1 Hm1 b3'
        go_wp2
        go_ret
        exact ⟨rfl, HF.out⟩
      · rw [if_neg k2]
        by_cases k3 : kind = 3
        · subst k3
          rw [if_pos rfl]
          obtain ⟨F, G, hp, hr, hFG, hFH, hGH, hH1⟩ := H0.out
          have hapF : 0 < kn → ∀ ad, ka = some ad → ¬ F ad.block := fun hn ad e hf => by
            obtain ⟨b, o, e2, hb, _⟩ := Hks.out.2.2 hn
            rw [e] at e2
            injection e2 with e2
            subst e2
            have := HBH.out _ (hFH _ hf)
            simp only at this
            omega
          have hapG : 0 < kn → ∀ ad, ka = some ad → ¬ G ad.block := fun hn ad e hf => by
            obtain ⟨b, o, e2, hb, _⟩ := Hks.out.2.2 hn
            rw [e] at e2
            injection e2 with e2
            subst e2
            have := HBH.out _ (hGH _ hf)
            simp only at this
            omega
          have hzz := Hz.out
          have HC1 := Lib.hid (crash_any g d F ka kn kc keep _ (by omega) (by omega) (Hks.out.more (by rw [hzz]; omega)) hapF hp)
          have HC2 : Hid (∀ w2, Kp F (w.alloc (.cells #[.int .i64 3, .int .i64 at_, .int .u8 (fill.toNat : Int), .int .i64 n, .slice ka kn kc] 34)) w2 → Calls Try.prog 33 #[.pointer (some ⟨M, 0, none⟩), .slice ka kn kc] w2 _) := fun w2 hk => rcrash_any M d G ka kn kc keep w2 (by omega) (by omega) ((Hks.out.kpB hk hapF).more (by have := hk.size; rw [hzz] at this; omega)) hapG (hr.kp hk fun k hg hf => hFG k hf hg)
          have Hst : Hid (∀ F' G' w1 w2, PD w1 F' g (d.crash keep) → Mv F F' (w.alloc (.cells #[.int .i64 3, .int .i64 at_, .int .u8 (fill.toNat : Int), .int .i64 n, .slice ka kn kc] 34)) w1 → RD w2 G' M (d.crash keep) → Mv G G' w1 w2 → ∃ H', Both w2 H' g M (d.crash keep) ∧ Mv H H' w w2) := fun F' G' w1 w2 h1 h2 h3 h4 => by
            obtain ⟨a, b⟩ := both_step (fun k hk => hH1 k (hGH k hk)) hFG hFH hGH hH1 h1 h2 h3 h4
            exact ⟨_, a, HM0.out.trans b⟩
          have b4 := HN.out.cell 4
          have HNF : Hid (¬ F w.heap.size) := fun hf => by have := HHlt.out _ (hFH _ hf); omega
          clear hp hr hFG hFH hGH hH1 H0 HM0 HN Hks Hz hapF hapG hzz
          go_enter Try.func12, Try.ntmps12
          go_wp2_with fail
          refine HC1.out.mono ?_
          rintro e w1 ⟨rfl, F', hp1, m1⟩
          have b4' : w1.cell? ⟨w.heap.size, 4, none⟩ = some (.slice ka kn kc) := cell_kp b4 m1.kp HNF.out
          have Hp1 := Lib.hid hp1
          have Hm1 := Lib.hid m1
          have HC3 := Lib.hid (HC2.out w1 m1.kp)
          clear hp1 m1 HC1 HC2 b4
          go_wp2_with fail
          refine HC3.out.mono ?_
          rintro e w2 ⟨rfl, G', hr2, m2⟩
          have HF := Lib.hid (Hst.out F' G' w1 w2 Hp1.out Hm1.out hr2 m2)
          clear hr2 m2 HC3 Hst Hp1 Hm1 b4'
          go_wp2
          go_ret
          exact ⟨rfl, HF.out⟩
        · rw [if_neg k3]
          have HF : Hid (∃ H', Both (w.alloc (.cells #[.int .i64 kind, .int .i64 at_, .int .u8 (fill.toNat : Int), .int .i64 n, .slice ka kn kc] 34)) H' g M d ∧ Mv H H' w (w.alloc (.cells #[.int .i64 kind, .int .i64 at_, .int .u8 (fill.toNat : Int), .int .i64 n, .slice ka kn kc] 34))) := ⟨H, H0.out, HM0.out⟩
          have q0 : ((kind : Int) == 0) = false := by simpa using k0
          have q1 : ((kind : Int) == 1) = false := by simpa using k1
          have q2 : ((kind : Int) == 2) = false := by simpa using k2
          have q3 : ((kind : Int) == 3) = false := by simpa using k3
          clear H0 HM0 HN Hks Hz
          go_enter Try.func12, Try.ntmps12
          go_wp2
          go_ret
          exact ⟨rfl, HF.out⟩
end Go.Proofs.Ytmjffikdaejffaa
