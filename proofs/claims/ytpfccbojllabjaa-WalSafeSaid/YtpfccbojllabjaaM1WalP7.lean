/- Of the proofs of layer 4, merged: WalP7. -/
import Derived.Test.YtpfccbojllabjaaM1WalP6

/- Plain: what was synced stays in a log that grows, whenever the power goes. -/
namespace Go.Proofs.Ytpfccbojllabjaa

/-- Whatever of what waits is kept: no head stands there, and the area of the epoch 0 begins with P. -/
structure Sure (d : Dk) (P : List UInt8) : Prop where
  heads : ∀ i, i < 2 → d.safe.getD i [] = zeros 32
  above : ∀ w ∈ d.waits, 2 ≤ w.1
  old : ∀ j t, t < 32 → j * 32 + t < P.length → (d.safe.getD (2 + j) [])[t]? = P[j * 32 + t]?
  new : ∀ j t, t < 32 → j * 32 + t < P.length → ∀ w ∈ d.waits, w.1 = 2 + j → w.2[t]? = P[j * 32 + t]?
theorem Sure.same {d d' : Dk} {P : List UInt8} (h : Sure d P) (h1 : d'.safe = d.safe) (h2 : d'.waits = d.waits) : Sure d' P := ⟨by rw [h1]; exact h.heads, by rw [h2]; exact h.above, by rw [h1]; exact h.old, by rw [h2]; exact h.new⟩
theorem sure_new (n : Nat) (h : 6 ≤ n) : Sure (Dk.new n) [] :=
  ⟨fun i hi => by simp [Dk.new, List.getD, show i < n by omega, zeros], fun w hw => by simp [Dk.new] at hw, fun j t _ h => by simp at h, fun j t _ h => by simp at h⟩
theorem Sure.write {d : Dk} {P b : List UInt8} (h : Sure d P) (hb : b.take P.length = P) (i : Nat) : Sure (d.write ((2 + i : Nat) : Int) (chunk b i)).2 P := by
  unfold Dk.write
  split
  · exact h
  split
  · exact h
  split
  · refine ⟨by simp only [d.act_same.1]; exact h.heads, fun w hw => ?_, by simp only [d.act_same.1]; exact h.old, fun j t h1 h2 w hw he => ?_⟩
    · simp only [List.mem_append, List.mem_singleton] at hw
      rcases hw with hw | rfl
      · exact h.above w hw
      · simp only; omega
    · simp only [List.mem_append, List.mem_singleton] at hw
      rcases hw with hw | rfl
      · exact h.new j t h1 h2 w hw he
      · have hij : i = j := by simp only at he; omega
        subst hij
        show (chunk b i)[t]? = _
        rw [chunk_get, if_pos h1]
        have e := congrArg (fun l => l[i * 32 + t]?) hb
        rw [List.getElem?_take_of_lt h2] at e
        exact e
  · exact h.same d.act_same.1 d.act_same.2
theorem Sure.layS {P b : List UInt8} (hb : b.take P.length = P) : ∀ (k i : Nat) (d : Dk), Sure d P → Sure (layS b 2 i k d).2 P := by
  intro k
  induction k with
  | zero => intro i d h; exact h
  | succ k ih =>
    intro i d h
    by_cases hw : (d.write ((2 + i : Nat) : Int) (chunk b i)).1 = 0
    · rw [layS_next hw]; exact ih _ _ (h.write hb i)
    · rw [layS_stop hw]; exact h.write hb i
theorem base_zero (d : Dk) : d.base 0 = 2 := by unfold Dk.base baseOf; simp
theorem full_prefix {N k : Nat} {rs : List (List UInt8)} (_hk : k ≤ rs.length) (b : List UInt8) : (fullF N (rs ++ [b])).take (framesF (rs.take k)).length = framesF (rs.take k) := by
  have e : rs = rs.take k ++ rs.drop k := (List.take_append_drop k rs).symm
  unfold fullF
  have : framesF (rs ++ [b]) = framesF (rs.take k) ++ framesF (rs.drop k ++ [b]) := by
    rw [← framesF_app, ← List.append_assoc, ← e]
  rw [this, List.append_assoc]
  exact List.take_left' rfl
/-- What holds while records are appended and synced, in the epoch 0. -/
structure Growing (d : Dk) (s : Lg) : Prop where
  ok : d.Ok
  six : 6 ≤ d.safe.length
  epoch : s.epoch = 0
  safe : s.safe ≤ s.recs.length
  sure : Sure d (framesF (s.recs.take s.safe))
  small : ∀ r ∈ s.recs, r.length ≤ 1024
  fits : usedF s.recs ≤ d.bytes
  live : s.gone = false → OnDisk d s
theorem append_live {d : Dk} {s : Lg} (h : OnDisk d s) (hg : s.gone = false) {b : List UInt8} (hb : b.length ≤ 1024) (hr : usedF s.recs + (10 + b.length) ≤ d.bytes) (q1 : (s.laid d b).1 = 0) : OnDisk (s.laid d b).2 { s with recs := s.recs ++ [b] } := by
  obtain ⟨b1, b2, b3⟩ := Dk.base_le h.six s.epoch
  have hu : usedF (s.recs ++ [b]) = usedF s.recs + (10 + b.length) := by rw [usedF_app, usedF_one]
  have hbe : d.bytes = d.half * 32 := rfl
  have hfl : (fullF d.bytes (s.recs ++ [b])).length = d.bytes := full_len _ _ (by omega)
  have hla : s.laid d b = layS (fullF d.bytes (s.recs ++ [b])) (d.base s.epoch) (usedF s.recs / 32) ((usedF (s.recs ++ [b]) - 1) / 32 + 1 - usedF s.recs / 32) d := rfl
  rw [hla] at q1
  have q3 := layS_sec (fullF d.bytes (s.recs ++ [b])) (d.base s.epoch) ((usedF (s.recs ++ [b]) - 1) / 32 + 1 - usedF s.recs / 32) (usedF s.recs / 32) d q1
  have q4 := layS_ok (fullF d.bytes (s.recs ++ [b])) (d.base s.epoch) ((usedF (s.recs ++ [b]) - 1) / 32 + 1 - usedF s.recs / 32) (usedF s.recs / 32) d h.ok
  have q5 := layS_len (fullF d.bytes (s.recs ++ [b])) (d.base s.epoch) ((usedF (s.recs ++ [b]) - 1) / 32 + 1 - usedF s.recs / 32) (usedF s.recs / 32) d
  rw [← hla] at q1 q3 q4 q5
  have hby : (s.laid d b).2.bytes = d.bytes := bytes_of q5
  have hba : (s.laid d b).2.base s.epoch = d.base s.epoch := by unfold Dk.base; rw [q5]
  have hha : (s.laid d b).2.half = d.half := by unfold Dk.half; rw [q5]
  refine ⟨q4, by have := h.six; omega, ?_, ?_, ?_⟩
  · have := append_ok (b := b) h.lg
    unfold Lg.append at this
    rw [if_neg (by simp [hg]), if_neg (by omega), if_neg (by unfold Lg.room; omega), if_pos q1] at this
    rw [hby]
    exact this
  · rw [newest_same (d := d)]
    · exact h.newest
    · rw [q3, if_neg (by omega)]
    · rw [q3, if_neg (by omega)]
  · show (s.laid d b).2.area s.epoch = fullF (s.laid d b).2.bytes (s.recs ++ [b])
    rw [hby]
    refine area_eq (by rw [hfl, hby]) (fun j hj => ?_)
    rw [hha] at hj
    rw [hba, q3]
    by_cases hc : d.base s.epoch + usedF s.recs / 32 ≤ d.base s.epoch + j ∧ d.base s.epoch + j < d.base s.epoch + usedF s.recs / 32 + ((usedF (s.recs ++ [b]) - 1) / 32 + 1 - usedF s.recs / 32)
    · rw [if_pos hc, show d.base s.epoch + j - d.base s.epoch = j by omega]
    · rw [if_neg hc, ← area_chunk h.ok h.six s.epoch j hj, h.area]
      exact chunk_push (by omega) (by omega)
theorem laid_six {d : Dk} {s : Lg} (h : OnDisk d s) {b : List UInt8} (hr : usedF s.recs + (10 + b.length) ≤ d.bytes) (q1 : (s.laid d b).1 ≠ 0) : (s.laid d b).1 = 6 := by
  obtain ⟨b1, b2, b3⟩ := Dk.base_le h.six s.epoch
  have hu : usedF (s.recs ++ [b]) = usedF s.recs + (10 + b.length) := by rw [usedF_app, usedF_one]
  have hbe : d.bytes = d.half * 32 := rfl
  have hfl : (fullF d.bytes (s.recs ++ [b])).length = d.bytes := full_len _ _ (by omega)
  exact layS_six _ _ _ _ d (by omega) (fun j h1 h2 => chunk_len32 hfl (by omega)) q1
/-- One record more: taken, or lost with the power; or refused, and then nothing turns. -/
theorem Growing.append {d : Dk} {s : Lg} (h : Growing d s) (hg : s.gone = false) (b : List UInt8) : Growing (s.append d b).2.2 (s.append d b).2.1 ∧ (s.append d b).2.1.safe = s.safe ∧
    (((s.append d b).1 = 0 ∧ (s.append d b).2.1.recs = s.recs ++ [b] ∧ (s.append d b).2.1.gone = false) ∨ ((s.append d b).1 = 6 ∧ (s.append d b).2.1.recs = s.recs ++ [b]) ∨ ((s.append d b).1 ≠ 0 ∧ (s.append d b).1 ≠ 6 ∧ (s.append d b).2.1 = s)) := by
  have on := h.live hg
  unfold Lg.append
  rw [if_neg (by simp [hg])]
  by_cases h1 : 1024 < b.length
  · rw [if_pos h1]
    exact ⟨h, rfl, .inr (.inr ⟨(by decide : (3 : Int) ≠ 0), (by decide : (3 : Int) ≠ 6), rfl⟩)⟩
  rw [if_neg h1]
  by_cases h2 : s.room d < b.length + 10
  · rw [if_pos h2]
    exact ⟨h, rfl, .inr (.inr ⟨(by decide : (5 : Int) ≠ 0), (by decide : (5 : Int) ≠ 6), rfl⟩)⟩
  rw [if_neg h2]
  have hr : usedF s.recs + (10 + b.length) ≤ d.bytes := by unfold Lg.room at h2; omega
  have hsm : ∀ r ∈ s.recs ++ [b], r.length ≤ 1024 := fun r hr => by
    rcases List.mem_append.1 hr with hr | hr
    · exact h.small r hr
    · simp only [List.mem_singleton] at hr; subst hr; omega
  have hsl : s.safe ≤ (s.recs ++ [b]).length := by have := h.safe; simp; omega
  have htk : (s.recs ++ [b]).take s.safe = s.recs.take s.safe := List.take_append_of_le_length h.safe
  have hsu : Sure (s.laid d b).2 (framesF (s.recs.take s.safe)) := by
    unfold Lg.laid
    rw [h.epoch, base_zero]
    exact Sure.layS (full_prefix h.safe b) _ _ _ h.sure
  have hokl : (s.laid d b).2.Ok := layS_ok _ _ _ _ _ h.ok
  have hll : (s.laid d b).2.safe.length = d.safe.length := layS_len _ _ _ _ _
  by_cases h3 : (s.laid d b).1 = 0
  · rw [if_pos h3]
    exact ⟨⟨hokl, by simp only; rw [hll]; exact h.six, h.epoch, hsl, by simp only; rw [htk]; exact hsu, hsm, by simp only; rw [bytes_of hll, usedF_app, usedF_one]; exact hr, fun _ => append_live on hg (by omega) hr h3⟩, rfl, .inl ⟨rfl, rfl, hg⟩⟩
  · rw [if_neg h3]
    exact ⟨⟨hokl, by simp only; rw [hll]; exact h.six, h.epoch, hsl, by simp only; rw [htk]; exact hsu, hsm, by simp only; rw [bytes_of hll, usedF_app, usedF_one]; exact hr, fun e => by cases e⟩, rfl, .inr (.inl ⟨laid_six on hr h3, rfl⟩)⟩
theorem seen_none {s : List (List UInt8)} {ws : List (Nat × List UInt8)} {i : Nat} (h : ∀ w ∈ ws, w.1 ≠ i) : seen s ws i = s.getD i [] := by
  unfold seen
  induction ws generalizing s with
  | nil => rfl
  | cons w ws ih =>
    rw [List.foldl_cons, if_neg (h w (List.mem_cons_self ..))]
    exact ih fun x hx => h x (List.mem_cons_of_mem _ hx)
/-- All are safe, or the power is gone. -/
theorem Growing.sync {d : Dk} {s : Lg} (h : Growing d s) (hg : s.gone = false) : Growing (s.sync d).2.2 (s.sync d).2.1 ∧ (s.sync d).2.1.recs = s.recs ∧
    (((s.sync d).1 = 0 ∧ (s.sync d).2.1.safe = s.recs.length ∧ (s.sync d).2.1.gone = false) ∨ ((s.sync d).1 ≠ 0 ∧ (s.sync d).2.1.safe = s.safe)) := by
  have on := h.live hg
  unfold Lg.sync
  rw [if_neg (by simp [hg])]
  by_cases h0 : d.sync.1 = 0
  · rw [if_pos h0]
    obtain ⟨w1, w2⟩ := sync_went h0
    have hl := Dk.sync_len d
    have hsec := fun j (hj : j < d.safe.length) => sec_sync h.ok h0 j hj
    have hcalm : ∀ j, d.sync.2.safe.getD j [] = d.sync.2.sec j := fun j => (sec_calm w1 j).symm
    have on2 : OnDisk d.sync.2 { s with safe := s.recs.length } := on.same (Dk.sync_ok h.ok) hl hsec rfl rfl (Nat.le_refl _)
    refine ⟨⟨Dk.sync_ok h.ok, by simp only; rw [hl]; exact h.six, h.epoch, Nat.le_refl _, ?_, h.small, by simp only; rw [bytes_of hl]; exact h.fits, fun _ => on2⟩, rfl, .inl ⟨rfl, rfl, hg⟩⟩
    simp only
    rw [List.take_length]
    have h6 := h.six
    refine ⟨fun i hi => ?_, fun w hw => by rw [w1] at hw; simp at hw, fun j t h1 h2 => ?_, fun j t _ _ w hw => by rw [w1] at hw; simp at hw⟩
    · rw [hcalm, hsec i (by omega)]
      unfold Dk.sec
      rw [seen_none fun w hw => by have := h.sure.above w hw; omega]
      exact h.sure.heads i hi
    · have hu : (framesF s.recs).length = usedF s.recs := rfl
      have hfit := on.lg.fits
      have hbe : d.bytes = d.half * 32 := rfl
      have hb2 := (Dk.base_le h6 0).2.1
      rw [base_zero] at hb2
      have hj : j < d.half := by omega
      rw [hcalm, hsec _ (by omega)]
      have ha := area_chunk h.ok h6 s.epoch j hj
      rw [h.epoch, base_zero] at ha
      rw [← ha]
      have hare := on.area
      rw [h.epoch] at hare
      rw [hare, chunk_get, if_pos h1]
      unfold fullF
      rw [List.getElem?_append_left (by omega)]
  · rw [if_neg h0]
    have hs : d.sync.2.safe = d.safe ∧ d.sync.2.waits = d.waits := by
      unfold Dk.sync at h0 ⊢
      split
      · rename_i ha; rw [if_pos ha] at h0; exact absurd rfl h0
      · exact d.act_same
    exact ⟨⟨Dk.sync_ok h.ok, by simp only; rw [Dk.sync_len]; exact h.six, h.epoch, h.safe, h.sure.same hs.1 hs.2, h.small, by simp only; rw [bytes_of (Dk.sync_len d)]; exact h.fits, fun e => by cases e⟩, rfl, .inr ⟨h0, rfl⟩⟩
/-- Behind a crash all that was safe is found. -/
theorem Growing.crash {d : Dk} {s : Lg} (h : Growing d s) (ks : List Int) : s.safe ≤ (d.crash ks).found.recs.length := by
  have hokc := Dk.crash_ok h.ok ks
  have hl := Dk.crash_len d ks
  have h6 : 6 ≤ (d.crash ks).safe.length := by rw [hl]; exact h.six
  have h6' := h.six
  have hcalm : ∀ j, (d.crash ks).sec j = (crashS d.safe d.waits ks).getD j [] := fun j => sec_calm (d := d.crash ks) rfl j
  have hhead : ∀ i, i < 2 → (d.crash ks).sec i = zeros 32 := fun i hi => by
    rw [hcalm]
    have hlen : ((crashS d.safe d.waits ks).getD i []).length = 32 := rows_getD (crashS_rows _ _ _ h.ok.rows h.ok.waits) (by rw [crashS_len]; omega)
    apply List.ext_getElem?
    intro t
    by_cases ht : t < 32
    · rcases crashS_from d.waits d.safe ks h.ok.rows h.ok.waits i t ht (by omega) with h1 | ⟨w, hw, h2, _⟩
      · rw [h1, h.sure.heads i hi]
      · have := h.sure.above w hw; omega
    · rw [List.getElem?_eq_none (by omega), List.getElem?_eq_none (by rw [zeros_len]; omega)]
  have hnew : (d.crash ks).newest = 0 := by
    unfold Dk.newest
    rw [hhead 0 (by omega), hhead 1 (by omega), headE_zeros, headE_zeros]
    rfl
  obtain ⟨P, hP⟩ : ∃ P, framesF (s.recs.take s.safe) = P := ⟨_, rfl⟩
  have hsu := h.sure
  rw [hP] at hsu
  have hal := Dk.area_len hokc h6 0
  have hbe : (d.crash ks).bytes = (d.crash ks).half * 32 := rfl
  have hb2 := (Dk.base_le h6 0).2.1
  rw [base_zero] at hb2
  by_cases hPl : P.length ≤ (d.crash ks).bytes
  · have hpre : ((d.crash ks).area 0).take P.length = P := by
      apply List.ext_getElem?
      intro m
      by_cases hm : m < P.length
      · rw [List.getElem?_take_of_lt hm]
        have hd := Nat.div_add_mod m 32
        have hjm : m / 32 < (d.crash ks).half := by omega
        have hc := area_chunk hokc h6 0 (m / 32) hjm
        rw [base_zero] at hc
        have hg := chunk_get ((d.crash ks).area 0) (m / 32) (m % 32)
        rw [if_pos (Nat.mod_lt _ (by omega)), hc, hcalm, show m / 32 * 32 + m % 32 = m by omega] at hg
        rw [← hg]
        have hmm : m / 32 * 32 + m % 32 = m := by omega
        rcases crashS_from d.waits d.safe ks h.ok.rows h.ok.waits (2 + m / 32) (m % 32) (Nat.mod_lt _ (by omega)) (by omega) with h1 | ⟨w, hw, h2, h3⟩
        · rw [h1, hsu.old (m / 32) (m % 32) (Nat.mod_lt _ (by omega)) (by omega), hmm]
        · rw [h3, hsu.new (m / 32) (m % 32) (Nat.mod_lt _ (by omega)) (by omega) w hw h2, hmm]
      · rw [List.getElem?_eq_none (by rw [List.length_take]; omega), List.getElem?_eq_none (by omega)]
    have hsplit : (d.crash ks).area 0 = framesF (s.recs.take s.safe) ++ ((d.crash ks).area 0).drop P.length := by
      rw [hP]
      have := List.take_append_drop P.length ((d.crash ks).area 0)
      rw [hpre] at this
      exact this.symm
    have hf := findR_frames (s.recs.take s.safe) (((d.crash ks).area 0).drop P.length) (fun r hr => h.small r (List.mem_of_mem_take hr))
    rw [← hsplit] at hf
    show _ ≤ (findR ((d.crash ks).area (d.crash ks).newest)).1.length
    rw [hnew, hf]
    simp only
    rw [List.length_append, List.length_take]
    have := h.safe
    omega
  · -- more than the area has: that never was
    exfalso
    have h1 := h.fits
    have h2 : usedF s.recs = usedF (s.recs.take s.safe) + usedF (s.recs.drop s.safe) := by rw [← usedF_app, List.take_append_drop]
    have h3 : P.length = usedF (s.recs.take s.safe) := by rw [← hP]; rfl
    rw [bytes_of hl] at hPl
    omega
theorem grows_new (n : Nat) (h : 6 ≤ n) : Growing (Dk.new n) { epoch := 0, recs := [], safe := 0, gone := false } :=
  ⟨Dk.new_ok n, by simp [Dk.new]; exact h, rfl, Nat.le_refl _, sure_new n h, by simp, by simp [usedF, framesF], fun _ => fresh_on n h⟩
theorem Growing.arm {d : Dk} {s : Lg} (h : Growing d s) (n : Int) : Growing (d.arm n) s :=
  ⟨Dk.arm_ok h.ok n, h.six, h.epoch, h.safe, h.sure.same rfl rfl, h.small, h.fits, fun e => arm_on (h.live e) n⟩
end Go.Proofs.Ytpfccbojllabjaa
