/- Plain: more of the disk: it stays well formed; how many acts go well; what is seen behind a sync and a crash. -/
import Derived.Test.YtenmopnegedgjaaDiskP
namespace Go.Proofs.Ytenmopnegedgjaa

theorem Dk.new_ok (n : Nat) : (Dk.new n).Ok :=
  ⟨fun s hs => by rw [List.eq_of_mem_replicate hs, List.length_replicate], fun w hw => by simp [Dk.new] at hw, by simp [Dk.new]⟩
theorem Dk.act_same (d : Dk) : d.act.2.safe = d.safe ∧ d.act.2.waits = d.waits := by
  unfold Dk.act
  split
  · exact ⟨rfl, rfl⟩
  split
  · exact ⟨rfl, rfl⟩
  split <;> exact ⟨rfl, rfl⟩
theorem Dk.act_left (d : Dk) (h : -1 ≤ d.left) : -1 ≤ d.act.2.left := by
  unfold Dk.act
  split
  · exact h
  split
  · exact h
  split
  · simp only; omega
  · exact h
theorem Dk.act_ok {d : Dk} (h : d.Ok) : d.act.2.Ok := by
  obtain ⟨h1, h2⟩ := d.act_same
  exact ⟨by rw [h1]; exact h.rows, by rw [h1, h2]; exact h.waits, d.act_left h.left⟩
theorem Dk.write_ok {d : Dk} (h : d.Ok) (a : Int) (b : List UInt8) : (d.write a b).2.Ok := by
  unfold Dk.write
  split
  · exact h
  split
  · exact h
  split
  · rename_i h1 h2 h3
    obtain ⟨e1, _⟩ := d.act_same
    refine ⟨by simp only [e1]; exact h.rows, fun w hw => ?_, d.act_left h.left⟩
    simp only [List.mem_append, List.mem_singleton] at hw
    simp only [e1]
    rcases hw with hw | rfl
    · exact h.waits w hw
    · simp only; omega
  · exact Dk.act_ok h
theorem Dk.sync_ok {d : Dk} (h : d.Ok) : d.sync.2.Ok := by
  unfold Dk.sync
  split
  · exact ⟨syncS_rows _ _ h.rows fun w hw => (h.waits w hw).2, fun w hw => by simp at hw, d.act_left h.left⟩
  · exact Dk.act_ok h
theorem Dk.crash_ok {d : Dk} (h : d.Ok) (ks : List Int) : (d.crash ks).Ok :=
  ⟨crashS_rows _ _ _ h.rows h.waits, fun w hw => by simp [Dk.crash] at hw, by simp [Dk.crash]⟩
theorem Dk.arm_ok {d : Dk} (h : d.Ok) (n : Int) : (d.arm n).Ok := ⟨h.rows, h.waits, by unfold Dk.arm; simp only; split <;> omega⟩
theorem Dk.write_len (d : Dk) (a : Int) (b : List UInt8) : (d.write a b).2.safe.length = d.safe.length := by
  unfold Dk.write
  split
  · rfl
  split
  · rfl
  split <;> simp [d.act_same.1]
theorem Dk.sync_len (d : Dk) : d.sync.2.safe.length = d.safe.length := by
  unfold Dk.sync
  split
  · simp [syncS_len]
  · simp [d.act_same.1]
theorem Dk.crash_len (d : Dk) (ks : List Int) : (d.crash ks).safe.length = d.safe.length := by simp [Dk.crash, crashS_len]

/-- How many acts have gone well since it was armed with n. -/
def Armed (n : Int) (done : Nat) (d : Dk) : Prop :=
  (n < 0 ∧ d.left = -1 ∧ d.down = false) ∨ (0 ≤ n ∧ (done : Int) ≤ n ∧ ((d.down = false ∧ d.left = n - done) ∨ (d.down = true ∧ (done : Int) = n)))
theorem Armed.start (d : Dk) (n : Int) (h : d.down = false) : Armed n 0 (d.arm n) := by
  unfold Armed Dk.arm
  by_cases hn : n < 0
  · rw [if_pos hn]; exact .inl ⟨hn, rfl, h⟩
  · rw [if_neg hn]; exact .inr ⟨by omega, by omega, .inl ⟨h, by simp⟩⟩
/-- An act goes well just if fewer than n have. -/
theorem Armed.act {n : Int} {done : Nat} {d : Dk} (h : Armed n done d) :
    (d.act.1 = true ∧ ¬ (0 ≤ n ∧ n ≤ done) ∧ Armed n (done + 1) d.act.2 ∧ d.act.2.down = false) ∨ (d.act.1 = false ∧ (0 ≤ n ∧ n ≤ done) ∧ Armed n done d.act.2 ∧ d.act.2.down = true) := by
  rcases h with ⟨hn, hl, hd⟩ | ⟨hn, hle, ⟨hd, hl⟩ | ⟨hd, he⟩⟩
  · have e : d.act = (true, d) := by unfold Dk.act; rw [hd, hl]; rfl
    rw [e]
    exact .inl ⟨rfl, by omega, .inl ⟨hn, hl, hd⟩, hd⟩
  · by_cases h0 : d.left = 0
    · have e : d.act = (false, { d with down := true }) := by unfold Dk.act; rw [if_neg (by simp [hd]), if_pos h0]
      rw [e]
      exact .inr ⟨rfl, by omega, .inr ⟨hn, hle, .inr ⟨rfl, by omega⟩⟩, rfl⟩
    · have e : d.act = (true, { d with left := d.left - 1 }) := by unfold Dk.act; rw [if_neg (by simp [hd]), if_neg h0, if_pos (by omega)]
      rw [e]
      exact .inl ⟨rfl, by omega, .inr ⟨hn, by omega, .inl ⟨hd, by simp only; omega⟩⟩, hd⟩
  · have e : d.act = (false, d) := by unfold Dk.act; rw [if_pos hd]
    rw [e]
    exact .inr ⟨rfl, by omega, .inr ⟨hn, hle, .inr ⟨hd, he⟩⟩, hd⟩

/-- With nothing that waits a sync, and a crash, change nothing of what was synced. -/
theorem Dk.sync_none (d : Dk) (h : d.waits = []) : d.sync.2.safe = d.safe := by
  unfold Dk.sync
  split
  · simp [h, syncS]
  · exact d.act_same.1
theorem Dk.crash_none (d : Dk) (h : d.waits = []) (ks : List Int) : (d.crash ks).safe = d.safe := by simp [Dk.crash, h, crashS_nil]
theorem seen_nil (s : List (List UInt8)) (i : Nat) : seen s [] i = s.getD i [] := rfl
/-- One write that waits, torn. -/
theorem crash_one (s : List (List UInt8)) (i : Nat) (b : List UInt8) (k : Int) : crashS s [(i, b)] [k] = s.set i (lay (clip k) b (s.getD i [])) := by
  show crashS (s.set i (lay (clip k) b (s.getD i []))) [] [] = _
  rw [crashS_nil]
/-- What is seen is what a sync would lay. -/
theorem seen_sync (ws : List (Nat × List UInt8)) : ∀ (s : List (List UInt8)), (∀ w ∈ ws, w.1 < s.length) → ∀ i, i < s.length → seen s ws i = (syncS s ws).getD i [] := by
  induction ws with
  | nil => intro s _ i _; rfl
  | cons w ws ih =>
    intro s hw i hi
    have h := ih (s.set w.1 w.2) (fun x hx => by rw [List.length_set]; exact hw x (List.mem_cons_of_mem _ hx)) i (by rw [List.length_set]; exact hi)
    show ws.foldl _ (if w.1 = i then w.2 else s.getD i []) = (syncS (s.set w.1 w.2) ws).getD i []
    rw [← h]
    unfold seen
    congr 1
    by_cases e : w.1 = i
    · subst e
      rw [if_pos rfl]
      simp [List.getD, hi]
    · rw [if_neg e]
      simp [List.getD, List.getElem?_set_ne e]
end Go.Proofs.Ytenmopnegedgjaa
