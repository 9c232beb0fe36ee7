/- Of the proofs of layer 4, merged: SesC. -/
import Derived.Test.YtfghbhjljbdlmaaM1SesB

/- Plain: a segment's bytes, there and back. -/
namespace Go.Proofs.Ytfghbhjljbdlmaa
open Go.RowKit Go.Maps

theorem cBack_uintAt_one (l : List UInt8) (k v tt : Nat) (h : uintAt l (k : Int) = ((v : Int), (tt : Int), 0)) : k < tt ∧ tt ≤ l.length ∧ v < 18446744073709551616 ∧ Lib.uvarint v = (l.drop k).take (tt - k) := by
  by_cases hk : k ≤ l.length
  · rw [uintAt_in l k hk] at h
    cases hu : uu 0 (l.drop k) with
    | error e =>
      rw [hu] at h
      simp [ans] at h
      have hz : e = 0 := h.2.2
      subst hz
      have : ∀ (s : List UInt8) (i : Nat), uu i s ≠ .error 0 := by
        intro s
        induction s with
        | nil => intro i h; simp [uu] at h
        | cons c r ih =>
          intro i h
          rw [uu] at h
          split at h
          · simp at h
          · split at h
            · simp at h
            · cases h3 : uu (i + 1) r with
              | ok x => rw [h3] at h; simp at h
              | error e' => rw [h3] at h; simp at h; subst h; exact ih _ h3
      exact absurd hu (this _ _)
    | ok x =>
      obtain ⟨v', m⟩ := x
      rw [hu] at h
      simp only [ans, Prod.mk.injEq] at h
      have hp := uu_pos hu
      rw [List.length_drop] at hp
      have hv : v' = v := by omega
      subst hv
      refine ⟨by omega, by omega, uu0_lt hu, ?_⟩
      rw [(uu_put hu).1]
      congr 1
      omega
  · rw [uintAt_out l k (by omega)] at h
    simp only [Prod.mk.injEq] at h
    omega

/-- The segment of bytes, or the error. -/
def parseS (l : List UInt8) : Sg × Nat :=
  match getF l with
  | .error e => (Sg.zero, e)
  | .ok (f, k) =>
    if k < l.length ∨ (f.1 ≠ 3 ∧ f.1 ≠ 4) then (Sg.zero, 11)
    else if (nextU (nextU f.2 0).2.1 (nextU f.2 0).2.2).2.2 ≠ 0 ∨ Sg.right ⟨(nextU f.2 0).1, (nextU (nextU f.2 0).2.1 (nextU f.2 0).2.2).1, f.1 == 4, (nextU (nextU f.2 0).2.1 (nextU f.2 0).2.2).2.1⟩ = false then (Sg.zero, 11)
    else (⟨(nextU f.2 0).1, (nextU (nextU f.2 0).2.1 (nextU f.2 0).2.2).1, f.1 == 4, (nextU (nextU f.2 0).2.1 (nextU f.2 0).2.2).2.1⟩, 0)

theorem nextU_put (n : Nat) (rest : List UInt8) (hn : n < 18446744073709551616) : nextU (Lib.uvarint n ++ rest) 0 = (n, rest, 0) := by
  have h := uintAt_back [] rest n hn
  simp only [List.nil_append, List.length_nil] at h
  have h' : uintAt (Lib.uvarint n ++ rest) 0 = ((n : Int), ((Lib.uvarint n).length : Int), 0) := by
    have e0 : ((0 : Nat) : Int) = 0 := rfl
    rw [e0] at h
    rw [h]
    simp
  unfold nextU
  rw [if_neg (by simp), h', if_neg (by simp)]
  simp

theorem parse_bytes (s : Sg) (hok : s.Ok) (hr : s.right = true) : parseS (bytesS s) = (s, 0) := by
  have hp := packS_len hok hr
  have hg := getF_put (kindS s, packS s) [] (by show (packS s).length ≤ 1024; omega)
  rw [List.append_nil] at hg
  unfold parseS bytesS
  rw [hg]
  have hlen : (putF (kindS s, packS s)).length = 10 + (packS s).length := putF_len _
  have h1 : nextU (packS s) 0 = (s.life, Lib.uvarint s.seq ++ s.body, 0) := nextU_put _ _ hok.life
  have h2 : nextU (Lib.uvarint s.seq ++ s.body) 0 = (s.seq, s.body, 0) := nextU_put _ _ hok.seq
  have hk : (kindS s == 4) = s.ack := by unfold kindS; cases s.ack <;> rfl
  have hs : (⟨s.life, s.seq, kindS s == 4, s.body⟩ : Sg) = s := by rw [hk]
  simp only [h1, h2, hs, hr]
  rw [if_neg, if_neg (by simp)]
  rw [hlen]
  have : kindS s = 3 ∨ kindS s = 4 := by unfold kindS; cases s.ack <;> simp
  rcases this with h | h <;> rw [h] <;> simp

theorem parse_more (s : Sg) (x : UInt8) (hok : s.Ok) (hr : s.right = true) : parseS (bytesS s ++ [x]) = (Sg.zero, 11) := by
  have hp := packS_len hok hr
  have hg := getF_put (kindS s, packS s) [x] (by show (packS s).length ≤ 1024; omega)
  unfold parseS bytesS
  rw [hg]
  have hlen : (putF (kindS s, packS s)).length = 10 + (packS s).length := putF_len _
  simp only
  rw [if_pos]
  left
  rw [List.length_append, hlen]
  simp

theorem fixed4_be (q : List UInt8) (h : q.length = 4) : fixed4 (be q) = q := by
  match q, h with
  | [a, b, c, d], _ =>
    have hlt : be [a, b, c, d] < 4294967296 := by
      have := a.toNat_lt; have := b.toNat_lt; have := c.toNat_lt; have := d.toNat_lt
      simp only [be, List.foldl]
      omega
    have h1 := be_fixed4 (be [a, b, c, d]) hlt
    unfold fixed4 at h1 ⊢
    obtain ⟨e1, e2, e3, e4⟩ := be_inj _ _ _ _ _ _ _ _ h1
    rw [e1, e2, e3, e4]

/-- The bytes that were got are those that are put. -/
theorem getF_back {l : List UInt8} {f : Fr} {k : Nat} (h : getF l = .ok (f, k)) : l.take k = putF f := by
  obtain ⟨h10, hkl, hk, _⟩ := getF_le h
  have h0 := h
  unfold getF at h
  split at h
  · cases h
  split at h
  · cases h
  rename_i hm
  split at h
  · cases h
  split at h
  · cases h
  split at h
  · cases h
  split at h
  · cases h
  rename_i hl6 hN hl10 hsum
  injection h with h
  injection h with h1 h2
  have hm' : l.getD 0 0 = 167 := by simpa using hm
  have hs' : be ((l.drop (6 + be ((l.drop 2).take 4))).take 4) = crcSum (l.take (6 + be ((l.drop 2).take 4))) := by simpa using hsum
  generalize hNN : be ((l.drop 2).take 4) = N at *
  subst h1 h2
  have hf4 : fixed4 N = (l.drop 2).take 4 := by rw [← hNN]; exact fixed4_be _ (by rw [List.length_take, List.length_drop]; omega)
  have hbl : ((l.drop 6).take N).length = N := by rw [List.length_take, List.length_drop]; omega
  have hhead : headF (l.getD 1 0, (l.drop 6).take N) = l.take (6 + N) := by
    unfold headF
    simp only
    rw [hbl, hf4]
    match l, hl6, hm' with
    | a :: b :: r, _, hm =>
      simp only [List.getD_cons_zero] at hm
      subst hm
      have e : 6 + N = (4 + N) + 1 + 1 := by omega
      rw [e, List.take_succ_cons, List.take_succ_cons]
      simp only [List.getD_cons_succ, List.getD_cons_zero, List.drop_succ_cons, List.drop_zero]
      rw [List.take_add]
    | [a], h6, _ => simp at h6
    | [], h6, _ => simp at h6
  unfold putF
  rw [hhead, ← hs', fixed4_be _ (by rw [List.length_take, List.length_drop]; omega)]
  rw [show 10 + N = (6 + N) + 4 by omega, List.take_add]

theorem nextU_back {l : List UInt8} (hl : l.length ≤ 9223372036854775807) (h : (nextU l 0).2.2 = 0) : l = Lib.uvarint (nextU l 0).1 ++ (nextU l 0).2.1 ∧ (nextU l 0).1 < 18446744073709551616 := by
  unfold nextU at h ⊢
  rw [if_neg (by simp)] at h ⊢
  rcases uintAt_shift l 0 hl (Nat.zero_le _) with ⟨v, k, h1, _, hk1, hk2, hv⟩ | ⟨e, h1, _, he1, he2⟩
  · rw [List.drop_zero] at h1
    obtain ⟨_, _, _, hu⟩ := cBack_uintAt_one l 0 v k (by simpa using h1)
    rw [h1, if_neg (by simp)]
    simp only [Int.toNat_natCast]
    rw [hu, List.drop_zero, Nat.sub_zero]
    exact ⟨(List.take_append_drop k l).symm, hv⟩
  · rw [List.drop_zero] at h1
    rw [h1, if_pos (show (e : Int) ≠ 0 by omega)] at h
    simp at h
    omega

theorem nextU_err {l : List UInt8} {e : Nat} (h : e ≠ 0) : nextU l e = (0, l, e) := by unfold nextU; rw [if_pos h]

theorem parse_back {l : List UInt8} (h : (parseS l).2 = 0) : (parseS l).1.Ok ∧ (parseS l).1.right = true ∧ bytesS (parseS l).1 = l := by
  unfold parseS at h ⊢
  cases hg : getF l with
  | error e =>
    rw [hg] at h
    exfalso
    have : e ≠ 0 := by
      intro e0
      unfold getF at hg
      repeat' (split at hg)
      all_goals first | (injection hg with hg; omega) | cases hg
    exact this h
  | ok x =>
    obtain ⟨f, k⟩ := x
    rw [hg] at h
    obtain ⟨h10, hkl, hk, _⟩ := getF_le hg
    have hb := getF_back hg
    simp only at h ⊢
    split at h
    · simp at h
    rename_i h1
    split at h
    · simp at h
    rename_i h2
    rw [if_neg h1, if_neg h2]
    simp only [not_or, Bool.not_eq_false] at h2
    obtain ⟨he, hr⟩ := h2
    have hke : k = l.length := by omega
    rw [hke, List.take_length] at hb
    have he' : (nextU (nextU f.2 0).2.1 (nextU f.2 0).2.2).2.2 = 0 := by simpa using he
    have e1 : (nextU f.2 0).2.2 = 0 := by
      by_cases hz : (nextU f.2 0).2.2 = 0
      · exact hz
      · rw [nextU_err hz] at he'; exact he'
    rw [e1] at he' hr ⊢
    obtain ⟨p1, q1⟩ := nextU_back (l := f.2) (by omega) e1
    have hlen2 : (nextU f.2 0).2.1.length ≤ f.2.length := by
      have := congrArg List.length p1
      rw [List.length_append] at this
      omega
    obtain ⟨p2, q2⟩ := nextU_back (l := (nextU f.2 0).2.1) (by omega) he'
    refine ⟨⟨q1, q2⟩, hr, ?_⟩
    rw [hb]
    unfold bytesS packS kindS
    simp only
    rw [← p2, ← p1]
    have hkd : (if (f.1 == 4) = true then (4 : UInt8) else 3) = f.1 := by
      have : f.1 = 3 ∨ f.1 = 4 := by
        by_cases h3 : f.1 = 3
        · exact .inl h3
        · right
          by_cases h4 : f.1 = 4
          · exact h4
          · exact absurd (.inr ⟨h3, h4⟩) h1
      rcases this with h | h <;> rw [h] <;> rfl
    rw [hkd]
end Go.Proofs.Ytfghbhjljbdlmaa
