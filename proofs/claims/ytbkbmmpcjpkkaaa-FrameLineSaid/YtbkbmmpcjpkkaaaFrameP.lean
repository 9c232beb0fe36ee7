/- Plain: frames: what is put, what stands at the front of bytes, the frames one behind the other, the next place of one. -/
import Derived.Test.YtbkbmmpcjpkkaaaCrc
import Derived.Test.YtbkbmmpcjpkkaaaFixed2
import Derived.Test.YtbkbmmpcjpkkaaaPutMore
namespace Go.Proofs.Ytbkbmmpcjpkkaaa

abbrev Fr := UInt8 × List UInt8
def headF (f : Fr) : List UInt8 := 167 :: f.1 :: (fixed4 f.2.length ++ f.2)
def putF (f : Fr) : List UInt8 := headF f ++ fixed4 (crcSum (headF f))

/-- The frame at the front, and how many bytes it has; or the error. -/
def getF (l : List UInt8) : Except Nat (Fr × Nat) :=
  if l.length = 0 then .error 10
  else if l.getD 0 0 ≠ 167 then .error 20
  else if l.length < 6 then .error 10
  else if 1024 < be ((l.drop 2).take 4) then .error 3
  else if l.length < 10 + be ((l.drop 2).take 4) then .error 10
  else if be ((l.drop (6 + be ((l.drop 2).take 4))).take 4) ≠ crcSum (l.take (6 + be ((l.drop 2).take 4))) then .error 21
  else .ok ((l.getD 1 0, (l.drop 6).take (be ((l.drop 2).take 4))), 10 + be ((l.drop 2).take 4))

theorem getF_le {l : List UInt8} {f : Fr} {k : Nat} (h : getF l = .ok (f, k)) : 10 ≤ k ∧ k ≤ l.length ∧ k = 10 + f.2.length ∧ k ≤ 1034 := by
  unfold getF at h
  split at h
  · cases h
  split at h
  · cases h
  split at h
  · cases h
  split at h
  · cases h
  split at h
  · cases h
  split at h
  · cases h
  injection h with h
  injection h with h1 h2
  subst h1 h2
  simp only [List.length_take, List.length_drop]
  omega

theorem fixed4_len (n : Nat) : (fixed4 n).length = 4 := rfl
theorem be_fixed4 (n : Nat) (h : n < 4294967296) : be (fixed4 n) = n := by
  have h1 := be4 (n / 16777216).toUInt8 (n / 65536 % 256).toUInt8 (n / 256 % 256).toUInt8 (n % 256).toUInt8
  rw [Lib.toUInt8_toNat (by omega), Lib.toUInt8_toNat (by omega), Lib.toUInt8_toNat (by omega), Lib.toUInt8_toNat (by omega)] at h1
  show be [_, _, _, _] = n
  omega
theorem be_inj (a b c d a' b' c' d' : UInt8) (h : be [a, b, c, d] = be [a', b', c', d']) : a = a' ∧ b = b' ∧ c = c' ∧ d = d' := by
  have h1 := be4 a b c d
  have h2 := be4 a' b' c' d'
  rw [h] at h1
  have k1 := a.toNat_lt; have k2 := b.toNat_lt; have k3 := c.toNat_lt; have k4 := d.toNat_lt
  have k5 := a'.toNat_lt; have k6 := b'.toNat_lt; have k7 := c'.toNat_lt; have k8 := d'.toNat_lt
  refine ⟨UInt8.toNat_inj.1 ?_, UInt8.toNat_inj.1 ?_, UInt8.toNat_inj.1 ?_, UInt8.toNat_inj.1 ?_⟩ <;> omega

theorem headF_len (f : Fr) : (headF f).length = 6 + f.2.length := by simp [headF, fixed4_len]; omega
theorem putF_len (f : Fr) : (putF f).length = 10 + f.2.length := by simp [putF, headF_len, fixed4_len]; omega

/-- A frame's head, with whatever sum behind it. -/
theorem getF_head (f : Fr) (s rest : List UInt8) (hs : s.length = 4) (hf : f.2.length ≤ 1024) : getF (headF f ++ (s ++ rest)) = if be s ≠ crcSum (headF f) then .error 21 else .ok (f, 10 + f.2.length) := by
  obtain ⟨kind, body⟩ := f
  have hn : be (fixed4 body.length) = body.length := be_fixed4 _ (by simp only at hf; omega)
  have hl : (headF (kind, body)).length = 6 + body.length := headF_len _
  have e1 : ((headF (kind, body) ++ (s ++ rest)).drop 2).take 4 = fixed4 body.length := by
    show ((fixed4 body.length ++ body) ++ (s ++ rest)).take 4 = fixed4 body.length
    rw [List.append_assoc]
    exact List.take_left' rfl
  have e2 : (headF (kind, body) ++ (s ++ rest)).take (6 + body.length) = headF (kind, body) := List.take_left' hl
  have e3 : ((headF (kind, body) ++ (s ++ rest)).drop (6 + body.length)).take 4 = s := by
    rw [List.drop_left' hl]
    exact List.take_left' hs
  have e4 : ((headF (kind, body) ++ (s ++ rest)).drop 6).take body.length = body := by
    show (body ++ (s ++ rest)).take body.length = body
    exact List.take_left' rfl
  have e5 : (headF (kind, body) ++ (s ++ rest)).length = 6 + body.length + (4 + rest.length) := by rw [List.length_append, hl, List.length_append, hs]
  have e6 : (headF (kind, body) ++ (s ++ rest)).getD 0 0 = 167 := rfl
  have e7 : (headF (kind, body) ++ (s ++ rest)).getD 1 0 = kind := rfl
  simp only at hf
  unfold getF
  rw [e1, hn, e2, e3, e4, e5, e6, e7]
  rw [if_neg (by omega), if_neg (by simp), if_neg (by omega), if_neg (by omega), if_neg (by omega)]

/-- What was put is got again. -/
theorem getF_put (f : Fr) (rest : List UInt8) (hf : f.2.length ≤ 1024) : getF (putF f ++ rest) = .ok (f, 10 + f.2.length) := by
  rw [putF, List.append_assoc, getF_head f _ rest rfl hf, if_neg]
  rw [be_fixed4 _ (crcSum_lt _)]
  simp

/-- A frame that is cut is none. -/
theorem getF_cut (f : Fr) (rest : List UInt8) (k : Nat) (hf : f.2.length ≤ 1024) (hk : k < 10 + f.2.length) : ∃ e, getF ((putF f ++ rest).take k) = .error e := by
  obtain ⟨kind, body⟩ := f
  simp only at hf hk
  have hn : be (fixed4 body.length) = body.length := be_fixed4 _ (by omega)
  have hl : ((putF (kind, body) ++ rest).take k).length = k := by
    rw [List.length_take, List.length_append, putF_len]
    simp only
    omega
  unfold getF
  rw [hl]
  split
  · exact ⟨_, rfl⟩
  split
  · exact ⟨_, rfl⟩
  split
  · exact ⟨_, rfl⟩
  have e1 : (((putF (kind, body) ++ rest).take k).drop 2).take 4 = fixed4 body.length := by
    rw [List.drop_take, List.take_take, Nat.min_eq_left (by omega), putF, headF]
    show (fixed4 body.length ++ body ++ _ ++ rest).take 4 = fixed4 body.length
    rw [List.append_assoc, List.append_assoc]
    exact List.take_left' rfl
  rw [e1, hn, if_neg (by omega), if_pos (by omega)]
  exact ⟨_, rfl⟩

/-- The frames from the front, and how many bytes they have. -/
def scanF (l : List UInt8) : List Fr × Nat :=
  match _h : getF l with
  | .error _ => ([], 0)
  | .ok (f, k) => (f :: (scanF (l.drop k)).1, k + (scanF (l.drop k)).2)
termination_by l.length
decreasing_by all_goals (have := getF_le _h; rw [List.length_drop]; omega)
theorem scanF_ok {l : List UInt8} {f : Fr} {k : Nat} (h : getF l = .ok (f, k)) : scanF l = (f :: (scanF (l.drop k)).1, k + (scanF (l.drop k)).2) := by
  rw [scanF]
  split
  · rename_i h'; rw [h] at h'; cases h'
  · rename_i h'; rw [h] at h'; cases h'; rfl
theorem scanF_err {l : List UInt8} {e : Nat} (h : getF l = .error e) : scanF l = ([], 0) := by
  rw [scanF]
  split
  · rfl
  · rename_i h'; rw [h] at h'; cases h'

/-- How many frames are whole within so many bytes, and how many bytes these have. -/
def wholeF : List Fr → Nat → Nat × Nat
  | [], _ => (0, 0)
  | f :: fs, c => if 10 + f.2.length ≤ c then (1 + (wholeF fs (c - (10 + f.2.length))).1, 10 + f.2.length + (wholeF fs (c - (10 + f.2.length))).2) else (0, 0)
theorem scanF_put : ∀ (fs : List Fr) (c : Nat), (∀ f ∈ fs, f.2.length ≤ 1024) → scanF ((fs.flatMap putF).take c) = (fs.take (wholeF fs c).1, (wholeF fs c).2) := by
  intro fs
  induction fs with
  | nil => intro c _; rw [List.flatMap_nil, List.take_nil, scanF_err (e := 10) rfl]; rfl
  | cons f fs ih =>
    intro c hall
    have hf := hall f (List.mem_cons_self ..)
    rw [List.flatMap_cons]
    unfold wholeF
    by_cases hc : 10 + f.2.length ≤ c
    · have e1 : (putF f ++ fs.flatMap putF).take c = putF f ++ (fs.flatMap putF).take (c - (10 + f.2.length)) := by
        rw [List.take_append, putF_len, List.take_of_length_le (by rw [putF_len]; exact hc)]
      rw [if_pos hc, e1, scanF_ok (getF_put f _ hf), List.drop_left' (putF_len f), ih _ fun x hx => hall x (List.mem_cons_of_mem _ hx)]
      simp only [Nat.add_comm 1, List.take_succ_cons]
    · rw [if_neg hc]
      obtain ⟨e, he⟩ := getF_cut f (fs.flatMap putF) c hf (by omega)
      rw [scanF_err he]
      rfl

/-- The next place of a frame. -/
def seekF (l : List UInt8) (i : Nat) : Nat :=
  if i < l.length then (match getF (l.drop i) with
    | .ok _ => i
    | .error _ => seekF l (i + 1)) else l.length
termination_by l.length - i
theorem seekF_ge (l : List UInt8) (i : Nat) (h : l.length ≤ i) : seekF l i = l.length := by rw [seekF, if_neg (by omega)]
theorem seekF_ok (l : List UInt8) (i : Nat) (x : Fr × Nat) (hi : i < l.length) (h : getF (l.drop i) = .ok x) : seekF l i = i := by rw [seekF, if_pos hi, h]
theorem seekF_err (l : List UInt8) (i e : Nat) (hi : i < l.length) (h : getF (l.drop i) = .error e) : seekF l i = seekF l (i + 1) := by rw [seekF, if_pos hi, h]
theorem seekF_le (l : List UInt8) (i : Nat) : seekF l i ≤ l.length := by
  induction hk : l.length - i generalizing i with
  | zero => rw [seekF_ge l i (by omega)]; omega
  | succ k ih =>
    have hi : i < l.length := by omega
    cases h : getF (l.drop i) with
    | ok x => rw [seekF_ok l i x hi h]; omega
    | error e => rw [seekF_err l i e hi h]; exact ih (i + 1) (by omega)
/-- Behind bytes of which none is a frame's first the frame is found. -/
theorem seekF_ahead (a : List UInt8) (f : Fr) (hf : f.2.length ≤ 1024) (ha : ∀ x ∈ a, x ≠ 167) (i : Nat) (hi : i ≤ a.length) : seekF (a ++ putF f) i = a.length := by
  have hl : (a ++ putF f).length = a.length + (10 + f.2.length) := by rw [List.length_append, putF_len]
  induction hk : a.length - i generalizing i with
  | zero =>
    have : i = a.length := by omega
    subst this
    refine seekF_ok _ _ (f, 10 + f.2.length) (by omega) ?_
    rw [List.drop_left' rfl]
    have := getF_put f [] hf
    rwa [List.append_nil] at this
  | succ k ih =>
    have hi' : i < a.length := by omega
    have hd : (a ++ putF f).drop i = a[i] :: (a ++ putF f).drop (i + 1) := by
      rw [List.drop_eq_getElem_cons (by omega), List.getElem_append_left hi']
    have hg : getF ((a ++ putF f).drop i) = .error 20 := by
      rw [hd]
      unfold getF
      rw [if_neg (by simp)]
      exact if_pos (ha _ (List.getElem_mem hi'))
    rw [seekF_err _ _ 20 (by omega) hg]
    exact ih (i + 1) (by omega) (by omega)

theorem set_cons (p q : List UInt8) (x y : UInt8) : (p ++ x :: q).set p.length y = p ++ y :: q := by
  rw [List.set_append_right _ _ (Nat.le_refl _), Nat.sub_self, List.set_cons_zero]

/-- A byte that was turned by one bit is another one. -/
theorem turn_ne (x : UInt8) (k : Nat) (hk : k < 8) : x ^^^ (1 <<< UInt8.ofNat k) ≠ x := by
  have : ∀ k : Fin 8, ∀ x : Fin 256, UInt8.ofNat x.val ^^^ (1 <<< UInt8.ofNat k.val) ≠ UInt8.ofNat x.val := by decide +kernel
  have h := this ⟨k, hk⟩ ⟨x.toNat, x.toNat_lt⟩
  simpa using h

theorem be_turn (a b c d : UInt8) (i k : Nat) (hi : i < 4) (hk : k < 8) : be ([a, b, c, d].set i ([a, b, c, d].getD i 0 ^^^ (1 <<< UInt8.ofNat k))) ≠ be [a, b, c, d] := by
  have t := fun x => turn_ne x k hk
  match i, hi with
  | 0, _ => exact fun e => t _ (be_inj _ _ _ _ _ _ _ _ e).1
  | 1, _ => exact fun e => t _ (be_inj _ _ _ _ _ _ _ _ e).2.1
  | 2, _ => exact fun e => t _ (be_inj _ _ _ _ _ _ _ _ e).2.2.1
  | 3, _ => exact fun e => t _ (be_inj _ _ _ _ _ _ _ _ e).2.2.2

/-- A frame of which one bit of the body, or of the sum, was turned is refused by its sum. -/
theorem getF_turned (f : Fr) (j k : Nat) (hf : f.2.length ≤ 1024) (hj : j < f.2.length + 4) (hk : k < 8) :
    getF ((putF f).set (6 + j) ((putF f).getD (6 + j) 0 ^^^ (1 <<< UInt8.ofNat k))) = .error 21 := by
  obtain ⟨kind, body⟩ := f
  simp only at hf hj
  have hl : (headF (kind, body)).length = 6 + body.length := headF_len _
  by_cases hb : j < body.length
  · have hbody : body = body.take j ++ body[j] :: body.drop (j + 1) := by rw [← List.drop_eq_getElem_cons hb, List.take_append_drop]
    have hpl : (167 :: kind :: (fixed4 body.length ++ body.take j)).length = 6 + j := by simp [fixed4_len]; omega
    have hhead : headF (kind, body) = (167 :: kind :: (fixed4 body.length ++ body.take j)) ++ body[j] :: body.drop (j + 1) := by
      show 167 :: kind :: (fixed4 body.length ++ body) = _
      rw [List.cons_append, List.cons_append, List.append_assoc, ← hbody]
    generalize hx : body[j] = x at hhead hbody
    generalize hp : (167 :: kind :: (fixed4 body.length ++ body.take j)) = p at hhead hpl
    generalize hq : body.drop (j + 1) = q at hhead hbody
    have hput : putF (kind, body) = p ++ x :: (q ++ fixed4 (crcSum (headF (kind, body)))) := by rw [putF, hhead]; simp
    have hget : (putF (kind, body)).getD (6 + j) 0 = x := by rw [hput, ← hpl]; simp [List.getD]
    have hne := crcSum_turned p q x k hk
    rw [← hhead] at hne
    have h2 : p ++ (x ^^^ (1 <<< UInt8.ofNat k)) :: q = headF (kind, body.take j ++ (x ^^^ (1 <<< UInt8.ofNat k)) :: q) := by
      have hlen : (body.take j ++ (x ^^^ (1 <<< UInt8.ofNat k)) :: q).length = body.length := by
        have := congrArg List.length hbody
        rw [List.length_append, List.length_cons] at this ⊢
        exact this.symm
      show _ = 167 :: kind :: (fixed4 (body.take j ++ (x ^^^ (1 <<< UInt8.ofNat k)) :: q).length ++ (body.take j ++ (x ^^^ (1 <<< UInt8.ofNat k)) :: q))
      rw [hlen, ← hp]
      simp
    have hset : (putF (kind, body)).set (6 + j) (x ^^^ (1 <<< UInt8.ofNat k)) = headF (kind, body.take j ++ (x ^^^ (1 <<< UInt8.ofNat k)) :: q) ++ (fixed4 (crcSum (headF (kind, body))) ++ []) := by
      rw [hput, ← hpl, set_cons, ← h2]
      simp
    rw [hget, hset, getF_head _ _ [] rfl ?_, if_pos]
    · rw [be_fixed4 _ (crcSum_lt _), ← h2]
      exact fun e => hne e.symm
    · have := congrArg List.length hbody
      simp only [List.length_append, List.length_cons] at this ⊢
      omega
  · obtain ⟨i, rfl⟩ : ∃ i, j = body.length + i := ⟨j - body.length, by omega⟩
    have hi : i < 4 := by omega
    have e0 : 6 + (body.length + i) = (headF (kind, body)).length + i := by rw [hl]; omega
    have hget : (putF (kind, body)).getD (6 + (body.length + i)) 0 = (fixed4 (crcSum (headF (kind, body)))).getD i 0 := by
      rw [putF, e0]
      simp [List.getD, List.getElem?_append_right]
    have hset : ∀ y, (putF (kind, body)).set (6 + (body.length + i)) y = headF (kind, body) ++ ((fixed4 (crcSum (headF (kind, body)))).set i y ++ []) := by
      intro y
      rw [putF, e0, List.set_append_right _ _ (by omega), Nat.add_sub_cancel_left, List.append_nil]
    rw [hget, hset, getF_head _ _ [] (by rw [List.length_set]; rfl) hf, if_pos]
    generalize hs : crcSum (headF (kind, body)) = s
    have hs' : s < 4294967296 := by rw [← hs]; exact crcSum_lt _
    have hbe := be_fixed4 s hs'
    have h := be_turn (s / 16777216).toUInt8 (s / 65536 % 256).toUInt8 (s / 256 % 256).toUInt8 (s % 256).toUInt8 i k hi hk
    exact fun e => h (e.trans hbe.symm)
end Go.Proofs.Ytbkbmmpcjpkkaaa
