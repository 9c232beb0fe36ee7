/- Of the proofs of layer 4, merged: FrameP, RefSum, Turn. -/
import Derived.Test.YtfghbhjljbdlmaaMWords
import Derived.Test.YtfghbhjljbdlmaaMFixed
import Derived.Test.YtfghbhjljbdlmaaM1PutMore
import Derived.Test.YtfghbhjljbdlmaaProg
import Derived.WalkKit
import Derived.Laws.BitsAllLaws

/- Plain: frames: what is put, what stands at the front of bytes, the frames one behind the other, the next place of one. -/
namespace Go.Proofs.Ytfghbhjljbdlmaa

abbrev Fr := UInt8 × List UInt8
def headF (f : Fr) : List UInt8 := 167 :: f.1 :: (fixed4 f.2.length ++ f.2)
def putF (f : Fr) : List UInt8 := headF f ++ fixed4 (crcSum (headF f))

/-- The frame at the front, and how many bytes it has; or the error. -/
def getF (l : List UInt8) : Except Nat (Fr × Nat) :=
  if l.length = 0 then .error 10
  else if l.getD 0 0 ≠ 167 then .error 20
  else if l.length < 6 then .error 10
  else if 1024 < be ((l.drop 2).take 4) then .error 3
  else if l.length < 10 + be ((l.drop 2).take 4) then .error 10
  else if be ((l.drop (6 + be ((l.drop 2).take 4))).take 4) ≠ crcSum (l.take (6 + be ((l.drop 2).take 4))) then .error 21
  else .ok ((l.getD 1 0, (l.drop 6).take (be ((l.drop 2).take 4))), 10 + be ((l.drop 2).take 4))

theorem getF_le {l : List UInt8} {f : Fr} {k : Nat} (h : getF l = .ok (f, k)) : 10 ≤ k ∧ k ≤ l.length ∧ k = 10 + f.2.length ∧ k ≤ 1034 := by
  unfold getF at h
  split at h
  · cases h
  split at h
  · cases h
  split at h
  · cases h
  split at h
  · cases h
  split at h
  · cases h
  split at h
  · cases h
  injection h with h
  injection h with h1 h2
  subst h1 h2
  simp only [List.length_take, List.length_drop]
  omega

theorem fixed4_len (n : Nat) : (fixed4 n).length = 4 := rfl
theorem be_fixed4 (n : Nat) (h : n < 4294967296) : be (fixed4 n) = n := by
  have h1 := be4 (n / 16777216).toUInt8 (n / 65536 % 256).toUInt8 (n / 256 % 256).toUInt8 (n % 256).toUInt8
  rw [Lib.toUInt8_toNat (by omega), Lib.toUInt8_toNat (by omega), Lib.toUInt8_toNat (by omega), Lib.toUInt8_toNat (by omega)] at h1
  show be [_, _, _, _] = n
  omega
theorem be_inj (a b c d a' b' c' d' : UInt8) (h : be [a, b, c, d] = be [a', b', c', d']) : a = a' ∧ b = b' ∧ c = c' ∧ d = d' := by
  have h1 := be4 a b c d
  have h2 := be4 a' b' c' d'
  rw [h] at h1
  have k1 := a.toNat_lt; have k2 := b.toNat_lt; have k3 := c.toNat_lt; have k4 := d.toNat_lt
  have k5 := a'.toNat_lt; have k6 := b'.toNat_lt; have k7 := c'.toNat_lt; have k8 := d'.toNat_lt
  refine ⟨UInt8.toNat_inj.1 ?_, UInt8.toNat_inj.1 ?_, UInt8.toNat_inj.1 ?_, UInt8.toNat_inj.1 ?_⟩ <;> omega

theorem headF_len (f : Fr) : (headF f).length = 6 + f.2.length := by simp [headF, fixed4_len]; omega
theorem putF_len (f : Fr) : (putF f).length = 10 + f.2.length := by simp [putF, headF_len, fixed4_len]; omega

/-- A frame's head, with whatever sum behind it. -/
theorem getF_head (f : Fr) (s rest : List UInt8) (hs : s.length = 4) (hf : f.2.length ≤ 1024) : getF (headF f ++ (s ++ rest)) = if be s ≠ crcSum (headF f) then .error 21 else .ok (f, 10 + f.2.length) := by
  obtain ⟨kind, body⟩ := f
  have hn : be (fixed4 body.length) = body.length := be_fixed4 _ (by simp only at hf; omega)
  have hl : (headF (kind, body)).length = 6 + body.length := headF_len _
  have e1 : ((headF (kind, body) ++ (s ++ rest)).drop 2).take 4 = fixed4 body.length := by
    show ((fixed4 body.length ++ body) ++ (s ++ rest)).take 4 = fixed4 body.length
    rw [List.append_assoc]
    exact List.take_left' rfl
  have e2 : (headF (kind, body) ++ (s ++ rest)).take (6 + body.length) = headF (kind, body) := List.take_left' hl
  have e3 : ((headF (kind, body) ++ (s ++ rest)).drop (6 + body.length)).take 4 = s := by
    rw [List.drop_left' hl]
    exact List.take_left' hs
  have e4 : ((headF (kind, body) ++ (s ++ rest)).drop 6).take body.length = body := by
    show (body ++ (s ++ rest)).take body.length = body
    exact List.take_left' rfl
  have e5 : (headF (kind, body) ++ (s ++ rest)).length = 6 + body.length + (4 + rest.length) := by rw [List.length_append, hl, List.length_append, hs]
  have e6 : (headF (kind, body) ++ (s ++ rest)).getD 0 0 = 167 := rfl
  have e7 : (headF (kind, body) ++ (s ++ rest)).getD 1 0 = kind := rfl
  simp only at hf
  unfold getF
  rw [e1, hn, e2, e3, e4, e5, e6, e7]
  rw [if_neg (by omega), if_neg (by simp), if_neg (by omega), if_neg (by omega), if_neg (by omega)]

/-- What was put is got again. -/
theorem getF_put (f : Fr) (rest : List UInt8) (hf : f.2.length ≤ 1024) : getF (putF f ++ rest) = .ok (f, 10 + f.2.length) := by
  rw [putF, List.append_assoc, getF_head f _ rest rfl hf, if_neg]
  rw [be_fixed4 _ (crcSum_lt _)]
  simp

/-- A frame that is cut is none. -/
theorem getF_cut (f : Fr) (rest : List UInt8) (k : Nat) (hf : f.2.length ≤ 1024) (hk : k < 10 + f.2.length) : ∃ e, getF ((putF f ++ rest).take k) = .error e := by
  obtain ⟨kind, body⟩ := f
  simp only at hf hk
  have hn : be (fixed4 body.length) = body.length := be_fixed4 _ (by omega)
  have hl : ((putF (kind, body) ++ rest).take k).length = k := by
    rw [List.length_take, List.length_append, putF_len]
    simp only
    omega
  unfold getF
  rw [hl]
  split
  · exact ⟨_, rfl⟩
  split
  · exact ⟨_, rfl⟩
  split
  · exact ⟨_, rfl⟩
  have e1 : (((putF (kind, body) ++ rest).take k).drop 2).take 4 = fixed4 body.length := by
    rw [List.drop_take, List.take_take, Nat.min_eq_left (by omega), putF, headF]
    show (fixed4 body.length ++ body ++ _ ++ rest).take 4 = fixed4 body.length
    rw [List.append_assoc, List.append_assoc]
    exact List.take_left' rfl
  rw [e1, hn, if_neg (by omega), if_pos (by omega)]
  exact ⟨_, rfl⟩

/-- The frames from the front, and how many bytes they have. -/
def scanF (l : List UInt8) : List Fr × Nat :=
  match _h : getF l with
  | .error _ => ([], 0)
  | .ok (f, k) => (f :: (scanF (l.drop k)).1, k + (scanF (l.drop k)).2)
termination_by l.length
decreasing_by all_goals (have := getF_le _h; rw [List.length_drop]; omega)
theorem scanF_ok {l : List UInt8} {f : Fr} {k : Nat} (h : getF l = .ok (f, k)) : scanF l = (f :: (scanF (l.drop k)).1, k + (scanF (l.drop k)).2) := by
  rw [scanF]
  split
  · rename_i h'; rw [h] at h'; cases h'
  · rename_i h'; rw [h] at h'; cases h'; rfl
theorem scanF_err {l : List UInt8} {e : Nat} (h : getF l = .error e) : scanF l = ([], 0) := by
  rw [scanF]
  split
  · rfl
  · rename_i h'; rw [h] at h'; cases h'

/-- How many frames are whole within so many bytes, and how many bytes these have. -/
def wholeF : List Fr → Nat → Nat × Nat
  | [], _ => (0, 0)
  | f :: fs, c => if 10 + f.2.length ≤ c then (1 + (wholeF fs (c - (10 + f.2.length))).1, 10 + f.2.length + (wholeF fs (c - (10 + f.2.length))).2) else (0, 0)
theorem scanF_put : ∀ (fs : List Fr) (c : Nat), (∀ f ∈ fs, f.2.length ≤ 1024) → scanF ((fs.flatMap putF).take c) = (fs.take (wholeF fs c).1, (wholeF fs c).2) := by
  intro fs
  induction fs with
  | nil => intro c _; rw [List.flatMap_nil, List.take_nil, scanF_err (e := 10) rfl]; rfl
  | cons f fs ih =>
    intro c hall
    have hf := hall f (List.mem_cons_self ..)
    rw [List.flatMap_cons]
    unfold wholeF
    by_cases hc : 10 + f.2.length ≤ c
    · have e1 : (putF f ++ fs.flatMap putF).take c = putF f ++ (fs.flatMap putF).take (c - (10 + f.2.length)) := by
        rw [List.take_append, putF_len, List.take_of_length_le (by rw [putF_len]; exact hc)]
      rw [if_pos hc, e1, scanF_ok (getF_put f _ hf), List.drop_left' (putF_len f), ih _ fun x hx => hall x (List.mem_cons_of_mem _ hx)]
      simp only [Nat.add_comm 1, List.take_succ_cons]
    · rw [if_neg hc]
      obtain ⟨e, he⟩ := getF_cut f (fs.flatMap putF) c hf (by omega)
      rw [scanF_err he]
      rfl

/-- The next place of a frame. -/
def seekF (l : List UInt8) (i : Nat) : Nat :=
  if i < l.length then (match getF (l.drop i) with
    | .ok _ => i
    | .error _ => seekF l (i + 1)) else l.length
termination_by l.length - i
theorem seekF_ge (l : List UInt8) (i : Nat) (h : l.length ≤ i) : seekF l i = l.length := by rw [seekF, if_neg (by omega)]
theorem seekF_ok (l : List UInt8) (i : Nat) (x : Fr × Nat) (hi : i < l.length) (h : getF (l.drop i) = .ok x) : seekF l i = i := by rw [seekF, if_pos hi, h]
theorem seekF_err (l : List UInt8) (i e : Nat) (hi : i < l.length) (h : getF (l.drop i) = .error e) : seekF l i = seekF l (i + 1) := by rw [seekF, if_pos hi, h]
theorem seekF_le (l : List UInt8) (i : Nat) : seekF l i ≤ l.length := by
  induction hk : l.length - i generalizing i with
  | zero => rw [seekF_ge l i (by omega)]; omega
  | succ k ih =>
    have hi : i < l.length := by omega
    cases h : getF (l.drop i) with
    | ok x => rw [seekF_ok l i x hi h]; omega
    | error e => rw [seekF_err l i e hi h]; exact ih (i + 1) (by omega)
/-- Behind bytes of which none is a frame's first the frame is found. -/
theorem seekF_ahead (a : List UInt8) (f : Fr) (hf : f.2.length ≤ 1024) (ha : ∀ x ∈ a, x ≠ 167) (i : Nat) (hi : i ≤ a.length) : seekF (a ++ putF f) i = a.length := by
  have hl : (a ++ putF f).length = a.length + (10 + f.2.length) := by rw [List.length_append, putF_len]
  induction hk : a.length - i generalizing i with
  | zero =>
    have : i = a.length := by omega
    subst this
    refine seekF_ok _ _ (f, 10 + f.2.length) (by omega) ?_
    rw [List.drop_left' rfl]
    have := getF_put f [] hf
    rwa [List.append_nil] at this
  | succ k ih =>
    have hi' : i < a.length := by omega
    have hd : (a ++ putF f).drop i = a[i] :: (a ++ putF f).drop (i + 1) := by
      rw [List.drop_eq_getElem_cons (by omega), List.getElem_append_left hi']
    have hg : getF ((a ++ putF f).drop i) = .error 20 := by
      rw [hd]
      unfold getF
      rw [if_neg (by simp)]
      exact if_pos (ha _ (List.getElem_mem hi'))
    rw [seekF_err _ _ 20 (by omega) hg]
    exact ih (i + 1) (by omega) (by omega)

theorem set_cons (p q : List UInt8) (x y : UInt8) : (p ++ x :: q).set p.length y = p ++ y :: q := by
  rw [List.set_append_right _ _ (Nat.le_refl _), Nat.sub_self, List.set_cons_zero]

/-- A byte that was turned by one bit is another one. -/
theorem turn_ne (x : UInt8) (k : Nat) (hk : k < 8) : x ^^^ (1 <<< UInt8.ofNat k) ≠ x := by
  have : ∀ k : Fin 8, ∀ x : Fin 256, UInt8.ofNat x.val ^^^ (1 <<< UInt8.ofNat k.val) ≠ UInt8.ofNat x.val := by decide +kernel
  have h := this ⟨k, hk⟩ ⟨x.toNat, x.toNat_lt⟩
  simpa using h

theorem be_turn (a b c d : UInt8) (i k : Nat) (hi : i < 4) (hk : k < 8) : be ([a, b, c, d].set i ([a, b, c, d].getD i 0 ^^^ (1 <<< UInt8.ofNat k))) ≠ be [a, b, c, d] := by
  have t := fun x => turn_ne x k hk
  match i, hi with
  | 0, _ => exact fun e => t _ (be_inj _ _ _ _ _ _ _ _ e).1
  | 1, _ => exact fun e => t _ (be_inj _ _ _ _ _ _ _ _ e).2.1
  | 2, _ => exact fun e => t _ (be_inj _ _ _ _ _ _ _ _ e).2.2.1
  | 3, _ => exact fun e => t _ (be_inj _ _ _ _ _ _ _ _ e).2.2.2

/-- A frame of which one bit of the body, or of the sum, was turned is refused by its sum. -/
theorem getF_turned (f : Fr) (j k : Nat) (hf : f.2.length ≤ 1024) (hj : j < f.2.length + 4) (hk : k < 8) :
    getF ((putF f).set (6 + j) ((putF f).getD (6 + j) 0 ^^^ (1 <<< UInt8.ofNat k))) = .error 21 := by
  obtain ⟨kind, body⟩ := f
  simp only at hf hj
  have hl : (headF (kind, body)).length = 6 + body.length := headF_len _
  by_cases hb : j < body.length
  · have hbody : body = body.take j ++ body[j] :: body.drop (j + 1) := by rw [← List.drop_eq_getElem_cons hb, List.take_append_drop]
    have hpl : (167 :: kind :: (fixed4 body.length ++ body.take j)).length = 6 + j := by simp [fixed4_len]; omega
    have hhead : headF (kind, body) = (167 :: kind :: (fixed4 body.length ++ body.take j)) ++ body[j] :: body.drop (j + 1) := by
      show 167 :: kind :: (fixed4 body.length ++ body) = _
      rw [List.cons_append, List.cons_append, List.append_assoc, ← hbody]
    generalize hx : body[j] = x at hhead hbody
    generalize hp : (167 :: kind :: (fixed4 body.length ++ body.take j)) = p at hhead hpl
    generalize hq : body.drop (j + 1) = q at hhead hbody
    have hput : putF (kind, body) = p ++ x :: (q ++ fixed4 (crcSum (headF (kind, body)))) := by rw [putF, hhead]; simp
    have hget : (putF (kind, body)).getD (6 + j) 0 = x := by rw [hput, ← hpl]; simp [List.getD]
    have hne := crcSum_turned p q x k hk
    rw [← hhead] at hne
    have h2 : p ++ (x ^^^ (1 <<< UInt8.ofNat k)) :: q = headF (kind, body.take j ++ (x ^^^ (1 <<< UInt8.ofNat k)) :: q) := by
      have hlen : (body.take j ++ (x ^^^ (1 <<< UInt8.ofNat k)) :: q).length = body.length := by
        have := congrArg List.length hbody
        rw [List.length_append, List.length_cons] at this ⊢
        exact this.symm
      show _ = 167 :: kind :: (fixed4 (body.take j ++ (x ^^^ (1 <<< UInt8.ofNat k)) :: q).length ++ (body.take j ++ (x ^^^ (1 <<< UInt8.ofNat k)) :: q))
      rw [hlen, ← hp]
      simp
    have hset : (putF (kind, body)).set (6 + j) (x ^^^ (1 <<< UInt8.ofNat k)) = headF (kind, body.take j ++ (x ^^^ (1 <<< UInt8.ofNat k)) :: q) ++ (fixed4 (crcSum (headF (kind, body))) ++ []) := by
      rw [hput, ← hpl, set_cons, ← h2]
      simp
    rw [hget, hset, getF_head _ _ [] rfl ?_, if_pos]
    · rw [be_fixed4 _ (crcSum_lt _), ← h2]
      exact fun e => hne e.symm
    · have := congrArg List.length hbody
      simp only [List.length_append, List.length_cons] at this ⊢
      omega
  · obtain ⟨i, rfl⟩ : ∃ i, j = body.length + i := ⟨j - body.length, by omega⟩
    have hi : i < 4 := by omega
    have e0 : 6 + (body.length + i) = (headF (kind, body)).length + i := by rw [hl]; omega
    have hget : (putF (kind, body)).getD (6 + (body.length + i)) 0 = (fixed4 (crcSum (headF (kind, body)))).getD i 0 := by
      rw [putF, e0]
      simp [List.getD, List.getElem?_append_right]
    have hset : ∀ y, (putF (kind, body)).set (6 + (body.length + i)) y = headF (kind, body) ++ ((fixed4 (crcSum (headF (kind, body)))).set i y ++ []) := by
      intro y
      rw [putF, e0, List.set_append_right _ _ (by omega), Nat.add_sub_cancel_left, List.append_nil]
    rw [hget, hset, getF_head _ _ [] (by rw [List.length_set]; rfl) hf, if_pos]
    generalize hs : crcSum (headF (kind, body)) = s
    have hs' : s < 4294967296 := by rw [← hs]; exact crcSum_lt _
    have hbe := be_fixed4 s hs'
    have h := be_turn (s / 16777216).toUInt8 (s / 65536 % 256).toUInt8 (s / 256 % 256).toUInt8 (s % 256).toUInt8 i k hi hk
    exact fun e => h (e.trans hbe.symm)
end Go.Proofs.Ytfghbhjljbdlmaa

/- ref02.Sum answers the plain sum. -/
namespace Go.Proofs.Ytfghbhjljbdlmaa
open Go.RowKit

theorem bit_in (x j : Nat) : (((x : Int) / 2 ^ j).tmod 2 == 1) = x.testBit j := by
  have h1 : ((x : Int) / 2 ^ j) = ((x / 2 ^ j : Nat) : Int) := by rw [Int.natCast_ediv, Int.natCast_pow]; rfl
  have h2 : ((x / 2 ^ j : Nat) : Int).tmod 2 = ((x / 2 ^ j % 2 : Nat) : Int) := rfl
  rw [h1, h2, Nat.testBit_eq_decide_div_mod_eq, Bool.eq_iff_iff]
  simp
  omega
theorem bit_out (r : Nat) : ((r : Int) % 2 == 1) = (r % 2 == 1) := by
  rw [Bool.eq_iff_iff]
  simp
  omega
theorem bitsB_at (x : UInt8) (j : Nat) (hj : j < 8) : (bitsB x).take (j + 1) = (bitsB x).take j ++ [x.toNat.testBit j] := by
  rw [List.take_succ_eq_append_getElem (by rw [bitsB_len]; exact hj)]
  congr 2
  simp [bitsB]
/-- One bit, as the loop reckons it. -/
theorem crc_on (r0 rj j : Nat) (x : UInt8) (hj : j < 8) (hr : rj = crcBits r0 ((bitsB x).take j)) (hlt : rj < 4294967296) :
    ((!(((rj : Int) % 2 == 1) == (((x.toNat : Int) / 2 ^ j).tmod 2 == 1))) = true → bits .xor .u32 ((rj : Int) / 2) 3988292384 = ((crcBits r0 ((bitsB x).take (j + 1)) : Nat) : Int)) ∧
    ((!(((rj : Int) % 2 == 1) == (((x.toNat : Int) / 2 ^ j).tmod 2 == 1))) = false → (rj : Int) / 2 = ((crcBits r0 ((bitsB x).take (j + 1)) : Nat) : Int)) ∧ crcBits r0 ((bitsB x).take (j + 1)) < 4294967296 := by
  have hs : crcBits r0 ((bitsB x).take (j + 1)) = crcBit rj (x.toNat.testBit j) := by rw [bitsB_at x j hj, crcBits_append, ← hr]; rfl
  have hx : bits .xor .u32 ((rj : Int) / 2) 3988292384 = ((rj / 2 ^^^ 3988292384 : Nat) : Int) := u32_xor_nat (rj / 2) 3988292384 (by omega) (by decide)
  rw [hs, bit_in, bit_out]
  refine ⟨fun h => ?_, fun h => ?_, crcBit_lt _ _ hlt⟩
  · rw [hx]
    unfold crcBit
    rw [if_pos]
    revert h
    cases (rj % 2 == 1) <;> cases x.toNat.testBit j <;> simp
  · unfold crcBit
    rw [if_neg]
    · omega
    · revert h
      cases (rj % 2 == 1) <;> cases x.toNat.testBit j <;> simp

set_option maxRecDepth 100000 in
set_option maxHeartbeats 2000000 in
theorem refSum_any (A : Option Addr) (n c B : Nat) (l : List UInt8) (w : World) (_hc : n ≤ c) (hm : c ≤ 9223372036854775807) (h : Rd w B A n l) :
    Calls Try.prog 105 #[.slice A n c] w fun e w' => e = .returned (.int .u32 (crcSum l)) ∧ w = w' := by
  have hl := h.1
  have Hl := Lib.hid hl
  clear hl
  go_enter Try.func105, Try.ntmps105
  go_wp2
  go_loopg [3, 4] n (fun g r i wr => ∃ (k : Nat), i = .int .i64 k ∧ k + g = n ∧ r = .int .u32 (crcBits 4294967295 (bitsOf (l.take k))) ∧ w = wr)
  case atStart => exact ⟨0, rfl, by omega, rfl, rfl⟩
  case round =>
    obtain ⟨k, rfl, hk, rfl, rfl⟩ := hrel
    by_cases hkn : k < n
    · obtain ⟨b, o, rfl, _, hcell⟩ := h.2 (by have := Hl.out; omega)
      have hx := hcell k (by rw [Hl.out]; exact hkn)
      have hlt : crcBits 4294967295 (bitsOf (l.take k)) < 4294967296 := crcBits_lt _ _ (by decide)
      have hnext : bitsOf (l.take (k + 1)) = bitsOf (l.take k) ++ bitsB (l[k]'(by rw [Hl.out]; exact hkn)) := by
        rw [List.take_succ_eq_append_getElem (by rw [Hl.out]; exact hkn), bitsOf_append]
        simp [bitsOf]
      have Hn := Lib.hid hnext
      clear hcell hnext h
      generalize hxe : l[k]'(by rw [Hl.out]; exact hkn) = x at *
      generalize hre : crcBits 4294967295 (bitsOf (l.take k)) = r0 at *
      go_wp2
      go_loopg [3, 5] 8 (fun g r q wr => ∃ (j rj : Nat), q = .int .i64 j ∧ j + g = 8 ∧ r = .int .u32 rj ∧ Hid (rj = crcBits r0 ((bitsB x).take j)) ∧ rj < 4294967296 ∧ w = wr)
      case atStart => exact ⟨0, r0, rfl, rfl, rfl, rfl, hlt, rfl⟩
      case round =>
        obtain ⟨j, rj, rfl, hj, rfl, Hr, hrj, rfl⟩ := hrel
        by_cases hj8 : j < 8
        · have Hs := Lib.hid (crc_on r0 rj j x hj8 Hr hrj)
          go_wp2
          · have h1 : bits .xor .u32 ((rj : Int) / 2) 3988292384 = _ := Hs.out.1 (by assumption)
            rw [h1]
            go_roundg (gk - 1)
            case measure => omega
            case rel => exact ⟨j + 1, _, by go_num, by omega, rfl, rfl, Hs.out.2.2, rfl⟩
          · have h1 : (rj : Int) / 2 = _ := Hs.out.2.1 (by assumption)
            rw [h1]
            go_roundg (gk - 1)
            case measure => omega
            case rel => exact ⟨j + 1, _, by go_num, by omega, rfl, rfl, Hs.out.2.2, rfl⟩
        · have hj9 : j = 8 := by omega
          subst hj9
          have ht : (bitsB x).take 8 = bitsB x := List.take_of_length_le (by rw [bitsB_len]; omega)
          go_wp2
          go_roundg (n - k - 1)
          case measure => omega
          case rel => exact ⟨k + 1, by go_num, by omega, by rw [Hn.out, crcBits_append, hre, ← ht, ← Hr.out], rfl⟩
    · go_wp2
      go_ret
      have hf : l.take k = l := List.take_of_length_le (by rw [Hl.out]; omega)
      rw [hf]
      refine ⟨?_, rfl⟩
      have hb := crcBits_lt (bitsOf l) 4294967295 (by decide)
      unfold crcSum
      generalize crcBits 4294967295 (bitsOf l) = z at *
      rw [show ((4294967295 - z : Nat) : Int) = 4294967295 - (z : Int) by omega]
      rw [show (4294967295 - (z : Int)) % 4294967296 = 4294967295 - (z : Int) by omega]
      rfl
end Go.Proofs.Ytfghbhjljbdlmaa

/- frame.turn: the register behind one more byte. -/
namespace Go.Proofs.Ytfghbhjljbdlmaa
open Go.RowKit

theorem crc_zero (x : UInt8) : crcBits 0 (bitsB x) = crcBits x.toNat (List.replicate 8 false) := by
  have : ∀ x : Fin 256, crcBits 0 (bitsB (UInt8.ofNat x.val)) = crcBits (UInt8.ofNat x.val).toNat (List.replicate 8 false) := by decide +kernel
  have h := this ⟨x.toNat, x.toNat_lt⟩
  simpa using h
/-- A byte that is turned into the register ahead of its bits. -/
theorem crc_ahead (r : Nat) (x : UInt8) : crcBits r (bitsB x) = crcBits (r ^^^ x.toNat) (List.replicate 8 false) := by
  have h1 := crcBits_xor (List.replicate 8 false) (bitsB x) r 0 (by rw [List.length_replicate, bitsB_len])
  have h2 := crcBits_xor (List.replicate 8 false) (List.replicate 8 false) r x.toNat rfl
  have e1 : List.zipWith (· ^^ ·) (List.replicate 8 false) (bitsB x) = bitsB x := by
    apply List.ext_getElem
    · simp [bitsB_len]
    · intro i h _
      rw [List.getElem_zipWith, List.getElem_replicate]; simp
  have e2 : List.zipWith (· ^^ ·) (List.replicate 8 false) (List.replicate 8 false) = List.replicate 8 false := by decide
  rw [e1, Nat.xor_zero] at h1
  rw [e2] at h2
  rw [h1, h2, crc_zero]

/-- One bit with no branch. -/
theorem crc_plain (s : Nat) (h : s < 4294967296) : bits .xor .u32 ((s : Int) / 2) (bits .and .u32 3988292384 (-bits .and .u32 (s : Int) 1 % 4294967296)) = ((crcBit s false : Nat) : Int) := by
  have h1 : bits .and .u32 (s : Int) 1 = ((s &&& 1 : Nat) : Int) := u32_and_nat s 1 h (by decide)
  have h2 : ∀ k : Nat, k < 4294967296 → bits .and .u32 3988292384 (k : Int) = ((3988292384 &&& k : Nat) : Int) := fun k hk => u32_and_nat 3988292384 k (by decide) hk
  have h3 : ∀ k : Nat, k < 4294967296 → bits .xor .u32 ((s : Int) / 2) (k : Int) = ((s / 2 ^^^ k : Nat) : Int) := fun k hk => u32_xor_nat (s / 2) k (by omega) hk
  rw [h1, Nat.and_one_is_mod]
  unfold crcBit
  rcases Nat.mod_two_eq_zero_or_one s with e | e
  · rw [e, show -((0 : Nat) : Int) % 4294967296 = ((0 : Nat) : Int) by decide, h2 0 (by decide), h3 _ (by decide)]
    simp
  · rw [e, show -((1 : Nat) : Int) % 4294967296 = ((4294967295 : Nat) : Int) by decide, h2 _ (by decide), h3 _ (by decide)]
    simp

set_option maxRecDepth 100000 in
set_option maxHeartbeats 400000 in
theorem turn_any (r : Nat) (x : UInt8) (w : World) (hr : r < 4294967296) :
    Calls Try.prog 112 #[.int .u32 (r : Int), .int .u8 (x.toNat : Int)] w fun e w' => e = .returned (.int .u32 (crcBits r (bitsB x) : Nat)) ∧ w = w' := by
  have hx := x.toNat_lt
  go_enter Try.func112, Try.ntmps112
  go_wp2
  rw [u32_xor_nat r x.toNat hr (by omega)]
  have hs := Lib.hid (crc_ahead r x)
  have hlt : r ^^^ x.toNat < 4294967296 := xor_lt (k := 32) hr (by omega)
  generalize r ^^^ x.toNat = s0 at *
  go_loopg [0, 9] 8 (fun g u q wr => ∃ (j s : Nat), q = .int .i64 j ∧ j + g = 8 ∧ u = .int .u32 s ∧ Hid (s = crcBits s0 (List.replicate j false)) ∧ s < 4294967296 ∧ w = wr)
  case atStart => exact ⟨0, s0, rfl, rfl, rfl, rfl, hlt, rfl⟩
  case round =>
    obtain ⟨j, s, rfl, hj, rfl, Hr, hs1, rfl⟩ := hrel
    by_cases hj8 : j < 8
    · go_wp2
      go_roundg (gk - 1)
      case measure => omega
      case rel =>
        refine ⟨j + 1, crcBit s false, by go_num, by omega, by rw [crc_plain s hs1], Lib.hid ?_, crcBit_lt _ _ hs1, rfl⟩
        rw [List.replicate_succ', crcBits_append, ← Hr.out]; rfl
    · have hj9 : j = 8 := by omega
      subst hj9
      go_wp2
      go_ret
      exact ⟨by rw [hs.out, ← Hr.out]; rfl, rfl⟩

/-- A slice of slices of bytes reads as these texts. -/
def Parts (w : World) (B : Nat) (A : Option Addr) (k : Nat) (ls : List (List UInt8)) : Prop :=
  ls.length = k ∧ ∀ i (h : i < ls.length), ∃ b o A' n' c', A = some ⟨b, o, none⟩ ∧ b < B ∧ w.cell? ⟨b, o + i, none⟩ = some (.slice A' n' c') ∧ n' ≤ c' ∧ c' ≤ 9223372036854775807 ∧ Rd w B A' n' ls[i]

theorem Parts.below {w w' : World} {B k : Nat} {A : Option Addr} {ls : List (List UInt8)} (h : Parts w B A k ls) (hb : Below B w w') : Parts w' B A k ls :=
  ⟨h.1, fun i hi => by
    obtain ⟨b, o, A', n', c', e, hlt, hc, h1, h2, h3⟩ := h.2 i hi
    exact ⟨b, o, A', n', c', e, hlt, (hb.cell hlt).trans hc, h1, h2, h3.below hb⟩⟩

set_option maxRecDepth 100000 in
set_option maxHeartbeats 1000000 in
theorem sum_any (A : Option Addr) (n c B : Nat) (ls : List (List UInt8)) (w : World) (hn : n ≤ 9223372036854775807) (h : Parts w B A n ls) :
    Calls Try.prog 101 #[.slice A n c] w fun e w' => e = .returned (.int .u32 (crcSum ls.flatten)) ∧ w = w' := by
  have Hl := Lib.hid h.1
  have Hp := Lib.hid h.2
  clear h
  go_enter Try.func101, Try.ntmps101
  go_wp2
  go_loopg [3, 10] n (fun g r i wr => ∃ (k : Nat), i = .int .i64 k ∧ k + g = n ∧ r = .int .u32 (crcBits 4294967295 (bitsOf (ls.take k).flatten)) ∧ w = wr)
  case atStart => exact ⟨0, rfl, by omega, rfl, rfl⟩
  case round =>
    obtain ⟨k, rfl, hk, rfl, rfl⟩ := hrel
    by_cases hkn : k < n
    · obtain ⟨b, o, A', n', c', rfl, _, hcell, hn', hc', hrd⟩ := Hp.out k (by rw [Hl.out]; exact hkn)
      have hlt : crcBits 4294967295 (bitsOf (ls.take k).flatten) < 4294967296 := crcBits_lt _ _ (by decide)
      have Hnext : Hid ((ls.take (k + 1)).flatten = (ls.take k).flatten ++ ls[k]'(by rw [Hl.out]; exact hkn)) := Lib.hid (by
        rw [List.take_succ_eq_append_getElem (by rw [Hl.out]; exact hkn), List.flatten_append]
        simp)
      generalize hxe : ls[k]'(by rw [Hl.out]; exact hkn) = l at *
      generalize hre : crcBits 4294967295 (bitsOf (ls.take k).flatten) = r0 at *
      have HR := Lib.hid hrd
      have HL := Lib.hid hrd.1
      clear hrd
      go_wp2
      go_loopg [3, 16] n' (fun g r q wr => ∃ (j rj : Nat), q = .int .i64 j ∧ j + g = n' ∧ r = .int .u32 rj ∧ Hid (rj = crcBits r0 (bitsOf (l.take j))) ∧ rj < 4294967296 ∧ w = wr)
      case atStart => exact ⟨0, r0, rfl, by omega, rfl, rfl, hlt, rfl⟩
      case round =>
        obtain ⟨j, rj, rfl, hj, rfl, Hr, hrj, rfl⟩ := hrel
        by_cases hjn : j < n'
        · obtain ⟨b', o', rfl, _, hcell'⟩ := HR.out.2 (by omega)
          have hx := hcell' j (by rw [HL.out]; exact hjn)
          have Hn2 : Hid (bitsOf (l.take (j + 1)) = bitsOf (l.take j) ++ bitsB (l[j]'(by rw [HL.out]; exact hjn))) := Lib.hid (by
            rw [List.take_succ_eq_append_getElem (by rw [HL.out]; exact hjn), bitsOf_append]
            simp [bitsOf])
          clear hcell'
          generalize hxe' : l[j]'(by rw [HL.out]; exact hjn) = x at *
          have Ht := Lib.hid (fun w => turn_any rj x w hrj)
          go_wp2_with fail
          refine (Ht.out _).mono ?_
          rintro e w' ⟨rfl, rfl⟩
          go_wp2
          go_roundg (gk - 1)
          case measure => omega
          case rel => exact ⟨j + 1, _, by go_num, by omega, rfl, Lib.hid (by rw [Hn2.out, crcBits_append, ← Hr.out]), crcBits_lt _ _ hrj, rfl⟩
        · go_wp2
          go_roundg (n - k - 1)
          case measure => omega
          case rel =>
            have hf : l.take j = l := List.take_of_length_le (by rw [HL.out]; omega)
            exact ⟨k + 1, by go_num, by omega, by rw [Hnext.out, bitsOf_append, crcBits_append, hre, Hr.out, hf], rfl⟩
    · go_wp2
      go_ret
      have hf : ls.take k = ls := List.take_of_length_le (by rw [Hl.out]; omega)
      rw [hf]
      refine ⟨?_, rfl⟩
      have hb := crcBits_lt (bitsOf ls.flatten) 4294967295 (by decide)
      unfold crcSum
      generalize crcBits 4294967295 (bitsOf ls.flatten) = z at *
      have e : bits .xor .u32 IntKind.u32.max (z : Int) = ((4294967295 - z : Nat) : Int) := by
        have h1 : bits .xor .u32 ((4294967295 : Nat) : Int) (z : Int) = ((4294967295 ^^^ z : Nat) : Int) := u32_xor_nat 4294967295 z (by decide) hb
        rw [compl_xor z hb, Nat.xor_comm]
        exact h1
      rw [← e]
      rfl
end Go.Proofs.Ytfghbhjljbdlmaa
