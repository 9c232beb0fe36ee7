/- Layer 13, plain: how the document reads a table (ref13.Load): the bytes saved again are held against the given; it comes to loadT. -/
import Derived.Test.YtgippbbbfpkhhaaOnL
import Derived.Test.YtgippbbbfpkhhaaReaderPar
import Derived.Test.YtgippbbbfpkhhaaOnAs
namespace Go.Proofs.Ytgippbbbfpkhhaa
open Go.RowKit

/-- One client as the document reads it. -/
def rdCl (rem : List UInt8) (err : Nat) : Cl × List UInt8 × Nat :=
  let u := nextU rem err
  let v := nextU u.2.1 u.2.2
  let x := nextU v.2.1 v.2.2
  if x.1 = 0 then (⟨u.1, v.1, false, (nextB x.2.1 x.2.2 200).1⟩, (nextB x.2.1 x.2.2 200).2.1, (nextB x.2.1 x.2.2 200).2.2)
  else (⟨u.1, v.1, decide (x.1 = 1), []⟩, x.2.1, x.2.2)
def rdN (rem : List UInt8) (err : Nat) (row : List Cl) : Nat → Option (List Cl)
  | 0 => some row
  | k + 1 => if (rdCl rem err).2.2 ≠ 0 ∨ (rdCl rem err).1.num = 0 ∨ (findC (rdCl rem err).1.id row).isSome = true then none else rdN (rdCl rem err).2.1 (rdCl rem err).2.2 (row ++ [(rdCl rem err).1]) k
theorem rdN_no {rem : List UInt8} {err k : Nat} {row : List Cl} (h : (rdCl rem err).2.2 ≠ 0 ∨ (rdCl rem err).1.num = 0 ∨ (findC (rdCl rem err).1.id row).isSome = true) : rdN rem err row (k + 1) = none := by
  unfold rdN
  rw [if_pos h]
theorem rdN_yes {rem : List UInt8} {err k : Nat} {row : List Cl} (h : ¬ ((rdCl rem err).2.2 ≠ 0 ∨ (rdCl rem err).1.num = 0 ∨ (findC (rdCl rem err).1.id row).isSome = true)) : rdN rem err row (k + 1) = rdN (rdCl rem err).2.1 (rdCl rem err).2.2 (row ++ [(rdCl rem err).1]) k := by
  rw [rdN, if_neg h]
theorem rdCl_dec {rem : List UInt8} {err : Nat} (h : (decCl rem err).2.1 = true) : rdCl rem err = ((decCl rem err).1, (decCl rem err).2.2.1, (decCl rem err).2.2.2) := by
  unfold decCl at h ⊢
  unfold rdCl
  dsimp only at h ⊢
  generalize nextU rem err = u at *
  generalize nextU u.2.1 u.2.2 = v at *
  generalize nextU v.2.1 v.2.2 = x at *
  generalize nextB x.2.1 x.2.2 200 = y at *
  by_cases hx : x.1 = 0
  · rw [if_pos hx, if_pos hx]
  · rw [if_neg hx] at h ⊢
    rw [if_neg hx]
    by_cases hy : x.1 = 1
    · rw [if_pos hy]; simp [hy]
    · rw [if_neg hy] at h
      cases h
theorem rdCl_ok {rem : List UInt8} {err : Nat} (h : (rdCl rem err).1.num ≠ 0) : (rdCl rem err).1.Ok := by
  unfold rdCl at h ⊢
  dsimp only at h ⊢
  have h1 := nextU_lt' rem err
  have h2 := nextU_lt' (nextU rem err).2.1 (nextU rem err).2.2
  generalize nextU rem err = u at *
  generalize nextU u.2.1 u.2.2 = v at *
  generalize nextU v.2.1 v.2.2 = x at *
  have h3 := nextB_len x.2.1 x.2.2 200 (by decide)
  generalize nextB x.2.1 x.2.2 200 = y at *
  by_cases hx : x.1 = 0
  · rw [if_pos hx] at h ⊢
    have h4 : v.1 ≠ 0 := h
    exact ⟨h1, ⟨by show 0 < v.1; omega, h2⟩, by show y.1.length ≤ 200; omega, fun e => by cases e⟩
  · rw [if_neg hx] at h ⊢
    have h4 : v.1 ≠ 0 := h
    exact ⟨h1, ⟨by show 0 < v.1; omega, h2⟩, by show ([] : List UInt8).length ≤ 200; simp, fun _ => rfl⟩
theorem rdCl_rest (rem : List UInt8) (err : Nat) : (rdCl rem err).2.1.length ≤ rem.length := by
  unfold rdCl
  dsimp only
  have h1 := nextU_rest rem err
  have h2 := nextU_rest (nextU rem err).2.1 (nextU rem err).2.2
  have h3 := nextU_rest (nextU (nextU rem err).2.1 (nextU rem err).2.2).2.1 (nextU (nextU rem err).2.1 (nextU rem err).2.2).2.2
  generalize nextU rem err = u at *
  generalize nextU u.2.1 u.2.2 = v at *
  generalize nextU v.2.1 v.2.2 = x at *
  have h4 := nextB_rest x.2.1 x.2.2 200
  generalize nextB x.2.1 x.2.2 200 = y at *
  split
  · show y.2.1.length ≤ _; omega
  · show x.2.1.length ≤ _; omega
theorem rdN_load : ∀ (k : Nat) (rem : List UInt8) (err : Nat) (row row' : List Cl) (r : List UInt8), loadN rem err row k = some (row', r, 0) → rdN rem err row k = some row'
  | 0, rem, err, row, row', r, h => by
    simp only [loadN, Option.some.injEq, Prod.mk.injEq] at h
    rw [← h.1]; rfl
  | k + 1, rem, err, row, row', r, h => by
    unfold loadN at h
    split at h
    · cases h
    · rename_i hg
      have hg1 : (decCl rem err).2.1 = true := by
        cases hb : (decCl rem err).2.1 with
        | true => rfl
        | false => exact absurd (.inl hb) hg
      have he := (loadN_inv k _ _ _ _ _ h).1
      have hok := decCl_ok rem err hg1
      have hrd := rdCl_dec hg1
      rw [rdN_yes (by rw [hrd]; rintro (e | e | e)
                      · exact e he
                      · have := hok.num.1; dsimp only at e; omega
                      · exact hg (.inr e)), hrd]
      exact rdN_load k _ _ _ _ _ h
theorem rdN_ok : ∀ (k : Nat) (rem : List UInt8) (err : Nat) (row row' : List Cl), rdN rem err row k = some row' → (∀ c ∈ row, c.Ok) → (row.map (·.id)).Nodup → (∀ c ∈ row', c.Ok) ∧ (row'.map (·.id)).Nodup ∧ row'.length = row.length + k
  | 0, rem, err, row, row', h, h1, h2 => by
    simp only [rdN, Option.some.injEq] at h
    subst h
    exact ⟨h1, h2, rfl⟩
  | k + 1, rem, err, row, row', h, h1, h2 => by
    by_cases hg : (rdCl rem err).2.2 ≠ 0 ∨ (rdCl rem err).1.num = 0 ∨ (findC (rdCl rem err).1.id row).isSome = true
    · rw [rdN_no hg] at h; cases h
    · rw [rdN_yes hg] at h
      have hf : findC (rdCl rem err).1.id row = none := by
        cases hb : findC (rdCl rem err).1.id row with
        | none => rfl
        | some k => exact absurd (.inr (.inr (by rw [hb]; rfl))) hg
      have hn : (rdCl rem err).1.num ≠ 0 := fun e => hg (.inr (.inl e))
      obtain ⟨k1, k2, k3⟩ := rdN_ok k _ _ _ _ h (fun c hc => by
        rcases List.mem_append.1 hc with hc | hc
        · exact h1 c hc
        · rw [List.mem_singleton.1 hc]; exact rdCl_ok hn) (push_nodup h2 (findC_none hf))
      refine ⟨k1, k2, ?_⟩
      rw [k3, List.length_append]
      simp
      omega
/-- What the document makes of what it read. -/
def rfin (b : List UInt8) (M : Nat) : Option (List Cl) → Option Tb
  | none => none
  | some row => if encT ⟨M, row, 0, 0⟩ = b then some ⟨M, row, 0, 0⟩ else none
theorem rowOk {M N : Nat} {rem : List UInt8} {err : Nat} {row : List Cl} (h : rdN rem err [] N = some row) (h1 : 1 ≤ M) (h2 : M ≤ 64) (h3 : N ≤ M) : Tb.Ok ⟨M, row, 0, 0⟩ := by
  obtain ⟨k1, k2, k3⟩ := rdN_ok N rem err [] row h (fun c hc => by cases hc) List.nodup_nil
  exact ⟨⟨h1, h2⟩, by show row.length ≤ M; rw [k3]; simp; omega, k2, k1, ⟨by show (_ : Int) ≤ 0; decide, by show (0 : Int) ≤ _; decide⟩, ⟨by show (_ : Int) ≤ 0; decide, by show (0 : Int) ≤ _; decide⟩⟩
theorem rload_eq (b : List UInt8) {M N e1 e2 : Nat} {r1 r2 : List UInt8} (h1 : nextU b 0 = (M, r1, e1)) (h2 : nextU r1 e1 = (N, r2, e2)) :
    loadT b = if e2 ≠ 0 ∨ M < 1 ∨ 64 < M ∨ M < N then none else rfin b M (rdN r2 e2 [] N) := by
  have hT := loadT_eq b h1 h2
  by_cases hc : 64 < M ∨ M < N
  · rw [hT, if_pos hc, if_pos (by rcases hc with h | h <;> simp [h])]
  · rw [if_neg hc] at hT
    by_cases hM : M < 1
    · rw [hT, if_pos hM, if_pos (.inr (.inl hM))]
    · rw [if_neg hM] at hT
      have hsome : ∀ t, loadT b = some t → ∃ row r, loadN r2 e2 [] N = some (row, r, 0) ∧ t = ⟨M, row, 0, 0⟩ := fun t ht => by
        rw [hT] at ht
        cases hL : loadN r2 e2 [] N with
        | none => rw [hL] at ht; cases ht
        | some q =>
          obtain ⟨row, r, e⟩ := q
          rw [hL] at ht
          unfold finT at ht
          dsimp only at ht
          split at ht
          · cases ht
          · rename_i hz
            have he : e = 0 := by
              by_cases h0 : e = 0
              · exact h0
              · exact absurd (.inl h0) hz
            subst he
            injection ht with ht
            exact ⟨row, r, rfl, ht.symm⟩
      cases hl : loadT b with
      | some t =>
        obtain ⟨row, r, hL, rfl⟩ := hsome t hl
        have he := (loadN_inv N _ _ _ _ _ hL).1
        rw [if_neg (by rintro (h | h | h | h)
                       · exact h he
                       · exact hM h
                       · exact hc (.inl h)
                       · exact hc (.inr h)), rdN_load N _ _ _ _ _ hL]
        unfold rfin
        dsimp only
        rw [if_pos (loadT_inv hl).1]
      | none =>
        by_cases he : e2 ≠ 0 ∨ M < 1 ∨ 64 < M ∨ M < N
        · rw [if_pos he]
        · rw [if_neg he]
          cases hR : rdN r2 e2 [] N with
          | none => rfl
          | some row =>
            unfold rfin
            dsimp only
            by_cases hE : encT ⟨M, row, 0, 0⟩ = b
            · exfalso
              have h5 := loadT_enc ⟨M, row, 0, 0⟩ (rowOk hR (by omega) (by omega) (by omega))
              rw [hE, hl] at h5
              cases h5
            · rw [if_neg hE]
end Go.Proofs.Ytgippbbbfpkhhaa

/- Layer 13: the document's Load: its Reader, its row in the making. -/
namespace Go.Proofs.Ytgippbbbfpkhhaa
open Go.RowKit

/-- The document's Reader is there. -/
def DRx (w : World) (R : Nat) (l rem : List UInt8) (err : Nat) : Prop := ∃ p A n c, MR w R l p err A n c ∧ Par l rem p err
section
variable {w w' : World} {R err : Nat} {l rem : List UInt8} {F : Nat → Prop}
theorem DRx.kp (h : DRx w R l rem err) (hk : Kp F w w') (hF : ∀ k, F k → R < k) : DRx w' R l rem err := by
  obtain ⟨p, A, n, c, h, hp⟩ := h
  have hz := h.blk.lt
  exact ⟨p, A, n, c, ⟨h.blk.kp hk (fun hf => by have := hF R hf; omega), h.cap, h.rd.kp hk (by omega) fun k hk2 hf => by have := hF k hf; omega, h.le⟩, hp⟩
theorem DRx.below (h : DRx w R l rem err) (hb : Below w.heap.size w w') : DRx w' R l rem err := h.kp (F := fun _ => False) (Kp.of_below hb) fun _ h => h.elim
theorem DRx.lt (h : DRx w R l rem err) : R < w.heap.size := by obtain ⟨p, A, n, c, h, _⟩ := h; exact h.blk.lt
theorem DRx.erc (h : DRx w R l rem err) : w.cell? ⟨R, 2, none⟩ = some (.int .i64 err) := by obtain ⟨p, A, n, c, h, _⟩ := h; exact h.blk.cell 2
theorem DRx.uint (h : DRx w R l rem err) : Calls Try.prog 50 #[.pointer (some ⟨R, 0, none⟩)] w fun e w' => e = .returned (.int .u64 ((nextU rem err).1 : Int)) ∧ Hid (DRx w' R l (nextU rem err).2.1 (nextU rem err).2.2 ∧ Kp (fun k => k = R) w w') := by
  obtain ⟨p, A, n, c, h, hp⟩ := h
  have h1 := h.rd.1
  have h2 := h.cap
  obtain ⟨v, p', e', rem', q1, q2, q3, _⟩ := next_num l rem p err (by omega) hp
  refine (ruint_meth R A n c p err l w h).mono ?_
  rw [q1, q2]
  rintro e w' ⟨rfl, hb, hg⟩
  exact ⟨rfl, Lib.hid ⟨⟨p', A, n, c, hb, q3⟩, Kp.of_grown hg rfl⟩⟩
theorem DRx.bytes (h : DRx w R l rem err) (hn : l.length ≤ 1000000) : Calls Try.prog 51 #[.pointer (some ⟨R, 0, none⟩), .int .i64 200] w fun e w' => ∃ A c, e = .returned (.slice A (nextB rem err 200).1.length c) ∧ Hid (w'.ownsRow w.heap.size 5 1 (.slice A (nextB rem err 200).1.length c) (nextB rem err 200).1.length (u8s (nextB rem err 200).1) ∧ DRx w' R l (nextB rem err 200).2.1 (nextB rem err 200).2.2 ∧ Kp (fun k => k = R) w w') := by
  obtain ⟨p, A, n, c, h, hp⟩ := h
  have h1 := h.rd.1
  have h2 := h.cap
  obtain ⟨t, p', e', rem', q1, q2, q3, _⟩ := next_text l rem p err 200 (by omega) hp
  refine (rbytes_meth R A n c p err 200 l w (by omega) (by decide) (by decide) h).mono ?_
  rw [q1, q2]
  rintro e w' ⟨s, rfl, ho, hb, hg⟩
  obtain ⟨A', c', rfl, _⟩ := own_shape ho
  exact ⟨A', c', rfl, Lib.hid ⟨ho, ⟨p', A, n, c, hb, q3⟩, Kp.of_grown hg rfl⟩⟩
theorem DRx.new (A : Option Addr) (n c : Nat) (w : World) (hc : n ≤ c ∧ c ≤ 9223372036854775807) (h : Rd w w.heap.size A n l) : DRx (w.alloc (.cells #[.slice A n c, .int .i64 0, .int .i64 0] 105)) w.heap.size l l 0 :=
  ⟨0, A, n, c, ⟨Bk.new w _ _, hc, h.below (bel1N w _), Nat.zero_le _⟩, ⟨fun _ => rfl, fun h => absurd rfl h, Nat.zero_le _, by omega⟩⟩
end
/-- The row grows by one, in its room or anew. -/
theorem DT.push {w w1 w3 : World} {G : Nat → Prop} {g : Nat} {t : Tb} {A : Option Addr} {n c : Nat} {es : List Cle} {v' : Value} {cl : Cl} {s : Sl3} (h : DT w G g t A n c es) (hb1 : Below w.heap.size w w1) (ha : App w1 w3 0 64 4 (.slice A n c) v' n 1 (clC es) (clE (cl, s))) (hs : w.ownsRow 0 5 1 (s3W s) cl.rep.length (u8s cl.rep)) (hF : ∀ k, (s3W s).ownBlock = some k → G k) :
    w3.cell? ⟨g, 1, none⟩ = some (.slice A n c) ∧ w3.frozen? ⟨g, 1, none⟩ = false ∧
    Hid (∃ A' c' G', v' = .slice A' (n + 1) c' ∧ DT (w3.setCell ⟨g, 1, none⟩ v') G' g { t with row := t.row ++ [cl] } A' (n + 1) c' (es ++ [(cl, s)]) ∧ Mv G G' w (w3.setCell ⟨g, 1, none⟩ v')) := by
  have h1 := h.below hb1
  have hel := h.len
  have hk3 : Kp (fun k => (Value.slice A n c).ownBlock = some k) w1 w3 := Kp.of_row ha.grow (fun g e => e)
  have hk4 : Kp (fun k => k = g) w3 (w3.setCell ⟨g, 1, none⟩ v') := Kp.set_ (F := fun k => k = g) (p := ⟨g, 1, none⟩) rfl _
  have hbk3 := h1.bk.kp hk3 (fun e => h1.row.off h1.bk (by decide) (by decide) g (.inl e) rfl)
  have hk : Kp (fun k => k = g ∨ (Value.slice A n c).ownBlock = some k) w (w3.setCell ⟨g, 1, none⟩ v') := ((Kp.of_below hb1).trans (hk3.mono fun k e => .inr e)).trans (hk4.mono fun k e => .inl e)
  obtain ⟨A', c', rfl, hnc, hcm⟩ := own_shape ha.own
  have hblk : ∀ k, (Value.slice A' (n + 1) c').ownBlock = some k → (Value.slice A n c).ownBlock = some k ∨ w.heap.size ≤ k := fun k e => by
    rcases ha.block with h' | h'
    · exact .inl (h' ▸ e)
    · rw [h'] at e; injection e with e; have := hb1.size; exact .inr (by omega)
  have hoff : ∀ {base m : Nat} {v : Value} {xs : List Value}, w.ownsRow base 5 1 v m xs → ∀ k, v.ownBlock = some k → ¬ (k = g ∨ (Value.slice A n c).ownBlock = some k) := fun ho k e hk2 => by
    rcases hk2 with e2 | e2
    · exact own_not_bkC h.bk ho (by decide) k e e2
    · exact own_sepC ho h.row.own (by decide) k e e2
  refine ⟨hbk3.cell 1, hbk3.frozen 1, Lib.hid ⟨A', c', fun k => G k ∨ (Value.slice A' (n + 1) c').ownBlock = some k, rfl, ⟨hbk3.set_ 1 _, ⟨?_, ?_, fun k e => .inr e, ?_⟩, by rw [List.map_append, h.eq]; rfl, by rw [List.length_append, ← h.len]; rfl, .inl h.fg, ?_⟩, ⟨hk.mono fun k e => ?_, fun k e => ?_⟩⟩⟩
  · rw [clC_app, List.length_append, ← hel]
    have := own_kp ha.own hk4 (fun k e e2 => own_not_bkC hbk3 ha.own (by decide) k e e2)
    simpa [clC] using this
  · intro e he
    rcases List.mem_append.1 he with he | he
    · exact own_kp (h.row.each e he) hk (hoff (h.row.each e he))
    · rw [List.mem_singleton.1 he]
      exact own_kp hs hk (hoff hs)
  · intro e he k e2
    rcases List.mem_append.1 he with he | he
    · exact .inl (h.row.bods e he k e2)
    · rw [List.mem_singleton.1 he] at e2
      exact .inl (hF k e2)
  · rintro k (e | e)
    · exact Nat.lt_of_lt_of_le (h.lt k e) hk.size
    · have := (ha.own.lt k e).2
      simpa [World.setCell] using this
  · rcases e with e | e
    · exact e ▸ h.fg
    · exact h.row.foot k e
  · rcases e with e | e
    · exact .inl e
    · rcases hblk k e with h' | h'
      · exact .inl (h.row.foot k h')
      · exact .inr h'
/-- Ahead of a round, or within it: cb is the block of the client that is being read. -/
structure LqI (w : World) (R g M cb : Nat) (l rem : List UInt8) (err : Nat) (row : List Cl) (wr : World) : Prop where
  d : ∃ G A n c es, DT wr G g ⟨M, row, 0, 0⟩ A n c es ∧ ∀ j, G j → R < j ∧ w.heap.size ≤ j ∧ j ≠ cb
  dr : DRx wr R l rem err
  bel : Below w.heap.size w wr
  ge : w.heap.size ≤ R
section
variable {w wr wx : World} {R g M cb : Nat} {l rem : List UInt8} {err : Nat} {row : List Cl}
theorem LqI.below (h : LqI w R g M cb l rem err row wr) (hb : Below wr.heap.size wr wx) : LqI w R g M cb l rem err row wx := by
  obtain ⟨G, A, n, c, es, hd, hG⟩ := h.d
  exact ⟨⟨G, A, n, c, es, hd.below hb, hG⟩, h.dr.below hb, h.bel.trans (hb.mono h.bel.size), h.ge⟩
theorem LqI.read {rem' : List UInt8} {err' : Nat} (h : LqI w R g M cb l rem err row wr) (hr : DRx wx R l rem' err') (hk : Kp (fun k => k = R) wr wx) : LqI w R g M cb l rem' err' row wx := by
  obtain ⟨G, A, n, c, es, hd, hG⟩ := h.d
  exact ⟨⟨G, A, n, c, es, hd.kp hk (fun k h1 h2 => by have := (hG k h1).1; omega), hG⟩, hr, h.bel.trans (hk.below (fun k e => e ▸ h.ge) h.bel.size), h.ge⟩
/-- The client's block beside it. -/
structure LqC (w : World) (R g M cb : Nat) (l rem : List UInt8) (err : Nat) (row : List Cl) (cs : Array Value) (wr : World) : Prop where
  i : LqI w R g M cb l rem err row wr
  bk : Bk wr cb 64 cs
  lt : R < cb
variable {cs : Array Value}
theorem LqC.below (h : LqC w R g M cb l rem err row cs wr) (hb : Below wr.heap.size wr wx) : LqC w R g M cb l rem err row cs wx := ⟨h.i.below hb, h.bk.below hb h.bk.lt, h.lt⟩
theorem LqI.open_ (h : LqI w R g M R l rem err row wr) (cs : Array Value) : LqC w R g M wr.heap.size l rem err row cs (wr.alloc (.cells cs 64)) := by
  obtain ⟨G, A, n, c, es, hd, hG⟩ := h.d
  have hb := bel1N wr (.cells cs 64)
  exact ⟨⟨⟨G, A, n, c, es, hd.below hb, fun j hj => ⟨(hG j hj).1, (hG j hj).2.1, by have := hd.lt j hj; omega⟩⟩, h.dr.below hb, h.bel.trans (hb.mono h.bel.size), h.ge⟩, Bk.new wr _ _, h.dr.lt⟩
theorem LqC.uint (h : LqC w R g M cb l rem err row cs wr) : Calls Try.prog 50 #[.pointer (some ⟨R, 0, none⟩)] wr fun e w' => e = .returned (.int .u64 ((nextU rem err).1 : Int)) ∧ Hid (LqC w R g M cb l (nextU rem err).2.1 (nextU rem err).2.2 row cs w') := by
  refine h.i.dr.uint.mono ?_
  rintro e w' ⟨rfl, H⟩
  exact ⟨rfl, Lib.hid ⟨h.i.read H.out.1 H.out.2, h.bk.kp H.out.2 (fun e => by have := h.lt; omega), h.lt⟩⟩
theorem LqC.bytes (h : LqC w R g M cb l rem err row cs wr) (hn : l.length ≤ 1000000) : Calls Try.prog 51 #[.pointer (some ⟨R, 0, none⟩), .int .i64 200] wr fun e w' => ∃ A c, e = .returned (.slice A (nextB rem err 200).1.length c) ∧ Hid (LqC w R g M cb l (nextB rem err 200).2.1 (nextB rem err 200).2.2 row cs w' ∧ w'.ownsRow wr.heap.size 5 1 (.slice A (nextB rem err 200).1.length c) (nextB rem err 200).1.length (u8s (nextB rem err 200).1)) := by
  refine (h.i.dr.bytes hn).mono ?_
  rintro e w' ⟨A, c, rfl, H⟩
  exact ⟨A, c, rfl, Lib.hid ⟨⟨h.i.read H.out.2.1 H.out.2.2, h.bk.kp H.out.2.2 (fun e => by have := h.lt; omega), h.lt⟩, H.out.1⟩⟩
theorem LqC.put (h : LqC w R g M cb l rem err row cs wr) (i : Nat) (u : Value) : LqC w R g M cb l rem err row (cs.setIfInBounds i u) (wr.setCell ⟨cb, i, none⟩ u) := by
  have hk : Kp (fun k => k = cb) wr (wr.setCell ⟨cb, i, none⟩ u) := Kp.set_ (F := fun k => k = cb) (p := ⟨cb, i, none⟩) rfl _
  obtain ⟨G, A, n, c, es, hd, hG⟩ := h.i.d
  have hlt := h.lt
  have hge := h.i.ge
  exact ⟨⟨⟨G, A, n, c, es, hd.kp hk (fun k h1 h2 => (hG k h1).2.2 h2), hG⟩, h.i.dr.kp hk (fun k e => by omega), h.i.bel.trans (hk.below (fun k e => by omega) h.i.bel.size), h.i.ge⟩, h.bk.set_ i u, h.lt⟩
end
end Go.Proofs.Ytgippbbbfpkhhaa

/- Layer 13: the document's Load, whole. -/
namespace Go.Proofs.Ytgippbbbfpkhhaa
open Go.RowKit

/-- What the document's Load answers. -/
def RLoadE (w : World) (r : Option Tb) (e : Ending) (w' : World) : Prop :=
  (r = none ∧ e = .returned (.tuple #[.pointer none, .int .i64 11]) ∧ Hid (Below w.heap.size w w')) ∨
  ∃ t g G A n c es, r = some t ∧ e = .returned (.tuple #[.pointer (some ⟨g, 0, none⟩), .int .i64 0]) ∧ Hid (DT w' G g t A n c es ∧ (∀ j, G j → w.heap.size ≤ j) ∧ Below w.heap.size w w')
set_option maxRecDepth 100000 in
set_option maxHeartbeats 8000000 in
theorem rload_any (A : Option Addr) (n c : Nat) (l : List UInt8) (w : World) (hc : n ≤ c ∧ c ≤ 9223372036854775807) (hn : n ≤ 1000000) (h : Rd w w.heap.size A n l) : Calls Try.prog 27 #[.slice A n c] w (RLoadE w (loadT l)) := by
  have hl := h.1
  rcases hu : nextU l 0 with ⟨M, r1, e1⟩
  rcases hv : nextU r1 e1 with ⟨N, r2, e2⟩
  have hM64 := nextU_lt' l 0
  have hN64 := nextU_lt' r1 e1
  rw [hu] at hM64
  rw [hv] at hN64
  dsimp only at hM64 hN64
  have hT := rload_eq l hu hv
  have HU1 : Hid (∀ W R, DRx W R l l 0 → Calls Try.prog 50 #[.pointer (some ⟨R, 0, none⟩)] W fun e w' => e = .returned (.int .u64 (M : Int)) ∧ Hid (DRx w' R l r1 e1 ∧ Kp (fun k => k = R) W w')) := Lib.hid fun W R hb => by have := hb.uint; rwa [hu] at this
  have HU2 : Hid (∀ W R, DRx W R l r1 e1 → Calls Try.prog 50 #[.pointer (some ⟨R, 0, none⟩)] W fun e w' => e = .returned (.int .u64 (N : Int)) ∧ Hid (DRx w' R l r2 e2 ∧ Kp (fun k => k = R) W w')) := Lib.hid fun W R hb => by have := hb.uint; rwa [hv] at this
  obtain ⟨r, hr⟩ : ∃ r, r = loadT l := ⟨_, rfl⟩
  rw [← hr] at hT ⊢
  have HT := Lib.hid hT
  have HRd := Lib.hid h
  have HL1 : Hid (l.length ≤ 1000000) := Lib.hid (by omega)
  obtain ⟨R, hR⟩ : ∃ R, R = w.heap.size := ⟨_, rfl⟩
  obtain ⟨w1, hw1⟩ : ∃ w1, w1 = w.alloc (.cells #[.slice A n c, .int .i64 0, .int .i64 0] 105) := ⟨_, rfl⟩
  have HD1 : Hid (DRx w1 R l l 0 ∧ Below w.heap.size w w1 ∧ w.heap.size ≤ R) := Lib.hid ⟨by rw [hw1, hR]; exact DRx.new A n c w hc h, by rw [hw1]; exact bel1N _ _, by omega⟩
  have HW1 := Lib.hid hw1
  have HRR := Lib.hid hR
  clear h hu hv hT hr hl hR hw1 hc
  go_enter Try.func27, Try.ntmps27
  go_upto_region 2 with (fail)
  rw [← HW1.out]
  try rw [← HRR.out]
  have HC1 := Lib.hid (HU1.out w1 R HD1.out.1)
  go_wp2_with fail
  refine HC1.out.mono ?_
  clear HC1
  rintro e w2 ⟨rfl, HX2⟩
  have HC2 := Lib.hid (HU2.out w2 R HX2.out.1)
  have HK2 : Hid (Below w.heap.size w w2) := Lib.hid (HD1.out.2.1.trans (HX2.out.2.below (fun k e => e ▸ HD1.out.2.2) HD1.out.2.1.size))
  clear HX2 HU2
  go_wp2_with fail
  refine HC2.out.mono ?_
  clear HC2
  rintro e w3 ⟨rfl, HX3⟩
  have HK3 : Hid (Below w.heap.size w w3) := Lib.hid (HK2.out.trans (HX3.out.2.below (fun k e => e ▸ HD1.out.2.2) HK2.out.size))
  have HB3 := Lib.hid HX3.out.1
  have c2 := HB3.out.erc
  clear HX3 HK2 HU1
  by_cases he : e2 ≠ 0
  · have b0 : ((e2 : Int) != 0) = true := by simp; omega
    have b1 : ¬ (e2 : Int) = 0 := by omega
    have hrn : r = none := by rw [HT.out, if_pos (.inl he)]
    clear HT HB3 he
    go_wp2
    refine bodyPost_ret (by simp [results, Try.results27, go_sem]; try rfl) rfl ?_
    exact .inl ⟨hrn, rfl, HK3⟩
  obtain rfl : e2 = 0 := by omega
  clear he
  by_cases hM : M < 1
  · have m1 : (M : Int) < 1 := by omega
    have hrn : r = none := by rw [HT.out, if_pos (.inr (.inl hM))]
    clear HT HB3
    go_wp2
    refine bodyPost_ret (by simp [results, Try.results27, go_sem]; try rfl) rfl ?_
    exact .inl ⟨hrn, rfl, HK3⟩
  have m1 : ¬ (M : Int) < 1 := by omega
  have d1 : decide ((M : Int) < 1) = false := decide_eq_false m1
  by_cases hM2 : 64 < M
  · have m2 : (64 : Int) < (M : Int) := by omega
    have hrn : r = none := by rw [HT.out, if_pos (.inr (.inr (.inl hM2)))]
    clear HT HB3
    go_wp2
    refine bodyPost_ret (by simp [results, Try.results27, go_sem]; try rfl) rfl ?_
    exact .inl ⟨hrn, rfl, HK3⟩
  have m2 : ¬ (64 : Int) < (M : Int) := by omega
  have d2 : decide ((64 : Int) < (M : Int)) = false := decide_eq_false m2
  by_cases hN : M < N
  · have m3 : (M : Int) < (N : Int) := by omega
    have hrn : r = none := by rw [HT.out, if_pos (.inr (.inr (.inr hN)))]
    clear HT HB3
    go_wp2
    refine bodyPost_ret (by simp [results, Try.results27, go_sem]; try rfl) rfl ?_
    exact .inl ⟨hrn, rfl, HK3⟩
  have m3 : ¬ (M : Int) < (N : Int) := by omega
  have d3 : decide ((M : Int) < (N : Int)) = false := decide_eq_false m3
  have HR : Hid (r = rfin l M (rdN r2 0 [] N)) := Lib.hid (by rw [HT.out, if_neg (by omega)])
  have e0 : IntKind.i64.wrap (M : Int) = (M : Int) := by rw [IntKind.wrap_i64]; omega
  have e0n : IntKind.i64.wrap (N : Int) = (N : Int) := by rw [IntKind.wrap_i64]; omega
  obtain ⟨g, hg⟩ : ∃ g, g = w3.heap.size := ⟨_, rfl⟩
  obtain ⟨w4, hw4⟩ : ∃ w4, w4 = w3.alloc (.cells #[.int .i64 (M : Int), .slice none 0 0, .int .i64 0, .int .i64 0] 49) := ⟨_, rfl⟩
  have HI0 : Hid (LqI w R g M R l r2 0 [] w4) := Lib.hid (by
    have hb := bel1N w3 (.cells #[.int .i64 (M : Int), .slice none 0 0, .int .i64 0, .int .i64 0] 49)
    have hlt := HB3.out.lt
    have hsz := HK3.out.size
    refine ⟨⟨fun k => k = g, none, 0, 0, [], ⟨by rw [hw4, hg]; exact Bk.new w3 _ _, ClRow.nil _ _, rfl, rfl, rfl, fun k e => by rw [hw4]; simp; omega⟩, fun j e => ⟨by omega, by omega, by omega⟩⟩, by rw [hw4]; exact HB3.out.below hb, by rw [hw4]; exact HK3.out.trans (hb.mono hsz), HD1.out.2.2⟩)
  have HW4 := Lib.hid hw4
  have HG := Lib.hid hg
  clear HT HB3 HK3 hw4 hg
  go_upto_region 7 with (fail)
  rw [← HW4.out]
  try rw [← HG.out]
  clear m1 d1 m2 d2 m3 d3 e0 c2
  go_wp2_with fail
  go_loopg [8] N (fun gk a wr => ∃ (k : Nat) (rem : List UInt8) (err : Nat) (row : List Cl), a = .int .i64 (k : Int) ∧ k + gk = N ∧ Hid (rdN r2 0 [] N = rdN rem err row gk ∧ row.length = k) ∧ Hid (LqI w R g M R l rem err row wr))
  case atStart => exact ⟨0, r2, 0, [], rfl, by omega, Lib.hid ⟨rfl, rfl⟩, HI0⟩
  case round =>
    clear HI0
    obtain ⟨k, rem, err, row, rfl, hkg, HRk, HI⟩ := hrel
    by_cases hkN : k < N
    · obtain ⟨j, rfl⟩ : ∃ j, gk = j + 1 := ⟨gk - 1, by omega⟩
      have m3 : (k : Int) < (N : Int) := by omega
      have e5 : IntKind.i64.wrap ((k : Int) + 1) = ((k + 1 : Nat) : Int) := by rw [IntKind.wrap_i64]; omega
      rcases ha : nextU rem err with ⟨id, ra, ea⟩
      rcases hb : nextU ra ea with ⟨num, rb, eb⟩
      rcases hx : nextU rb eb with ⟨bz, rx, ex⟩
      have hid64 := nextU_lt' rem err
      rw [ha] at hid64
      obtain ⟨cb, hcb⟩ : ∃ cb, cb = wr.heap.size := ⟨_, rfl⟩
      obtain ⟨w6, hw6⟩ : ∃ w6, w6 = wr.alloc (.cells #[.int .u64 0, .int .u64 0, .bool false, .slice none 0 0] 64) := ⟨_, rfl⟩
      have HC6 : Hid (LqC w R g M cb l rem err row #[.int .u64 0, .int .u64 0, .bool false, .slice none 0 0] w6) := Lib.hid (by rw [hw6, hcb]; exact HI.out.open_ _)
      have HW6 := Lib.hid hw6
      have HCB := Lib.hid hcb
      have HA := Lib.hid ha
      have HB := Lib.hid hb
      have HX := Lib.hid hx
      clear hw6 hcb ha hb hx HI
      go_upto_region 11 with (fail)
      rw [← HW6.out]
      try rw [← HCB.out]
      have HU1 : Hid (Calls Try.prog 50 #[.pointer (some ⟨R, 0, none⟩)] w6 fun e w' => e = .returned (.int .u64 (id : Int)) ∧ Hid (LqC w R g M cb l ra ea row #[.int .u64 0, .int .u64 0, .bool false, .slice none 0 0] w')) := Lib.hid (by have h := HC6.out.uint; rwa [HA.out] at h)
      clear HC6
      go_wp2_with fail
      refine HU1.out.mono ?_
      clear HU1
      rintro e w7 ⟨rfl, HC7⟩
      have p0 : w7.cell? ⟨cb, 0, none⟩ = some (.int .u64 0) := HC7.out.bk.cell 0
      have f0 := HC7.out.bk.frozen 0
      obtain ⟨w8, hw8⟩ : ∃ w8, w8 = w7.setCell ⟨cb, 0, none⟩ (.int .u64 (id : Int)) := ⟨_, rfl⟩
      have HC8 : Hid (LqC w R g M cb l ra ea row #[.int .u64 (id : Int), .int .u64 0, .bool false, .slice none 0 0] w8) := Lib.hid (by rw [hw8]; exact HC7.out.put 0 _)
      have HW8 := Lib.hid hw8
      clear hw8 HC7
      go_upto_region 12 with (fail)
      rw [← HW8.out]
      have HU2 : Hid (Calls Try.prog 50 #[.pointer (some ⟨R, 0, none⟩)] w8 fun e w' => e = .returned (.int .u64 (num : Int)) ∧ Hid (LqC w R g M cb l rb eb row #[.int .u64 (id : Int), .int .u64 0, .bool false, .slice none 0 0] w')) := Lib.hid (by have h := HC8.out.uint; rwa [HB.out] at h)
      clear HC8 p0 f0
      go_wp2_with fail
      refine HU2.out.mono ?_
      clear HU2
      rintro e w9 ⟨rfl, HC9⟩
      have p1 : w9.cell? ⟨cb, 1, none⟩ = some (.int .u64 0) := HC9.out.bk.cell 1
      have f1 := HC9.out.bk.frozen 1
      obtain ⟨w10, hw10⟩ : ∃ w10, w10 = w9.setCell ⟨cb, 1, none⟩ (.int .u64 (num : Int)) := ⟨_, rfl⟩
      have HC10 : Hid (LqC w R g M cb l rb eb row #[.int .u64 (id : Int), .int .u64 (num : Int), .bool false, .slice none 0 0] w10) := Lib.hid (by rw [hw10]; exact HC9.out.put 1 _)
      have HW10 := Lib.hid hw10
      clear hw10 HC9
      go_upto_region 13 with (fail)
      rw [← HW10.out]
      have HU3 : Hid (Calls Try.prog 50 #[.pointer (some ⟨R, 0, none⟩)] w10 fun e w' => e = .returned (.int .u64 (bz : Int)) ∧ Hid (LqC w R g M cb l rx ex row #[.int .u64 (id : Int), .int .u64 (num : Int), .bool false, .slice none 0 0] w')) := Lib.hid (by have h := HC10.out.uint; rwa [HX.out] at h)
      clear HC10 p1 f1
      go_wp2_with fail
      refine HU3.out.mono ?_
      clear HU3
      rintro e w11 ⟨rfl, HC11⟩
      have p2 : w11.cell? ⟨cb, 2, none⟩ = some (.bool false) := HC11.out.bk.cell 2
      have f2 := HC11.out.bk.frozen 2
      obtain ⟨bb, hbb⟩ : ∃ bb, bb = ((bz : Int) == 1) := ⟨_, rfl⟩
      obtain ⟨w12, hw12⟩ : ∃ w12, w12 = w11.setCell ⟨cb, 2, none⟩ (.bool bb) := ⟨_, rfl⟩
      have HC12 : Hid (LqC w R g M cb l rx ex row #[.int .u64 (id : Int), .int .u64 (num : Int), .bool bb, .slice none 0 0] w12) := Lib.hid (by rw [hw12]; exact HC11.out.put 2 _)
      have HW12 := Lib.hid hw12
      have q1 : ((bz : Int) == 1) = bb := hbb.symm
      obtain ⟨rep, rm, er, hy⟩ : ∃ rep rm er, (rep, rm, er) = if bz = 0 then nextB rx ex 200 else ([], rx, ex) := ⟨_, _, _, rfl⟩
      have HRD : Hid (rdCl rem err = (⟨id, num, bb, rep⟩, rm, er)) := Lib.hid (by
        unfold rdCl
        dsimp only
        rw [HA.out]
        dsimp only
        rw [HB.out]
        dsimp only
        rw [HX.out]
        dsimp only
        by_cases hz : bz = 0
        · rw [if_pos hz] at hy ⊢
          rw [← hy, hbb, hz]
          rfl
        · rw [if_neg hz] at hy ⊢
          injection hy with h1 h2
          injection h2 with h2 h3
          rw [h1, h2, h3, hbb]
          congr 2
          by_cases h1 : bz = 1
          · subst h1; rfl
          · have : ((bz : Int) == 1) = false := by simp; omega
            rw [this]; simp [h1])
      have HY := Lib.hid hy
      clear hw12 HC11 hbb hy HA HB HX
      obtain ⟨jo, hjo⟩ : ∃ z, z = j := ⟨_, rfl⟩
      subst hjo
      go_upto_if 61 with (fail)
      rw [← HW12.out]
      go_cut [] from 42 to 92 (fun wx => ∃ sA sC, Hid (LqC w R g M cb l rm er row #[.int .u64 (id : Int), .int .u64 (num : Int), .bool bb, .slice sA rep.length sC] wx ∧ wx.ownsRow (cb + 1) 5 1 (.slice sA rep.length sC) rep.length (u8s rep)))
      case first =>
        by_cases hz : bz = 0
        · have z1 : ((bz : Int) == 0) = true := by simp [hz]
          have HBy : Hid (Calls Try.prog 51 #[.pointer (some ⟨R, 0, none⟩), .int .i64 200] w12 fun e w' => ∃ A c, e = .returned (.slice A rep.length c) ∧ Hid (LqC w R g M cb l rm er row #[.int .u64 (id : Int), .int .u64 (num : Int), .bool bb, .slice none 0 0] w' ∧ w'.ownsRow w12.heap.size 5 1 (.slice A rep.length c) rep.length (u8s rep))) := Lib.hid (by
            have h := HC12.out.bytes HL1.out
            have h2 := HY.out
            rw [if_pos hz] at h2
            rwa [← h2] at h)
          have HZ12 : Hid (cb < w12.heap.size) := Lib.hid HC12.out.bk.lt
          clear HC12 p2 f2 hz
          go_wp2_with fail
          refine HBy.out.mono ?_
          clear HBy
          rintro e w13 ⟨sA, sC, rfl, H13⟩
          have p3 : w13.cell? ⟨cb, 3, none⟩ = some (.slice none 0 0) := H13.out.1.bk.cell 3
          have f3 := H13.out.1.bk.frozen 3
          have HE : Hid (LqC w R g M cb l rm er row #[.int .u64 (id : Int), .int .u64 (num : Int), .bool bb, .slice sA rep.length sC] (w13.setCell ⟨cb, 3, none⟩ (.slice sA rep.length sC)) ∧ (w13.setCell ⟨cb, 3, none⟩ (.slice sA rep.length sC)).ownsRow (cb + 1) 5 1 (.slice sA rep.length sC) rep.length (u8s rep)) := Lib.hid ⟨H13.out.1.put 3 _, own_base (own_kp H13.out.2 (Kp.set_ (F := fun k => k = cb) (p := ⟨cb, 3, none⟩) rfl _) (fun k e e2 => by have := (H13.out.2.lt k e).1; have := HZ12.out; omega)) (by have := HZ12.out; omega)⟩
          clear H13
          go_wp2
          go_meet
          exact ⟨sA, sC, HE⟩
        · have z1 : ((bz : Int) == 0) = false := by simp; omega
          have z2 : ¬ (bz : Int) = 0 := by omega
          have HE : Hid (LqC w R g M cb l rm er row #[.int .u64 (id : Int), .int .u64 (num : Int), .bool bb, .slice none rep.length 0] w12 ∧ w12.ownsRow (cb + 1) 5 1 (.slice none rep.length 0) rep.length (u8s rep)) := Lib.hid (by
            have h2 := HY.out
            rw [if_neg hz] at h2
            injection h2 with h1 h2
            injection h2 with h2 h3
            subst h1 h2 h3
            exact ⟨HC12.out, World.ownsRow_nil _ _ _ _⟩)
          clear HC12 p2 f2
          go_wp2
          go_meet
          exact ⟨none, 0, HE⟩
      case rest =>
      obtain ⟨wx, hwx⟩ : ∃ z, z = wc := ⟨_, rfl⟩
      subst hwx
      obtain ⟨sA, sC, HL⟩ := hcut
      clear HY HC12 p2 f2 q1
      obtain ⟨G, At, nt, ct, es, hd, hG⟩ := HL.out.1.i.d
      have hnr : nt = row.length := hd.len2
      have hn200 : nt ≤ 200 := by have := HRk.out.2; omega
      have HFd : Hid (Calls Try.prog 36 #[.pointer (some ⟨g, 0, none⟩), .int .u64 (id : Int)] wx fun e w' => e = .returned (.int .i64 (idxI (findC id row))) ∧ w' = wx) := Lib.hid (rfind_any hd hn200 id)
      have b0 : wx.cell? ⟨cb, 0, none⟩ = some (.int .u64 (id : Int)) := HL.out.1.bk.cell 0
      have b1 : wx.cell? ⟨cb, 1, none⟩ = some (.int .u64 (num : Int)) := HL.out.1.bk.cell 1
      have b2 : wx.cell? ⟨cb, 2, none⟩ = some (.bool bb) := HL.out.1.bk.cell 2
      have b3 : wx.cell? ⟨cb, 3, none⟩ = some (.slice sA rep.length sC) := HL.out.1.bk.cell 3
      have cE : wx.cell? ⟨R, 2, none⟩ = some (.int .i64 (er : Int)) := HL.out.1.i.dr.erc
      have HD := Lib.hid (And.intro hd hG)
      have HBel := Lib.hid HL.out.1.i.bel
      obtain ⟨I, hI⟩ : ∃ I, I = idxI (findC id row) := ⟨_, rfl⟩
      rw [← hI] at HFd
      have HIe := Lib.hid hI
      have Hnr := Lib.hid hnr
      clear hd hG hI hnr
      go_wp2_with fail
      refine HFd.out.mono ?_
      clear HFd
      rintro e w' ⟨rfl, hw⟩
      rw [hw]
      clear hw w'
      by_cases her : er ≠ 0
      · have x0 : ((er : Int) != 0) = true := by simp; omega
        have x1 : ¬ (er : Int) = 0 := by omega
        have hrn : r = none := by rw [HR.out, HRk.out.1, rdN_no (by rw [HRD.out]; exact .inl her)]; rfl
        clear her HRD
        go_wp2
        refine bodyPost_ret (by simp [results, Try.results27, go_sem]; try rfl) rfl ?_
        exact .inl ⟨hrn, rfl, HBel⟩
      obtain rfl : er = 0 := by omega
      clear her
      by_cases hnum : num = 0
      · have x0 : ((num : Int) == 0) = true := by simp [hnum]
        have hrn : r = none := by rw [HR.out, HRk.out.1, rdN_no (by rw [HRD.out]; exact .inr (.inl hnum))]; rfl
        clear hnum HRD
        go_wp2
        refine bodyPost_ret (by simp [results, Try.results27, go_sem]; try rfl) rfl ?_
        exact .inl ⟨hrn, rfl, HBel⟩
      have x0 : ((num : Int) == 0) = false := by simp; omega
      have x1 : ¬ (num : Int) = 0 := by omega
      cases hf : findC id row with
      | some kk =>
        have hIk : I = (kk : Int) := by rw [HIe.out, hf]; rfl
        have hrn : r = none := by rw [HR.out, HRk.out.1, rdN_no (by rw [HRD.out]; exact .inr (.inr (by rw [hf]; rfl)))]; rfl
        clear hf HRD HIe hnum
        subst hIk
        go_wp2
        refine bodyPost_ret (by simp [results, Try.results27, go_sem]; try rfl) rfl ?_
        exact .inl ⟨hrn, rfl, HBel⟩
      | none =>
        have hIk : I = -1 := by rw [HIe.out, hf]; rfl
        have HYs : Hid (rdN r2 0 [] N = rdN rm 0 (row ++ [⟨id, num, bb, rep⟩]) jo ∧ (row ++ [Cl.mk id num bb rep]).length = k + 1) := Lib.hid ⟨by
          rw [HRk.out.1, rdN_yes (by rw [HRD.out]; rintro (e | e | e)
                                     · exact e rfl
                                     · exact hnum e
                                     · rw [hf] at e; cases e), HRD.out], by rw [List.length_append, HRk.out.2]; rfl⟩
        have c1 : wx.cell? ⟨g, 1, none⟩ = some (.slice At nt ct) := HD.out.1.cells.2.1
        have c1a : (wx.alloc (.cells #[.int .u64 (id : Int), .int .u64 (num : Int), .bool bb, .slice sA rep.length sC] 64)).cell? ⟨g, 1, none⟩ = some (.slice At nt ct) := ((bel1N wx _).cell (p := ⟨g, 1, none⟩) HD.out.1.bk.lt).trans c1
        have hbA : Below wx.heap.size wx ((wx.drewN 1).alloc (.cells #[.int .u64 (id : Int), .int .u64 (num : Int), .bool bb, .slice sA rep.length sC] 64)) := ((Below.refl _ _).drew).alloc (Nat.le_refl _) _
        have HA : Hid (((wx.drewN 1).alloc (.cells #[.int .u64 (id : Int), .int .u64 (num : Int), .bool bb, .slice sA rep.length sC] 64)).ownsRow 0 64 4 (.slice At nt ct) nt (clC es)) := Lib.hid (by have := (HD.out.1.below hbA).row.own; rwa [← HD.out.1.len] at this)
        have HC1 : Hid (∀ u ∈ [Value.int .u64 (id : Int), .int .u64 (num : Int), .bool bb, .slice sA rep.length sC], u.oneCell' = true) := Lib.hid (by
          intro u hu
          simp only [List.mem_cons, List.not_mem_nil, or_false] at hu
          rcases hu with rfl | rfl | rfl | rfl <;> rfl)
        have HP : Hid (∀ v' w3, App ((wx.drewN 1).alloc (.cells #[.int .u64 (id : Int), .int .u64 (num : Int), .bool bb, .slice sA rep.length sC] 64)) w3 0 64 4 (.slice At nt ct) v' nt 1 (clC es) [Value.int .u64 (id : Int), .int .u64 (num : Int), .bool bb, .slice sA rep.length sC] →
            w3.cell? ⟨g, 1, none⟩ = some (.slice At nt ct) ∧ w3.frozen? ⟨g, 1, none⟩ = false ∧ Hid (LqI w R g M R l rm 0 (row ++ [⟨id, num, bb, rep⟩]) (w3.setCell ⟨g, 1, none⟩ v'))) := Lib.hid fun v' w3 happ => by
          have hlo := HL.out.2
          have hG := HD.out.2
          have hge := HL.out.1.i.ge
          have hR := HL.out.1.lt
          have hG2 : ∀ j, (G j ∨ (Value.slice sA rep.length sC).ownBlock = some j) → R < j ∧ w.heap.size ≤ j := by
            rintro j (e | e)
            · exact ⟨(hG j e).1, (hG j e).2.1⟩
            · have := (hlo.lt j e).1
              exact ⟨by omega, by omega⟩
          have hd2 := HD.out.1.mono (G' := fun j => G j ∨ (Value.slice sA rep.length sC).ownBlock = some j) (fun j e => .inl e) (by
            rintro j (e | e)
            · exact HD.out.1.lt j e
            · exact (hlo.lt j e).2)
          obtain ⟨k1, k2, H⟩ := DT.push (cl := ⟨id, num, bb, rep⟩) (s := (sA, rep.length, sC)) hd2 hbA happ (own_base hlo (Nat.zero_le _)) (fun j e => .inr e)
          refine ⟨k1, k2, Lib.hid ?_⟩
          obtain ⟨A', c', G', rfl, hd', hm⟩ := H.out
          refine ⟨⟨G', A', nt + 1, c', _, hd', fun j hj => ?_⟩, HL.out.1.i.dr.kp hm.kp (fun j e => (hG2 j e).1), HBel.out.trans (hm.kp.below (fun j e => (hG2 j e).2) HBel.out.size), hge⟩
          rcases hm.new j hj with h' | h'
          · have := hG2 j h'
            exact ⟨this.1, this.2, by omega⟩
          · have h1 := HL.out.1.i.dr.lt
            have h2 := HBel.out.size
            exact ⟨by omega, by omega, by omega⟩
        obtain ⟨iw, hiw, hzw, hsw, hbw⟩ := info_parts Try.infoClient
        have Hiw := Lib.hid hiw
        have Hzw := Lib.hid hzw
        have Hsw := Lib.hid hsw
        have Hbw := Lib.hid hbw
        clear hf HRD HIe hbA hiw hzw hsw hbw hnum
        subst hIk
        go_wp2_with fail
        go_region_law ((refine step_append_app _ rfl _ _ 47 (by rfl) 0 64 iw _ 4 48 Try.underlying47 Hiw.out Hzw.out Hsw.out Hbw.out rfl (.slice At nt ct) nt _ (by rfl) HA.out (some ⟨wx.heap.size, 0, none⟩) 1 1 [Value.int .u64 (id : Int), .int .u64 (num : Int), .bool bb, .slice sA rep.length sC] (by rfl) (by rfl) (by intro e; cases e) (new_cells _ _ _ rfl) HC1.out (by unfold maxLen; omega) (by omega) (by simp) ?_); intro v' w3 happ; (obtain ⟨Av', cv', rfl, _⟩ := own_shape happ.own); (obtain ⟨k2, kf, HX⟩ := HP.out _ _ happ))
        all_goals
          clear happ c1 c1a b0 b1 b2 b3 cE HA HP HC1 HL HD
          go_wp2
          go_roundg jo
          case measure => omega
          case rel => exact ⟨k + 1, rm, 0, _, by go_num, by omega, HYs, HX⟩
    · obtain rfl : k = N := by omega
      obtain rfl : gk = 0 := by omega
      have m3 : ¬ (k : Int) < (k : Int) := by omega
      have hR0 : rdN r2 0 [] k = some row := HRk.out.1
      have HOk : Hid (Tb.Ok ⟨M, row, 0, 0⟩) := Lib.hid (rowOk hR0 (by omega) (by omega) (by omega))
      have HRr : Hid (r = if encT ⟨M, row, 0, 0⟩ = l then some ⟨M, row, 0, 0⟩ else none) := Lib.hid (by rw [HR.out, hR0]; rfl)
      obtain ⟨G, At, nt, ct, es, hd, hG⟩ := HI.out.d
      have HSv := Lib.hid (rsave_any hd HOk.out)
      have HD := Lib.hid (And.intro hd (And.intro hG HI.out.bel))
      clear hd hG HI HRk hR0 HR
      go_wp2_with fail
      refine HSv.out.mono ?_
      clear HSv
      rintro e w9 ⟨A9, c9, rfl, H9⟩
      have k1 := (Rd.of_own H9.out.1).str Try.underlying33 Try.underlying5 Try.underlying9 c9
      have k2 := (HRd.out.below (HD.out.2.2.trans (H9.out.2.mono HD.out.2.2.size))).str Try.underlying33 Try.underlying5 Try.underlying9 c
      have HD9 : Hid (DT w9 G g ⟨M, row, 0, 0⟩ At nt ct es ∧ (∀ j, G j → w.heap.size ≤ j) ∧ Below w.heap.size w w9) := Lib.hid ⟨HD.out.1.below H9.out.2, fun j hj => (HD.out.2.1 j hj).2.1, HD.out.2.2.trans (H9.out.2.mono HD.out.2.2.size)⟩
      obtain ⟨E, hE⟩ : ∃ E, E = encT ⟨M, row, 0, 0⟩ := ⟨_, rfl⟩
      rw [← hE] at k1 HRr
      rw [← hE]
      clear H9 HD hE
      by_cases hEl : E = l
      · have hrs : r = some ⟨M, row, 0, 0⟩ := by rw [HRr.out, if_pos hEl]
        subst hEl
        go_wp2
        refine bodyPost_ret (by simp [results, Try.results27, go_sem]; try rfl) rfl ?_
        exact .inr ⟨_, g, G, At, nt, ct, es, hrs, rfl, HD9⟩
      · have hrn : r = none := by rw [HRr.out, if_neg hEl]
        have n1 : (E == l) = false := by simpa using hEl
        have n2 : (E != l) = true := by simpa using hEl
        go_wp2
        refine bodyPost_ret (by simp [results, Try.results27, go_sem]; try rfl) rfl ?_
        exact .inl ⟨hrn, rfl, Lib.hid HD9.out.2.2⟩
end Go.Proofs.Ytgippbbbfpkhhaa
