/- The program's proposer: what turns of it, in memory. -/
import Derived.Test.YthkkkldkpdkabaaProA
namespace Go.Proofs.Ythkkkldkpdkabaa
open Go.RowKit Go.Maps

section
variable {β γ : Type}
theorem putK_on (f : β → γ) (k : Nat) (v : β) (L : List (Nat × β)) : onK f (putK k v L) = putK k (f v) (onK f L) := by
  unfold putK
  rw [insK_on, delK_on]
theorem insK_front (x : Nat × β) : ∀ L : List (Nat × β), (∀ p ∈ L, x.1 < p.1) → insK x L = x :: L
  | [], _ => rfl
  | y :: r, h => by
    unfold insK
    rw [if_pos (h y (List.mem_cons_self ..))]
theorem putK_same {k : Nat} {v : β} : ∀ {L : List (Nat × β)}, SrtK L → getK L k = some v → putK k v L = L
  | [], _, h => by cases h
  | y :: r, hs, h => by
    have hs' := hs
    unfold SrtK at hs
    rw [List.pairwise_cons] at hs
    by_cases hk : y.1 = k
    · have e : y = (k, v) := by
        unfold getK at h
        have h1 : (y.1 == k) = true := by simpa using hk
        simp only [List.find?_cons, h1] at h
        have h2 : y.2 = v := by simpa using h
        exact Prod.ext hk h2
      subst e
      unfold putK
      have e2 : delK k ((k, v) :: r) = r := delK_head hs'
      rw [e2]
      exact insK_front (k, v) r hs.1
    · have h1 : (y.1 == k) = false := by simpa using hk
      have h2 : getK r k = some v := by
        unfold getK at h ⊢
        simpa only [List.find?_cons, h1] using h
      have ih := putK_same (L := r) hs.2 h2
      have hlt : y.1 < k := hs.1 _ (getK_mem h2)
      unfold putK at ih ⊢
      have e2 : delK k (y :: r) = y :: delK k r := by
        unfold delK
        simp [h1]
      rw [e2]
      show (if k < y.1 then _ else y :: insK (k, v) (delK k r)) = y :: r
      rw [if_neg (by omega), ih]
end
section
variable {w w' : World} {F G : Nat → Prop} {g bt bp n c : Nat} {A : Option Addr} {p : Pp} {ts : List Tle} {ps : List Pze}
theorem PPm.gt (h : PPm w F g bt bp A n c p ts ps) : g ≠ bt ∧ g ≠ bp := ⟨h.tmap.off_bk h.bk, h.pmap.off_bk h.bk⟩
theorem bk_types {w : World} {g g' : Nat} {t t' : TypeId} {cs cs' : Array Value} (h : Bk w g t cs) (h' : Bk w g' t' cs') (hne : t ≠ t') : g ≠ g' := by
  rintro rfl
  unfold Bk at h h'
  rw [h] at h'
  injection h' with h'
  injection h' with _ h'
  exact hne h'
theorem bk_off {w : World} {g : Nat} {t : TypeId} {cs : Array Value} (h : Bk w g t cs) {base e size n : Nat} {v : Value} {xs : List Value} (ho : w.ownsRow base e size v n xs) (hne : t ≠ e) : ∀ k, v.ownBlock = some k → k ≠ g := by
  rintro k e1 rfl
  rcases ho.2 with ⟨rfl, _⟩ | ⟨g', cap, cur, rfl, _, hh, _⟩
  · cases e1
  · simp only [Value.ownBlock, Option.some.injEq] at e1
    subst e1
    unfold Bk at h
    rw [h] at hh
    injection hh with hh
    injection hh with _ hh
    exact hne hh
theorem PPm.tput (h : PPm w F g bt bp A n c p ts ps) {k : Nat} (hk : k < 18446744073709551616) {t : Tl} {s : Sl} (ho : w.ownsRow 0 5 1 (slV s) t.val.length (u8s t.val)) (hn : p.told.length < maxLen) (hok : Pp.Ok { p with told := putK k t p.told }) :
    ∃ w', (Instr.mapUpdate 78 (.map (some bt)) (.int .u64 (k : Int)) (tmV (t.node, t.bal, s))).run Try.prog w = .ok () w' ∧
      PPm w' (fun j => F j ∨ (slV s).ownBlock = some j) g bt bp A n c { p with told := putK k t p.told } (putK k (t, s) ts) ps ∧ Kp (fun j => j = bt) w w' := by
  obtain ⟨w', hrun, hm, hkp⟩ := h.tmap.put Try.underlying78 (by rw [onK_len, h.len.1]; exact hn) k hk (t.node, t.bal, s)
  have hT : OwnB tmE w' bt (putK k (t, s) ts).length (onK tlM (putK k (t, s) ts)) := by
    rw [putK_on]
    have e : (putK k (t, s) ts).length = (putK k (tlM (t, s)) (onK tlM ts)).length := by rw [← putK_on, onK_len]
    rw [e]
    exact hm
  refine ⟨w', hrun, ⟨h.bk.kp hkp h.gt.1, ?_, hT, h.pmap.kp hkp (fun e => h.tne e.symm), fun e he => ?_, fun e he => (h.peach e he).kp hkp (h.tmap.off_bk (h.peach e he)), fun e he => own_kp (h.pval e he) hkp (fun j e1 e2 => h.tmap.off (h.pval e he) j e1 e2), h.pinj, ?_, h.peq, hok, h.qi, .inl h.fg, .inl h.ft, .inl h.fp, h.tne, fun e he j hj => ?_, fun e he => .inl (h.pf e he), fun e he j hj => .inl (h.vf e he j hj), fun j hj => ?_⟩, hkp⟩
  · exact h.sit.keep hkp (fun hn j e1 e2 => h.tmap.off (h.sit.own hn) j e1 e2) (fun _ h => .inl h)
  · rcases putK_mem he with rfl | ⟨he, _⟩
    · exact own_kp ho hkp (fun j e1 e2 => h.tmap.off ho j e1 e2)
    · exact own_kp (h.teach e he) hkp (fun j e1 e2 => h.tmap.off (h.teach e he) j e1 e2)
  · rw [putK_on, h.teq]
  · rcases putK_mem he with rfl | ⟨he, _⟩
    · exact .inr hj
    · exact .inl (h.tf e he j hj)
  · rcases hj with hj | hj
    · exact Nat.lt_of_lt_of_le (h.lt j hj) hkp.size
    · exact Nat.lt_of_lt_of_le (ho.lt j hj).2 hkp.size
theorem PPm.pput (h : PPm w F g bt bp A n c p ts ps) {k : Nat} (hk : k < 18446744073709551616) {z : Pz} {gz : Nat} {s : Sl} (ho : w.ownsRow 0 5 1 (slV s) z.val.length (u8s z.val)) (hz : Bk w gz 103 (pzA (z, (gz, s)))) (hnew : ∀ e ∈ ps, e.2.2.1 ≠ gz)
    (hn : p.props.length < maxLen) (hok : Pp.Ok { p with props := putK k z p.props }) :
    ∃ w', (Instr.mapUpdate 79 (.map (some bp)) (.int .u64 (k : Int)) (.pointer (some ⟨gz, 0, none⟩))).run Try.prog w = .ok () w' ∧
      PPm w' (fun j => F j ∨ j = gz ∨ (slV s).ownBlock = some j) g bt bp A n c { p with props := putK k z p.props } ts (putK k (z, (gz, s)) ps) ∧ Kp (fun j => j = bp) w w' := by
  obtain ⟨w', hrun, hm, hkp⟩ := h.pmap.put Try.underlying79 (by rw [onK_len, h.len.2]; exact hn) k hk (some gz)
  have hT : OwnB prE w' bp (putK k (z, (gz, s)) ps).length (onK pzM (putK k (z, (gz, s)) ps)) := by
    rw [putK_on]
    have e : (putK k (z, (gz, s)) ps).length = (putK k (pzM (z, (gz, s))) (onK pzM ps)).length := by rw [← putK_on, onK_len]
    rw [e]
    exact hm
  refine ⟨w', hrun, ⟨h.bk.kp hkp h.gt.2, ?_, h.tmap.kp hkp h.tne, hT, fun e he => own_kp (h.teach e he) hkp (fun j e1 e2 => h.pmap.off (h.teach e he) j e1 e2), fun e he => ?_, fun e he => ?_, fun e he e' he' hee => ?_, h.teq, ?_, hok, h.qi, .inl h.fg, .inl h.ft, .inl h.fp, h.tne, fun e he j hj => .inl (h.tf e he j hj), fun e he => ?_, fun e he j hj => ?_, fun j hj => ?_⟩, hkp⟩
  · exact h.sit.keep hkp (fun hn j e1 e2 => h.pmap.off (h.sit.own hn) j e1 e2) (fun _ h => .inl h)
  · rcases putK_mem he with rfl | ⟨he, _⟩
    · exact hz.kp hkp (h.pmap.off_bk hz)
    · exact (h.peach e he).kp hkp (h.pmap.off_bk (h.peach e he))
  · rcases putK_mem he with rfl | ⟨he, _⟩
    · exact own_kp ho hkp (fun j e1 e2 => h.pmap.off ho j e1 e2)
    · exact own_kp (h.pval e he) hkp (fun j e1 e2 => h.pmap.off (h.pval e he) j e1 e2)
  · rcases putK_mem he with rfl | ⟨he, _⟩
    · rcases putK_mem he' with rfl | ⟨he', _⟩
      · rfl
      · exact absurd hee.symm (hnew e' he')
    · rcases putK_mem he' with rfl | ⟨he', _⟩
      · exact absurd hee (hnew e he)
      · exact h.pinj e he e' he' hee
  · rw [putK_on, h.peq]
  · rcases putK_mem he with rfl | ⟨he, _⟩
    · exact .inr (.inl rfl)
    · exact .inl (h.pf e he)
  · rcases putK_mem he with rfl | ⟨he, _⟩
    · exact .inr (.inr hj)
    · exact .inl (h.vf e he j hj)
  · rcases hj with hj | rfl | hj
    · exact Nat.lt_of_lt_of_le (h.lt j hj) hkp.size
    · exact Nat.lt_of_lt_of_le hz.lt hkp.size
    · exact Nat.lt_of_lt_of_le (ho.lt j hj).2 hkp.size
/-- Cells of the proposer's own block are written. -/
theorem PPm.turn (h : PPm w F g bt bp A n c p ts ps) {p' : Pp} (hb : Bk w' g 81 (ppA p' (.slice A n c) bt bp)) (hk : Kp (fun j => j = g) w w') (hq : p'.q = p.q) (ht : p'.told = p.told) (hp : p'.props = p.props) (hok : p'.Ok) : PPm w' F g bt bp A n c p' ts ps := by
  refine ⟨hb, ?_, h.tmap.kp hk (fun e => h.gt.1 e.symm), h.pmap.kp hk (fun e => h.gt.2 e.symm), fun e he => own_kp (h.teach e he) hk (bk_off h.bk (h.teach e he) (by decide)), fun e he => (h.peach e he).kp hk (bk_types (h.peach e he) h.bk (by decide)), fun e he => own_kp (h.pval e he) hk (bk_off h.bk (h.pval e he) (by decide)), h.pinj, by rw [ht]; exact h.teq, by rw [hp]; exact h.peq, hok, by rw [hq]; exact h.qi, h.fg, h.ft, h.fp, h.tne, h.tf, h.pf, h.vf, fun j hj => Nat.lt_of_lt_of_le (h.lt j hj) hk.size⟩
  rw [hq]
  exact h.sit.keep hk (fun hn => bk_off h.bk (h.sit.own hn) (by decide)) (fun _ h => h)
/-- A node more has accepted. -/
theorem PPm.aput (h : PPm w F g bt bp A n c p ts ps) {k : Nat} {x : Pz × (Nat × Sl)} (hx : (k, x) ∈ ps) (a : Nat) (hok : Pp.Ok { p with props := putK k ⟨x.1.val, a⟩ p.props }) :
    PPm (w.setCell ⟨x.2.1, 1, none⟩ (.int .u32 (a : Int))) F g bt bp A n c { p with props := putK k ⟨x.1.val, a⟩ p.props } ts (putK k (⟨x.1.val, a⟩, x.2) ps) := by
  have hkp : Kp (fun j => j = x.2.1) w (w.setCell ⟨x.2.1, 1, none⟩ (.int .u32 (a : Int))) := Kp.set_ (F := fun j => j = x.2.1) (p := ⟨x.2.1, 1, none⟩) rfl _
  have hb := h.peach _ hx
  have hs : SrtK ps := by have := h.ok.psrt; rw [← h.peq] at this; exact this.on
  have hget : getK ps k = some x := getK_of_mem hs hx
  have hpm : onK pzM (putK k (⟨x.1.val, a⟩, x.2) ps) = onK pzM ps := by
    rw [putK_on]
    refine putK_same (SrtK.on (f := fun _ => ()) ?_) (by rw [getK_on, hget]; rfl)
    unfold SrtK onK at *
    rw [List.map_map, List.pairwise_map]
    exact hs
  refine ⟨h.bk.kp hkp (bk_types h.bk hb (by decide)), h.sit.keep hkp (fun hn => bk_off hb (h.sit.own hn) (by decide)) (fun _ h => h), h.tmap.kp hkp (fun e => h.tmap.off_bk hb e.symm), ?_, fun e he => own_kp (h.teach e he) hkp (bk_off hb (h.teach e he) (by decide)), fun e he => ?_, fun e he => ?_, fun e he e' he' hee => ?_, h.teq, by rw [putK_on, h.peq], hok, h.qi, h.fg, h.ft, h.fp, h.tne, h.tf, fun e he => ?_, fun e he j hj => ?_, fun j hj => Nat.lt_of_lt_of_le (h.lt j hj) hkp.size⟩
  · rw [hpm]
    have := (h.pmap.kp hkp (fun e => h.pmap.off_bk hb e.symm)).tight
    have e2 : (putK k (⟨x.1.val, a⟩, x.2) ps).length = (onK pzM ps).length := by rw [← hpm, onK_len]
    rw [e2]
    exact this
  · rcases putK_mem he with rfl | ⟨he, hne⟩
    · exact hb.set_ 1 _
    · exact (h.peach e he).kp hkp (fun e2 => hne (by have := h.pinj e he (k, x) hx e2; rw [this]))
  · rcases putK_mem he with rfl | ⟨he, _⟩
    · have hv := own_kp (h.pval (k, x) hx) hkp (bk_off hb (h.pval (k, x) hx) (by decide))
      exact hv
    · exact own_kp (h.pval e he) hkp (bk_off hb (h.pval e he) (by decide))
  · rcases putK_mem he with rfl | ⟨he, hne⟩
    · rcases putK_mem he' with rfl | ⟨he', hne'⟩
      · rfl
      · exact absurd (h.pinj _ hx e' he' hee) (fun e2 => hne' (by rw [← e2]))
    · rcases putK_mem he' with rfl | ⟨he', hne'⟩
      · exact absurd (h.pinj e he _ hx hee) (fun e2 => hne (by rw [e2]))
      · exact h.pinj e he e' he' hee
  · rcases putK_mem he with rfl | ⟨he, _⟩
    · exact h.pf (k, x) hx
    · exact h.pf e he
  · rcases putK_mem he with rfl | ⟨he, _⟩
    · exact h.vf (k, x) hx j hj
    · exact h.vf e he j hj
end
end Go.Proofs.Ythkkkldkpdkabaa
