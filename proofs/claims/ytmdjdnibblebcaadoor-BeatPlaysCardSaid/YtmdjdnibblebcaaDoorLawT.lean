/- How a law over the listed table is lifted to its row, and to its card. -/
import Derived.Test.YtmdjdnibblebcaaDoorLaw
import Derived.Test.YtmdjdnibblebcaaDoorCards
import Derived.Test.YtmdjdnibblebcaaDoorTie
import Derived.Deep.DeepHandedRow
import Derived.Lib.LaidTab
import Derived.Test.YtmdjdnibblebcaaDoorBtT
namespace Go.Proofs.YtmdjdnibblebcaaDoor
open Go.ChangeShapes Go.WideShapes Go.ChangeAt Go.RowKit

theorem gTab_ : Tryd.prog.globalNamed "math/bits.deBruijn32tab" = some 0 := by kernel_rfl
theorem gTabType_ : (Tryd.prog.globals[0]?).map (·.type) = some 60 := by kernel_rfl
theorem cellsTab_ : Tryd.prog.cellsOf 60 = 32 := by kernel_rfl
theorem cellsU8_ : Tryd.prog.cellsOf 5 = 1 := by kernel_rfl
abbrev tabL : List (String × DataW Unit) := [("math/bits.deBruijn32tab", Rows.laid_math_bits_deBruijn32tab)]
theorem tab_ints : Rows.laid_math_bits_deBruijn32tab (H := Unit) = Lib.tabData .u8 (Lib.deBruijn32tab.map fun (n : Nat) => (n : Int)) := by rfl
theorem tz_of {W : World} (h : laidMetH Tryd.prog tabL W) : Tz W := by
  have h1 : Lib.TabIs Tryd.prog W "math/bits.deBruijn32tab" .u8 (Lib.deBruijn32tab.map fun (n : Nat) => (n : Int)) :=
    Lib.tabIs_of_head (rest := []) gTab_ gTabType_ Tryd.underlying60 Tryd.underlying5 cellsU8_ cellsTab_ (by rw [← tab_ints]; exact h)
  intro j hj
  have h2 := h1.cell gTab_ j (by simpa using hj)
  rw [h2]
  simp [List.getD, hj]
set_option maxRecDepth 100000 in
theorem law_lift_tab {H : Type} {enc : TypeId × Value → H} {os : Os} {fid : FuncId} {fn : Func} {s : ChangeSpec} {F : Stop.Interp} (started : os.Started) (noInit : Tryd.checked.prog.inits.idxOf? fid = none) (hfn : Tryd.checked.prog.funcs[fid]? = some fn)
    (witness : ∃ (w : World) (tape : Tape) (i : Input), w.os = os ∧ (w.forCall tape i).Shaped Tryd.checked.prog ∧ i.vars = [] ∧ Input.okWide Tryd.checked.prog (w.forCall tape i) .any w.heap.size fid i ∧
      (OpenSpec.ofChange s).preRow enc Tryd.checked.prog fn [] false tabL (w.forCall tape i).memory i.args ∧ Assume.holds {} Tryd.checked.prog (lone (Frame.enter Tryd.checked.prog fid i.args .normal) [] (w.forCall tape i)))
    (hvars : s.vars = []) (hs : ∀ ds : List (DataW H), ds.length = fn.params.size → s.fn H (ds ++ []) = { results := [.lit (.bool true)], args := ds, vars := [] })
    (hread : fn.params.toList.all (fun t => Tryd.prog.readableRec t && decide (t < Tryd.prog.types.size)) = true) (hres : fn.resultTypes = #[4])
    (walk : ∀ (W : World) (base : Nat) (args : Array Value) (ds : List (DataW H)) (p : List MemPlace), Given enc fn W base args ds p → Tz W → Calls Tryd.prog fid args W fun e W' => e = .returned (.bool true) ∧ Below W.heap.size W W') :
    ReturnsInHanded {} Tryd.checked os fid .any ((OpenSpec.ofChange s).preRow enc Tryd.prog fn [] false tabL) (((OpenSpec.ofChange s).at F).post enc Tryd.prog fn false true false false) := by
  refine returnsInHanded_of_row (C := Tryd.checked) (s := OpenSpec.ofChange s) ownKnob_ started noInit hfn witness ?_
  intro W base args ds gs before hval0 hW hcnd _ hsz hL _ _
  have hW' := hW
  obtain ⟨p, q, hA, hV, rfl, hfz, hnd⟩ := hW
  have hvars2 : (OpenSpec.ofChange s).vars = [] := hvars
  rw [hvars2] at hV
  obtain ⟨rfl, rfl⟩ := trodVars_none hV
  have hlt : ∀ x ∈ p, x.block < W.heap.size := fun x hx => by simpa using hW'.lt x (by simpa using hx)
  have hlen : ds.length = fn.params.size := by
    have : ∀ (ts : List TypeId) (vs : List Value) (ds : List (DataW H)) (p : List MemPlace), DataW.TrodAll enc Tryd.prog W 0 (fun _ => true) true ts vs ds p → ds.length = ts.length := by
      intro ts
      induction ts with
      | nil => intro vs ds p h; obtain ⟨_, rfl, _⟩ := trodAll_nil h; rfl
      | cons t ts ih => intro vs ds p h; obtain ⟨_, _, _, _, _, _, _, rfl, _, _, h2⟩ := trodAll_cons h; simp [ih _ _ _ h2]
    simpa using this _ _ _ _ hA
  have hty : (OpenSpec.ofChange s).bare.plain.varTypes Tryd.checked.prog = [] := by
    show s.plain.varTypes Tryd.checked.prog = []
    unfold ChangeSpec.plain DataSpec.varTypes
    simp [hvars]
  refine (walk W base args ds p ⟨hval0, hA, hlt, by rw [hty, List.append_nil, List.append_nil] at hsz; exact hsz⟩ (tz_of hL)).mono fun e W' ⟨he, bel⟩ => ?_
  subst he
  have e1 := hs ds hlen
  show ∃ v, _ ∧ s.post enc Tryd.prog fn false true false false W args v W'
  refine ⟨_, rfl, ds, [], p ++ [], [], p, [], hW', ?_, ?_, ?_, bel.frame _, fun h => by cases h⟩
  · rw [e1, hres]
    exact trodAll_mk1 (shut_bool Tryd.underlying4 _)
  · rw [e1]
    exact trodAll_below bel _ _ _ _ hread hlt hA
  · rw [e1, hvars]
    rfl

/-- A world for the witness: the settled one, the table holding what its initialiser lays. -/
noncomputable def laidWorld (os : Os) : World :=
  { World.holding Tryd.prog os ⟨#[], #[], []⟩ with heap := (World.holding Tryd.prog os ⟨#[], #[], []⟩).heap.modify 0 fun
      | .cells _ t frozen => .cells #[.int .u8 0, .int .u8 1, .int .u8 28, .int .u8 2, .int .u8 29, .int .u8 14, .int .u8 24, .int .u8 3, .int .u8 30, .int .u8 22, .int .u8 20, .int .u8 15, .int .u8 25, .int .u8 17, .int .u8 4, .int .u8 8, .int .u8 31, .int .u8 27, .int .u8 13, .int .u8 23, .int .u8 21, .int .u8 19, .int .u8 16, .int .u8 7, .int .u8 26, .int .u8 12, .int .u8 18, .int .u8 6, .int .u8 11, .int .u8 5, .int .u8 10, .int .u8 9] t frozen
      | o => o }
end Go.Proofs.YtmdjdnibblebcaaDoor
