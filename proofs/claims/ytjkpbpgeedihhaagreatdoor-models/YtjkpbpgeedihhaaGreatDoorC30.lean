import Derived.Test.YtjkpbpgeedihhaaGreatDoorC29
import Derived.Test.YtjkpbpgeedihhaaGreatDoorRows
import Derived.Lib.LaidU8T
import Derived.PinnedBridge
set_option linter.all false
namespace Go.Proofs.YtjkpbpgeedihhaaGreatDoor
open Go.RowKit
open Go.Lib
/-- A variable's cell, in an array of one-cell strings. -/
theorem str_cell {W : World} {n : Nat} {t g : Nat} {name : String} {ds : List (DataW Unit)} (hn : Tryz.prog.globalNamed name = some g) (hy : (Tryz.prog.globals[g]?).map (·.type) = some t) (ht : Tryz.prog.underlying t = some (.array n 9)) (c9 : Tryz.prog.cellsOf 9 = 1)
    (h : VarReads Tryz.prog W name (.agg ds)) (i : Nat) (hi : i < n) (l : List UInt8) (hd : ds[i]? = some (.lit (.string l))) : W.cell? ⟨g, i, none⟩ = some (.string (mkS l)) := by
  obtain ⟨g', t', cs, fuel, p, hg, hty, hvar, hr⟩ := h
  obtain rfl := Option.some.inj (hn.symm.trans hg)
  obtain rfl := Option.some.inj (hy.symm.trans hty)
  obtain ⟨fuel', d, q, hdi, he⟩ := array_elem ht hr i hi
  obtain rfl := Option.some.inj (hd.symm.trans hdi)
  rw [c9, Nat.mul_one] at he
  obtain ⟨s, e1, e2, _⟩ := DataW.trod_string Tryz.underlying9 he
  have hs : s = mkS l := by
    have : l = s.data.toList := by simpa using congrArg Prod.fst e2
    rw [this, mkS_of]
  rw [World.var?_cell hg hvar i, ← hs, ← Array.getElem?_toList]
  have := congrArg (·[0]?) e1
  simpa [List.getElem?_take, List.getElem?_drop] using this
theorem mark_cell {W : World} {ds : List (DataW Unit)} (h : VarReads Tryz.prog W "ferry/markup.marks" (.agg ds)) (i : Nat) (hi : i < 5) (r : Int) (l : List UInt8) (hd : ds[i]? = some (.agg [.lit (.int .i32 r), .lit (.string l)])) :
    W.cell? ⟨4, i * 2, none⟩ = some (.int .i32 r) ∧ W.cell? ⟨4, i * 2 + 1, none⟩ = some (.string (mkS l)) := by
  obtain ⟨g', t', cs, fuel, p, hg, hty, hvar, hr⟩ := h
  obtain rfl := Option.some.inj ((show Tryz.prog.globalNamed "ferry/markup.marks" = some 4 by kernel_rfl).symm.trans hg)
  obtain rfl := Option.some.inj ((show (Tryz.prog.globals[4]?).map (·.type) = some 493 by kernel_rfl).symm.trans hty)
  obtain ⟨fuel', d, q, hdi, he⟩ := array_elem Tryz.underlying493 hr i hi
  obtain rfl := Option.some.inj (hd.symm.trans hdi)
  rw [show Tryz.prog.cellsOf 492 = 2 by kernel_rfl] at he
  obtain ⟨xs, n, _, ex, _, hlen, hf⟩ := DataW.trod_struct Tryz.underlying492 he
  have f0 : DataW.trod (fun _ => ()) Tryz.prog W 0 (fun _ => true) false n 21 ((((cs.toList.drop (i * 2)).take 2).drop 0).take (Tryz.prog.cellsOf 21)) = xs[0]? := hf 0 _ rfl
  have f1 : DataW.trod (fun _ => ()) Tryz.prog W 0 (fun _ => true) false n 9 ((((cs.toList.drop (i * 2)).take 2).drop 1).take (Tryz.prog.cellsOf 9)) = xs[1]? := hf 1 _ rfl
  rw [show Tryz.prog.cellsOf 21 = 1 by kernel_rfl] at f0
  rw [show Tryz.prog.cellsOf 9 = 1 by kernel_rfl] at f1
  match xs, hlen with
  | [y0, y1], _ =>
    obtain ⟨z, e1, e2, _⟩ := DataW.trod_int Tryz.underlying21 (show DataW.trod _ _ _ _ _ _ _ _ _ = some y0 from f0)
    obtain ⟨s, e3, e4, _⟩ := DataW.trod_string Tryz.underlying9 (show DataW.trod _ _ _ _ _ _ _ _ _ = some y1 from f1)
    subst e2 e4
    simp at ex
    obtain ⟨⟨rfl, rfl⟩, _⟩ := ex
    rw [mkS_of]
    have k1 := congrArg (·[0]?) e1
    have k2 := congrArg (·[0]?) e3
    simp [List.getElem?_take, List.getElem?_drop] at k1 k2
    refine ⟨?_, ?_⟩
    · rw [World.var?_cell hg hvar (i * 2)]; simpa [Nat.mul_comm] using k1
    · rw [World.var?_cell hg hvar (i * 2 + 1)]; simpa [Nat.mul_comm] using k2
theorem u8x : U8Extra Tryz.prog Tryz.laysValid_ren := ⟨by kernel_rfl, by kernel_rfl, by kernel_rfl, by kernel_rfl, by kernel_rfl, by kernel_rfl, by kernel_rfl⟩
theorem accept_same : (Rows.laid_unicode_utf8_acceptRanges : DataW Unit) = acceptData := by kernel_rfl
theorem pow_same : (Rows.laid_internal_strconv_uint64pow10 : DataW Unit) = tabData .u64 pow10Tab := by kernel_rfl
/-- What the row's condition gives. -/
theorem laid_of {W : World} (h : laidMet Tryz.prog Rows.modelsRow.laid W) : Laid W := by
  have hops := Lib.laidMet.reads h (n := "ferry/kinds.opNames") (d := Rows.laid_ferry_kinds_opNames) (by simp [Rows.modelsRow])
  have hmk := Lib.laidMet.reads h (n := "ferry/markup.marks") (d := Rows.laid_ferry_markup_marks) (by simp [Rows.modelsRow])
  have hpw := Lib.laidMet.reads h (n := "internal/strconv.uint64pow10") (d := Rows.laid_internal_strconv_uint64pow10) (by simp [Rows.modelsRow])
  have hac := Lib.laidMet.reads h (n := "unicode/utf8.acceptRanges") (d := Rows.laid_unicode_utf8_acceptRanges) (by simp [Rows.modelsRow])
  have hfi := Lib.laidMet.reads h (n := "unicode/utf8.first") (d := Rows.laid_unicode_utf8_first) (by simp [Rows.modelsRow])
  rw [accept_same] at hac
  rw [pow_same] at hpw
  rw [show Rows.laid_unicode_utf8_first = Pinned.utf8First from rfl, Pinned.utf8First_eq] at hfi
  have s := fun i hi l hd => str_cell (show Tryz.prog.globalNamed "ferry/kinds.opNames" = some 2 by kernel_rfl) (show (Tryz.prog.globals[2]?).map (·.type) = some 460 by kernel_rfl) Tryz.underlying460 (by kernel_rfl) hops i hi l hd
  have m := fun i hi r l hd => mark_cell hmk i hi r l hd
  refine ⟨⟨s 1 (by decide) _ rfl, s 2 (by decide) _ rfl, s 3 (by decide) _ rfl, s 0 (by decide) _ rfl⟩, ⟨(m 0 (by decide) _ _ rfl).1, (m 0 (by decide) _ _ rfl).2, (m 1 (by decide) _ _ rfl).1, (m 1 (by decide) _ _ rfl).2, (m 2 (by decide) _ _ rfl).1, (m 2 (by decide) _ _ rfl).2, (m 3 (by decide) _ _ rfl).1, (m 3 (by decide) _ _ rfl).2, (m 4 (by decide) _ _ rfl).1, (m 4 (by decide) _ _ rfl).2⟩, ?_, ?_⟩
  · exact utf8Tabs_of_readsT (U8Types.of196 Tryz.laysValid) u8x hfi hac
  · obtain ⟨g', t', cs, fuel, p, hg, hty, hvar, hr⟩ := hpw
    obtain rfl := Option.some.inj ((show Tryz.prog.globalNamed "internal/strconv.uint64pow10" = some 7 by kernel_rfl).symm.trans hg)
    obtain rfl := Option.some.inj ((show (Tryz.prog.globals[7]?).map (·.type) = some 510 by kernel_rfl).symm.trans hty)
    unfold TabIs
    rw [hvar, ← cells_of_tab Tryz.underlying510 Tryz.underlying449 (by kernel_rfl) (by kernel_rfl) hr]
end Go.Proofs.YtjkpbpgeedihhaaGreatDoor
