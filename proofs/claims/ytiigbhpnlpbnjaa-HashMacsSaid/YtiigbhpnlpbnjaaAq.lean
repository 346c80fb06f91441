/- append onto an empty slice that holds nothing; append of so many bytes 0. -/
import Derived.Test.YtiigbhpnlpbnjaaAp
import Derived.Lib.AppendZerosOnto
namespace Go.Proofs.Ytiigbhpnlpbnjaa
open Go.RowKit

theorem info5e : ∃ i, Try.prog.info? 5 = some i ∧ i.zero = some (.int .u8 0) ∧ i.size = 1 ∧ i.bytes = 1 := by
  have hp := info5p
  cases hi : Try.prog.info? 5 with
  | none => simp [hi] at hp
  | some i => simp only [hi, Option.map_some, Option.some.injEq, Prod.mk.injEq] at hp; exact ⟨i, rfl, hp⟩

theorem run_app_empty {w : World} {ty : TypeId} (g : Nat) {B : Nat} {A : Option Addr} {m : List Nat} (hr : Rd w B A m) (c : Nat) (hbig : m.length ≤ 100000000) (base : Nat) (hbase : base ≤ w.heap.size) (hg : base ≤ g) (hb : Blk w g 5 #[]) :
    ∃ v' w', (Builtin.append_ #[22, 22] ty #[.slice (some ⟨g, 0, none⟩) 0 0, .slice A m.length c]).run Try.prog w = .ok v' w' ∧ OwnB w' base v' m ∧ Below w.heap.size w w' := by
  obtain ⟨i, hi, hz, hs, hby⟩ := info5e
  by_cases h0 : m.length = 0
  · obtain rfl : m = [] := List.eq_nil_of_length_eq_zero h0
    refine ⟨.slice (some ⟨g, 0, none⟩) 0 0, w, ?_, ⟨by simp [B8], .inr ⟨g, 0, #[], rfl, hg, hb, Nat.le_refl _, Nat.zero_le _, rfl, rfl⟩⟩, Below.refl _ _⟩
    cases A with
    | none => simp [Builtin.append_, run_underlying Try.underlying22, sizeOf, typeInfo, hi, Builtin.lenOf, Builtin.firstCells, storeCells]
    | some ad => simp [Builtin.append_, run_underlying Try.underlying22, sizeOf, typeInfo, hi, Builtin.lenOf, Builtin.firstCells, storeCells, loadCells, loadCellsFrom]
  · obtain ⟨v', w', h1, h2, h3, _⟩ := run_app8 (ty := ty) (OwnB.nil w base) hr c (by simp; omega) hbase
    rw [List.nil_append] at h2
    refine ⟨v', w', ?_, h2, ⟨h3.os, h3.tape, h3.output, h3.size, fun k hk => h3.block k hk (by simp [Value.ownBlock])⟩⟩
    rw [← h1]
    obtain ⟨ad, rfl, _, _⟩ := hr (by omega)
    have hfit : Builtin.nextslicecap (0 + m.length) 0 * i.bytes ≤ 281474976710656 := growslice_fits (by omega) (by rw [hby]; omega)
    rw [Nat.zero_add] at hfit
    have hfit' : ¬ (281474976710656 < Builtin.nextslicecap m.length 0 * i.bytes) := by omega
    simp [Builtin.append_, run_underlying Try.underlying22, sizeOf, typeInfo, hi, Builtin.lenOf, Builtin.firstCells, h0, hfit', loadCells, loadCellsFrom]

theorem zc8 (k : Nat) : Builtin.zeroCells (Value.int .u8 0).cells k = B8 (List.replicate k 0) := by
  unfold Builtin.zeroCells B8
  apply Array.ext
  · simp [Value.cells]
  · intro i h1 h2
    simp [Value.cells, Nat.mod_one]
theorem own_grown {w : World} {base : Nat} (hbase : base ≤ w.heap.size) (l m : List Nat) (old : Nat) (h63 : l.length + m.length ≤ 100000000) :
    OwnB (w.drew.alloc (.cells ((B8 l).toList.toArray ++ B8 m ++ Builtin.zeroCells (Value.int .u8 0).cells (grownCap w (l.length + m.length) old 5 - (l.length + m.length))) 5)) base
      (.slice (some ⟨w.heap.size, 0, none⟩) (l.length + m.length) (grownCap w (l.length + m.length) old 5)) (l ++ m) := by
  have hge := grownCap_ge w (l.length + m.length) old 5
  have hcm : grownCap w (l.length + m.length) old 5 ≤ maxLen := grownCap_le_maxLen w (l.length + m.length) old 5 (by unfold maxLen; omega)
  unfold OwnB
  rw [List.length_append]
  refine ⟨by rw [B8_list]; simp, .inr ⟨w.heap.size, _, _, rfl, hbase, heap_alloc_new w.drew _, hge, hcm, ?_, ?_⟩⟩
  · simp only [Array.size_append, List.size_toArray, size_zeroCells, Array.length_toList, B8_size, Value.cells]
    simp
    omega
  · simp only [Array.toList_append, List.append_assoc, B8_list, List.map_append]
    rw [← List.append_assoc, Nat.mul_one]
    have : (List.map (fun (x : Nat) => Value.int .u8 (x : Int)) l ++ List.map (fun (x : Nat) => Value.int .u8 (x : Int)) m).length = l.length + m.length := by simp
    rw [← this]
    exact List.take_left
theorem run_zeros {w : World} {base : Nat} {ty : TypeId} {v : Value} {l : List Nat} (hown : OwnB w base v l) (k : Nat) (hbig : l.length + k ≤ 100000000) (hbase : base ≤ w.heap.size) :
    ∃ v' w', (Builtin.append_ #[22, 3] ty #[v, .int .i64 (k : Int)]).run Try.prog w = .ok v' w' ∧ OwnB w' base v' (l ++ List.replicate k 0) ∧ w.grownBy w' v.ownBlock := by
  obtain ⟨i, hi, hz, hs, hby⟩ := info5e
  have hw : IntKind.i64.wrap (k : Int) = k := by rw [IntKind.wrap_i64]; omega
  have hneg : ¬ ((k : Int) < 0) := by omega
  have h48i : ¬ (281474976710656 < (k : Int)) := by omega
  by_cases hk : k = 0
  · subst hk
    refine ⟨v, w, ?_, by simpa using hown, World.grownBy.refl w _⟩
    have hw0 : IntKind.i64.wrap 0 = 0 := by decide
    rcases hown.2 with ⟨rfl, _⟩ | ⟨g, cap, cur, rfl, _, _, hnc, _⟩
    · simp [Builtin.append_, run_underlying Try.underlying22, run_underlying Try.underlying3, sizeOf, typeInfo, hi, asInt, asIntOf, hw0]
    · simp [Builtin.append_, run_underlying Try.underlying22, run_underlying Try.underlying3, sizeOf, typeInfo, hi, asInt, asIntOf, hw0, hnc, storeCells]
  · rcases hown.2 with ⟨rfl, hn⟩ | ⟨g, cap, cur, rfl, hbg, hg, hnc, hcm, hcs, htake⟩
    · obtain rfl : l = [] := List.eq_nil_of_length_eq_zero hn
      have hr := Lib.run_append_grow_zeros (P := Try.prog) w 22 3 ty 5 i (.int .u8 0) .i64 .i64 Try.underlying22 Try.underlying3 hi hz none 0 0 [] (by simp [Builtin.firstCells]) k (by omega) (by omega) (by omega) (by omega) (by rw [hby]; omega) (growslice_fits (by omega) (by rw [hby]; omega))
      rw [Nat.zero_add] at hr
      have ho := own_grown hbase [] (List.replicate k 0) 0 (by simp; omega)
      simp only [List.length_nil, List.length_replicate, Nat.zero_add, List.nil_append] at ho ⊢
      refine ⟨_, _, hr, ?_, ⟨rfl, rfl, rfl, by simp, fun j hj _ => Below.heap_alloc w.drew _ j hj⟩⟩
      rw [zc8 k]
      exact ho
    · by_cases hroom : l.length + k ≤ cap
      · have hfit : l.length + (B8 (List.replicate k 0)).toList.length ≤ cur.size := by rw [hcs, B8_list]; simp; omega
        have hst := run_storeCells_at Try.prog g l.length 5 (B8 (List.replicate k 0)).toList 0 cur w hg (by simpa using hfit) (B8_oneCell _)
        simp only [Nat.add_zero] at hst
        refine ⟨.slice (some ⟨g, 0, none⟩) (l.length + k) cap, w.setRow g (cur.toList.take l.length ++ (B8 (List.replicate k 0)).toList ++ cur.toList.drop (l.length + (B8 (List.replicate k 0)).toList.length)).toArray, ?_, ?_, ⟨rfl, rfl, rfl, by simp, fun j _ hj => setRow_other w g j _ (fun e => hj (by simp [Value.ownBlock, e]))⟩⟩
        · simp [Builtin.append_, run_underlying Try.underlying22, run_underlying Try.underlying3, sizeOf, typeInfo, zeroValue, hi, hz, hs, hby, asInt, asIntOf, hw, hneg, h48i, hk, hroom, zc8, Addr.add_lit, hst]
        · unfold OwnB
          rw [List.length_append, List.length_replicate]
          refine ⟨by rw [B8_list]; simp, .inr ⟨g, cap, _, rfl, hbg, setRow_heap w g cur _ 5 _ hg, hroom, hcm, ?_, ?_⟩⟩
          · simp only [List.size_toArray, List.length_append, List.length_take, List.length_drop, Array.length_toList, B8_size, List.length_replicate]
            omega
          · rw [Nat.mul_one] at htake
            have e : (B8 (l ++ List.replicate k 0)).toList = (B8 l).toList ++ (B8 (List.replicate k 0)).toList := by simp [B8_list]
            rw [htake, e, Nat.mul_one]
            have : ((B8 l).toList ++ (B8 (List.replicate k 0)).toList).length = l.length + k := by simp [B8_list]
            rw [← this]
            exact List.take_left
      · have holds : ∀ j u, (B8 l).toList[j]? = some u → w.drew.cell? ((⟨g, 0, none⟩ : Addr).add j) = some u := hown.cells (g := g) rfl
        have hfc := run_firstCells_some (P := Try.prog) w.drew i.size l.length ⟨g, 0, none⟩ l.length cap (B8 l).toList (by rw [hs, B8_list]; simp) holds
        have hr := Lib.run_append_grow_zeros (P := Try.prog) w 22 3 ty 5 i (.int .u8 0) .i64 .i64 Try.underlying22 Try.underlying3 hi hz (some ⟨g, 0, none⟩) l.length cap (B8 l).toList hfc k (by omega) (by omega) (by omega) (by omega) (by rw [hby]; omega) (growslice_fits (by omega) (by rw [hby]; omega))
        have ho := own_grown hbase l (List.replicate k 0) cap (by simp; omega)
        simp only [List.length_replicate] at ho
        refine ⟨_, _, hr, ?_, ⟨rfl, rfl, rfl, by simp, fun j hj _ => Below.heap_alloc w.drew _ j hj⟩⟩
        rw [zc8 k]
        exact ho
end Go.Proofs.Ytiigbhpnlpbnjaa
