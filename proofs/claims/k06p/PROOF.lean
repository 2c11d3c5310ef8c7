import PyProof.Rows.All
import Wide.All
import OpenK.AllK
import Wide.FinOn
import HandS.TupSets
import HandS.SetBool
import HandS.Base
import HandS.Call
import HandS.List
import HandS.Comp
import HandS.Dict
import HandS.Set
import PyProof.EqAt
import PyProof.EqKinds
import PyProof.TupleCall
import PyProof.Rows.SortShell
import KE.KSortTup
import HandS.SortOrd
import HandS.SortRule
import PyProof.MinMaxWalk
import PyProof.WalksMore
import HandS.ForMost
import HandS.FltList
import HandS.Conv
import HandS.DictComp
import HandS.Defaults
import HandS.Evl
import HandS.Property
import HandS.ClsMeth
import HandS.IsInst
import PyProof.DictUpdate
import HandS.FStr
import HandS.Exc
import HandS.Wide
import HandS.Deep
import HandS.DeepEq
import PyProof.P3In
import HandS.Zip
import HandS.Flow
import PyProof.FitsReplace
import HandS.Style
import KE.KDictZip
import HandS.Keys
import HandS.GenBody
import PySem.Challenge.RW_onehostmore_k06_knots_and_peaces

set_option Elab.async false
set_option linter.all false
set_option maxRecDepth 100000
set_option maxHeartbeats 8000000

/-! SxTab -/
/-! Tables of sets of up to 4,914 members: every slot is met in time, whatever the hashes. -/
namespace Sx
open PySem PySem.Spec PyProof.Rows L2

/-! ### the round of the slots, for all masks that come -/
def gather (m : Nat) : Nat → Nat → Nat → Nat
  | 0, _, bits => bits
  | left + 1, i, bits => gather m left ((i * 5 + 1) % (m + 1)) (bits ||| (1 <<< i))
theorem lcg_head (m i : Nat) : ∀ k, lcgI m ((i * 5 + 1) % (m + 1)) k = lcgI m i (k + 1)
  | 0 => rfl
  | k + 1 => congrArg (fun z => (z * 5 + 1) % (m + 1)) (lcg_head m i k)
theorem lcg_plus (m i a : Nat) : ∀ k, lcgI m (lcgI m i a) k = lcgI m i (a + k)
  | 0 => rfl
  | k + 1 => congrArg (fun z => (z * 5 + 1) % (m + 1)) (lcg_plus m i a k)
theorem gather_bit (m j : Nat) : ∀ left i bits, (gather m left i bits).testBit j = true → bits.testBit j = true ∨ ∃ k, k < left ∧ lcgI m i k = j
  | 0, _, _, h => .inl h
  | left + 1, i, bits, h => by
    rcases gather_bit m j left _ _ h with q | ⟨k, hk, e⟩
    · rw [Nat.testBit_or, Bool.or_eq_true] at q
      rcases q with q | q
      · exact .inl q
      · rw [Nat.one_shiftLeft, Nat.testBit_two_pow] at q
        exact .inr ⟨0, Nat.succ_pos _, of_decide_eq_true q⟩
    · exact .inr ⟨k + 1, Nat.succ_lt_succ hk, (lcg_head m i k).symm.trans e⟩
/-- the masks of tables with room for 4,914 -/
def Msk (m : Nat) : Prop := m = 7 ∨ m = 31 ∨ m = 127 ∨ m = 511 ∨ m = 2047 ∨ m = 8191
structure Round (m : Nat) : Prop where
  all : gather m (m + 1) 0 0 = 2 ^ (m + 1) - 1
  back : lcgI m 0 (m + 1) = 0
theorem round7 : Round 7 := ⟨by decide +kernel, by decide +kernel⟩
theorem round31 : Round 31 := ⟨by decide +kernel, by decide +kernel⟩
theorem round127 : Round 127 := ⟨by decide +kernel, by decide +kernel⟩
theorem round511 : Round 511 := ⟨by decide +kernel, by decide +kernel⟩
theorem round2047 : Round 2047 := ⟨by decide +kernel, by decide +kernel⟩
theorem round8191 : Round 8191 := ⟨by decide +kernel, by decide +kernel⟩
theorem Msk.round {m : Nat} (h : Msk m) : Round m := by
  rcases h with e | e | e | e | e | e
  · rw [e]; exact round7
  · rw [e]; exact round31
  · rw [e]; exact round127
  · rw [e]; exact round511
  · rw [e]; exact round2047
  · rw [e]; exact round8191
theorem Msk.odd {m : Nat} (h : Msk m) : m % 2 = 1 := by
  rcases h with e | e | e | e | e | e <;> rw [e]
theorem Msk.big {m : Nat} (h : Msk m) : m ≤ 8191 := by
  rcases h with e | e | e | e | e | e <;> rw [e] <;> decide
theorem Round.some {m : Nat} (r : Round m) {j : Nat} (hj : j ≤ m) : ∃ k, k ≤ m ∧ lcgI m 0 k = j := by
  have b : (gather m (m + 1) 0 0).testBit j = true := by
    rw [r.all, Nat.testBit_two_pow_sub_one]
    exact decide_eq_true (Nat.lt_succ_of_le hj)
  rcases gather_bit m j _ _ _ b with q | ⟨k, hk, e⟩
  · simp at q
  · exact ⟨k, Nat.le_of_lt_succ hk, e⟩
theorem Round.turn {m : Nat} (r : Round m) (k : Nat) : lcgI m 0 (m + 1 + k) = lcgI m 0 k := by
  rw [← lcg_plus, r.back]
theorem Msk.all {m : Nat} (h : Msk m) {i j : Nat} (hi : i ≤ m) (hj : j ≤ m) : ∃ k, k ≤ m ∧ lcgI m i k = j := by
  obtain ⟨a, ha, ea⟩ := h.round.some hi
  obtain ⟨b, hb, eb⟩ := h.round.some hj
  subst ea
  by_cases c : a ≤ b
  · refine ⟨b - a, by omega, ?_⟩
    rw [lcg_plus, Nat.add_sub_of_le c, eb]
  · refine ⟨m + 1 + b - a, by omega, ?_⟩
    rw [lcg_plus, Nat.add_sub_of_le (by omega), h.round.turn, eb]
/-- each slot begins one of the first runs -/
theorem Msk.run {m : Nat} (hm : Msk m) (h : Int) {j : Nat} (hj : j ≤ m) : ∃ n, n ≤ m + 12 ∧ runI m (SetTable.bits h) n = j := by
  obtain ⟨k, hk, e⟩ := hm.all (runI_le m (SetTable.bits h) 12) hj
  exact ⟨12 + k, by omega, (runI_tail (bits_lt h) k).trans e⟩
theorem Msk.meets {m : Nat} (hm : Msk m) (h : Int) {j : Nat} (hj : j ≤ m) : ∃ k, k < 10 * SetTable.turns m ∧ way m h k = j := by
  obtain ⟨n, hn, e⟩ := hm.run h hj
  obtain ⟨k, hk, e2⟩ := run_nth m (SetTable.bits h) n
  refine ⟨k, by unfold SetTable.turns; omega, ?_⟩
  show (nth m (runAt m (SetTable.bits h % (m + 1)) (SetTable.bits h)) k).j = j
  rw [e2]
  exact e
theorem way_in {m : Nat} (h : Int) (k : Nat) : way m h k ≤ m := by
  have hi : SetTable.bits h % (m + 1) ≤ m := Nat.le_of_lt_succ (Nat.mod_lt _ (Nat.succ_pos _))
  obtain ⟨a, b, _⟩ := runEnd_bd hi
  have q := nth_in k (runAt m (SetTable.bits h % (m + 1)) (SetTable.bits h)) (m := m) (by
    show SetTable.bits h % (m + 1) + (SetTable.runEnd m (SetTable.bits h % (m + 1)) - SetTable.bits h % (m + 1)) ≤ m
    omega)
  exact Nat.le_trans (Nat.le_add_right _ _) q

/-! ### a table in which all is found again -/
structure Tb (t : SetTable) (hs : List Int) : Prop where
  up : Ris t.place.toList
  nod : t.dummies = #[]
  len : t.place.size = hs.length
  msk : Msk t.mask
  low : ∀ x ∈ t.place.toList, x ≤ t.mask
  again : ∀ (i : Nat) (h : Int) (j : Nat), hs[i]? = some h → t.place.toList[i]? = some j → ∃ k, way t.mask h k = j ∧ ∀ c, c < k → way t.mask h c ∈ t.place.toList
/-- K is the first free step of h -/
structure Fst (t : SetTable) (h : Int) (K : Nat) : Prop where
  free : way t.mask h K ∉ t.place.toList
  full : ∀ c, c < K → way t.mask h c ∈ t.place.toList
theorem Tb.first {t : SetTable} {hs : List Int} (T : Tb t hs) (hl : hs.length ≤ t.mask) (h : Int) : ∃ K, K < 10 * SetTable.turns t.mask ∧ Fst t h K := by
  obtain ⟨j, hj, hn⟩ := st_missing t.place.toList (t.mask + 1) (by rw [Array.length_toList, T.len]; omega)
  obtain ⟨k, hk, e⟩ := T.msk.meets h (Nat.le_of_lt_succ hj)
  have start : way t.mask h k ∉ t.place.toList := fun z => hn (e ▸ z)
  obtain ⟨K, a, b, c⟩ := st_least (p := fun k => way t.mask h k ∉ t.place.toList) k start
  exact ⟨K, Nat.lt_of_le_of_lt a hk, b, fun q hq => Classical.byContradiction fun z => c q hq z⟩
/-- what has this hash stands ahead of the first free step -/
theorem Tb.ahead {t : SetTable} {hs : List Int} (T : Tb t hs) {h : Int} {K i j : Nat} (F : Fst t h K) (hi : hs[i]? = some h) (hj : t.place.toList[i]? = some j) : ∃ k, k < K ∧ way t.mask h k = j := by
  obtain ⟨k, e, b⟩ := T.again i h j hi hj
  refine ⟨k, ?_, e⟩
  rcases Nat.lt_or_ge k K with c | c
  · exact c
  · exfalso
    rcases Nat.lt_or_ge K k with d | d
    · exact F.free (b K d)
    · have ek : k = K := Nat.le_antisymm d c
      subst ek
      rw [← e] at hj
      exact F.free (List.mem_of_getElem? hj)
/-- how many stand ahead of the step's slot -/
abbrev bel (t : SetTable) (h : Int) (K : Nat) : Nat := SetTable.below t.place (way t.mask h K)
theorem Tb.bel_le {t : SetTable} {hs : List Int} (T : Tb t hs) (h : Int) (K : Nat) : bel t h K ≤ hs.length := by
  have q := (below_cut T.up (way t.mask h K)).1
  rw [← T.len]
  exact q
theorem Tb.put {t : SetTable} {hs : List Int} (T : Tb t hs) {h : Int} {K : Nat} (F : Fst t h K) : Tb (t.put (way t.mask h K)).1 (hs.take (bel t h K) ++ h :: hs.drop (bel t h K)) := by
  have pl := put_place t (way t.mask h K)
  have b1 := T.bel_le h K
  have len0 : t.place.toList.length = hs.length := by rw [Array.length_toList]; exact T.len
  have b2 : bel t h K ≤ t.place.toList.length := by rw [len0]; exact b1
  have more : ∀ {x : Nat}, x ∈ t.place.toList → x ∈ (t.put (way t.mask h K)).1.place.toList := fun {x} z => by
    rw [pl]
    exact mem_ins.2 (.inr z)
  refine ⟨ris_insert T.up fun z => ?_, put_dm T.nod _, ?_, T.msk, fun x z => ?_, fun i g j e1 e2 => ?_⟩
  · exact F.free (List.mem_of_getElem? (by rw [Array.getElem?_toList]; exact z))
  · rw [len_ins _ b1, ← Array.length_toList, pl, len_ins _ b2, len0]
  · rw [pl] at z
    rcases mem_ins.1 z with z | z
    · rw [z]
      exact way_in h K
    · exact T.low x z
  · rw [tins_get _ b1] at e1
    rw [pl, tins_get _ b2] at e2
    rcases Nat.lt_trichotomy i (bel t h K) with c | c | c
    · rw [if_pos c] at e1 e2
      obtain ⟨k, e, z⟩ := T.again i g j e1 e2
      exact ⟨k, e, fun q hq => more (z q hq)⟩
    · rw [if_neg (by omega), if_pos c] at e1 e2
      cases e1
      cases e2
      exact ⟨K, rfl, fun q hq => more (F.full q hq)⟩
    · rw [if_neg (by omega), if_neg (by omega)] at e1 e2
      obtain ⟨k, e, z⟩ := T.again (i - 1) g j e1 e2
      exact ⟨k, e, fun q hq => more (z q hq)⟩
theorem Tb.fill {t : SetTable} {hs : List Int} (T : Tb t hs) {h : Int} {K : Nat} (F : Fst t h K) : (t.put (way t.mask h K)).1.fill = hs.length + 1 := by
  have a := (T.put F).len
  rw [len_ins _ (T.bel_le h K)] at a
  show (t.put (way t.mask h K)).1.place.size + (t.put (way t.mask h K)).1.dummies.size = hs.length + 1
  rw [a, put_dm T.nod]
  rfl

/-! ### all laid anew -/
theorem find_free {m : Nat} (hm : Msk m) (owner : Array (Option Nat)) (h : Int) {j : Nat} (hj : j ≤ m) (hf : oAt owner j = none) :
    ∃ K, SetTable.layClean.free m owner (SetTable.turns m) (SetTable.bits h % (m + 1)) (SetTable.bits h) = some (way m h K) ∧ oAt owner (way m h K) = none ∧ ∀ c, c < K → oAt owner (way m h c) ≠ none := by
  obtain ⟨n, hn, e⟩ := hm.run h hj
  have there : way m h (off m (SetTable.bits h % (m + 1)) (SetTable.bits h) n) = j := by
    unfold way
    rw [nth_off, itL_run]
    exact e
  obtain ⟨K, a, b, c⟩ := st_least (p := fun k => oAt owner (way m h k) = none) _ (show oAt owner (way m h (off m (SetTable.bits h % (m + 1)) (SetTable.bits h) n)) = none by rw [there]; exact hf)
  refine ⟨K, free_spec m owner (SetTable.turns m) n _ _ K (by unfold SetTable.turns; omega) a (fun k hk => ?_) ?_, b, c⟩
  · have q := c k hk
    rw [Option.isNone_eq_false_iff]
    exact Option.isSome_iff_ne_none.mpr q
  · rw [Option.isNone_iff_eq_none]
    exact b
theorem own_step {m : Nat} (hm : Msk m) {done : List Int} {owner : Array (Option Nat)} (W : Own m done owner) (hl : done.length ≤ m) (h : Int) :
    ∃ j, SetTable.layClean.free m owner (SetTable.turns m) (SetTable.bits h % (m + 1)) (SetTable.bits h) = some j ∧ Own m (done ++ [h]) (owner.setIfInBounds j (some done.length)) := by
  obtain ⟨ps, n1, n2⟩ := W.ps
  obtain ⟨j0, l0, z0⟩ := st_missing ps (m + 1) (by omega)
  have f0 : oAt owner j0 = none := Classical.byContradiction fun z => z0 (n2 j0 (Nat.le_of_lt_succ l0) z)
  obtain ⟨K, e1, e2, e3⟩ := find_free hm owner h (Nat.le_of_lt_succ l0) f0
  have inside : way m h K < owner.size := by
    rw [W.sz]
    exact Nat.lt_succ_of_le (way_in h K)
  have here := oAt_set_self (some done.length) inside
  have stay : ∀ {i : Nat}, oAt owner i ≠ none → oAt (owner.setIfInBounds (way m h K) (some done.length)) i ≠ none := fun {i} z => by
    by_cases c : i = way m h K
    · rw [c, here]
      exact fun q => nomatch q
    · rw [oAt_set_ne _ c]
      exact z
  refine ⟨way m h K, e1, ?_, fun j k hj e => ?_, fun k hk => ?_, way m h K :: ps, ?_, fun j hj e => ?_⟩
  · rw [Array.size_setIfInBounds]
    exact W.sz
  · by_cases c : j = way m h K
    · rw [c, here] at e
      cases e
      exact ⟨h, K, by rw [List.getElem?_append_right (Nat.le_refl _), Nat.sub_self]; rfl, c.symm, fun q hq => stay (e3 q hq)⟩
    · rw [oAt_set_ne _ c] at e
      obtain ⟨g, L, a, b, d⟩ := W.at_ j k hj e
      exact ⟨g, L, by rw [List.getElem?_append_left (List.getElem?_eq_some_iff.mp a).1]; exact a, b, fun q hq => stay (d q hq)⟩
  · rw [List.length_append, List.length_singleton] at hk
    rcases Nat.lt_or_ge k done.length with c | c
    · obtain ⟨j, hj, e⟩ := W.all k c
      refine ⟨j, hj, ?_⟩
      rw [oAt_set_ne _ (fun z => by rw [z, e2] at e; cases e)]
      exact e
    · have ek : k = done.length := by omega
      subst ek
      exact ⟨_, way_in h K, here⟩
  · rw [List.length_cons, List.length_append, n1]
    rfl
  · by_cases c : j = way m h K
    · rw [c]
      exact List.mem_cons_self
    · rw [oAt_set_ne _ c] at e
      exact List.mem_cons_of_mem _ (n2 j hj e)
theorem fold_step {m : Nat} (hm : Msk m) : ∀ (rest done : List Int) (owner : Array (Option Nat)), Own m done owner → done.length + rest.length ≤ m →
    ∃ o2, rest.foldl (stepF m) (some (owner, done.length)) = some (o2, (done ++ rest).length) ∧ Own m (done ++ rest) o2
  | [], done, owner, W, _ => ⟨owner, by simp, by simpa using W⟩
  | h :: rest, done, owner, W, hl => by
    have hl' : done.length + (rest.length + 1) ≤ m := hl
    obtain ⟨j, e, W2⟩ := own_step hm W (by omega) h
    have grown : (done ++ [h]).length = done.length + 1 := by simp
    obtain ⟨o2, f, W3⟩ := fold_step hm rest (done ++ [h]) _ W2 (by rw [grown]; omega)
    rw [List.append_assoc] at f W3
    rw [grown] at f
    exact ⟨o2, (by rw [List.foldl_cons, stepF_some e]; exact f), W3⟩
theorem clean_ok {m : Nat} (hm : Msk m) {hs : Array Int} (hn : hs.size ≤ m) : ∃ owner, SetTable.layClean m hs = some owner ∧ Own m hs.toList owner := by
  obtain ⟨owner, f, W⟩ := fold_step hm hs.toList [] _ (Own.init m) (by rw [Array.length_toList]; simpa using hn)
  rw [List.nil_append] at f W
  refine ⟨owner, ?_, W⟩
  rw [layClean_eq]
  exact congrArg (Option.map (·.1)) f
theorem anew_ok (t : SetTable) {hs : Array Int} {wanted M : Nat} (hw : SetTable.sizeAbove wanted - 1 = M) (hM : Msk M) (hn : hs.size ≤ M) :
    ∃ t' order, t.relaid hs wanted = some (t', order) ∧ order.toList.Perm (List.range hs.size) ∧ Tb t' (order.toList.map fun i => hs.getD i 0) ∧ t'.mask = M ∧ t'.led = t.led ∧ t'.plain = t.plain := by
  obtain ⟨owner, e, W⟩ := clean_ok hM hn
  have made : t.relaid hs wanted = some (tabOf t M owner, ((liveOf M owner).map (·.2)).toArray) := by
    rw [relaid_eq, hw, e]
    rfl
  obtain ⟨rise, within⟩ := ris_live (fun j => owner.getD j none) (List.range (M + 1)) (by
    unfold Ris
    first | exact List.pairwise_lt_range | exact List.pairwise_lt_range _)
  have rise1 : Ris ((liveOf M owner).map (·.1)) := rise
  have within1 : ∀ x ∈ (liveOf M owner).map (·.1), x ∈ List.range (M + 1) := within
  have numbers : ∀ k, k < hs.size → k ∈ (liveOf M owner).map (·.2) := fun k hk => by
    obtain ⟨j, b1, b2⟩ := W.all k (by rw [Array.length_toList]; exact hk)
    exact List.mem_map.mpr ⟨(j, k), (mem_live W.sz).2 ⟨b1, b2⟩, rfl⟩
  have count : (liveOf M owner).length = hs.size := by
    obtain ⟨ps, p1, p2⟩ := W.ps
    have a := nat_nodup_len ((liveOf M owner).map (·.1)) ps (List.Pairwise.imp (fun {a b} (z : a < b) => Nat.ne_of_lt z) (show List.Pairwise (fun a b : Nat => a < b) ((liveOf M owner).map (·.1)) from rise1)) fun x hx => by
      obtain ⟨⟨y, k⟩, hq, ey⟩ := List.mem_map.mp hx
      cases ey
      obtain ⟨b1, b2⟩ := (mem_live W.sz).1 hq
      exact p2 _ b1 (by rw [b2]; exact fun z => nomatch z)
    have b := nat_nodup_len (List.range hs.size) ((liveOf M owner).map (·.2)) List.nodup_range fun k hk => numbers k (List.mem_range.mp hk)
    have hz : hs.toList.length = hs.size := Array.length_toList
    rw [List.length_map, p1, hz] at a
    rw [List.length_map, List.length_range] at b
    omega
  refine ⟨_, _, made, perm_range hs.size _ (by show ((liveOf M owner).map (·.2)).length = _; rw [List.length_map, count]) numbers, ⟨rise1, rfl, ?_, hM, fun x hx => Nat.le_of_lt_succ (List.mem_range.mp (within1 x hx)), fun i h j h1 h2 => ?_⟩, rfl, rfl, rfl⟩
  · show ((liveOf M owner).map (·.1)).toArray.size = (((liveOf M owner).map (·.2)).map fun i => hs.getD i 0).length
    simp
  · have g1 : (((liveOf M owner).map (·.2)).map fun i => hs.getD i 0)[i]? = some h := h1
    have g2 : ((liveOf M owner).map (·.1))[i]? = some j := h2
    rw [List.map_map, List.getElem?_map] at g1
    rw [List.getElem?_map] at g2
    obtain ⟨⟨y, k⟩, hq, ey⟩ := Option.map_eq_some_iff.mp g2
    rw [hq] at g1
    cases ey
    obtain ⟨b1, b2⟩ := (mem_live W.sz).1 (List.mem_of_getElem? hq)
    obtain ⟨h0, K, a1, a2, a3⟩ := W.at_ y k b1 b2
    have eh : h0 = h := by
      have z : hs.getD k 0 = h := Option.some.inj g1
      rw [← z, Array.getD_eq_getD_getElem?, ← Array.getElem?_toList, a1]
      rfl
    subst eh
    refine ⟨K, a2, fun c hc => ?_⟩
    show way M h0 c ∈ (liveOf M owner).map (·.1)
    obtain ⟨k2, z⟩ := Option.ne_none_iff_exists'.mp (a3 c hc)
    exact List.mem_map.mpr ⟨(way M h0 c, k2), (mem_live W.sz).2 ⟨way_in h0 c, z⟩, rfl⟩
theorem grown5 : SetTable.sizeAbove (SetTable.grown 5) = 32 := by decide +kernel
theorem grown19 : SetTable.sizeAbove (SetTable.grown 19) = 128 := by decide +kernel
theorem grown77 : SetTable.sizeAbove (SetTable.grown 77) = 512 := by decide +kernel
theorem grown307 : SetTable.sizeAbove (SetTable.grown 307) = 2048 := by decide +kernel
theorem grown1229 : SetTable.sizeAbove (SetTable.grown 1229) = 8192 := by decide +kernel
end Sx

/-! SxSet -/
/-! Sets of tuples of ints and texts, up to 4,000 of them. -/
namespace Sx
open PySem PySem.Spec PyProof.Rows L2

/-- the tuple at a has the keys k -/
abbrev IsK (P : Program) (w : World) (h : Heap) (k : List Key) (a : Addr) : Prop := IsTupleKey (mixKind P w) h k a
abbrev kh (P : Program) (w : World) (k : List Key) : Int := tupleKeyHash (mixKind P w) k

section
variable {P : Program} {w : World} {A : Around} {E : Value → Shared → Prop} {s : Shared}
/-- ints and texts: what the model asks of an item -/
theorem flat_items {k : List Key} {vs : List Value} (h : ItemsAre (mixKind P w) k vs) : ∀ v ∈ vs, (∀ n, ofAClassStatement n v = pure false) ∧ ∀ n, hashByValue n v = pure (plainKind v) := by
  induction h with
  | nil => exact fun v hv => nomatch hv
  | @cons k0 u ks us h1 _ ih =>
    intro v hv
    rcases List.mem_cons.mp hv with e | hv
    · subst e
      rcases keyIs_shape (k := k0) (v := v) h1 with ⟨i, t, _, e⟩ | ⟨x, t, _, e⟩ <;> subst e <;> exact ⟨fun n => by cases n <;> rfl, fun n => hashByValue_scannable n rfl⟩
    · exact ih v hv
theorem noClass {k : List Key} {b : Addr} {Q : Bool → Shared → Prop} (hk : IsK P w s.heap k b) (h : Q false s) : wpAny (model P w) A (ofAClassStatement 8 (.ref b)) Q E s := by
  have hT := hk.typeIs
  obtain ⟨o, its, n, ho, _, hd, hi⟩ := hk
  unfold ofAClassStatement
  refine wpAny_bind (wpAny_typeOf hT ?_)
  have e : (("tuple" : String) == "tuple") = true := by decide
  simp only [e, if_true, Bool.not_true, Bool.false_eq_true, if_false]
  try refine wpAny_bind (wpAny_pure ?_)
  try simp only [Bool.not_true, Bool.false_eq_true, if_false]
  show wpAny _ _ (seqItems? (.ref b) >>= _) _ _ s
  refine wpAny_bind (wpAny_seqItems ho hd (wpAny_bind ?_))
  show wpAny _ _ (forIn its _ _) _ _ s
  rw [← Array.forIn_toList]
  refine wpAny_forIn_list _ (fun left r s' => (r.1 = none ∧ s' = s) ∧ ∀ v ∈ left, ofAClassStatement 7 v = pure false) _ ?_ ?_ _ _ ⟨⟨rfl, rfl⟩, fun v hv => (flat_items hi v hv).1 7⟩
  · rintro v left r s' ⟨⟨hr, e⟩, every⟩
    subst e
    rw [every v List.mem_cons_self]
    refine wpAny_bind (wpAny_pure ?_)
    simp only [Bool.false_eq_true, if_false]
    exact wpAny_pure ⟨⟨rfl, rfl⟩, fun u hu => every u (List.mem_cons_of_mem _ hu)⟩
  · rintro ⟨r1, r2⟩ s' ⟨⟨hr, e⟩, _⟩
    subst e
    simp only at hr
    subst hr
    exact wpAny_pure h
theorem byValue {k : List Key} {b : Addr} {Q : Bool → Shared → Prop} (hk : IsK P w s.heap k b) (h : ∀ y, Q y s) : wpAny (model P w) A (hashByValue 8 (.ref b)) Q E s := by
  have hT := hk.typeIs
  obtain ⟨o, its, n, ho, _, hd, hi⟩ := hk
  unfold hashByValue
  refine wpAny_bind (wpAny_specialOf hT F.slot_tuple_hash.lookup ?_)
  show wpAny _ _ (seqItems? (.ref b) >>= _) _ _ s
  refine wpAny_bind (wpAny_seqItems ho hd (wpAny_bind ?_))
  show wpAny _ _ (forIn its _ _) _ _ s
  rw [← Array.forIn_toList]
  refine wpAny_forIn_list _ (fun left r s' => (r.1 = none ∧ s' = s) ∧ ∀ v ∈ left, hashByValue 7 v = pure (plainKind v)) _ ?_ ?_ _ _ ⟨⟨rfl, rfl⟩, fun v hv => (flat_items hi v hv).2 7⟩
  · rintro v left r s' ⟨⟨hr, e⟩, every⟩
    subst e
    rw [every v List.mem_cons_self]
    refine wpAny_bind (wpAny_pure ?_)
    cases plainKind v with
    | true =>
      simp only [Bool.not_true, Bool.false_eq_true, if_false]
      exact wpAny_pure ⟨⟨rfl, rfl⟩, fun u hu => every u (List.mem_cons_of_mem _ hu)⟩
    | false =>
      simp only [Bool.not_false, if_true]
      refine wpAny_pure ?_
      show wpAny _ _ (pure false) _ _ _
      exact wpAny_pure (h false)
  · rintro ⟨r1, r2⟩ s' ⟨⟨hr, e⟩, _⟩
    subst e
    simp only at hr
    subst hr
    exact wpAny_pure (h true)
/-- looking for such a tuple among such tuples shows nothing -/
theorem unseen {k : List Key} {b : Addr} {Q : Bool → Shared → Prop} (hk : IsK P w s.heap k b) {ys : List Value} (hy : ∀ y ∈ ys, ∃ g c, y = Value.ref c ∧ IsK P w s.heap g c) (h : Q false s) :
    wpAny (model P w) A (searchCouldBeSeen (.ref b) ys) Q E s := by
  unfold searchCouldBeSeen
  refine wpAny_bind ?_
  refine wpAny_forIn_list _ (fun left r s' => (r.1 = none ∧ s' = s) ∧ ∀ y ∈ left, ∃ g c, y = Value.ref c ∧ IsK P w s.heap g c) _ ?_ ?_ _ _ ⟨⟨rfl, rfl⟩, hy⟩
  · rintro v left r s' ⟨⟨hr, e⟩, every⟩
    subst e
    obtain ⟨g, c, ev, hc⟩ := every v List.mem_cons_self
    subst ev
    have others := fun u (hu : u ∈ left) => every u (List.mem_cons_of_mem _ hu)
    dsimp only
    by_cases hv : (b == c || (carriedByValue (.ref b) && carriedByValue (.ref c))) = true
    · exact wp_if_pos hv (wpAny_pure ⟨⟨rfl, rfl⟩, others⟩)
    · refine wp_if_neg hv (wpAny_bind (wpAny_eqIsQuiet_tuple hk ?_))
      simp only [Bool.not_true, Bool.false_eq_true, if_false]
      refine wpAny_bind (wpAny_eqIsQuiet_tuple hc ?_)
      simp only [Bool.not_true, Bool.false_eq_true, if_false]
      refine wpAny_bind (noClass hk ?_)
      simp only [Bool.false_eq_true, if_false]
      refine wpAny_bind (noClass hc ?_)
      simp only [Bool.false_eq_true, if_false]
      exact wpAny_pure ⟨⟨rfl, rfl⟩, others⟩
  · rintro ⟨r1, r2⟩ s' ⟨⟨hr, e⟩, _⟩
    subst e
    simp only at hr
    subst hr
    exact wpAny_pure h

/-! ### what such a set is -/
abbrev Row := Addr × List Key
def rows (P : Program) (w : World) (L : List Row) : List (Int × Value) := L.map fun p => (kh P w p.2, Value.ref p.1)
def hs (P : Program) (w : World) (L : List Row) : List Int := L.map fun p => kh P w p.2
/-- the set at a, without its tuples -/
structure SetX (P : Program) (w : World) (h : Heap) (a : Addr) (L : List Row) (es : Array (Int × Value)) (ep : Nat) (t : SetTable) : Prop where
  obj : ∃ o, h.get? a = some o ∧ o.ExactSet ∧ o.data = .set es ep t
  are : es.toList = rows P w L
  tab : Tb t (hs P w L)
  one : (L.map (·.2)).Nodup
  led : w.params.followText "set-order" = true ∨ t.led = true
  room : L.length * 5 < t.mask * 3
  few : L.length ≤ 4000
def Tups (P : Program) (w : World) (h : Heap) (L : List Row) : Prop := ∀ p ∈ L, IsK P w h p.2 p.1
variable {a : Addr} {L : List Row} {es : Array (Int × Value)} {ep : Nat} {t : SetTable}
theorem rows_len {es : Array (Int × Value)} (e : es.toList = rows P w L) : es.size = L.length := by
  rw [← Array.length_toList, e]
  exact List.length_map _
theorem hs_len : (hs P w L).length = L.length := List.length_map _
theorem SetX.fits (R : SetX P w s.heap a L es ep t) : t.fits es.size = true := by
  have h1 := R.tab.len
  rw [hs_len] at h1
  have h2 := rows_len R.are
  have h3 := R.room
  unfold SetTable.fits SetTable.fill
  rw [R.tab.nod, Bool.and_eq_true, beq_iff_eq, decide_eq_true_eq]
  exact ⟨by omega, by show t.place.size + 0 ≤ t.mask; omega⟩
theorem row_at {es : Array (Int × Value)} (e : es.toList = rows P w L) {i : Nat} {p : Row} (h : L[i]? = some p) : es[i]? = some (kh P w p.2, Value.ref p.1) := by
  rw [← Array.getElem?_toList, e]
  show (L.map _)[i]? = _
  rw [List.getElem?_map, h]
  rfl
theorem SetX.calm (R : SetX P w s.heap a L es ep t) : ¬ t.gaveWay = true := by
  unfold SetTable.gaveWay
  rw [R.tab.msk.odd]
  decide

/-! ### the search -/
abbrev hAt (es : Array (Int × Value)) (i : Nat) : Int := (es[i]?.map (·.1)).getD 0
/-- the q-th state of the search for h -/
abbrev stp (m : Nat) (h : Int) (q : Nat) : SetTable.Probe := nth m (runAt m (SetTable.bits h % (m + 1)) (SetTable.bits h)) q
theorem stp_dummy (m : Nat) (h : Int) : ∀ q, (stp m h q).dummy = none
  | 0 => rfl
  | q + 1 => by
    show (nth m _ (q + 1)).dummy = none
    rw [nth_succ]
    unfold adv
    split <;> exact stp_dummy m h q
theorem stp_on (m : Nat) (h : Int) (c q : Nat) : nth m (stp m h c) q = stp m h (c + q) := (nth_add m c _ q).symm
theorem seek (R : SetX P w s.heap a L es ep t) (Ts : Tups P w s.heap L) {x : Addr} {k : List Key} (hx : IsK P w s.heap k x) (hu : A.units < cLine) {K : Nat} (hKf : K < 10 * SetTable.turns t.mask) (F : Fst t (kh P w k) K)
    {Q : SetFound → Shared → Prop} (hin : k ∈ L.map (·.2) → Q (.there none) s) (hout : k ∉ L.map (·.2) → Q (.free (way t.mask (kh P w k) K) false) s) :
    ∀ (f c : Nat) (at_ : Option SetTable.Probe), at_.getD (t.probeStart (kh P w k)) = stp t.mask (kh P w k) c → c ≤ K → K - c < f →
      (∀ (i : Nat) (p : Row), L[i]? = some p → p.2 = k → ∃ c', c ≤ c' ∧ c' < K ∧ t.place.toList[i]? = some (way t.mask (kh P w k) c')) →
      wpAny (model P w) A (setSearchFrom a (.ref x) (kh P w k) true f at_) Q E s
  | 0, c, _, _, _, hf, _ => absurd hf (Nat.not_lt_zero _)
  | f + 1, c, at_, hst, hc, hf, hre => by
    obtain ⟨o, ho, hex, hd⟩ := R.obj
    rw [setSearchFrom_succ]
    refine wpAny_bind (wpAny_setState_of ho hd R.fits ?_)
    refine wp_if_neg R.calm ?_
    try refine wpAny_bind (wpAny_pure ?_)
    have slotOf : ∀ q, (nth t.mask (stp t.mask (kh P w k) c) q).j = way t.mask (kh P w k) (c + q) := fun q => congrArg SetTable.Probe.j (stp_on _ _ c q)
    have toK : c + (K - c) = K := by omega
    have found := go_spec t R.tab.up R.tab.nod (fun i => (es[i]?.map (·.1)).getD 0) (kh P w k) (10 * SetTable.turns t.mask) (K - c) (stp t.mask (kh P w k) c) (stp_dummy _ _ _) (by omega)
      (fun q hq => by rw [slotOf]; exact F.full _ (by omega)) (by rw [slotOf, toK]; exact F.free)
    have hashAt : ∀ (i : Nat) (p : Row), L[i]? = some p → hAt es i = kh P w p.2 := fun i p hp => by
      unfold hAt
      rw [row_at R.are hp]
      rfl
    -- what has the key isn't passed
    have passed : ∀ {q' i0 : Nat} {p0 : Row}, L[i0]? = some p0 → p0.2 = k → (∀ c' i', c' < q' → t.place.toList[i']? = some (nth t.mask (stp t.mask (kh P w k) c) c').j → hAt es i' ≠ kh P w k) →
        ∀ {c' : Nat}, c ≤ c' → t.place.toList[i0]? = some (way t.mask (kh P w k) c') → c' < c + q' → False := fun {q' i0 p0} h0 e0 no {c'} l1 l2 l3 => by
      refine no (c' - c) i0 (by omega) (by rw [slotOf, Nat.add_sub_of_le l1]; exact l2) ?_
      rw [hashAt i0 p0 h0, e0]
    rcases found with ⟨q, i, hq, hi, hh, no, e⟩ | ⟨no, e⟩
    · have e' : t.probe (fun i => (es[i]?.map (·.1)).getD 0) (kh P w k) (at_.getD (t.probeStart (kh P w k))) = some (.candidate (way t.mask (kh P w k) (c + q)) i (stp t.mask (kh P w k) (c + (q + 1)))) := by
        rw [hst]
        unfold SetTable.probe
        rw [e, slotOf, stp_on]
      rw [e']
      rw [slotOf] at hi
      have hiL : i < L.length := by
        have h1 := (List.getElem?_eq_some_iff.mp hi).1
        have h2 := R.tab.len
        rw [hs_len] at h2
        rw [Array.length_toList] at h1
        omega
      obtain ⟨p, hp⟩ : ∃ p, L[i]? = some p := ⟨_, List.getElem?_eq_getElem hiL⟩
      have pm : p ∈ L := List.mem_of_getElem? hp
      have live : t.slot (way t.mask (kh P w k) (c + q)) = .live i := slot_live R.tab.up hi
      have tail : wpAny (model P w) A (searchRest a (.ref x) (kh P w k) true f es t (way t.mask (kh P w k) (c + q)) i (stp t.mask (kh P w k) (c + (q + 1)))) Q E s := by
        unfold searchRest
        rw [row_at R.are hp]
        refine wpAny_bind (wpAny_holding (wpAny_eqBool_tuple hu (Ts p pm) hx ?_))
        refine wpAny_bind (wpAny_setState_of ho hd R.fits ?_)
        by_cases same : p.2 = k
        · refine wp_if_pos (by simp [same]) (wpAny_pure (hin ?_))
          exact List.mem_map.mpr ⟨p, pm, same⟩
        · refine wp_if_neg (by simp [same]) ?_
          try refine wpAny_bind (wpAny_pure ?_)
          rw [sameMem]
          simp only [if_true, live, row_at R.are hp]
          refine wpAny_bind (wpAny_isSame_ref_self (wpAny_bind (wpAny_pure ?_)))
          simp only [if_true]
          refine wp_if_neg (by simp [same]) ?_
          refine seek R Ts hx hu hKf F hin hout f (c + (q + 1)) _ rfl (by omega) (by omega) fun i0 p0 h0 e0 => ?_
          obtain ⟨c', l1, l2, l3⟩ := hre i0 p0 h0 e0
          refine ⟨c', ?_, l2, l3⟩
          rcases Nat.lt_trichotomy c' (c + q) with z | z | z
          · exact (passed (q' := q) h0 e0 no l1 l3 z).elim
          · rw [z] at l3
            have z2 := slot_live R.tab.up l3
            rw [live] at z2
            cases z2
            rw [hp] at h0
            cases h0
            exact absurd e0 same
          · omega
      by_cases hl : t.led = true
      · refine wp_if_neg (by simp [hl]) ?_
        try refine wpAny_bind (wpAny_pure ?_)
        exact tail
      · refine wp_if_pos (by simp [hl]) (wpAny_bind (unseen hx (fun y hy => ?_) ?_))
        · obtain ⟨e1, h1, h2⟩ := List.mem_map.mp hy
          have h3 : e1 ∈ es.toList := by
            have : e1 ∈ es ∧ e1.1 = kh P w k := by simpa using h1
            simpa using this.1
          rw [R.are] at h3
          obtain ⟨p2, hp2, e2⟩ := List.mem_map.mp h3
          exact ⟨p2.2, p2.1, by rw [← h2, ← e2], Ts p2 hp2⟩
        · refine wp_if_neg (by decide) ?_
          try refine wpAny_bind (wpAny_pure ?_)
          exact tail
    · have e' : t.probe (fun i => (es[i]?.map (·.1)).getD 0) (kh P w k) (at_.getD (t.probeStart (kh P w k))) = some (.empty (way t.mask (kh P w k) K) none) := by
        rw [hst]
        unfold SetTable.probe
        rw [e, slotOf, toK]
      rw [e']
      refine wpAny_pure (hout fun hm => ?_)
      obtain ⟨p0, m0, e0⟩ := List.mem_map.mp hm
      obtain ⟨i0, h0⟩ := List.getElem?_of_mem m0
      obtain ⟨c', l1, l2, l3⟩ := hre i0 p0 h0 e0
      exact passed (q' := K - c) h0 e0 no l1 l3 (by omega)
theorem seek0 (R : SetX P w s.heap a L es ep t) (Ts : Tups P w s.heap L) {x : Addr} {k : List Key} (hx : IsK P w s.heap k x) (hu : A.units < cLine) {Q : SetFound → Shared → Prop}
    (hin : k ∈ L.map (·.2) → Q (.there none) s) (hout : ∀ K, k ∉ L.map (·.2) → Fst t (kh P w k) K → Q (.free (way t.mask (kh P w k) K) false) s) :
    wpAny (model P w) A (setSearch a (.ref x) (kh P w k) true) Q E s := by
  have room := R.room
  obtain ⟨K, hKf, F⟩ := R.tab.first (by rw [hs_len]; omega) (kh P w k)
  have big := R.tab.msk.big
  unfold setSearch
  refine seek R Ts hx hu hKf F hin (fun z => hout K z F) 100000 0 none rfl (Nat.zero_le _) (by unfold SetTable.turns at hKf; omega) fun i p hp e => ?_
  have h1 : (hs P w L)[i]? = some (kh P w k) := by
    show (L.map _)[i]? = _
    rw [List.getElem?_map, hp, ← e]
    rfl
  have h2 : i < t.place.toList.length := by
    have z := R.tab.len
    rw [hs_len] at z
    have y := (List.getElem?_eq_some_iff.mp hp).1
    rw [Array.length_toList]
    omega
  obtain ⟨c, hc, ec⟩ := R.tab.ahead F h1 (List.getElem?_eq_getElem h2)
  exact ⟨c, Nat.zero_le _, hc, by rw [ec]; exact List.getElem?_eq_getElem h2⟩
end

/-! ### laying anew, adding -/
section
variable {P : Program} {w : World} {A : Around} {E : Value → Shared → Prop} {s : Shared} {a : Addr} {L : List Row} {es : Array (Int × Value)} {ep : Nat} {t : SetTable}
/-- a tuple isn't the set, so it stays -/
theorem isK_but {h h' : Heap} {k : List Key} {b : Addr} {o : Obj} (hb : IsK P w h k b) (ho : h.get? a = some o) (hd : o.data = .set es ep t) (sb : Heap.SameBut a h h') : IsK P w h' k b := by
  obtain ⟨ob, its, n, e, c, d, i⟩ := hb
  refine ⟨ob, its, n, (sb.2 b fun z => ?_).trans e, c, d, i⟩
  subst z
  rw [ho] at e
  cases e
  rw [hd] at d
  cases d
theorem isK_stay {h h' : Heap} {k : List Key} {b : Addr} (x : IsK P w h k b) (hk : ∀ c o, h.get? c = some o → h'.get? c = some o) : IsK P w h' k b := by
  obtain ⟨o, its, n, ho, r⟩ := x
  exact ⟨o, its, n, hk b o ho, r⟩
theorem ordered (L : List Row) {es : Array (Int × Value)} {order : Array Nat} (hr : es.toList = rows P w L) (hp : order.toList.Perm (List.range L.length)) :
    ∃ L2 : List Row, (order.filterMap (es[·]?)).toList = rows P w L2 ∧ L2.Perm L ∧ hs P w L2 = order.toList.map fun i => (es.map (·.1)).getD i 0 := by
  have each : ∀ l : List Nat, (∀ i ∈ l, i < L.length) → l.filterMap (fun i => es[i]?) = rows P w (l.filterMap fun i => L[i]?) ∧ hs P w (l.filterMap fun i => L[i]?) = l.map fun i => (es.map (·.1)).getD i 0 := by
    intro l
    induction l with
    | nil => exact fun _ => ⟨rfl, rfl⟩
    | cons i l ih =>
      intro hl
      obtain ⟨p, hp⟩ : ∃ p, L[i]? = some p := ⟨_, List.getElem?_eq_getElem (hl i List.mem_cons_self)⟩
      obtain ⟨e1, e2⟩ := ih fun j hj => hl j (List.mem_cons_of_mem _ hj)
      have er := row_at hr hp
      have eh : (es.map (·.1)).getD i 0 = kh P w p.2 := by
        rw [Array.getD_eq_getD_getElem?, Array.getElem?_map, er]
        rfl
      rw [List.filterMap_cons_some er, List.filterMap_cons_some hp, e1, List.map_cons, ← e2, eh]
      exact ⟨rfl, rfl⟩
  obtain ⟨e1, e2⟩ := each order.toList fun i hi => List.mem_range.mp (hp.mem_iff.mp hi)
  refine ⟨_, by first | (rw [Array.toList_filterMap]; exact e1) | simpa using e1, ?_, e2⟩
  have whole : ∀ n, n ≤ L.length → (List.range n).filterMap (fun i => L[i]?) = L.take n := by
    intro n
    induction n with
    | zero => exact fun _ => rfl
    | succ n ih =>
      intro hn
      rw [List.range_succ, List.filterMap_append, ih (Nat.le_of_lt hn), List.take_succ, List.getElem?_eq_getElem hn, List.filterMap_cons_some (List.getElem?_eq_getElem hn)]
      rfl
  have z := hp.filterMap fun i => L[i]?
  rw [whole L.length (Nat.le_refl _), List.take_length] at z
  exact z
/-- behind a store -/
theorem stored {o : Obj} {es es' : Array (Int × Value)} {t t' : SetTable} (ho : s.heap.get? a = some o) (hd : o.data = .set es ep t) : (s.heap.update a (Obj.putSet es' t')).get? a = some { o with data := .set es' (ep + 1) t' } := store_at ho hd
theorem relay {o : Obj} (ho : s.heap.get? a = some o) (hex : o.ExactSet) (hd : o.data = .set es ep t) (are : es.toList = rows P w L) (hfit : t.fits es.size = true) (one : (L.map (·.2)).Nodup)
    (ld : w.params.followText "set-order" = true ∨ t.led = true) (few : L.length ≤ 4000) {wanted M : Nat}
    (hw : SetTable.sizeAbove wanted = M + 1) (hM : Msk M) (hn : L.length * 5 < M * 3) {Q : Unit → Shared → Prop}
    (hQ : ∀ h' L' es' ep' t', Heap.SameBut a s.heap h' → SetX P w h' a L' es' ep' t' → L'.Perm L → Q () { s with heap := h' }) : wpAny (model P w) A (setRelay a wanted) Q E s := by
  have size := rows_len are
  have big := hM.big
  obtain ⟨t', order, e, hp, T, em, el, ep'⟩ := anew_ok t (hs := es.map (·.1)) (wanted := wanted) (M := M) (by omega) hM (by rw [Array.size_map]; omega)
  rw [Array.size_map, size] at hp
  obtain ⟨L2, r1, r2, r3⟩ := ordered L are hp
  rw [← r3] at T
  have size2 : (order.filterMap (es[·]?)).size = es.size := by rw [rows_len r1, r2.length_eq, size]
  rw [setRelay_eq]
  refine wpAny_bind (wpAny_setState_of ho hd hfit ?_)
  refine wp_if_neg (by rw [sizeLine_eq]; omega) ?_
  try refine wpAny_bind (wpAny_pure ?_)
  rw [e]
  refine wpAny_bind (wp_if_neg (by rw [size2]; simp) ?_)
  try refine wpAny_bind (wpAny_pure ?_)
  refine wpAny_pure ?_
  refine wpAny_storeSet_of ho hd ?_ (by rw [size2, size, sizeLine_eq]; omega)
  refine hQ _ L2 _ (ep + 1) t' (Heap.SameBut.update ..) ⟨⟨_, stored ho hd, ⟨hex.1, hex.2.1, hex.2.2⟩, rfl⟩, r1, T, (r2.map (·.2)).nodup_iff.mpr one, by rw [el]; exact ld, ?_, by rw [r2.length_eq]; exact few⟩ r2
  rw [r2.length_eq, em]
  exact hn
theorem adding (R : SetX P w s.heap a L es ep t) (Ts : Tups P w s.heap L) {x : Addr} {k : List Key} (hx : IsK P w s.heap k x) (hu : A.units < cLine) (hfew : L.length < 4000) {Q : Bool → Shared → Prop}
    (hQ : ∀ b h' L' es' ep' t', Heap.SameBut a s.heap h' → SetX P w h' a L' es' ep' t' → (k ∈ L.map (·.2) → L' = L) → (k ∉ L.map (·.2) → L'.Perm ((x, k) :: L)) → Q b { s with heap := h' }) :
    wpAny (model P w) A (setAddHashed a (.ref x) (kh P w k)) Q E s := by
  obtain ⟨o, ho, hex, hd⟩ := R.obj
  have size := rows_len R.are
  have room := R.room
  unfold setAddHashed
  refine wpAny_holding ?_
  rw [show (100000 : Nat) = 99999 + 1 from rfl, setAddHashedIn_succ]
  refine wpAny_bind (wpAny_setState_of ho hd R.fits ?_)
  refine wp_if_neg (by simp [byScan, Value.scannable]) ?_
  try refine wpAny_bind (wpAny_pure ?_)
  refine wpAny_bind (seek0 R Ts hx hu (fun hm => ?_) fun K hm F => ?_)
  · exact wpAny_pure (hQ false s.heap L es ep t (Heap.SameBut.refl a s.heap) R (fun _ => rfl) fun z => absurd hm z)
  · refine wpAny_bind (wpAny_setState_of ho hd R.fits ?_)
    dsimp only
    have T1 := R.tab.put F
    have f1 := R.tab.fill F
    have isP : (t.put (way t.mask (kh P w k) K)).2 = bel t (kh P w k) K := rfl
    have ld1 : w.params.followText "set-order" = true ∨ (t.put (way t.mask (kh P w k) K)).1.led = true := R.led
    have m1 : (t.put (way t.mask (kh P w k) K)).1.mask = t.mask := rfl
    have b1 := R.tab.bel_le (kh P w k) K
    generalize bel t (kh P w k) K = p at T1 isP b1
    generalize t.put (way t.mask (kh P w k) K) = pt at T1 f1 isP ld1 m1 ⊢
    obtain ⟨t1, p1⟩ := pt
    dsimp only at T1 f1 isP ld1 m1 ⊢
    subst isP
    have any : ∀ y : Bool, ∃ t2, (if y = true then t1 else { t1 with plain := false }) = t2 ∧ Tb t2 ((hs P w L).take p1 ++ kh P w k :: (hs P w L).drop p1) ∧ t2.fill = (hs P w L).length + 1 ∧ (w.params.followText "set-order" = true ∨ t2.led = true) ∧ t2.mask = t.mask := fun y => by
      cases y with
      | true => exact ⟨t1, rfl, T1, f1, ld1, m1⟩
      | false => exact ⟨_, rfl, ⟨T1.up, T1.nod, T1.len, T1.msk, T1.low, T1.again⟩, f1, ld1, m1⟩
    have are1 : (SetTable.insertAt es p1 (kh P w k, Value.ref x)).toList = rows P w (L.take p1 ++ (x, k) :: L.drop p1) := by
      rw [SetTable.toList_insertAt, R.are]
      unfold rows
      rw [List.map_append, List.map_cons, List.map_take, List.map_drop]
    have pm : (L.take p1 ++ (x, k) :: L.drop p1).Perm ((x, k) :: L) := by
      have z : (L.take p1 ++ (x, k) :: L.drop p1).Perm ((x, k) :: (L.take p1 ++ L.drop p1)) := List.perm_middle
      rw [List.take_append_drop] at z
      exact z
    have hs1 : hs P w (L.take p1 ++ (x, k) :: L.drop p1) = (hs P w L).take p1 ++ kh P w k :: (hs P w L).drop p1 := by
      unfold hs
      rw [List.map_append, List.map_cons, List.map_take, List.map_drop]
    rw [← hs1] at any
    have one1 : ((L.take p1 ++ (x, k) :: L.drop p1).map (·.2)).Nodup := (pm.map (·.2)).nodup_iff.mpr (List.nodup_cons.mpr ⟨hm, R.one⟩)
    have len1 := pm.length_eq
    have size1 := rows_len are1
    generalize SetTable.insertAt es p1 (kh P w k, Value.ref x) = es1 at are1 size1 ⊢
    generalize L.take p1 ++ (x, k) :: L.drop p1 = L1 at pm len1 any one1 are1 size1
    rw [List.length_cons] at len1
    have go0 : ∀ y : Bool, wpAny (model P w) A (do
        storeSet a es1 (if y = true then t1 else { t1 with plain := false })
        if (!false && (if y = true then t1 else { t1 with plain := false }).tooFull) = true then setRelay a (SetTable.grown (es.size + 1))
        return true) Q E s := fun y => by
      obtain ⟨t2, et, T1, f1, ld1, m1⟩ := any y
      rw [et]
      clear et any
      rw [hs_len] at f1
      revert T1 f1 ld1 m1
      generalize t2 = t1
      intro T1 f1 ld1 m1
      refine wpAny_bind (wpAny_storeSet_of ho hd ?_ (by rw [size1, sizeLine_eq]; omega))
      have sb : Heap.SameBut a s.heap (s.heap.update a (Obj.putSet es1 t1)) := Heap.SameBut.update ..
      have ho1 := stored (es' := es1) (t' := t1) ho hd
      generalize s.heap.update a (Obj.putSet es1 t1) = h1 at sb ho1 ⊢
      by_cases hf : t1.tooFull = true
      · first
          | (refine wpAny_bind ?_; refine wp_if_pos (by simp [hf]) ?_)
          | (refine wp_if_pos (by simp [hf]) ?_; refine wpAny_bind ?_)
        have full : (L.length + 1) * 5 ≥ t1.mask * 3 := by
          have z := hf
          unfold SetTable.tooFull at z
          rw [decide_eq_true_eq, f1] at z
          exact z
        rw [m1] at full
        rw [size]
        have hfit1 : t1.fits es1.size = true := by
          have z := T1.len
          rw [hs_len] at z
          unfold SetTable.fits SetTable.fill
          rw [T1.nod, Bool.and_eq_true, beq_iff_eq, decide_eq_true_eq]
          have big := R.tab.msk.odd
          refine ⟨by omega, ?_⟩
          show t1.place.size + 0 ≤ t1.mask
          rcases R.tab.msk with e | e | e | e | e | e <;> omega
        have go : ∀ M, SetTable.sizeAbove (SetTable.grown (L.length + 1)) = M + 1 → Msk M → (L.length + 1) * 5 < M * 3 →
            wpAny (model P w) A (setRelay a (SetTable.grown (L.length + 1))) (fun _ s' => wpAny (model P w) A (pure true) Q E s') E { s with heap := h1 } := fun M w1 w2 w3 => by
          refine relay (s := { s with heap := h1 }) ho1 ⟨hex.1, hex.2.1, hex.2.2⟩ rfl are1 hfit1 one1 ld1 (by omega) w1 w2 (by rw [len1]; exact w3) ?_
          intro h2 L2 es2 ep2 t2 sb2 R2 pm2
          exact wpAny_pure (hQ true h2 L2 es2 ep2 t2 (sb.trans sb2) R2 (fun z => absurd z hm) fun _ => pm2.trans pm)
        rcases R.tab.msk with e | e | e | e | e | e
        · have l4 : L.length = 4 := by omega
          exact go 31 (by rw [l4, grown5]) (.inr (.inl rfl)) (by omega)
        · have l4 : L.length = 18 := by omega
          exact go 127 (by rw [l4, grown19]) (.inr (.inr (.inl rfl))) (by omega)
        · have l4 : L.length = 76 := by omega
          exact go 511 (by rw [l4, grown77]) (.inr (.inr (.inr (.inl rfl)))) (by omega)
        · have l4 : L.length = 306 := by omega
          exact go 2047 (by rw [l4, grown307]) (.inr (.inr (.inr (.inr (.inl rfl))))) (by omega)
        · have l4 : L.length = 1228 := by omega
          exact go 8191 (by rw [l4, grown1229]) (.inr (.inr (.inr (.inr (.inr rfl))))) (by omega)
        · omega
      · first
          | refine wp_if_neg (by simp [hf]) ?_
          | (refine wpAny_bind ?_; refine wp_if_neg (by simp [hf]) ?_; refine wpAny_pure ?_)
        refine wpAny_pure (hQ true h1 L1 es1 (ep + 1) t1 sb ⟨⟨_, ho1, ⟨hex.1, hex.2.1, hex.2.2⟩, rfl⟩, are1, T1, one1, ld1, ?_, by omega⟩ (fun z => absurd z hm) fun _ => pm)
        have z := hf
        unfold SetTable.tooFull at z
        rw [decide_eq_true_eq, f1] at z
        omega
    by_cases pl : t1.plain = true
    · first
        | (refine wpAny_bind ?_; refine wp_if_pos pl ?_; exact byValue hx go0)
        | refine wp_if_pos pl (wpAny_bind (byValue hx go0))
    · first
        | (refine wpAny_bind ?_; refine wp_if_neg pl ?_; exact wpAny_pure (go0 true))
        | refine wp_if_neg pl (wpAny_bind (wpAny_pure (go0 true)))
end
end Sx

/-! SxComp -/
/-! Set comprehensions whose elements are tuples of ints and texts. -/
namespace Sx
open PySem PySem.Spec PyProof.Rows L2

/-- the set of tuples at a: its rows -/
def SetK (P : Program) (w : World) (a : Addr) (L : List Row) : HO := .ext fun h => ∃ es ep t, SetX P w h a L es ep t
theorem setK_ok {P : Program} {w : World} {H : Hp} {h : Heap} {a : Addr} {L : List Row} {es : Array (Int × Value)} {ep : Nat} {t : SetTable} (R : SetX P w h a L es ep t) : ObjOk P w H h a (SetK P w a L) := by
  refine ⟨⟨es, ep, t, R⟩, ?_, fun h1 h2 p k => ?_⟩
  · obtain ⟨o, ho, _⟩ := R.obj
    exact ⟨o, ho⟩
  · obtain ⟨es, ep, t, R1⟩ := p
    obtain ⟨o, ho, r⟩ := R1.obj
    exact ⟨es, ep, t, ⟨o, k o ho, r⟩, R1.are, R1.tab, R1.one, R1.led, R1.room, R1.few⟩
theorem items_mix {P : Program} {w : World} : ∀ {k : List Key} {us : List Value}, Vals (k.map kV) us → ItemsAre (mixKind P w) k us
  | [], _, .nil => .nil
  | .inl n :: k, _, .cons r t => by
    obtain ⟨tk, e⟩ := r
    subst e
    exact .cons (mixKind_int P w n tk) (items_mix t)
  | .inr z :: k, _, .cons r t => by
    obtain ⟨tk, e⟩ := r
    subst e
    exact .cons (mixKind_str P w z tk) (items_mix t)
/-- all rows' tuples stand -/
def Rws (K : PySem.W.Frag) (H : Hp) (L : List Row) : Prop := ∀ p ∈ L, SqT K H p.1 (p.2.map kV)
section
variable {X : Cx} {pins : List (Addr × Obj)} {σ : L2.St} {H : Hp} {s : Shared}
theorem isK_of (I : Inv X pins σ H s) {b : Addr} {k : List Key} (h : SqT X.K H b (k.map kV)) : IsK X.prog X.w s.heap k b := by
  obtain ⟨its, r, ⟨o, ho, hc, n, hd⟩, _⟩ := I.tuple h
  exact ⟨o, its.toArray, n, ho, hc, hd, by simpa using items_mix r⟩
/-- found.add(t) -/
theorem addK_ok {E : Value → Shared → Prop} {D a : Addr} {k : List Key} {L : List Row} {Q : Value → Shared → Prop} (I : Inv X pins σ H s) (hu : X.A.units + 1 < cLine) (hD : H D = some (SetK X.prog X.w D L)) (hx : SqT X.K H a (k.map kV)) (hL : Rws X.K H L) (few : L.length < 4000)
    (h : ∀ L' s', (k ∈ L.map (·.2) → L' = L) → (k ∉ L.map (·.2) → L'.Perm ((a, k) :: L)) → Inv X pins σ (upd H D (SetK X.prog X.w D L')) s' → Q .none s') :
    wpAny (model X.prog X.w) X.A (call (.builtin "set.add") [.ref D, .ref a]) Q E s := by
  obtain ⟨es, ep, t, R⟩ := (show ObjOk X.prog X.w H s.heap D (SetK X.prog X.w D L) from I.hok D _ hD).1
  have Ts : Tups X.prog X.w s.heap L := fun p hp => isK_of I (hL p hp)
  have hk := isK_of I hx
  obtain ⟨o, ho, hex, hd⟩ := id R.obj
  refine wpAny_call_entry F.slot_set_add ⟨o, ho, hex.1⟩ F.entry_set_add ?_ (F.args_set_add_2 _ _)
  unfold Builtin.«set.add» Builtin.Frozenset.oneOther
  simp only [List.isEmpty_nil, bind_assoc]
  unfold Builtin.Frozenset.addrOf setAdd
  refine wpAny_bind (wpAny_pure ?_)
  try dsimp only
  refine wpAny_bind (wpAny_pure ?_)
  try dsimp only
  refine wpAny_bind (wpAny_holding (wpAny_bind (wpAny_pyHash_tuple (by first | exact hu | omega | exact Nat.lt_of_succ_lt hu) hk ?_)))
  refine adding (s := { s with toks := s.toks + (k.length + 1) }) R Ts hk (by first | exact hu | omega | exact Nat.lt_of_succ_lt hu) few fun b h' L' es' ep' t' sb R' c1 c2 => ?_
  show wpAny _ _ (ret Value.none) _ _ _
  obtain ⟨o', ho', _⟩ := id R'.obj
  exact wpAny_pure ⟨_, rfl, h L' _ c1 c2 (I.write (e := D) (t' := s.toks + (k.length + 1)) (by rw [hD]; trivial) (.inl rfl) (fun b u hb z => (sb.2 b hb).trans z) ⟨o', ho'⟩ (setK_ok R'))⟩
theorem freshK {h : Heap} (P : Program) (w : World) : SetX P w (h.push { cls := .type "set", dict := none, data := .set #[] 0 (.fresh 0 0 (!w.params.followText "set-order")) }) h.objs.size [] #[] 0 (.fresh 0 0 (!w.params.followText "set-order")) where
  obj := ⟨_, Heap.get?_push_size _ rfl, ⟨rfl, rfl, rfl⟩, rfl⟩
  are := rfl
  tab := ⟨List.Pairwise.nil, rfl, rfl, .inl rfl, fun x hx => (by cases hx), fun i h j hi => (by simp [hs] at hi)⟩
  one := List.nodup_nil
  led := by
    show _ ∨ (!w.params.followText "set-order") = true
    cases w.params.followText "set-order" with
    | true => exact .inl rfl
    | false => exact .inr rfl
  room := by
    show 0 * 5 < 7 * 3
    decide
  few := Nat.zero_le _
end

section
variable {X : Cx}
/-- {elt for target in iter if ..}, elt a tuple of ints and texts -/
def tSk (K : PySem.W.Frag) (P : Program) (w : World) (wi : TI) (g : TG) (tt : TT) (te : TE) (vs : List Nat) : TE := fun σ H Q => wi σ H fun J H1 => ∀ D, H1 D = none → ∃ W : Nat → Nat → Hp → Prop, (∃ m, W 0 m (upd H1 D (SetK P w D []))) ∧ ∀ i m H, W i m H →
  (J.stop i H ∧ Q (.ref D) H) ∨ (J.go i H ∧ ∃ Nx : Hp → Prop, (∀ H', Nx H' → ∃ m', m' < m ∧ W (i + 1) m' H') ∧ ∀ x H', J.yld i H x H' → g x (wipe σ vs) H' fun σ2 H2 => wipe σ2 vs = wipe σ vs ∧ tt σ2 H2 fun b H3 =>
    if b = true then te σ2 H3 fun y H4 => ∃ (a : Addr) (k : List Key) (L : List Row), y = .ref a ∧ SqT K H4 a (k.map kV) ∧ H4 D = some (SetK P w D L) ∧ Rws K H4 L ∧ L.length < 4000 ∧
      ∀ L', (k ∈ L.map (·.2) → L' = L) → (k ∉ L.map (·.2) → L'.Perm ((a, k) :: L)) → Nx (upd H4 D (SetK P w D L')) else Nx H3)
theorem sk_core {pins : List (Addr × Obj)} {s : Shared} {σ : L2.St} {H : Hp} {Q : VK} {elt tg iter : Expr} {ifs : List Expr} {scope : Scope} {own : List (PySem.Str × Nat)} {pos pos' : Pos} {wi : TI} {g : TG} {tt : TT} {te : TE} {use : Option (Value → Sem Unit)} {Qf : Value → Shared → Prop}
    (hc : X.calm = true) (hu : X.A.units + 1 < cLine) (hN : X.N.Nodup) (I : Inv X pins σ H s) (hi : PI X tg iter wi) (ok : BlkOk X.N X.env.scope scope own)
    (hg : ∀ (s : Shared) (H : Hp) (C : Addr) (cl : List (PySem.Str × Addr)) (fp : List Addr), PG (X.blk s H scope (compEnvC scope cl C X.env) fp) tg g)
    (ht : ∀ (s : Shared) (H : Hp) (C : Addr) (cl : List (PySem.Str × Addr)) (fp : List Addr), PTs (X.blk s H scope (compEnvC scope cl C X.env) fp) ifs tt)
    (he : ∀ (s : Shared) (H : Hp) (C : Addr) (cl : List (PySem.Str × Addr)) (fp : List Addr), PE (X.blk s H scope (compEnvC scope cl C X.env) fp) elt te)
    (fold : ∀ x, foldedSetIterable iter X.env x = pure x)
    (h : tSk X.K X.prog X.w wi g tt te (own.map (·.2)) σ H Q)
    (back : ∀ D C s' m H', Inv X pins σ H' s' → Q (.ref D) H' → s'.heap.Ns C m → FpOk X pins H' C → compPost (model X.prog X.w) X.A X.xe use Qf (.ref D) C (.ok .next) s') :
    wpAny (model X.prog X.w) X.A (comprehension (.SetComp elt [⟨tg, iter, ifs, 0⟩] scope pos) scope X.env pos' (newSet (.type "set")) false (eval iter X.env) use) Qf X.xe s := by
  have frees : ∀ y ∈ scope.names, y.2 = .free → ∃ c, X.env.cells.lookup y.1 = some c := fun y hy e => by
    rcases ok.free y hy e with q | q
    · exact I.ok.has _ (.inl q)
    · exact I.ok.has _ (.inr q)
  refine wpAny_comprehension_free (use := use) rfl fold (closure_ok frees) ok.kind (fun y hy e => by rw [ok.uniq y hy, e]) (thn (hi.run pins s σ H _ I h) fun xv s1 hx => thn hx fun itv s2 h2 => ?_)
  obtain ⟨it, fp, tn, J, H2, e, I2, T, st2, f2, q⟩ := h2
  subst e
  refine PpSet.newSet_ok (newEnv_comp ?_)
  generalize hD : s2.heap.objs.size = D
  have free0 : H2 D = none := I2.hok.fresh (Nat.le_of_eq hD)
  obtain ⟨W, ⟨m0, w0⟩, turn⟩ := q D free0
  generalize es3 : ({ s2 with heap := s2.heap.push { cls := .type "set", dict := none, data := .set #[] 0 (.fresh 0 0 (!X.w.params.followText "set-order")) } } : Shared) = s3
  have keep3 : ∀ b o, s2.heap.get? b = some o → s3.heap.get? b = some o := fun b o z => by
    rw [← es3]
    exact Heap.get?_push_of_some _ z
  have size3 : s3.heap.objs.size = s2.heap.objs.size + 1 := by
    rw [← es3]
    exact Heap.size_push ..
  have J3 : Inv X pins σ (upd H2 D (SetK X.prog X.w D [])) s3 := by
    rw [← es3]
    refine I2.laid (t' := s2.toks) (fun b o z => Heap.get?_push_of_some _ z) (Nat.le_of_eq hD) ?_
    rw [← hD]
    exact setK_ok (freshK X.prog X.w)
  have old : ∀ b ∈ fp, b < s2.heap.objs.size := fun b hb => by
    obtain ⟨o, z, _⟩ := T.obj _ _ st2 b hb
    exact Heap.lt_size z
  have feet : ∀ b ∈ fp, FpOk X pins (upd H2 D (SetK X.prog X.w D [])) b ∧ b < s3.heap.objs.size := fun b hb => by
    have lt := old b hb
    refine ⟨⟨?_, (f2 b hb).2⟩, by rw [size3]; exact Nat.lt_succ_of_lt lt⟩
    rw [upd_ne (by rw [← hD]; exact Nat.ne_of_lt lt)]
    exact (f2 b hb).1
  have st3 : tn 0 s3.heap := T.keep _ _ _ st2 fun b _ o z => keep3 b o z
  have J4 := block_start J3 ok hN feet
  have pg := hg s3 (upd H2 D (SetK X.prog X.w D [])) s3.heap.objs.size (cellsFrom (s3.heap.objs.size + 1) scope.names (cloFrom X.env.cells scope.names [])) fp
  have pt := ht s3 (upd H2 D (SetK X.prog X.w D [])) s3.heap.objs.size (cellsFrom (s3.heap.objs.size + 1) scope.names (cloFrom X.env.cells scope.names [])) fp
  have pe := he s3 (upd H2 D (SetK X.prog X.w D [])) s3.heap.objs.size (cellsFrom (s3.heap.objs.size + 1) scope.names (cloFrom X.env.cells scope.names [])) fp
  show codeAny _ _ (.compStart (.SetComp elt [⟨tg, iter, ifs, 0⟩] scope pos) 0 (.ref it) (.ref D) (compEnvC scope (cellsFrom (s3.heap.objs.size + 1) scope.names (cloFrom X.env.cells scope.names [])) s3.heap.objs.size X.env)) (compPost (model X.prog X.w) X.A X.xe use Qf (.ref D) s3.heap.objs.size) { s3 with heap := pushCells (s3.heap.push { cls := .type "dict", data := .dict #[] }) scope.names }
  have none0 : ∀ b ∈ fp, (upd H2 D (SetK X.prog X.w D [])) b = none := fun b hb => (feet b hb).1.1
  generalize hce : compEnvC scope (cellsFrom (s3.heap.objs.size + 1) scope.names (cloFrom X.env.cells scope.names [])) s3.heap.objs.size X.env = ce at J4 pg pt pe ⊢
  have locals : ce.locals = s3.heap.objs.size := by
    rw [← hce]
    rfl
  generalize hH3 : upd H2 D (SetK X.prog X.w D []) = H3 at J3 J4 pg pt pe w0 none0 feet
  generalize es4 : ({ s3 with heap := pushCells (s3.heap.push { cls := .type "dict", data := .dict #[] }) scope.names } : Shared) = s4 at J4 ⊢
  have st4 : tn 0 s4.heap := T.keep _ _ _ st3 fun b _ o z => by
    rw [← es4]
    exact pushCells_keeps _ _ _ _ (Heap.get?_push_of_some _ z)
  have still : ∀ {σ' : L2.St} {H' : Hp} {s' : Shared}, Inv (X.blk s3 H3 scope ce fp) [] σ' H' s' → (∀ b ∈ fp, H' b = none) → ∀ b ∈ fp, FpOk (X.blk s3 H3 scope ce fp) [] H' b := fun {σ' H' s'} I' hn b hb =>
    ⟨hn b hb, (I'.ok.exf b hb).1, I'.ok.exfs b hb, .inl hb, fun x c z => (I'.ok.exf b hb).2 x c z, fun p hp => absurd (show p ∈ ([] : List (Addr × Obj)) ++ [] from hp) (by simp)⟩
  refine PpSet.codeAny_compStart_set ?_ (T.self X.A 0 _ _ _ st4 ?_)
  all_goals
    refine PpSet.compLoopS_any (fun n s' => ∃ i H', Inv (X.blk s3 H3 scope ce fp) [] (wipe σ (own.map (·.2))) H' s' ∧ tn i s'.heap ∧ (∀ b ∈ fp, H' b = none) ∧ W i n H') ?_ m0 ⟨0, H3, J4, st4, none0, w0⟩
    rintro n s5 ⟨i, H5, I5, st5, n5, w5⟩
    rcases turn i n H5 w5 with ⟨stop, qq⟩ | ⟨go, Nx, hNx, step⟩
    · refine thnF (T.done (X.blk s3 H3 scope ce fp) rfl rfl rfl hc i [] s5 _ H5 (fun _ _ => False) I5 (still I5 n5) st5 stop) fun r s6 ⟨hr, I6⟩ => ?_
      subst hr
      have I7 : Inv X pins σ H5 s6 := J3.call' (ch := fp) I6.os I6.base I6.hok I6.bare fun b hb => ⟨(feet b hb).1.2.2.2.1, (feet b hb).1.2.1, (feet b hb).1.2.2.2.2.1, (feet b hb).1.2.2.2.2.2⟩
      have nC : H5 s3.heap.objs.size = none := by
        rw [← locals]
        exact I6.free
      obtain ⟨m, hn, _⟩ := I6.loc
      have hn : s6.heap.Ns ce.locals m := hn
      rw [locals] at hn
      exact back D s3.heap.objs.size s6 m H5 I7 qq hn (J3.fpOk (Nat.le_refl _) nC)
    · refine thnF (T.item (X.blk s3 H3 scope ce fp) rfl rfl rfl hc i [] s5 _ H5 (fun _ _ => False) I5 (still I5 n5) st5 go) fun r s6 ⟨u, hr, h6⟩ => ?_
      subst hr
      refine thnF h6 fun _ s7 ⟨x, H7, I7, r7, y7, st7, n7⟩ => ?_
      have I7' := I7.pinned (still I7 n7) (T.obj _ _ st7)
      refine thnF (pg.run _ s7 _ H7 x u _ I7' r7 (step x H7 y7)) fun _ s8 ⟨σ8, H8, I8, hw8, q8⟩ => ?_
      refine thnF (pt.run _ s8 σ8 H8 _ I8 q8) fun b s9 ⟨H9, I9, q9⟩ => ?_
      have fin : ∀ {s' : Shared} {H' : Hp}, Inv (X.blk s3 H3 scope ce fp) ([] ++ pinsAt fp s7.heap) σ8 H' s' → Nx H' → ∃ m, m < n ∧ ∃ i H', Inv (X.blk s3 H3 scope ce fp) [] (wipe σ (own.map (·.2))) H' s' ∧ tn i s'.heap ∧ (∀ b ∈ fp, H' b = none) ∧ W i m H' := fun {s' H'} I' nx => by
        obtain ⟨m', hm, w'⟩ := hNx H' nx
        have pinned : ∀ b ∈ fp, ∀ o, s7.heap.get? b = some o → s'.heap.get? b = some o ∧ H' b = none := fun b hb o z => by
          have y := I'.pin (b, o) (List.mem_append_right _ (List.mem_append_right _ (mem_pinsAt hb z)))
          exact ⟨y.1, y.2.1⟩
        have len : (wipe σ (own.map (·.2))).length = σ8.length := by rw [← hw8, wipe_length]
        refine ⟨m', hm, i + 1, H', (I'.unpinned (pins := [])).weak len (fun j v z => ?_), T.keep _ _ _ st7 fun b hb o z => (pinned b hb o z).1, fun b hb => ?_, w'⟩
        · rw [← hw8] at z
          exact (wipe_some z).1
        · obtain ⟨o, z, _⟩ := T.obj _ _ st7 b hb
          exact (pinned b hb o z).2
      cases b with
      | false =>
        simp only [Bool.false_eq_true, if_false] at q9 ⊢
        exact fin I9 q9
      | true =>
        simp only [if_true] at q9 ⊢
        refine thnF (pe.run _ s9 σ8 H9 _ I9 q9) fun z s10 ⟨yv, H10, I10, r10, a, k, L, ey, ht10, hD10, hL10, few, nx⟩ => ?_
        subst ey
        cases (show z = Value.ref a from r10)
        exact addK_ok (X := X.blk s3 H3 scope ce fp) I10 hu hD10 ht10 hL10 few fun L' s11 c1 c2 I11 => fin I11 (nx L' c1 c2)
theorem pe_sk {elt tg iter : Expr} {ifs : List Expr} {scope : Scope} {own : List (PySem.Str × Nat)} {pos : Pos} {wi : TI} {g : TG} {tt : TT} {te : TE} (hc : X.calm = true) (hu : X.A.units + 1 < cLine) (hN : X.N.Nodup) (hi : PI X tg iter wi) (ok : BlkOk X.N X.env.scope scope own)
    (hg : ∀ (s : Shared) (H : Hp) (C : Addr) (cl : List (PySem.Str × Addr)) (fp : List Addr), PG (X.blk s H scope (compEnvC scope cl C X.env) fp) tg g)
    (ht : ∀ (s : Shared) (H : Hp) (C : Addr) (cl : List (PySem.Str × Addr)) (fp : List Addr), PTs (X.blk s H scope (compEnvC scope cl C X.env) fp) ifs tt)
    (he : ∀ (s : Shared) (H : Hp) (C : Addr) (cl : List (PySem.Str × Addr)) (fp : List Addr), PE (X.blk s H scope (compEnvC scope cl C X.env) fp) elt te) (fold : ∀ x, foldedSetIterable iter X.env x = pure x := by intro _; rfl) :
    PE X (.SetComp elt [⟨tg, iter, ifs, 0⟩] scope pos) (tSk X.K X.prog X.w wi g tt te (own.map (·.2))) := by
  refine ⟨fun pins s σ H Q I h => ?_⟩
  rw [PpSet.eval_SetComp]
  refine sk_core hc hu hN I hi ok hg ht he fold h fun D C s' m H' I' q hn f => ⟨m, hn, fun h'' sb => ?_⟩
  obtain ⟨f0, f1, f2, f3, f4, f5⟩ := f
  exact ⟨.ref D, H', I'.turned (t' := s'.toks) (fun b o hb z => (sb.2 b hb).trans z) f0 f1 f3 f4 f5, rfl, q⟩
end
end Sx

/-! SxSort -/
/-! The order of texts, of tuples of texts; sorted of tuples of texts in a list, in a set. -/
namespace Sx
open PySem PySem.Spec PyProof.Rows L2

/-! ### texts, as Python orders them -/
theorem ln_irr : ∀ l : List Nat, ¬ l < l
  | [], h => by simp at h
  | a :: l, h => by
    rw [List.cons_lt_cons_iff] at h
    rcases h with h | ⟨_, h⟩
    · exact Nat.lt_irrefl a h
    · exact ln_irr l h
theorem ln_tri : ∀ a b : List Nat, a < b ∨ a = b ∨ b < a
  | [], [] => .inr (.inl rfl)
  | [], b :: bs => .inl (by simp)
  | a :: as, [] => .inr (.inr (by simp))
  | a :: as, b :: bs => by
    rw [List.cons_lt_cons_iff, List.cons_lt_cons_iff]
    rcases Nat.lt_trichotomy a b with h | h | h
    · exact .inl (.inl h)
    · subst h
      rcases ln_tri as bs with q | q | q
      · exact .inl (.inr ⟨rfl, q⟩)
      · exact .inr (.inl (by rw [q]))
      · exact .inr (.inr (.inr ⟨rfl, q⟩))
    · exact .inr (.inr (.inl h))
theorem ln_tr : ∀ {a b c : List Nat}, a < b → b < c → a < c
  | [], _, [], _, h => by simp at h
  | [], _, c :: cs, _, _ => by simp
  | a :: as, [], _, h, _ => by simp at h
  | a :: as, b :: bs, [], _, h => by simp at h
  | a :: as, b :: bs, c :: cs, h, g => by
    rw [List.cons_lt_cons_iff] at h g ⊢
    rcases h with h | ⟨h, h2⟩
    · rcases g with g | ⟨g, g2⟩
      · exact .inl (Nat.lt_trans h g)
      · exact .inl (by rw [← g]; exact h)
    · rcases g with g | ⟨g, g2⟩
      · exact .inl (by rw [h]; exact g)
      · exact .inr ⟨h.trans g, ln_tr h2 g2⟩
abbrev ltS (a b : Str) : Bool := decide (a.cps.toList < b.cps.toList)
theorem str_ext {a b : Str} (h : a.cps.toList = b.cps.toList) : a = b := by
  obtain ⟨a⟩ := a
  obtain ⟨b⟩ := b
  exact congrArg Str.mk (Array.toList_inj.mp h)
theorem ltS_irr (a : Str) : ltS a a = false := decide_eq_false (ln_irr _)
theorem ltS_tri (a b : Str) : ltS a b = true ∨ a = b ∨ ltS b a = true := by
  rcases ln_tri a.cps.toList b.cps.toList with h | h | h
  · exact .inl (decide_eq_true h)
  · exact .inr (.inl (str_ext h))
  · exact .inr (.inr (decide_eq_true h))
theorem ltS_tr {a b c : Str} (h : ltS a b = true) (g : ltS b c = true) : ltS a c = true := decide_eq_true (ln_tr (of_decide_eq_true h) (of_decide_eq_true g))
theorem ltS_asym {a b : Str} (h : ltS a b = true) : ltS b a = false := by
  cases q : ltS b a with
  | false => rfl
  | true =>
    have z := ltS_tr h q
    rw [ltS_irr] at z
    cases z
/-! ### lists of texts, one after another -/
def ltL : List Str → List Str → Bool
  | [], [] => false
  | [], _ :: _ => true
  | _ :: _, [] => false
  | a :: as, b :: bs => if a = b then ltL as bs else ltS a b
theorem ltL_irr : ∀ l : List Str, ltL l l = false
  | [] => rfl
  | a :: l => by
    show (if a = a then ltL l l else ltS a a) = false
    rw [if_pos rfl]
    exact ltL_irr l
theorem ltL_tri : ∀ a b : List Str, ltL a b = true ∨ a = b ∨ ltL b a = true
  | [], [] => .inr (.inl rfl)
  | [], b :: bs => .inl rfl
  | a :: as, [] => .inr (.inr rfl)
  | a :: as, b :: bs => by
    unfold ltL
    by_cases e : a = b
    · subst e
      rw [if_pos rfl, if_pos rfl]
      rcases ltL_tri as bs with q | q | q
      · exact .inl q
      · exact .inr (.inl (by rw [q]))
      · exact .inr (.inr q)
    · rw [if_neg e, if_neg (Ne.symm e)]
      rcases ltS_tri a b with q | q | q
      · exact .inl q
      · exact absurd q e
      · exact .inr (.inr q)
theorem ltL_tr : ∀ {a b c : List Str}, ltL a b = true → ltL b c = true → ltL a c = true
  | [], [], _, h, _ => by cases h
  | [], _ :: _, [], _, h => by cases h
  | [], _, c :: cs, _, _ => rfl
  | a :: as, [], _, h, _ => by cases h
  | a :: as, b :: bs, [], _, h => by cases h
  | a :: as, b :: bs, c :: cs, h, g => by
    unfold ltL at h g ⊢
    by_cases e : a = b
    · subst e
      rw [if_pos rfl] at h
      by_cases f : a = c
      · subst f
        rw [if_pos rfl] at g ⊢
        exact ltL_tr h g
      · rw [if_neg f] at g ⊢
        exact g
    · rw [if_neg e] at h
      by_cases f : b = c
      · subst f
        rw [if_neg e]
        exact h
      · rw [if_neg f] at g
        have z := ltS_tr h g
        have n : a ≠ c := fun q => by
          rw [q, ltS_irr] at z
          cases z
        rw [if_neg n]
        exact z
theorem ltL_asym {a b : List Str} (h : ltL a b = true) : ltL b a = false := by
  cases q : ltL b a with
  | false => rfl
  | true =>
    have z := ltL_tr h q
    rw [ltL_irr] at z
    cases z
theorem ltL_not {a b : List Str} (h : ltL b a = false) : a = b ∨ ltL a b = true := by
  rcases ltL_tri a b with q | q | q
  · exact .inr q
  · exact .inl q
  · rw [h] at q
    cases q
theorem swo_L {α : Type} (k : α → List Str) : SrtO.Swo fun x y => ltL (k x) (k y) := by
  refine ⟨fun x y h => ltL_asym h, fun x y z h1 h2 => ?_⟩
  rcases ltL_not h1 with e | h1
  · rcases ltL_not h2 with e2 | h2
    · rw [e, e2]
      exact ltL_irr _
    · rw [e]
      exact ltL_asym h2
  · rcases ltL_not h2 with e2 | h2
    · rw [← e2]
      exact ltL_asym h1
    · exact ltL_asym (ltL_tr h1 h2)

/-! ### tuples of texts compared by the sort -/
def IsTP (h : Heap) (v : Value) (ks : List Str) : Prop := ∃ a o its n, v = .ref a ∧ h.get? a = some o ∧ o.cls = .type "tuple" ∧ o.data = .seq its n ∧ Vals (ks.map V.str) its.toList
theorem IsTP.stay {h h' : Heap} {v : Value} {ks : List Str} (p : IsTP h v ks) (k : ∀ b o, h.get? b = some o → o.cls = .type "tuple" → h'.get? b = some o) : IsTP h' v ks := by
  obtain ⟨a, o, its, n, e, ho, hc, r⟩ := p
  exact ⟨a, o, its, n, e, k _ _ ho hc, hc, r⟩
section
variable {prog : Program} {w : World} {A : Around} {E : Value → Shared → Prop} {s : Shared}
theorem kat_texts {fin : Bool} {Q : Bool → Shared → Prop} : ∀ (ks ls : List Str) (us vs : List Value) (i : Nat), Vals (ks.map V.str) us → Vals (ls.map V.str) vs → fin = decide (ks.length < ls.length) → Q (ltL ks ls) s →
    PySem.W.KatLex prog w A true fin Q (us.zip vs) i s
  | [], [], _, _, i, .nil, .nil, e, h => PySem.W.kat_nil (by rw [e]; exact h)
  | [], b :: ls, _, _, i, .nil, .cons _ _, e, h => PySem.W.kat_nil (by rw [e]; exact h)
  | a :: ks, [], _, _, i, .cons _ _, .nil, e, h => PySem.W.kat_nil (by rw [e]; exact h)
  | a :: ks, b :: ls, _, _, i, .cons ra ras, .cons rb rbs, e, h => by
    obtain ⟨t, ea⟩ := ra
    obtain ⟨u, eb⟩ := rb
    subst ea
    subst eb
    unfold ltL at h
    refine PySem.W.kat_cons (wpAny_eqBool_str ?_)
    refine PySem.W.kat_go (fun e1 => ?_) (fun e1 => ?_)
    · rw [if_pos (by simpa using e1)] at h
      exact PySem.W.kat_yes (kat_texts ks ls _ _ (i + 1) ras rbs (by rw [e]; simp) h)
    · rw [if_neg (by simpa using e1)] at h
      refine PySem.W.kat_no ?_
      cases i with
      | zero => exact oneLt_str h
      | succ i =>
        show wpAny _ _ (oneLt' (true && false) _ _) _ _ _
        exact PySem.W.kat_one _ _ (PyProof.Rows.lt_str h)
theorem texts_cmp {vs : List Value} {k : Value → List Str} (hp : ∀ v ∈ vs, IsTP s.heap v (k v)) : SrtO.Cmp prog w A s (tuples' true) (fun p => p.1 ∈ vs) (SrtO.lt2 fun v u => ltL (k v) (k u)) := by
  intro p q hm hm'
  obtain ⟨a, o, its, n, e, ho, hc, hd, r⟩ := hp _ hm
  obtain ⟨a', o', its', n', e', ho', hc', hd', r'⟩ := hp _ hm'
  show wpAny (model prog w) A (keyLt' (tuples' true) p.1 q.1) (fun r s' => s' = s ∧ r = ltL (k p.1) (k q.1)) (fun _ _ => False) s
  generalize k p.1 = kp at r ⊢
  generalize k q.1 = kq at r' ⊢
  rw [e, e']
  refine PySem.W.kat_lt ho hd ho' hd' (kat_texts kp kq _ _ 0 r r' ?_ ⟨rfl, rfl⟩)
  have l1 : kp.length = its.size := by simpa using Paired.length r
  have l2 : kq.length = its'.size := by simpa using Paired.length r'
  rw [l1, l2]
theorem texts_first {h : Heap} : ∀ {vs : List Value}, (∀ v ∈ vs, ∃ k, k ≠ [] ∧ IsTP h v k) → ∃ fs : List Value, PySem.W.KatTups h vs fs ∧ fs.length = vs.length ∧ ∀ f ∈ fs, ∃ x t, f = Value.str x t
  | [], _ => ⟨[], PySem.W.KatTups.nil, rfl, fun _ hm => nomatch hm⟩
  | v :: vs, hp => by
    obtain ⟨fs, h1, h2, h3⟩ := texts_first (vs := vs) fun u hu => hp u (List.mem_cons_of_mem _ hu)
    obtain ⟨k, ne, a, o, its, n, e, ho, hc, hd, r⟩ := hp v List.mem_cons_self
    subst e
    match k, its, ne, r, hd with
    | [], _, ne, _, _ => exact absurd rfl ne
    | x :: k, ⟨u :: us⟩, _, .cons ru _, hd =>
      obtain ⟨t, eu⟩ := ru
      subst eu
      refine ⟨.str x t :: fs, PySem.W.KatTups.cons ho hc hd rfl h1, by rw [List.length_cons, List.length_cons, h2], fun f hm => ?_⟩
      rcases List.mem_cons.mp hm with z | z
      · exact ⟨x, t, z⟩
      · exact h3 f z
theorem texts_sortable {a : Addr} {vs : List Value} {k : Value → List Str} (h0 : 0 < vs.length) (hp : ∀ v ∈ vs, k v ≠ [] ∧ IsTP s.heap v (k v)) (ha : ∀ o, s.heap.get? a = some o → o.cls ≠ .type "tuple") : SrtO.SortableO prog w A s a vs fun v u => ltL (k v) (k u) := by
  intro h' keep
  have hp' : ∀ v ∈ vs, IsTP h' v (k v) := fun v hm => (hp v hm).2.stay fun b o e c => keep b o (fun z => by subst z; exact ha o e c) e
  obtain ⟨fs, h1, h2, h3⟩ := texts_first fun v hm => ⟨_, (hp v hm).1, hp' v hm⟩
  refine ⟨tuples' true, fun Q E hq => ?_, texts_cmp hp'⟩
  refine PySem.W.kat_kind (T := .type "str") h1 (by omega) (fun f hm => ?_) (by rfl) ?_
  · obtain ⟨x, t, e⟩ := h3 f hm
    subst e
    exact PySem.W.Looks.now
  · have e : (Value.type "str" != Value.type "tuple") = true := by first | decide +kernel | rfl | decide
    rw [e]
    exact hq
/-- sorted(l) of tuples of texts -/
theorem sorted_texts {l : Addr} {vs : List Value} {k : Value → List Str} {Q : Value → Shared → Prop} (hl : s.heap.IsList l vs.toArray) (hz : vs.length ≤ sizeLine) (hp : ∀ v ∈ vs, k v ≠ [] ∧ IsTP s.heap v (k v))
    (h : ∀ (h' : Heap) (d : Addr) (out : List Value), out.Perm vs → out.Pairwise (fun v u => ltL (k u) (k v) = false) → (∀ b o, s.heap.get? b = some o → h'.get? b = some o) → s.heap.objs.size ≤ d → (∃ n, h'.get? d = some (seqObj "list" out.toArray n)) → Q (.ref d) { s with heap := h' }) :
    wpAny (model prog w) A (call (.builtin "sorted") [.ref l]) Q E s := by
  refine SrtO.sorted_ord (swo_L k) hl hz (fun h2 h₁ a ha kk => ?_) fun out hs hb => ?_
  · refine texts_sortable (s := { s with heap := h₁ }) (by omega) (fun v hm => ⟨(hp v hm).1, (hp v hm).2.stay fun b o e _ => (kk b o e).2⟩) fun o e => ?_
    have e' : some o = some (seqObj "list" vs.toArray 0) := e.symm.trans ha
    cases e'
    intro c
    exact absurd (Value.type.inj c) (by decide)
  · exact h _ _ out hb.perm hs (fun b o e => sortedAll_old e) (Nat.le_succ _) (sortedAll_at s.heap vs out.toArray)
end

/-! ### as rules of the layer -/
/-- sorted(xs), xs a list of tuples of texts, none empty -/
def rSortTL (K : PySem.W.Frag) : List V → Hp → VK → Prop := fun vs H Q => ∃ (a : Addr) (xs : List V) (k : V → List Str), vs = [V.ref a] ∧ SqL K H a xs ∧ (∀ x ∈ xs, k x ≠ [] ∧ ∃ t, x = V.ref t ∧ SqT K H t ((k x).map V.str)) ∧
  ∀ ys p, ys.Perm xs → ys.Pairwise (fun x y => ltL (k y) (k x) = false) → H p = none → Q (.ref p) (upd H p (.lst ys))
/-- sorted(s), s a set of tuples of texts, none empty -/
def rSortSK (K : PySem.W.Frag) (P : Program) (w : World) : List V → Hp → VK → Prop := fun vs H Q => ∃ (a : Addr) (L : List Row) (k : Addr → List Str), vs = [V.ref a] ∧ H a = some (SetK P w a L) ∧ Rws K H L ∧ (∀ p ∈ L, k p.1 ≠ [] ∧ p.2 = (k p.1).map Sum.inr) ∧
  ∀ (as : List Addr) (p : Addr), as.Perm (L.map (·.1)) → as.Pairwise (fun x y => ltL (k y) (k x) = false) → H p = none → Q (.ref p) (upd H p (.lst (as.map V.ref)))
section
variable {X : Cx} {pins : List (Addr × Obj)} {σ : L2.St} {H : Hp} {s : Shared}
theorem isTP_of (I : Inv X pins σ H s) {t : Addr} {ks : List Str} (h : SqT X.K H t (ks.map V.str)) : IsTP s.heap (.ref t) ks := by
  obtain ⟨its, r, ⟨o, ho, hc, n, hd⟩, _⟩ := I.tuple h
  exact ⟨t, o, its.toArray, n, rfl, ho, hc, hd, by simpa using r⟩
theorem cr_sortTL : CallR X (.builtin "sorted") (rSortTL X.K) := by
  intro pins s σ H vs us Q I r h
  obtain ⟨a, xs, k, rfl, hs, hx, q⟩ := h
  obtain ⟨its, rv, hl, hz⟩ := I.list hs
  rw [Vals.ref1 r]
  obtain ⟨e1, e2⟩ := refs_back rv fun x m => by
    obtain ⟨_, t, e, _⟩ := hx x m
    exact ⟨t, e⟩
  refine sorted_texts (k := fun u => k (backV u)) hl.isList (by rw [← rv.length]; exact hz) (fun v hv => ?_) fun h' d out pm pw kp hd hn => ?_
  · obtain ⟨t, rfl⟩ := e2 v hv
    have hm : V.ref t ∈ xs := by
      rw [e1]
      exact List.mem_map.mpr ⟨_, hv, rfl⟩
    obtain ⟨ne, t', e, ht⟩ := hx _ hm
    cases e
    exact ⟨ne, isTP_of I ht⟩
  · have h3 : ∀ u ∈ out, ∃ a, u = Value.ref a := fun u hu => e2 u (pm.mem_iff.mp hu)
    obtain ⟨n, hn⟩ := hn
    have pm' : (out.map backV).Perm xs := by
      rw [e1]
      exact pm.map backV
    exact ⟨.ref d, upd H d (.lst (out.map backV)), I.laid (t' := s.toks) kp hd ⟨by rw [pm'.length_eq]; exact hz, out, n, vals_back h3, hn⟩, rfl, q _ d pm' (List.pairwise_map.mpr pw) (I.hok.fresh hd)⟩
theorem back_refs : ∀ as : List Addr, (as.map Value.ref).map backV = as.map V.ref
  | [] => rfl
  | a :: as => congrArg (V.ref a :: ·) (back_refs as)
theorem refs_all : ∀ vs : List Value, (∀ v ∈ vs, ∃ a, v = Value.ref a) → ∃ as : List Addr, vs = as.map Value.ref
  | [], _ => ⟨[], rfl⟩
  | v :: vs, h => by
    obtain ⟨a, e⟩ := h v List.mem_cons_self
    obtain ⟨as, e2⟩ := refs_all vs fun u hu => h u (List.mem_cons_of_mem _ hu)
    exact ⟨a :: as, by rw [e, e2]; rfl⟩
theorem ref_inj {a b : Addr} (h : Value.ref a = Value.ref b) : a = b := by cases h; rfl
theorem perm_refs {as bs : List Addr} (h : (as.map Value.ref).Perm (bs.map Value.ref)) : as.Perm bs := by
  have back : ∀ l : List Addr, (l.map Value.ref).map (fun v => match v with | .ref a => a | _ => 0) = l := fun l => by
    induction l with
    | nil => rfl
    | cons a l ih => exact congrArg (a :: ·) ih
  have q := h.map (fun v => match v with | .ref a => a | _ => (0 : Addr))
  rw [back, back] at q
  exact q
theorem vals_refs : ∀ as : List Addr, Vals (as.map V.ref) (as.map Value.ref)
  | [] => .nil
  | a :: as => .cons rfl (vals_refs as)
theorem cr_sortSK (hc : X.calm = true) : CallR X (.builtin "sorted") (rSortSK X.K X.prog X.w) := by
  intro pins s σ H vs us Q I r h
  obtain ⟨a, L, k, rfl, ha, hL, hk, q⟩ := h
  obtain ⟨es, ep, t, R⟩ := (show ObjOk X.prog X.w H s.heap a (SetK X.prog X.w a L) from I.hok a _ ha).1
  obtain ⟨o, ho, hex, hd⟩ := id R.obj
  have size := rows_len R.are
  have few := R.few
  rw [Vals.ref1 r]
  refine Calls.call_function_entry kind_sorted plain_sorted entry_sorted (args_sorted1 _) ?_
  unfold Builtin.«sorted»
  refine wpAny_bind (m := checkCount "sorted" 1 1 _) (wpAny_pure ?_)
  refine wpAny_bind (collect_set (A := X.A.in1) (I.ok.hd hc) ⟨o, ho, hex.1, hd⟩ R.fits (by unfold scanBound; omega) R.tab.up R.led fun s1 vs k1 hz g1 o1 pm => ?_)
  have hes : es.toList.map (·.2) = (L.map (·.1)).map Value.ref := by
    rw [R.are]
    unfold rows
    rw [List.map_map, List.map_map]
    rfl
  rw [hes] at pm
  obtain ⟨as, eas⟩ := refs_all vs fun v hv => by
    obtain ⟨b, _, e⟩ := List.mem_map.mp (pm.mem_iff.mp hv)
    exact ⟨b, e.symm⟩
  subst eas
  have pas := perm_refs pm
  have len : (as.map Value.ref).length ≤ sizeLine := by
    rw [List.length_map, pas.length_eq, List.length_map, sizeLine_eq]
    omega
  refine wpAny_bind (wpAny_newList ?_ len)
  have hoL : (s1.heap.push (seqObj "list" (as.map Value.ref).toArray 0)).get? s1.heap.objs.size = some (seqObj "list" (as.map Value.ref).toArray 0) := Heap.get?_push_size _ rfl
  let kv : Value → List Str := fun v => match v with | .ref b => k b | _ => []
  have hp : ∀ v ∈ as.map Value.ref, kv v ≠ [] ∧ IsTP (s1.heap.push (seqObj "list" (as.map Value.ref).toArray 0)) v (kv v) := fun v hv => by
    obtain ⟨b, hb, e⟩ := List.mem_map.mp hv
    subst e
    obtain ⟨p, hp, e⟩ := List.mem_map.mp (pas.mem_iff.mp hb)
    subst e
    refine ⟨(hk p hp).1, (isTP_of I (t := p.1) (ks := k p.1) ?_).stay fun c u e _ => Heap.get?_push_of_some _ (k1 c u e)⟩
    have z := hL p hp
    rw [(hk p hp).2, List.map_map] at z
    exact z
  refine wpAny_bind (wpAny_holding (wpAny_call_entry slot_list_sort ⟨_, hoL, rfl⟩ entry_list_sort (SrtO.list_sort_ord (s := { s1 with heap := s1.heap.push (seqObj "list" (as.map Value.ref).toArray 0) }) (swo_L kv) hoL len (fun h2 => texts_sortable (by omega) hp fun o' e c => ?_) fun out hs hb => ⟨_, rfl, ?_⟩) (args_list_sort _)))
  · have e' : some o' = some (seqObj "list" (as.map Value.ref).toArray 0) := e.symm.trans hoL
    cases e'
    exact absurd (Value.type.inj c) (by decide)
  · obtain ⟨c, hc'⟩ := sortedHeap_at (vs := as.map Value.ref) (out := out.toArray) hoL
    obtain ⟨bs, ebs⟩ := refs_all out fun v hv => by
      obtain ⟨b, _, e⟩ := List.mem_map.mp (hb.perm.mem_iff.mp hv)
      exact ⟨b, e.symm⟩
    subst ebs
    have pbs := perm_refs hb.perm
    have pw : bs.Pairwise fun x y => ltL (k y) (k x) = false := List.pairwise_map.mp hs
    have hn : H s1.heap.objs.size = none := I.hok.fresh hz
    have kk : ∀ b u, s.heap.get? b = some u → (sortedHeap (s1.heap.push (seqObj "list" (as.map Value.ref).toArray 0)) s1.heap.objs.size (as.map Value.ref) (bs.map Value.ref).toArray).get? b = some u := fun b u e => by
      have z := k1 b u e
      have lt := Heap.lt_size z
      rw [sortedHeap_old (Nat.ne_of_lt lt) (by rw [size_push']; exact Nat.lt_succ_of_lt lt)]
      exact Heap.get?_push_of_some _ z
    have blen : (bs.map V.ref).length ≤ sizeLine := by
      rw [List.length_map, pbs.length_eq, pas.length_eq, List.length_map, sizeLine_eq]
      omega
    have J := I.call' (s' := { s1 with heap := sortedHeap (s1.heap.push (seqObj "list" (as.map Value.ref).toArray 0)) s1.heap.objs.size (as.map Value.ref) (bs.map Value.ref).toArray }) (ch := []) o1 (Un.laid kk hz hn)
      (HOk.laid (o := .lst (bs.map V.ref)) I.hok kk hz ⟨blen, bs.map Value.ref, c, vals_refs bs, by simpa using hc'⟩) (by rw [g1]; exact I.bare) (fun _ z => nomatch z)
    exact wpAny_pure ⟨_, rfl, .ref s1.heap.objs.size, _, J, rfl, q bs s1.heap.objs.size (pbs.trans pas) pw hn⟩
end
end Sx

/-! SxCalls -/
/-! min, max, sorted of texts in lists and tuples; loops over either. -/
namespace Sx
open PySem PySem.Spec PyProof.Rows L2

/-- xs stand in a list or a tuple at a -/
def Sq (K : PySem.W.Frag) (H : Hp) (a : Addr) (xs : List V) : Prop := SqL K H a xs ∨ SqT K H a xs
section
variable {prog : Program} {w : World} {A : Around} {E : Value → Shared → Prop} {s : Shared} {l : Addr} {vs : List Value}
def sv : Value → Str
  | .str x _ => x
  | _ => ⟨#[]⟩
theorem sv_of {ks : List Str} {us : List Value} (r : Vals (ks.map V.str) us) : us.map sv = ks ∧ ∀ u ∈ us, ∃ t, u = .str (sv u) t := by
  induction ks generalizing us with
  | nil =>
    cases r
    exact ⟨rfl, fun u hu => nomatch hu⟩
  | cons k ks ih =>
    cases r with
    | cons h1 h2 =>
      obtain ⟨t, e⟩ := h1
      subst e
      obtain ⟨e1, e2⟩ := ih h2
      refine ⟨by rw [List.map_cons, e1]; rfl, fun u hu => ?_⟩
      rcases List.mem_cons.mp hu with z | z
      · exact ⟨t, by rw [z]; rfl⟩
      · exact e2 u z
theorem of_sv : ∀ {us : List Value}, (∀ u ∈ us, ∃ t, u = .str (sv u) t) → Vals ((us.map sv).map V.str) us
  | [], _ => .nil
  | u :: us, h => by
    obtain ⟨t, e⟩ := h u List.mem_cons_self
    exact .cons ⟨t, e⟩ (of_sv fun v hv => h v (List.mem_cons_of_mem _ hv))
theorem cmp_gt {its : Array Value} (h : ∀ u ∈ its.toList, ∃ t, u = .str (sv u) t) : CmpOf prog w A .Gt (fun i v => its[i]? = some v) (fun i j => ltS (sv (its[j]?.getD .none)) (sv (its[i]?.getD .none))) := fun i j vi vj s Q E hi hj hq => by
  dsimp only at hi hj hq
  rw [hi, hj] at hq
  obtain ⟨t, e⟩ := h vi (List.mem_of_getElem? (by rw [Array.getElem?_toList]; exact hi))
  obtain ⟨u, e2⟩ := h vj (List.mem_of_getElem? (by rw [Array.getElem?_toList]; exact hj))
  rw [e, e2] at hq ⊢
  exact richCompare_gives (op := .Gt) (typeIs_str s _ t) (typeIs_str s _ u) F.slot_str_gt F.entry_str_gt (F.args_str_gt_2 _ _) (gives_str_gt _ _ t u) (fun e => nomatch e) hq
theorem cmp_lt {its : Array Value} (h : ∀ u ∈ its.toList, ∃ t, u = .str (sv u) t) : CmpOf prog w A .Lt (fun i v => its[i]? = some v) (fun i j => ltS (sv (its[i]?.getD .none)) (sv (its[j]?.getD .none))) := fun i j vi vj s Q E hi hj hq => by
  dsimp only at hi hj hq
  rw [hi, hj] at hq
  obtain ⟨t, e⟩ := h vi (List.mem_of_getElem? (by rw [Array.getElem?_toList]; exact hi))
  obtain ⟨u, e2⟩ := h vj (List.mem_of_getElem? (by rw [Array.getElem?_toList]; exact hj))
  rw [e, e2] at hq ⊢
  exact richCompare_gives (op := .Lt) (typeIs_str s _ t) (typeIs_str s _ u) F.slot_str_lt F.entry_str_lt (F.args_str_lt_2 _ _) (gives_str_lt _ _ t u) (fun e => nomatch e) hq
theorem iter_tup {its : Array Value} {Q : Value → Shared → Prop} (hl : s.heap.IsTuple l its)
    (h : ∀ s₂ : Shared, s₂ = { s with heap := s.heap.push { cls := .type "tuple_iterator", data := .fields #[.ref l, .int 0 0] } } →
      (s₂.heap.IsTupleIter s.heap.objs.size l 0 ∧ s₂.heap.IsTuple l its) → (∀ b ∈ [s.heap.objs.size, l], b < s₂.heap.objs.size) → l ≠ s.heap.objs.size → Q (.ref s.heap.objs.size) s₂) : wpAny (model prog w) A (pyIter (.ref l)) Q E s := by
  obtain ⟨o, e, c, n, d⟩ := id hl
  have lt : l < s.heap.objs.size := Heap.lt_size e
  refine wpAny_pyIter_tuple hl (h _ rfl ⟨⟨_, Heap.get?_push_size _ rfl, rfl, rfl⟩, ⟨o, Heap.get?_push_of_some _ e, c, n, d⟩⟩ (fun b hb => ?_) (Nat.ne_of_lt lt))
  show b < (s.heap.push _).objs.size
  rw [Heap.size_push]
  rcases List.mem_cons.mp hb with z | hb
  · rw [z]; exact Nat.lt_succ_self _
  · rw [List.mem_singleton.mp hb]; exact Nat.lt_succ_of_lt lt
theorem kept_tup {h' : Heap} (hk : ∀ b o, b ∉ [s.heap.objs.size] → (s.heap.push { cls := .type "tuple_iterator", data := .fields #[.ref l, .int 0 0] }).get? b = some o → h'.get? b = some o) :
    ∀ b o, s.heap.get? b = some o → h'.get? b = some o := fun b o e => hk b o (fun z => by
      rw [List.mem_singleton.mp z] at e
      exact Nat.lt_irrefl _ (Heap.lt_size e)) (Heap.get?_push_of_some _ e)
/-- of two texts the greater, the lesser -/
def mxS (a b : Str) : Str := if ltS a b = true then b else a
def mnS (a b : Str) : Str := if ltS b a = true then b else a
theorem max_two {a b : Str} {t u : Tok} {Q : Value → Shared → Prop} (hh : A.handled = none) (hl : s.heap.IsList l #[.str a t, .str b u] ∨ s.heap.IsTuple l #[.str a t, .str b u])
    (h : ∀ v h' tk, (∃ t, v = .str (mxS a b) t) → (∀ d o, s.heap.get? d = some o → h'.get? d = some o) → Q v { s with heap := h', toks := tk }) : wpAny (model prog w) A (call (.builtin "max") [.ref l]) Q E s := by
  have every : ∀ v ∈ (#[.str a t, .str b u] : Array Value).toList, ∃ t, v = .str (sv v) t := fun v hv => by
    rcases List.mem_cons.mp hv with z | hv
    · exact ⟨t, by rw [z]; rfl⟩
    · exact ⟨u, by rw [List.mem_singleton.mp hv]; rfl⟩
  have pick : ∀ v, (#[.str a t, .str b u] : Array Value)[argBest (fun i j => ltS (sv ((#[.str a t, .str b u] : Array Value)[j]?.getD .none)) (sv ((#[.str a t, .str b u] : Array Value)[i]?.getD .none))) (2 - 1)]? = some v → ∃ t, v = .str (mxS a b) t := fun v hv => by
    cases q : ltS a b with
    | true =>
      have e : argBest (fun i j => ltS (sv ((#[.str a t, .str b u] : Array Value)[j]?.getD .none)) (sv ((#[.str a t, .str b u] : Array Value)[i]?.getD .none))) (2 - 1) = 1 := by
        show (if ltS a b = true then 0 + 1 else 0) = 1
        rw [q]; rfl
      rw [e] at hv
      exact ⟨u, by unfold mxS; rw [q]; exact (Option.some.inj hv).symm⟩
    | false =>
      have e : argBest (fun i j => ltS (sv ((#[.str a t, .str b u] : Array Value)[j]?.getD .none)) (sv ((#[.str a t, .str b u] : Array Value)[i]?.getD .none))) (2 - 1) = 0 := by
        show (if ltS a b = true then 0 + 1 else 0) = 0
        rw [q]; rfl
      rw [e] at hv
      exact ⟨t, by unfold mxS; rw [q]; exact (Option.some.inj hv).symm⟩
  rcases hl with hl | hl
  · refine call_max_walk (iter_anyList hl fun s₂ e st hfp ne => ?_)
    subst e
    exact ⟨_, _, _, _, _, _, _, rfl, Walks.list (A := A.in1) hh _ l ne #[.str a t, .str b u], st, hfp, by simp, cmp_gt every, fun v h' tk hP hk => h v h' tk (pick v hP) (PySem.old_kept hk)⟩
  · refine call_max_walk (iter_tup hl fun s₂ e st hfp ne => ?_)
    subst e
    exact ⟨_, _, _, _, _, _, _, rfl, Walks.tuple (A := A.in1) hh _ l ne #[.str a t, .str b u], st, hfp, by simp, cmp_gt every, fun v h' tk hP hk => h v h' tk (pick v hP) (kept_tup hk)⟩
theorem min_two {a b : Str} {t u : Tok} {Q : Value → Shared → Prop} (hh : A.handled = none) (hl : s.heap.IsList l #[.str a t, .str b u] ∨ s.heap.IsTuple l #[.str a t, .str b u])
    (h : ∀ v h' tk, (∃ t, v = .str (mnS a b) t) → (∀ d o, s.heap.get? d = some o → h'.get? d = some o) → Q v { s with heap := h', toks := tk }) : wpAny (model prog w) A (call (.builtin "min") [.ref l]) Q E s := by
  have every : ∀ v ∈ (#[.str a t, .str b u] : Array Value).toList, ∃ t, v = .str (sv v) t := fun v hv => by
    rcases List.mem_cons.mp hv with z | hv
    · exact ⟨t, by rw [z]; rfl⟩
    · exact ⟨u, by rw [List.mem_singleton.mp hv]; rfl⟩
  have pick : ∀ v, (#[.str a t, .str b u] : Array Value)[argBest (fun i j => ltS (sv ((#[.str a t, .str b u] : Array Value)[i]?.getD .none)) (sv ((#[.str a t, .str b u] : Array Value)[j]?.getD .none))) (2 - 1)]? = some v → ∃ t, v = .str (mnS a b) t := fun v hv => by
    cases q : ltS b a with
    | true =>
      have e : argBest (fun i j => ltS (sv ((#[.str a t, .str b u] : Array Value)[i]?.getD .none)) (sv ((#[.str a t, .str b u] : Array Value)[j]?.getD .none))) (2 - 1) = 1 := by
        show (if ltS b a = true then 0 + 1 else 0) = 1
        rw [q]; rfl
      rw [e] at hv
      exact ⟨u, by unfold mnS; rw [q]; exact (Option.some.inj hv).symm⟩
    | false =>
      have e : argBest (fun i j => ltS (sv ((#[.str a t, .str b u] : Array Value)[i]?.getD .none)) (sv ((#[.str a t, .str b u] : Array Value)[j]?.getD .none))) (2 - 1) = 0 := by
        show (if ltS b a = true then 0 + 1 else 0) = 0
        rw [q]; rfl
      rw [e] at hv
      exact ⟨t, by unfold mnS; rw [q]; exact (Option.some.inj hv).symm⟩
  rcases hl with hl | hl
  · refine call_min_walk (iter_anyList hl fun s₂ e st hfp ne => ?_)
    subst e
    exact ⟨_, _, _, _, _, _, _, rfl, Walks.list (A := A.in1) hh _ l ne #[.str a t, .str b u], st, hfp, by simp, cmp_lt every, fun v h' tk hP hk => h v h' tk (pick v hP) (PySem.old_kept hk)⟩
  · refine call_min_walk (iter_tup hl fun s₂ e st hfp ne => ?_)
    subst e
    exact ⟨_, _, _, _, _, _, _, rfl, Walks.tuple (A := A.in1) hh _ l ne #[.str a t, .str b u], st, hfp, by simp, cmp_lt every, fun v h' tk hP hk => h v h' tk (pick v hP) (kept_tup hk)⟩
/-- collect of a tuple -/
theorem collect_tup {Q : List Value → Shared → Prop} (hl : s.heap.IsTuple l vs.toArray) (hz : vs.length ≤ sizeLine)
    (h : ∀ h', (∀ b o, s.heap.get? b = some o → h'.get? b = some o) → s.heap.objs.size ≤ h'.objs.size → Q vs { s with heap := h' }) : wpAny (model prog w) A (collect (.ref l)) Q E s := by
  obtain ⟨o, ho, hc, n, hd⟩ := id hl
  unfold collect
  refine wpAny_bind (wpAny_runValue (codeAny_builtin entry_proto_collect' ?_))
  show wpAny _ _ (do again (.builtin "list.__iadd__" ⟨[← newList [], .ref l], []⟩)) _ _ s
  refine wpAny_bind (wpAny_newList (wpAny_pure ⟨Code.quiet_builtin _ (by decide +kernel), codeAny_builtin entry_list_iadd' ?_⟩))
  show wpAny _ _ (Builtin.List.listExtendWith (.ref s.heap.objs.size) (.ref l) (.ref s.heap.objs.size)) _ _ { s with heap := s.heap.push (seqObj "list" #[] 0) }
  unfold Builtin.List.listExtendWith
  have ho' : (s.heap.push (seqObj "list" #[] 0)).get? l = some o := Heap.get?_push_of_some _ ho
  refine wpAny_bind (wpAny_typeOf (T := "tuple") ⟨o, ho', hc⟩ ?_)
  have ht : (Value.type "tuple" == Value.type "tuple") = true := by rfl
  rw [if_pos (by rw [ht]; simp)]
  refine wpAny_bind (listItems_at ho' hd (listItems_at (xs := #[]) (n := 0) (Heap.get?_push_size _ rfl) rfl ?_ |> wpAny_bind))
  rw [if_neg (by simp)]
  refine wpAny_bind (listUpdate_at (xs := #[]) (n := 0) (Heap.get?_push_size _ rfl) rfl ?_ (Nat.zero_le _) (by simp only [Array.size_append, List.size_toArray, List.length_nil]; omega))
  refine wpAny_pure ?_
  show wpAny (model prog w) A (do
      let o ← load s.heap.objs.size
      match o.data with
      | .seq xs _ => pure xs.toList
      | _ => unsupported "internal:collect") Q E { s with heap := (s.heap.push (seqObj "list" #[] 0)).update s.heap.objs.size (Obj.mapSeq (· ++ vs.toArray)) }
  refine wpAny_bind (wpAny_load (get?_update_seq (Heap.get?_push_size _ rfl) _) ?_)
  show wpAny _ _ (pure ((#[] : Array Value) ++ vs.toArray).toList) Q E _
  rw [show ((#[] : Array Value) ++ vs.toArray).toList = vs by simp]
  refine wpAny_pure (h _ (fun b u e => ?_) ?_)
  · rw [Heap.get?_update_ne _ _ _ _ (Nat.ne_of_lt (Heap.lt_size e))]
    exact Heap.get?_push_of_some _ e
  · rw [Heap.size_update, Heap.size_push]
    exact Nat.le_succ _
theorem collect_lst {Q : List Value → Shared → Prop} (hl : s.heap.IsList l vs.toArray) (hz : vs.length ≤ sizeLine)
    (h : ∀ h', (∀ b o, s.heap.get? b = some o → h'.get? b = some o) → s.heap.objs.size ≤ h'.objs.size → Q vs { s with heap := h' }) : wpAny (model prog w) A (collect (.ref l)) Q E s := by
  refine collect_list hl (h _ (fun b u e => ?_) ?_) hz
  · rw [Heap.get?_update_ne _ _ _ _ (Nat.ne_of_lt (Heap.lt_size e))]
    exact Heap.get?_push_of_some _ e
  · rw [Heap.size_update, Heap.size_push]
    exact Nat.le_succ _
theorem swo_S {α : Type} (k : α → Str) : SrtO.Swo fun x y => ltS (k x) (k y) := by
  refine ⟨fun x y h => ltS_asym h, fun x y z h1 h2 => ?_⟩
  rcases ltS_tri (k x) (k y) with q | q | q
  · rcases ltS_tri (k y) (k z) with p | p | p
    · exact ltS_asym (ltS_tr q p)
    · rw [← p]; exact h1
    · rw [h2] at p; cases p
  · rw [q]; exact h2
  · rw [h1] at q; cases q
theorem txt_sortable {a : Addr} (h2 : 2 ≤ vs.length) (hv : ∀ u ∈ vs, ∃ t, u = .str (sv u) t) : SrtO.SortableO prog w A s a vs fun v u => ltS (sv v) (sv u) := by
  intro h' _
  refine ⟨oneType', fun Q E hq => ?_, fun p q hm hm' => ?_⟩
  · match vs, h2, hv with
    | v1 :: v2 :: rest, _, hv =>
      rw [keyKind_strs (Vals.strs (of_sv hv))]
      exact wpAny_pure hq
    | [], h, _ => exact absurd h (by decide)
    | [v], h, _ => exact absurd h (by simp)
  · obtain ⟨t, e⟩ := hv _ hm
    obtain ⟨u, e'⟩ := hv _ hm'
    show wpAny (model prog w) A (keyLt' oneType' p.1 q.1) (fun r s' => s' = _ ∧ r = ltS (sv p.1) (sv q.1)) (fun _ _ => False) _
    rw [e, e', keyLt'_oneType]
    exact oneLt_str ⟨rfl, rfl⟩
/-- sorted of texts, behind their collecting -/
theorem sorted_txt {x : Value} {Q : Value → Shared → Prop} (hv : ∀ u ∈ vs, ∃ t, u = .str (sv u) t) (hz : vs.length ≤ sizeLine)
    (hc : ∀ Q' : List Value → Shared → Prop, (∀ h', (∀ b o, s.heap.get? b = some o → h'.get? b = some o) → s.heap.objs.size ≤ h'.objs.size → Q' vs { s with heap := h' }) → wpAny (model prog w) A.in1 (collect x) Q' (fun _ _ => False) s)
    (h : ∀ h' d (out : List Value), out.Perm vs → out.Pairwise (fun v u => ltS (sv u) (sv v) = false) → (∀ b o, s.heap.get? b = some o → h'.get? b = some o) → s.heap.objs.size ≤ d → (∃ n, h'.get? d = some (seqObj "list" out.toArray n)) → Q (.ref d) { s with heap := h' }) :
    wpAny (model prog w) A (call (.builtin "sorted") [x]) Q E s := by
  refine Calls.call_function_entry kind_sorted plain_sorted entry_sorted (args_sorted1 _) ?_
  unfold Builtin.«sorted»
  refine wpAny_bind (m := checkCount "sorted" 1 1 _) (wpAny_pure ?_)
  refine wpAny_bind (wpAny_mono (hc _ fun h1 k1 z1 => ?_) (fun _ _ q => q) fun _ _ q => q.elim)
  refine wpAny_bind (wpAny_newList ?_ hz)
  have hoL : (h1.push (seqObj "list" vs.toArray 0)).get? h1.objs.size = some (seqObj "list" vs.toArray 0) := Heap.get?_push_size _ rfl
  refine wpAny_bind (wpAny_holding (wpAny_call_entry slot_list_sort ⟨_, hoL, rfl⟩ entry_list_sort (SrtO.list_sort_ord (s := { s with heap := h1.push (seqObj "list" vs.toArray 0) }) (swo_S sv) hoL hz (fun h2 => txt_sortable h2 hv) fun out hs hb => ⟨_, rfl, ?_⟩) (args_list_sort _)))
  refine wpAny_pure ⟨_, rfl, h _ h1.objs.size out hb.perm hs (fun b u e => ?_) z1 (sortedHeap_at (vs := vs) (out := out.toArray) hoL)⟩
  have z := k1 b u e
  have lt := Heap.lt_size z
  rw [sortedHeap_old (Nat.ne_of_lt lt) (by rw [size_push']; exact Nat.lt_succ_of_lt lt)]
  exact Heap.get?_push_of_some _ z
end

section
variable {X : Cx} {pins : List (Addr × Obj)} {σ : L2.St} {H : Hp} {s : Shared}
theorem two_of (I : Inv X pins σ H s) {l : Addr} {a b : Str} (h : Sq X.K H l [.str a, .str b]) : ∃ t u, s.heap.IsList l #[.str a t, .str b u] ∨ s.heap.IsTuple l #[.str a t, .str b u] := by
  rcases h with h | h
  · obtain ⟨its, r, hl, _⟩ := I.list h
    obtain ⟨u1, u2, rfl, ⟨t, rfl⟩, ⟨u, rfl⟩⟩ := vals2 r
    exact ⟨t, u, .inl hl.isList⟩
  · obtain ⟨its, r, ht, _⟩ := I.tuple h
    obtain ⟨u1, u2, rfl, ⟨t, rfl⟩, ⟨u, rfl⟩⟩ := vals2 r
    exact ⟨t, u, .inr ht⟩
/-- max, min of a pair of texts -/
def rMxS (K : PySem.W.Frag) : List V → Hp → VK → Prop := fun vs H Q => ∃ l a b, vs = [V.ref l] ∧ Sq K H l [.str a, .str b] ∧ Q (.str (mxS a b)) H
def rMnS (K : PySem.W.Frag) : List V → Hp → VK → Prop := fun vs H Q => ∃ l a b, vs = [V.ref l] ∧ Sq K H l [.str a, .str b] ∧ Q (.str (mnS a b)) H
theorem cr_mxS (hc : X.calm = true) : CallR X (.builtin "max") (rMxS X.K) := by
  intro pins s σ H vs us Q I r h
  obtain ⟨l, a, b, rfl, hs, q⟩ := h
  obtain ⟨t, u, hl⟩ := two_of I hs
  rw [Vals.ref1 r]
  refine max_two (I.ok.hd hc) hl fun v h' tk ⟨t', e⟩ hk => ⟨.str (mxS a b), H, I.kept hk, ⟨t', e⟩, q⟩
theorem cr_mnS (hc : X.calm = true) : CallR X (.builtin "min") (rMnS X.K) := by
  intro pins s σ H vs us Q I r h
  obtain ⟨l, a, b, rfl, hs, q⟩ := h
  obtain ⟨t, u, hl⟩ := two_of I hs
  rw [Vals.ref1 r]
  refine min_two (I.ok.hd hc) hl fun v h' tk ⟨t', e⟩ hk => ⟨.str (mnS a b), H, I.kept hk, ⟨t', e⟩, q⟩
/-- sorted of texts in a list or a tuple -/
def rSortX (K : PySem.W.Frag) : List V → Hp → VK → Prop := fun vs H Q => ∃ l ks, vs = [V.ref l] ∧ Sq K H l (ks.map V.str) ∧
  ∀ (ys : List Str) (p : Addr), ys.Perm ks → ys.Pairwise (fun x y => ltS y x = false) → H p = none → Q (.ref p) (upd H p (.lst (ys.map V.str)))
theorem cr_sortX : CallR X (.builtin "sorted") (rSortX X.K) := by
  intro pins s σ H vs us Q I r h
  obtain ⟨l, ks, rfl, hs, q⟩ := h
  rw [Vals.ref1 r]
  have both : ∃ its : List Value, Vals (ks.map V.str) its ∧ its.length ≤ sizeLine ∧ (s.heap.IsList l its.toArray ∨ s.heap.IsTuple l its.toArray) := by
    rcases hs with h | h
    · obtain ⟨its, r, hl, hz⟩ := I.list h
      exact ⟨its, r, by rw [← Paired.length r]; exact hz, .inl hl.isList⟩
    · obtain ⟨its, r, ht, hz⟩ := I.tuple h
      exact ⟨its, r, by rw [← Paired.length r]; exact hz, .inr ht⟩
  obtain ⟨its, rv, hz, hl⟩ := both
  obtain ⟨e1, e2⟩ := sv_of rv
  refine sorted_txt e2 hz (fun Q' hq => ?_) fun h' d out pm pw kp hd hn => ?_
  · rcases hl with hl | hl
    · exact collect_lst hl hz hq
    · exact collect_tup hl hz hq
  · obtain ⟨n, hn⟩ := hn
    have e3 : ∀ u ∈ out, ∃ t, u = .str (sv u) t := fun u hu => e2 u (pm.mem_iff.mp hu)
    have pm' : (out.map sv).Perm ks := by
      rw [← e1]
      exact pm.map sv
    have len : ((out.map sv).map V.str).length ≤ sizeLine := by
      rw [List.length_map, List.length_map, pm.length_eq]
      exact hz
    exact ⟨.ref d, upd H d (.lst ((out.map sv).map V.str)), I.laid (t' := s.toks) kp hd ⟨len, out, n, of_sv e3, hn⟩, rfl, q (out.map sv) d pm' (List.pairwise_map.mpr pw) (I.hok.fresh hd)⟩
/-- what is walked may be this or that: the reading tells which -/
def iOr (w1 w2 : TI) : TI := fun σ H R => w1 σ H R ∨ w2 σ H R
theorem pi_or {tg iter : Expr} {w1 w2 : TI} (h1 : PI X tg iter w1) (h2 : PI X tg iter w2) : PI X tg iter (iOr w1 w2) :=
  ⟨fun pins s σ H R I h => h.elim (h1.run pins s σ H R I) (h2.run pins s σ H R I)⟩
/-- a list or a tuple that a name holds -/
abbrev iSq (K : PySem.W.Frag) (te : TE) : TI := iOr (iList K te) (iTup K te)
theorem pi_sq {tg e : Expr} {te : TE} (he : PE X e te) : PI X tg e (iSq X.K te) := pi_or (pi_list he) (pi_tup he)
end
theorem Sq.same {K : PySem.W.Frag} {H H' : Hp} {a : Addr} {xs : List V} (e : ∀ b o, H b = some o → H' b = some o) (h : Sq K H a xs) : Sq K H' a xs := by
  rcases h with h | h
  · exact .inl (Same.seq e h)
  · rcases h with (h | ⟨o, h⟩) | h
    · exact .inr (.inl (.inl (e _ _ h)))
    · exact .inr (.inl (.inr ⟨o, e _ _ h⟩))
    · exact .inr (.inr h)
/-- the heap without what stands at p -/
def er (p : Addr) (H : Hp) : Hp := fun b => if b = p then none else H b
theorem er_ne {p b : Addr} {H : Hp} (h : b ≠ p) : er p H b = H b := if_neg h
theorem er_self {p : Addr} {H : Hp} : er p H p = none := if_pos rfl
theorem er_some {p b : Addr} {H : Hp} {o : HO} (h : er p H b = some o) : b ≠ p ∧ H b = some o := by
  by_cases e : b = p
  · rw [e, er_self] at h; cases h
  · rw [er_ne e] at h; exact ⟨e, h⟩
theorem er_same (p : Addr) (H : Hp) : Same (er p H) H := fun b o h => (er_some h).2
theorem er_keep {p : Addr} {H H' : Hp} (k : ∀ b o, H b = some o → b ≠ p → H' b = some o) : Same (er p H) H' := fun b o h => k b o (er_some h).2 (er_some h).1
theorem er_mono {p : Addr} {H H' : Hp} (k : Same H H') : Same (er p H) (er p H') := fun b o h => by
  obtain ⟨n, q⟩ := er_some h
  rw [er_ne n]
  exact k b o q
theorem sqT_same {K : PySem.W.Frag} {H H' : Hp} {a : Addr} {xs : List V} (e : Same H H') (h : SqT K H a xs) : SqT K H' a xs := by
  rcases h with (h | ⟨o, h⟩) | h
  · exact .inl (.inl (e _ _ h))
  · exact .inl (.inr ⟨o, e _ _ h⟩)
  · exact .inr h
/-- what is no list, no tuple and not locked doesn't matter -/
theorem Sq.er {K : PySem.W.Frag} {H : Hp} {p a C dx : Addr} {fs : List (Str × V)} {xs : List V} (hp : H p = some (.ins C dx fs)) (h : Sq K H a xs) : Sq K (er p H) a xs := by
  have k : ∀ {o : HO}, H a = some o → (∀ C dx fs, o ≠ .ins C dx fs) → Sx.er p H a = some o := fun {o} e n => by
    refine (er_ne fun z => ?_).trans e
    rw [z, hp] at e
    cases e
    exact n _ _ _ rfl
  rcases h with ((h | ⟨o, h⟩) | h) | ((h | ⟨o, h⟩) | h)
  · exact .inl (.inl (.inl (k h fun _ _ _ z => nomatch z)))
  · exact .inl (.inl (.inr ⟨o, k h fun _ _ _ z => nomatch z⟩))
  · exact .inl (.inr h)
  · exact .inr (.inl (.inl (k h fun _ _ _ z => nomatch z)))
  · exact .inr (.inl (.inr ⟨o, k h fun _ _ _ z => nomatch z⟩))
  · exact .inr (.inr h)
/-- for x in y, y a name that holds a list or a tuple -/
theorem for_sq {K : PySem.W.Frag} {i : Nat} {a : Addr} {xs : List V} {g : TG} {tb : TS} {D : Ends} {σ : L2.St} {H Hx : Hp} (hv : σ[i]? = some (some (.ref a))) (hx : Sq K Hx a xs) (Pv : Nat → L2.St → Hp → Prop) (h0 : Pv 0 σ H) (hl : ∀ i σ' H', Pv i σ' H' → Same Hx H')
    (hs : ∀ i x σ' H', xs[i]? = some x → Pv i σ' H' → g x σ' H' fun σ2 H2 => tb { D with nx := Pv (i + 1), ct := Pv (i + 1), bk := D.nx } σ2 H2) (hd : ∀ σ' H', Pv xs.length σ' H' → D.nx σ' H') : tFor (iSq K (tVar i)) g tb D σ H := by
  rcases hx with hx | hx
  · exact .inl ⟨_, hv, a, rfl, ⟨xs, Same.seq (hl _ _ _ h0) hx⟩, for_list (xs := xs) Pv h0 (fun i σ' H' _ p => Same.seq (hl i σ' H' p) hx) hs hd⟩
  · exact .inr ⟨_, hv, a, rfl, ⟨xs, sqT_same (hl _ _ _ h0) hx⟩, for_tup (xs := xs) Pv h0 (fun i σ' H' _ p => sqT_same (hl i σ' H' p) hx) hs hd⟩
end Sx

/-! SxOrd -/
/-! Lists put in order without doubles; what a Book holds. -/
namespace Sx
open PySem PySem.Spec PyProof.Rows L2

structure Tot {α : Type} (lt : α → α → Bool) : Prop where
  irr : ∀ a, lt a a = false
  tr : ∀ {a b c}, lt a b = true → lt b c = true → lt a c = true
  tri : ∀ a b, lt a b = true ∨ a = b ∨ lt b a = true
section
variable {α : Type} {lt : α → α → Bool}
theorem Tot.asym (O : Tot lt) {a b : α} (h : lt a b = true) : lt b a = false := by
  cases q : lt b a with
  | false => rfl
  | true =>
    have z := O.tr h q
    rw [O.irr] at z
    cases z
theorem Tot.eq (O : Tot lt) {a b : α} (h : lt a b = false) (g : lt b a = false) : a = b := by
  rcases O.tri a b with q | q | q
  · rw [h] at q; cases q
  · exact q
  · rw [g] at q; cases q
def ins (lt : α → α → Bool) (x : α) : List α → List α
  | [] => [x]
  | y :: l => if lt x y = true then x :: y :: l else if lt y x = true then y :: ins lt x l else y :: l
def srt (lt : α → α → Bool) (l : List α) : List α := l.foldr (ins lt) []
abbrev Up (lt : α → α → Bool) (l : List α) : Prop := l.Pairwise fun a b => lt a b = true
theorem mem_ins' (O : Tot lt) {x z : α} : ∀ {l : List α}, z ∈ ins lt x l ↔ z = x ∨ z ∈ l
  | [] => by simp [ins]
  | y :: l => by
    unfold ins
    by_cases h : lt x y = true
    · rw [if_pos h, List.mem_cons]
    · rw [if_neg h]
      by_cases g : lt y x = true
      · rw [if_pos g, List.mem_cons, mem_ins' O (l := l), List.mem_cons]
        constructor
        · rintro (q | q | q)
          · exact .inr (.inl q)
          · exact .inl q
          · exact .inr (.inr q)
        · rintro (q | q | q)
          · exact .inr (.inl q)
          · exact .inl q
          · exact .inr (.inr q)
      · rw [if_neg g]
        have e : x = y := O.eq (by simpa using h) (by simpa using g)
        subst e
        rw [List.mem_cons]
        constructor
        · intro q; exact .inr q
        · rintro (q | q)
          · exact .inl q
          · exact q
theorem up_ins (O : Tot lt) {x : α} : ∀ {l : List α}, Up lt l → Up lt (ins lt x l)
  | [], _ => by simp [ins, Up]
  | y :: l, h => by
    obtain ⟨h1, h2⟩ := List.pairwise_cons.mp h
    unfold ins
    by_cases c : lt x y = true
    · rw [if_pos c]
      refine List.pairwise_cons.mpr ⟨fun z hz => ?_, h⟩
      rcases List.mem_cons.mp hz with e | hz
      · rw [e]; exact c
      · exact O.tr c (h1 z hz)
    · rw [if_neg c]
      by_cases g : lt y x = true
      · rw [if_pos g]
        refine List.pairwise_cons.mpr ⟨fun z hz => ?_, up_ins O h2⟩
        rcases (mem_ins' O).mp hz with e | hz
        · rw [e]; exact g
        · exact h1 z hz
      · rw [if_neg g]
        exact h
theorem mem_srt (O : Tot lt) {z : α} : ∀ {l : List α}, z ∈ srt lt l ↔ z ∈ l
  | [] => Iff.rfl
  | x :: l => by
    show z ∈ ins lt x (srt lt l) ↔ _
    rw [mem_ins' O, mem_srt O, List.mem_cons]
theorem up_srt (O : Tot lt) : ∀ l : List α, Up lt (srt lt l)
  | [] => List.Pairwise.nil
  | x :: l => up_ins O (up_srt O l)
theorem up_nodup (O : Tot lt) {l : List α} (h : Up lt l) : l.Nodup := h.imp fun {a b} q e => by
  rw [e, O.irr] at q
  cases q
/-- there is one ascending list of the same members -/
theorem up_one (O : Tot lt) : ∀ {l m : List α}, Up lt l → Up lt m → (∀ z, z ∈ l ↔ z ∈ m) → l = m
  | [], [], _, _, _ => rfl
  | [], y :: m, _, _, h => absurd ((h y).mpr List.mem_cons_self) (by simp)
  | x :: l, [], _, _, h => absurd ((h x).mp List.mem_cons_self) (by simp)
  | x :: l, y :: m, hl, hm, h => by
    obtain ⟨a1, a2⟩ := List.pairwise_cons.mp hl
    obtain ⟨b1, b2⟩ := List.pairwise_cons.mp hm
    have e : x = y := by
      rcases List.mem_cons.mp ((h x).mp List.mem_cons_self) with q | q
      · exact q
      · rcases List.mem_cons.mp ((h y).mpr List.mem_cons_self) with p | p
        · exact p.symm
        · have z := O.asym (b1 x q)
          rw [a1 y p] at z
          cases z
    subst e
    have no : ∀ {k : List α}, (∀ z ∈ k, lt x z = true) → x ∉ k := fun k m => by
      have z := k x m
      rw [O.irr] at z
      cases z
    rw [up_one O a2 b2 fun z => ?_]
    have q := h z
    rw [List.mem_cons, List.mem_cons] at q
    constructor
    · intro hz
      rcases q.mp (.inr hz) with e | w
      · rw [e] at hz; exact absurd hz (no a1)
      · exact w
    · intro hz
      rcases q.mpr (.inr hz) with e | w
      · rw [e] at hz; exact absurd hz (no b1)
      · exact w
theorem srt_self (O : Tot lt) {l : List α} (h : Up lt l) : srt lt l = l := up_one O (up_srt O l) h fun z => mem_srt O
theorem srt_same (O : Tot lt) {l m : List α} (h : ∀ z, z ∈ l ↔ z ∈ m) : srt lt l = srt lt m := up_one O (up_srt O l) (up_srt O m) fun z => by rw [mem_srt O, mem_srt O, h]
/-- sorted as Python says (no double there) is ascending -/
theorem up_of (O : Tot lt) : ∀ {l : List α}, l.Nodup → l.Pairwise (fun x y => lt y x = false) → Up lt l
  | [], _, _ => List.Pairwise.nil
  | x :: l, n, h => by
    obtain ⟨n1, n2⟩ := List.nodup_cons.mp n
    obtain ⟨h1, h2⟩ := List.pairwise_cons.mp h
    refine List.pairwise_cons.mpr ⟨fun z hz => ?_, up_of O n2 h2⟩
    rcases O.tri x z with q | q | q
    · exact q
    · rw [q] at n1; exact absurd hz n1
    · rw [h1 z hz] at q; cases q
end
theorem ltCps_is : ∀ a b : List Nat, ltCps a b = decide (a < b)
  | [], [] => rfl
  | [], b :: bs => (decide_eq_true (by simp)).symm
  | a :: as, [] => (decide_eq_false (by simp)).symm
  | a :: as, b :: bs => by
    show (decide (a < b) || (a == b && ltCps as bs)) = _
    rw [ltCps_is as bs, Bool.eq_iff_iff, decide_eq_true_eq, List.cons_lt_cons_iff, Bool.or_eq_true, Bool.and_eq_true, decide_eq_true_eq, beq_iff_eq, decide_eq_true_eq]
theorem rising_pw : ∀ (r : List Str) (p : Str), risingS p r = true → (p :: r).Pairwise fun x y => ltS y x = false
  | [], p, _ => List.pairwise_singleton _ _
  | x :: r, p, h => by
    unfold risingS at h
    rw [Bool.and_eq_true, Bool.not_eq_true', ltCps_is] at h
    have ih := rising_pw r x h.2
    have ih2 := List.pairwise_cons.mp ih
    refine List.pairwise_cons.mpr ⟨fun z hz => ?_, ih⟩
    rcases List.mem_cons.mp hz with e | hz
    · rw [e]; exact h.1
    · have a := ih2.1 z hz
      cases q : ltS z p with
      | false => rfl
      | true =>
        rcases ltS_tri p x with c | c | c
        · rw [ltS_tr q c] at a; cases a
        · rw [← c, q] at a; cases a
        · have b := h.1
          rw [show decide (x.cps.toList < p.cps.toList) = ltS x p from rfl, c] at b
          cases b
theorem sortedS_pw {l : List Str} (h : sortedS l = true) : l.Pairwise fun x y => ltS y x = false := by
  cases l with
  | nil => exact List.Pairwise.nil
  | cons x r => exact rising_pw r x h
theorem totS : Tot ltS := ⟨ltS_irr, ltS_tr, ltS_tri⟩
def ltP (p q : Str × Str) : Bool := ltL [p.1, p.2] [q.1, q.2]
theorem totP : Tot ltP := by
  refine ⟨fun a => ltL_irr _, fun h g => ltL_tr h g, fun a b => ?_⟩
  rcases ltL_tri [a.1, a.2] [b.1, b.2] with q | q | q
  · exact .inl q
  · refine .inr (.inl (Prod.ext ?_ ?_))
    · exact (List.cons.inj q).1
    · exact (List.cons.inj (List.cons.inj q).2).1
  · exact .inr (.inr q)
/-- the pair, the lesser text first -/
def nrm (p : Str × Str) : Str × Str := (mnS p.1 p.2, mxS p.1 p.2)
/-- who clashes with k, by ascending pairs -/
def nearM (cs : List (Str × Str)) (k : Str) : List Str := cs.filterMap fun c => if c.1 = k then some c.2 else if c.2 = k then some c.1 else none
theorem nearM_snoc (cs : List (Str × Str)) (c : Str × Str) (k : Str) : nearM (cs ++ [c]) k = nearM cs k ++ (if c.1 = k then [c.2] else if c.2 = k then [c.1] else []) := by
  unfold nearM
  rw [List.filterMap_append]
  by_cases h : c.1 = k
  · simp [List.filterMap_cons, h]
  · by_cases g : c.2 = k
    · simp [List.filterMap_cons, h, g]
    · simp [List.filterMap_cons, h, g]
theorem paired_get {α β : Type} {F : α → β → Prop} : ∀ {xs : List α} {ys : List β} {i : Nat} {x : α}, Paired F xs ys → xs[i]? = some x → ∃ y, ys[i]? = some y ∧ F x y
  | _, _, _, _, .nil, e => by simp at e
  | _, _, 0, x, .cons r _, e => by
    cases e
    exact ⟨_, rfl, r⟩
  | _, _, i + 1, x, .cons _ t, e => paired_get (i := i) t e
theorem paired_imp {α β : Type} {F G : α → β → Prop} (f : ∀ a b, F a b → G a b) : ∀ {xs : List α} {ys : List β}, Paired F xs ys → Paired G xs ys
  | _, _, .nil => .nil
  | _, _, .cons r t => .cons (f _ _ r) (paired_imp f t)
/-- more of a kind than there are: not without doubles -/
theorem few_of {α : Type} [DecidableEq α] : ∀ {l m : List α}, l.Nodup → (∀ z ∈ l, z ∈ m) → l.length ≤ m.length
  | [], _, _, _ => Nat.zero_le _
  | x :: l, m, n, h => by
    obtain ⟨n1, n2⟩ := List.nodup_cons.mp n
    have hx := h x List.mem_cons_self
    have q := few_of (l := l) (m := m.erase x) n2 fun z hz => (List.mem_erase_of_ne (fun e : z = x => n1 (by rw [← e]; exact hz))).mpr (h z (List.mem_cons_of_mem _ hz))
    rw [List.length_erase_of_mem hx] at q
    have p : 0 < m.length := List.length_pos_of_mem hx
    rw [List.length_cons]
    omega
/-- tuple(xs) of a list, of a tuple -/
def rTupOf (K : PySem.W.Frag) : List V → Hp → VK → Prop := fun xs H Q => ∃ p ys, xs = [.ref p] ∧ ((SqL K H p ys ∧ ∀ l, H l = none → Q (.ref l) (upd H l (.tup ys))) ∨ (SqT K H p ys ∧ Q (.ref p) H))
theorem cr_tupOf {X : Cx} : CallR X (.type "tuple") (rTupOf X.K) := call_tuple_of
/-! the built-in names -/
theorem bt_sorted : bootBuiltins "sorted" = some (.builtin "sorted") := by decide +kernel
theorem bt_min : bootBuiltins "min" = some (.builtin "min") := by decide +kernel
theorem bt_max : bootBuiltins "max" = some (.builtin "max") := by decide +kernel
theorem bt_len : bootBuiltins "len" = some (.builtin "len") := by decide +kernel
theorem bt_all : bootBuiltins "all" = some (.builtin "all") := by decide +kernel
theorem bt_isinstance : bootBuiltins "isinstance" = some (.builtin "isinstance") := by decide +kernel
theorem bt_abs : bootBuiltins "abs" = some (.builtin "abs") := by decide +kernel
theorem bt_tuple : bootBuiltins "tuple" = some (.type "tuple") := by decide +kernel
theorem bt_list : bootBuiltins "list" = some (.type "list") := by decide +kernel
theorem bt_int : bootBuiltins "int" = some (.type "int") := by decide +kernel
theorem bt_range : bootBuiltins "range" = some (.type "range") := by decide +kernel
theorem bt_set : bootBuiltins "set" = some (.type "set") := by decide +kernel
theorem bt_zip : bootBuiltins "zip" = some (.type "zip") := by decide +kernel
theorem bt_enumerate : bootBuiltins "enumerate" = some (.type "enumerate") := by decide +kernel
theorem bt_dict : bootBuiltins "dict" = some (.type "dict") := by decide +kernel
theorem bt_str : bootBuiltins "str" = some (.type "str") := by decide +kernel
theorem bt_bool : bootBuiltins "bool" = some (.type "bool") := by decide +kernel
end Sx

/-! SxKeys -/
namespace Sx
open PySem PySem.Spec PyProof.Rows L2
/-! ### comprehensions over lists or tuples, over a dict's keys -/
theorem sk_sq {K : PySem.W.Frag} {P : Program} {w : World} {i : Nat} {a : Addr} {xs : List V} {g : TG} {tt : TT} {te : TE} {vs : List Nat} {σ : L2.St} {H Hx : Hp} {Q : VK} (hv : σ[i]? = some (some (.ref a))) (hx : Sq K Hx a xs) (hH : Same Hx H) (Pv : Addr → Nat → Hp → Prop)
    (h0 : ∀ D, H D = none → Pv D 0 (upd H D (SetK P w D []))) (hl : ∀ D j H', Pv D j H' → Same Hx H')
    (hs : ∀ D j x H', xs[j]? = some x → Pv D j H' → g x (wipe σ vs) H' fun σ2 H2 => wipe σ2 vs = wipe σ vs ∧ tt σ2 H2 fun b H3 =>
      if b = true then te σ2 H3 fun y H4 => ∃ (a : Addr) (k : List Key) (L : List Row), y = .ref a ∧ SqT K H4 a (k.map kV) ∧ H4 D = some (SetK P w D L) ∧ Rws K H4 L ∧ L.length < 4000 ∧
        ∀ L', (k ∈ L.map (·.2) → L' = L) → (k ∉ L.map (·.2) → L'.Perm ((a, k) :: L)) → Pv D (j + 1) (upd H4 D (SetK P w D L')) else Pv D (j + 1) H3)
    (hd : ∀ D H', H D = none → Pv D xs.length H' → Q (.ref D) H') : tSk K P w (iSq K (tVar i)) g tt te vs σ H Q := by
  rcases hx with hx | hx
  · refine .inl ⟨_, hv, a, rfl, ⟨xs, Same.seq hH hx⟩, fun D hD => ⟨fun j m H' => m = xs.length - j ∧ j ≤ xs.length ∧ Pv D j H', ⟨xs.length, rfl, Nat.zero_le _, h0 D hD⟩, ?_⟩⟩
    rintro j m H' ⟨rfl, hj, p⟩
    have sq := Same.seq (hl D j H' p) hx
    rcases Nat.lt_or_ge j xs.length with lt | ge
    · exact .inr ⟨⟨xs, xs[j], sq, List.getElem?_eq_getElem lt⟩, Pv D (j + 1), fun H2 p2 => ⟨xs.length - (j + 1), by omega, rfl, lt, p2⟩, fun x H2 ⟨e, y⟩ => by rw [e]; exact hs D j x H' (y xs sq) p⟩
    · have e : j = xs.length := Nat.le_antisymm hj ge
      subst e
      exact .inl ⟨⟨xs, sq, Nat.le_refl _⟩, hd D H' hD p⟩
  · refine .inr ⟨_, hv, a, rfl, ⟨xs, sqT_same hH hx⟩, fun D hD => ⟨fun j m H' => m = xs.length - j ∧ j ≤ xs.length ∧ Pv D j H', ⟨xs.length, rfl, Nat.zero_le _, h0 D hD⟩, ?_⟩⟩
    rintro j m H' ⟨rfl, hj, p⟩
    have sq := sqT_same (hl D j H' p) hx
    rcases Nat.lt_or_ge j xs.length with lt | ge
    · exact .inr ⟨⟨xs, xs[j], sq, List.getElem?_eq_getElem lt⟩, Pv D (j + 1), fun H2 p2 => ⟨xs.length - (j + 1), by omega, rfl, lt, p2⟩, fun x H2 ⟨e, y⟩ => by rw [e]; exact hs D j x H' (y xs sq) p⟩
    · have e : j = xs.length := Nat.le_antisymm hj ge
      subst e
      exact .inl ⟨⟨xs, sq, Nat.le_refl _⟩, hd D H' hD p⟩
/-- {k: v for k in d} while d is locked -/
theorem dc_keys {i j : Nat} {d : Addr} {od : Obj} {kvs : List (Key × V)} {tt : TT} {tk tv : TE} {vs : List Nat} {σ : L2.St} {H : Hp} {Q : VK} (hv : σ[i]? = some (some (.ref d))) (hd : H d = some (.frz od (.dK kvs))) (Pv : Addr → Nat → Hp → Prop)
    (h0 : ∀ D, H D = none → Pv D 0 (upd H D (.dK []))) (hl : ∀ D n H', Pv D n H' → H' d = some (.frz od (.dK kvs)))
    (hs : ∀ D n k v H', kvs[n]? = some (k, v) → Pv D n H' → wipe ((wipe σ vs).set j (some (kV k))) vs = wipe σ vs ∧ tt ((wipe σ vs).set j (some (kV k))) H' fun b H3 =>
      if b = true then tk ((wipe σ vs).set j (some (kV k))) H3 fun y H4 => tv ((wipe σ vs).set j (some (kV k))) H4 fun z H5 => ∃ kvs k, y = kV k ∧ H5 D = some (.dK kvs) ∧ kvs.length < sizeLine ∧ Pv D (n + 1) (upd H5 D (.dK (putK kvs k z))) else Pv D (n + 1) H3)
    (hq : ∀ D H', H D = none → Pv D kvs.length H' → Q (.ref D) H') : tDc (iKeys (tVar i)) (gName j) tt tk tv vs σ H Q := by
  refine ⟨_, hv, d, od, rfl, .inl ⟨kvs, hd, fun D hD => ⟨fun n m H' => m = kvs.length - n ∧ n ≤ kvs.length ∧ Pv D n H', ⟨kvs.length, rfl, Nat.zero_le _, h0 D hD⟩, ?_⟩⟩⟩
  rintro n m H' ⟨rfl, hn, p⟩
  have hf := hl D n H' p
  rcases Nat.lt_or_ge n kvs.length with lt | ge
  · refine .inr ⟨⟨hf, lt⟩, Pv D (n + 1), fun H2 p2 => ⟨kvs.length - (n + 1), by omega, rfl, lt, p2⟩, fun x H2 ⟨e, k, v, hk, ex⟩ => ?_⟩
    subst e
    subst ex
    exact hs D n k v _ hk p
  · have e : n = kvs.length := Nat.le_antisymm hn ge
    subst e
    exact .inl ⟨⟨hf, Nat.le_refl _⟩, hq D H' hD p⟩
end Sx

/-! BookA -/
namespace Sx
open PySem PySem.Spec PyProof.Rows L2

def top (i : Nat) : Stmt := PySem.Challenge.pw_onehostmore_k06_knots_and_peaces.main.body.getD i (.Pass ⟨0, 0, 0, 0⟩)
abbrev cBook : Stmt := top 9
abbrev sInit : Stmt := inClass cBook 0

/-! ### a Book as it stands -/
def bkF (ak ac an : Addr) : List (Str × V) := putF "_near" (.ref an) (putF "_clashes" (.ref ac) (putF "_kinds" (.ref ak) []))
theorem n1 : ¬ (("_clashes" : Str) = "_near") := by decide +kernel
theorem n2 : ¬ (("_kinds" : Str) = "_near") := by decide +kernel
theorem n3 : ¬ (("_kinds" : Str) = "_clashes") := by decide +kernel
theorem bkF_near (ak ac an : Addr) : (bkF ak ac an).lookup ("_near" : Str) = some (.ref an) := by
  unfold bkF
  rw [lookup_putF, if_pos rfl]
theorem bkF_clashes (ak ac an : Addr) : (bkF ak ac an).lookup ("_clashes" : Str) = some (.ref ac) := by
  unfold bkF
  rw [lookup_putF, if_neg n1, lookup_putF, if_pos rfl]
theorem bkF_kinds (ak ac an : Addr) : (bkF ak ac an).lookup ("_kinds" : Str) = some (.ref ak) := by
  unfold bkF
  rw [lookup_putF, if_neg n2, lookup_putF, if_neg n3, lookup_putF, if_pos rfl]
theorem bkF_no (ak ac an : Addr) {m : Str} (h1 : ¬ m = "_near") (h2 : ¬ m = "_clashes") (h3 : ¬ m = "_kinds") : (bkF ak ac an).lookup m = none := by
  unfold bkF
  rw [lookup_putF, if_neg h1, lookup_putF, if_neg h2, lookup_putF, if_neg h3]
  rfl
/-- pairs of texts, each a tuple of its own at ts -/
def Prs (K : PySem.W.Frag) (H : Hp) (ts : List Addr) (cs : List (Str × Str)) : Prop := Paired (fun t c => SqT K H t [.str c.1, .str c.2]) ts cs
/-- a Book stands at p -/
structure BookAt (K : PySem.W.Frag) (C : Addr) (H : Hp) (p : Addr) (ks : List Str) (cs : List (Str × Str)) : Prop where
  ex : ∃ dx ak ac an kvs ts, H p = some (.ins C dx (bkF ak ac an)) ∧ SqT K H ak (ks.map V.str) ∧ SqT K H ac (ts.map V.ref) ∧ Prs K H ts cs ∧ H an = some (.dK kvs) ∧
    (∀ k, k ∈ ks → ∃ t, valV kvs (.inr k) = some (.ref t) ∧ SqT K H t ((nearM cs k).map V.str)) ∧ (∀ k, k ∉ ks → valV kvs (.inr k) = none)
theorem BookAt.same {K : PySem.W.Frag} {C : Addr} {H H' : Hp} {p : Addr} {ks : List Str} {cs : List (Str × Str)} (e : Same H H') (b : BookAt K C H p ks cs) : BookAt K C H' p ks cs := by
  obtain ⟨dx, ak, ac, an, kvs, ts, h1, h2, h3, h4, h5, h6, h7⟩ := b.ex
  refine ⟨dx, ak, ac, an, kvs, ts, e _ _ h1, sqT_same e h2, sqT_same e h3, paired_imp (fun _ _ z => sqT_same e z) h4, e _ _ h5, fun k hk => ?_, h7⟩
  obtain ⟨t, a, b⟩ := h6 k hk
  exact ⟨t, a, sqT_same e b⟩

/-! ### Book.__init__ -/
def strOf : V → Option Str
  | .str z => some z
  | _ => none
structure TBook (K : PySem.W.Frag) (mg : Str → Option Value) (C : Addr) : Prop where
  cl : Cls K C
  nK : NoAttr K C "_kinds"
  nC : NoAttr K C "_clashes"
  nN : NoAttr K C "_near"
  sorted : mg "sorted" = none
  tuple : mg "tuple" = none
  min : mg "min" = none
  max : mg "max" = none
def spInit (K : PySem.W.Frag) (C : Addr) : Sp := fun vs H Q _ => ∃ (p dx lk lc : Addr) (ts : List Addr) (ks : List Str) (ps : List (Str × Str)), vs = [.ref p, .ref lk, .ref lc] ∧ H p = some (.ins C dx []) ∧
  Sq K H lk (ks.map V.str) ∧ Sq K H lc (ts.map V.ref) ∧ Paired (fun t c => Sq K H t [.str c.1, .str c.2]) ts ps ∧ ks.Nodup ∧ ks.length ≤ 40 ∧ (∀ c ∈ ps, c.1 ∈ ks ∧ c.2 ∈ ks) ∧
  ∀ H', BookAt K C H' p (srt ltS ks) (srt ltP (ps.map nrm)) → (∀ b o, H b = some o → b ≠ p → H' b = some o) → Q .non H'
/-- the dict near while it is filled: nl tells the address of each kind's list, g what stands in it -/
structure NL (H0 H : Hp) (p d : Addr) (nl : List (Str × Addr)) (g : Str → List Str) : Prop where
  dic : H d = some (.dK (nl.map fun q => (Sum.inr q.1, V.ref q.2)))
  one : (nl.map (·.1)).Nodup
  adr : (nl.map (·.2)).Nodup
  lst : ∀ q ∈ nl, H q.2 = some (.lst ((g q.1).map V.str))
  new : ∀ q ∈ nl, H0 q.2 = none
  nd : H0 d = none
  keep : ∀ b o, H0 b = some o → b ≠ p → H b = some o
theorem nl_val : ∀ {nl : List (Str × Addr)} {k : Str} {a : Addr}, (nl.map (·.1)).Nodup → (k, a) ∈ nl → valV (nl.map fun q => ((Sum.inr q.1 : Key), V.ref q.2)) (Sum.inr k) = some (.ref a)
  | [], _, _, _, h => by simp at h
  | q :: nl, k, a, n, h => by
    obtain ⟨n1, n2⟩ := List.nodup_cons.mp n
    unfold valV
    rw [List.map_cons, List.find?_cons]
    by_cases e : q.1 = k
    · have z : decide ((Sum.inr q.1 : Key) = Sum.inr k) = true := decide_eq_true (by rw [e])
      simp only [z]
      rcases List.mem_cons.mp h with w | w
      · rw [← w]; rfl
      · exact absurd (List.mem_map.mpr ⟨(k, a), w, rfl⟩) (by rw [← e]; exact n1)
    · have z : decide ((Sum.inr q.1 : Key) = Sum.inr k) = false := decide_eq_false fun w => e (Sum.inr.inj w)
      simp only [z]
      rcases List.mem_cons.mp h with w | w
      · exact absurd (by rw [← w]) e
      · exact nl_val n2 w
theorem nl_no : ∀ {nl : List (Str × Addr)} {k : Str}, k ∉ nl.map (·.1) → valV (nl.map fun q => ((Sum.inr q.1 : Key), V.ref q.2)) (Sum.inr k) = none
  | [], _, _ => rfl
  | q :: nl, k, h => by
    unfold valV
    rw [List.map_cons, List.find?_cons]
    have z : decide ((Sum.inr q.1 : Key) = Sum.inr k) = false := decide_eq_false fun w => h (by rw [← Sum.inr.inj w]; exact List.mem_cons_self)
    simp only [z]
    exact nl_no fun w => h (List.mem_cons_of_mem _ w)
theorem nl_at {nl : List (Str × Addr)} {k : Str} (h : k ∈ nl.map (·.1)) : ∃ a, (k, a) ∈ nl := by
  obtain ⟨q, hq, e⟩ := List.mem_map.mp h
  exact ⟨q.2, by rw [← e]; exact hq⟩
theorem nl_inj {nl : List (Str × Addr)} (n : (nl.map (·.2)).Nodup) : ∀ {q r : Str × Addr}, q ∈ nl → r ∈ nl → q.2 = r.2 → q = r := by
  induction nl with
  | nil => exact fun h => by simp at h
  | cons x nl ih =>
    obtain ⟨n1, n2⟩ := List.nodup_cons.mp n
    intro q r hq hr e
    rcases List.mem_cons.mp hq with a | a <;> rcases List.mem_cons.mp hr with b | b
    · rw [a, b]
    · exact absurd (List.mem_map.mpr ⟨r, b, by rw [← e, a]⟩) n1
    · exact absurd (List.mem_map.mpr ⟨q, a, by rw [e, b]⟩) n1
    · exact ih n2 a b e
/-- a new key with its empty list -/
theorem NL.more {H0 H : Hp} {p d l : Addr} {nl : List (Str × Addr)} {g : Str → List Str} {k : Str} (N : NL H0 H p d nl g) (hp : H p ≠ none) (hl : H l = none) (hk : k ∉ nl.map (·.1)) (hg : g k = []) :
    NL H0 (upd (upd H l (.lst [])) d (.dK (putK (nl.map fun q => ((Sum.inr q.1 : Key), V.ref q.2)) (Sum.inr k) (.ref l)))) p d (nl ++ [(k, l)]) g := by
  have ld : l ≠ d := fun e => by rw [e, N.dic] at hl; cases hl
  have H0l : H0 l = none := by
    cases q : H0 l with
    | none => rfl
    | some o =>
      by_cases e : l = p
      · rw [e] at hl; exact absurd hl hp
      · rw [N.keep l o q e] at hl; cases hl
  have other : ∀ q ∈ nl, q.2 ≠ d ∧ q.2 ≠ l := fun q hq => by
    have a := N.lst q hq
    refine ⟨fun e => ?_, fun e => ?_⟩
    · rw [e, N.dic] at a
      cases a
    · rw [e, hl] at a
      cases a
  refine ⟨?_, ?_, ?_, fun q hq => ?_, fun q hq => ?_, N.nd, fun b o e hb => ?_⟩
  · rw [upd_same, putK_new _ (nl_no hk), List.map_append]
    rfl
  · rw [List.map_append]
    exact nd_snoc N.one hk
  · rw [List.map_append]
    refine nd_snoc N.adr fun m => ?_
    obtain ⟨q, hq, e⟩ := List.mem_map.mp m
    exact (other q hq).2 e
  · rcases List.mem_append.mp hq with hq | hq
    · rw [upd_ne (other q hq).1, upd_ne (other q hq).2]
      exact N.lst q hq
    · rw [List.mem_singleton.mp hq, upd_ne ld, upd_same, hg]
      rfl
  · rcases List.mem_append.mp hq with hq | hq
    · exact N.new q hq
    · rw [List.mem_singleton.mp hq]
      exact H0l
  · rw [upd_ne (ne_of_none e N.nd), upd_ne (fun z => by rw [z, H0l] at e; cases e)]
    exact N.keep b o e hb
/-- a text more in one list -/
theorem NL.app {H0 H : Hp} {p d a : Addr} {nl : List (Str × Addr)} {g : Str → List Str} {k x : Str} (N : NL H0 H p d nl g) (hk : (k, a) ∈ nl) :
    NL H0 (upd H a (.lst ((g k).map V.str ++ [.str x]))) p d nl (fun j => if j = k then g k ++ [x] else g j) := by
  have hL := N.lst _ hk
  have ad : d ≠ a := fun e => by
    have a := N.dic
    rw [e, hL] at a
    cases a
  refine ⟨?_, N.one, N.adr, fun q hq => ?_, N.new, N.nd, fun b o e hb => ?_⟩
  · rw [upd_ne ad]
    exact N.dic
  · by_cases e : q.2 = a
    · have z : q = (k, a) := nl_inj N.adr hq hk e
      rw [z, upd_same, if_pos rfl, List.map_append]
      rfl
    · have ne : q.1 ≠ k := fun w => by
        have v1 := nl_val N.one hk
        have v2 := nl_val N.one (k := q.1) (a := q.2) hq
        rw [w, v1] at v2
        cases v2
        exact e rfl
      rw [upd_ne e, if_neg ne]
      exact N.lst q hq
  · rw [upd_ne (ne_of_none e (N.new _ hk))]
    exact N.keep b o e hb
theorem NL.eqv {H0 H : Hp} {p d : Addr} {nl : List (Str × Addr)} {g g' : Str → List Str} (N : NL H0 H p d nl g) (e : ∀ k, g k = g' k) : NL H0 H p d nl g' := by
  have q : g = g' := funext e
  rw [← q]
  exact N
/-- something new beside, or p itself -/
theorem NL.beside {H0 H H' : Hp} {p d : Addr} {nl : List (Str × Addr)} {g : Str → List Str} (N : NL H0 H p d nl g) (hp : H0 p ≠ none) (e : ∀ b o, H b = some o → b ≠ p → H' b = some o) : NL H0 H' p d nl g :=
  ⟨e _ _ N.dic fun z => hp (by rw [← z]; exact N.nd), N.one, N.adr, fun q hq => e _ _ (N.lst q hq) fun z => hp (by rw [← z]; exact N.new q hq), N.new, N.nd, fun b o h hb => e _ _ (N.keep b o h hb) hb⟩
section
variable {P : Program} {w : World} {K : PySem.W.Frag} {mg : Str → Option Value} {base : Heap}
abbrev nInit : List Str := ["self", "kinds", "clashes", "near", "kind", "pair", "one", "other"]
theorem scInit : FnScope nInit ["self", "kinds", "clashes"] (defScope sInit) := ⟨rfl, rfl, rfl, by decide +kernel, rfl, by decide +kernel, by decide +kernel⟩
theorem ok_init {f C : Addr} {fd : FuncData} {dvs : List V} (F : FunD K "__init__" "Book.__init__" (defArgs sInit) (defBody sInit) (defScope sInit) dvs [] f fd) (T : TBook K mg C) : FnOk P w K mg base CX0 1 f fd ["self", "kinds", "clashes"] (spInit K C) := by
  refine F.ok scInit (fun vs H Q E h => ?_) (fun cdv A outer s H vs Q E hr h => ?_)
  · obtain ⟨p, dx, lk, lc, ts, ks, ps, rfl, _⟩ := h
    rfl
  · obtain ⟨p, dx, lk, lc, ts, ks, ps, rfl, hp, hk, hc, hps, nd, few, inn, q⟩ := h
    have hu := hu_of hr
    refine ⟨_, (pss_cons (ps_set (i := 3) scInit.nd rfl (Or.inr rfl) pe_dnewK)
      (Evl.pss_cut (ps_for PassesOwn.never rfl (pi_sq (pv 1)) (pg_name (i := 4) scInit.nd rfl (Or.inl rfl))
        (pss_cons (ps_if (pt_cmp (pc_din hu (pv 4) (pv 3))) (pss_one ps_never) pss_nil)
        (pss_one (ps_dput hu (pv 3) (pv 4) (pe_lst pa_nil) rfl))))
      (Evl.pss_cut (ps_for PassesOwn.never rfl (pi_sq (pv 2)) (pg_name (i := 5) scInit.nd rfl (Or.inl rfl))
        (pss_one (ps_for PassesOwn.never rfl (pi_sq (pv 5)) (pg_name (i := 4) scInit.nd rfl (Or.inl rfl))
          (pss_one (ps_if (pt_cmp (pc_dnotin hu (pv 4) (pv 3))) (pss_one ps_never) pss_nil)))))
      (pss_cons (ps_fld (pv 0) (pe_callTy cr_tupOf (by rfl) T.tuple bt_tuple (pa_cons (pe_callB (call_sortedD rfl) (by rfl) T.sorted bt_sorted (pa_cons (pv 3) pa_nil)) pa_nil)) rfl)
      (Evl.pss_cut (ps_fld (pv 0) (pe_callTy cr_tupOf (by rfl) T.tuple bt_tuple (pa_cons (pe_callB (cr_sortSK rfl) (by rfl) T.sorted bt_sorted (pa_cons
          (pe_sk (own := [("pair", 5)]) (g := gName 5) (tt := tYes) rfl hu scInit.nd (pi_sq (pv 2)) (blkOk_by (N := nInit) (sc := defScope sInit) (by decide +kernel)) (fun _ _ _ _ _ => pg_name (i := 5) scInit.nd rfl (Or.inl rfl)) (fun _ _ _ _ _ => pts_nil)
            (fun _ _ _ _ _ => pe_tup (pa_cons (pe_callB (r := rMnS K) (cr_mnS rfl) (by rfl) T.min bt_min (pa_cons (pv 5) pa_nil)) (pa_cons (pe_callB (r := rMxS K) (cr_mxS rfl) (by rfl) T.max bt_max (pa_cons (pv 5) pa_nil)) pa_nil)))) pa_nil)) pa_nil)) rfl)
      (Evl.pss_cut (ps_for PassesOwn.never rfl (pi_tup (pe_fld (pv 0) rfl)) (pg_tup rfl (pgs_cons (pg_name (i := 6) scInit.nd rfl (Or.inl rfl)) (pgs_cons (pg_name (i := 7) scInit.nd rfl (Or.inl rfl)) pgs_nil)))
        (pss_cons (ps_expr (pe_bm PySem.F.plainAttrs_list PySem.F.slot_list_append PySem.F.type_list_append mt_append (pe_dget hu (pv 3) (pv 6) (fun _ _ => rfl)) (pa_cons (pv 7) pa_nil)))
        (pss_one (ps_if (pt_cmpR op_ne (pv 6) (pv 7) (nomark _)) (pss_one (ps_expr (pe_bm PySem.F.plainAttrs_list PySem.F.slot_list_append PySem.F.type_list_append mt_append (pe_dget hu (pv 3) (pv 7) (fun _ _ => rfl)) (pa_cons (pv 6) pa_nil)))) pss_nil))))
      (pss_one (ps_fld (pv 0) (pe_lock (pe_dc (own := [("kind", 4)]) (g := gName 4) (tt := tYes) rfl scInit.nd (pi_keys (pv 3)) (blkOk_by (N := nInit) (sc := defScope sInit) (by decide +kernel)) (fun _ _ _ _ _ => pg_name (i := 4) scInit.nd rfl (Or.inl rfl)) (fun _ _ _ _ _ => pts_nil)
          (fun _ _ _ _ _ => pv 4) (fun _ _ _ _ _ => pe_callTy (r := rTupOf K) cr_tupOf (by rfl) T.tuple bt_tuple (pa_cons (pe_dget hu (pv 3) (pv 4) (fun _ _ => rfl)) pa_nil)))) rfl)))))))).nox, ?_⟩
    have noP : H p ≠ none := by rw [hp]; exact fun z => nomatch z
    have sP : Sq K (er p H) lk (ks.map V.str) := hk.er hp
    have sC : Sq K (er p H) lc (ts.map V.ref) := hc.er hp
    have sPs : Paired (fun t c => Sq K (er p H) t [.str c.1, .str c.2]) ts ps := paired_imp (fun _ _ z => z.er hp) hps
    -- near = {}
    intro d hd
    have npd : p ≠ d := ne_of_none hp hd
    have N0 : NL H (upd H d (.dK [])) p d [] (fun _ => []) := ⟨upd_same, List.nodup_nil, List.nodup_nil, fun q hq => (by cases hq), fun q hq => (by cases hq), hd, fun b o e _ => by rw [upd_ne (ne_of_none e hd)]; exact e⟩
    -- for kind in kinds
    refine ⟨fun σ' H' => ∃ nl v4, σ' = [some (.ref p), some (.ref lk), some (.ref lc), some (.ref d), v4, none, none, none] ∧ NL H H' p d nl (fun _ => []) ∧ nl.map (·.1) = ks ∧ H' p = some (.ins C dx []),
      for_sq (i := 1) rfl sP (fun i σ' H' => ∃ nl v4, σ' = [some (.ref p), some (.ref lk), some (.ref lc), some (.ref d), v4, none, none, none] ∧ NL H H' p d nl (fun _ => []) ∧ nl.map (·.1) = ks.take i ∧ H' p = some (.ins C dx []))
        ⟨[], none, rfl, N0, rfl, by rw [upd_ne npd]; exact hp⟩ (fun i σ' H' ⟨_, _, _, N, _⟩ => er_keep N.keep) ?_ ?_, ?_⟩
    · rintro i x σ' H' hi ⟨nl, v4, rfl, N, en, hp'⟩
      rw [List.getElem?_map] at hi
      obtain ⟨k, hki, rfl⟩ := Option.map_eq_some_iff.mp hi
      have knew : k ∉ nl.map (·.1) := by
        rw [en]
        intro m
        obtain ⟨j, hj, e⟩ := List.getElem_of_mem m
        rw [List.length_take] at hj
        have e2 : ks[j]? = some k := by
          rw [← e, List.getElem_take]
          exact List.getElem?_eq_getElem (by omega)
        have := nd_ix nd e2 hki
        omega
      refine ⟨_, rfl, _, rfl, d, _, rfl, DGet.k (k := Sum.inr k) N.dic, ?_⟩
      rw [nl_no knew]
      refine ⟨_, rfl, iteF ?_⟩
      refine ⟨Nat.zero_le _, fun l hl => ?_⟩
      have nld : d ≠ l := fun e => by rw [← e, N.dic] at hl; cases hl
      refine ⟨_, rfl, _, rfl, d, _, rfl, DPut.k (k := Sum.inr k) (by rw [upd_ne nld]; exact N.dic) (small1000 ?_), ?_⟩
      · have z := congrArg List.length en
        rw [List.length_map, List.length_take] at z
        rw [List.length_map]
        omega
      · refine ⟨nl ++ [(k, l)], _, rfl, N.more (by rw [hp']; exact fun z => nomatch z) hl knew rfl, ?_, ?_⟩
        · rw [List.map_append, en, List.take_add_one, hki]
          rfl
        · rw [upd_ne npd, upd_ne (ne_of_none hp' hl)]
          exact hp'
    · rintro σ' H' ⟨nl, v4, rfl, N, en, hp'⟩
      rw [List.length_map, List.take_length] at en
      exact ⟨nl, v4, rfl, N, en, hp'⟩
    -- for pair in clashes: for kind in pair
    rintro σ1 H1 ⟨nl, v4, rfl, N1, en, hp1⟩
    refine ⟨fun σ' H' => H' = H1 ∧ ∃ v4 v5, σ' = [some (.ref p), some (.ref lk), some (.ref lc), some (.ref d), v4, v5, none, none],
      for_sq (i := 2) rfl sC (fun i σ' H' => H' = H1 ∧ ∃ v4 v5, σ' = [some (.ref p), some (.ref lk), some (.ref lc), some (.ref d), v4, v5, none, none])
        ⟨rfl, v4, none, rfl⟩ (fun i σ' H' ⟨e, _⟩ => by rw [e]; exact er_keep N1.keep) ?_ (fun σ' H' h => h), ?_⟩
    · rintro i x σ' H' hi ⟨rfl, v4, v5, rfl⟩
      rw [List.getElem?_map] at hi
      obtain ⟨t, hti, rfl⟩ := Option.map_eq_some_iff.mp hi
      obtain ⟨c, hci, hc2⟩ := paired_get sPs hti
      refine for_sq (i := 5) rfl hc2 (fun i σ' H2 => H2 = H' ∧ ∃ v4, σ' = [some (.ref p), some (.ref lk), some (.ref lc), some (.ref d), v4, some (.ref t), none, none])
        ⟨rfl, v4, rfl⟩ (fun i σ' H2 ⟨e, _⟩ => by rw [e]; exact er_keep N1.keep) ?_ ?_
      · rintro j x σ' H2 hj ⟨rfl, v4, rfl⟩
        have xk : ∃ k, x = .str k ∧ k ∈ ks := by
          have m := inn c (List.mem_of_getElem? hci)
          match j, hj with
          | 0, hj => cases hj; exact ⟨_, rfl, m.1⟩
          | 1, hj => cases hj; exact ⟨_, rfl, m.2⟩
          | j + 2, hj => simp at hj
        obtain ⟨k, rfl, km⟩ := xk
        obtain ⟨a, ha⟩ := nl_at (nl := nl) (k := k) (by rw [en]; exact km)
        refine ⟨_, rfl, _, rfl, d, _, rfl, DGet.k (k := Sum.inr k) N1.dic, ?_⟩
        rw [nl_val N1.one ha]
        exact ⟨_, rfl, iteF ⟨rfl, _, rfl⟩⟩
      · rintro σ' H2 ⟨rfl, v4, rfl⟩
        exact ⟨rfl, v4, _, rfl⟩
    rintro σ2 H2 ⟨rfl, v4, v5, rfl⟩
    -- self._kinds = tuple(sorted(near))
    refine ⟨_, rfl, d, _, ks, rfl, .inl N1.dic, ?_, by omega, fun ys a1 pys sys ha1 => ?_⟩
    · rw [List.map_map, ← en, List.map_map]
      rfl
    refine ⟨a1, _, rfl, .inl ⟨SqL.of upd_same, fun ak hak => ?_⟩⟩
    have hp4 : ∀ o1 o2, (upd (upd H2 a1 o1) ak o2) p = some (.ins C dx []) := fun o1 o2 => by
      have pa : p ≠ a1 := ne_of_none hp1 ha1
      have e1 : (upd H2 a1 o1) p = some (.ins C dx []) := by rw [upd_ne pa]; exact hp1
      by_cases z : p = ak
      · rw [← z, upd_ne pa, hp1] at hak; cases hak
      · rw [upd_ne z]; exact e1
    refine ⟨_, rfl, p, C, dx, [], rfl, hp4 _ _, T.cl, T.nK, (by show 0 < 1000; decide), ?_⟩
    have eys : ys = srt ltS ks := up_one totS (up_of totS (pys.nodup_iff.mpr nd) (sortedS_pw sys)) (up_srt totS ks) fun z => by rw [pys.mem_iff, mem_srt totS]
    subst eys
    have keep5 : ∀ b o, H2 b = some o → b ≠ p → (upd (upd (upd H2 a1 (.lst ((srt ltS ks).map V.str))) ak (.tup ((srt ltS ks).map V.str))) p (.ins C dx (putF "_kinds" (.ref ak) []))) b = some o := fun b o e hb => by
      have e1 : (upd H2 a1 (.lst ((srt ltS ks).map V.str))) b = some o := by rw [upd_ne (ne_of_none e ha1)]; exact e
      rw [upd_ne hb, upd_ne (ne_of_none e1 hak)]
      exact e1
    have N5 := N1.beside noP keep5
    have pak : p ≠ ak := fun z => by
      have w := hp4 (.lst ((srt ltS ks).map V.str)) (.tup ((srt ltS ks).map V.str))
      rw [z, upd_same] at w
      cases w
    have hak5 : (upd (upd (upd H2 a1 (.lst ((srt ltS ks).map V.str))) ak (.tup ((srt ltS ks).map V.str))) p (.ins C dx (putF "_kinds" (.ref ak) []))) ak = some (.tup ((srt ltS ks).map V.str)) := by rw [upd_ne pak.symm, upd_same]
    have hp5 : (upd (upd (upd H2 a1 (.lst ((srt ltS ks).map V.str))) ak (.tup ((srt ltS ks).map V.str))) p (.ins C dx (putF "_kinds" (.ref ak) []))) p = some (.ins C dx (putF "_kinds" (.ref ak) [])) := upd_same
    generalize upd (upd (upd H2 a1 (.lst ((srt ltS ks).map V.str))) ak (.tup ((srt ltS ks).map V.str))) p (.ins C dx (putF "_kinds" (.ref ak) [])) = H5 at N5 hak5 hp5 ⊢
    clear keep5 hp4 hak ha1 N1 hp1
    -- self._clashes = tuple(sorted({(min(pair), max(pair)) for pair in clashes}))
    let key : Str × Str → List Key := fun c => [Sum.inr c.1, Sum.inr c.2]
    have keyInj : ∀ c c' : Str × Str, key c = key c' → c = c' := fun c c' e => by
      have e1 := (List.cons.inj e).1
      have e2 := (List.cons.inj (List.cons.inj e).2).1
      exact Prod.ext (Sum.inr.inj e1) (Sum.inr.inj e2)
    let Pc : Addr → Nat → Hp → Prop := fun D j H' => ∃ L : List Row, H' D = some (SetK P w D L) ∧ (∀ r ∈ L, ∃ c, c ∈ ps.take j ∧ r.2 = key (nrm c) ∧ H' r.1 = some (.tup (r.2.map kV)) ∧ H5 r.1 = none) ∧ (∀ c ∈ ps.take j, key (nrm c) ∈ L.map (·.2)) ∧ (L.map (·.2)).Nodup ∧ H5 D = none ∧ Same H5 H'
    have inP : ∀ {c : Str × Str}, c ∈ ps → (nrm c).1 ∈ ks ∧ (nrm c).2 ∈ ks := fun {c} m => by
      obtain ⟨a, b⟩ := inn c m
      unfold nrm mnS mxS
      constructor
      · show (if ltS c.2 c.1 = true then c.2 else c.1) ∈ ks
        split <;> assumption
      · show (if ltS c.1 c.2 = true then c.2 else c.1) ∈ ks
        split <;> assumption
    let all2 : List (Str × Str) := ks.flatMap fun a => ks.map fun b => (a, b)
    have all2len : all2.length ≤ 1600 := by
      have z : ∀ l : List Str, (l.flatMap fun a => ks.map fun b => (a, b)).length = l.length * ks.length := fun l => by
        induction l with
        | nil => simp
        | cons a l ih => rw [List.flatMap_cons, List.length_append, ih, List.length_map, List.length_cons, Nat.add_mul, Nat.one_mul, Nat.add_comm]
      show (ks.flatMap fun a => ks.map fun b => (a, b)).length ≤ 1600
      rw [z]
      exact Nat.le_trans (Nat.mul_le_mul few few) (by decide)
    have small : ∀ {L : List Row} {j : Nat}, (∀ r ∈ L, ∃ c, c ∈ ps.take j ∧ r.2 = key (nrm c)) → (L.map (·.2)).Nodup → L.length ≤ 1600 := fun {L j} h n => by
      have z := few_of (l := L.map (·.2)) (m := all2.map key) n fun y hy => by
        obtain ⟨r, hr, e⟩ := List.mem_map.mp hy
        obtain ⟨c, hc, e2⟩ := h r hr
        obtain ⟨m1, m2⟩ := inP (List.mem_of_mem_take hc)
        refine List.mem_map.mpr ⟨nrm c, List.mem_flatMap.mpr ⟨_, m1, List.mem_map.mpr ⟨_, m2, rfl⟩⟩, ?_⟩
        rw [← e, e2]
      rw [List.length_map, List.length_map] at z
      omega
    refine ⟨fun σ' H' => ∃ ac as, σ' = [some (.ref p), some (.ref lk), some (.ref lc), some (.ref d), v4, v5, none, none] ∧ (∀ b o, H5 b = some o → b ≠ p → H' b = some o) ∧ H' p = some (.ins C dx (putF "_clashes" (.ref ac) (putF "_kinds" (.ref ak) []))) ∧ H' ac = some (.tup (as.map V.ref)) ∧
      Prs K H' as (srt ltP (ps.map nrm)) ∧ (srt ltP (ps.map nrm)).length ≤ 1600, ?_, ?_⟩
    unfold sFld tCB tCons tNil
    refine sk_sq (i := 2) rfl sC (er_keep fun b o e hb => N5.keep b o e hb) Pc (fun D hD => ⟨[], upd_same, fun r hr => (by cases hr), fun c hc => (by simp at hc), List.nodup_nil, hD, fun b o e => by rw [upd_ne (ne_of_none e hD)]; exact e⟩)
      (fun D j H' ⟨_, _, _, _, _, _, k⟩ => er_keep fun b o e hb => k b o (N5.keep b o e hb)) ?_ ?_
    · rintro D j x H' hj ⟨L, hD, hL, hall, hnd, hDn, k⟩
      rw [List.getElem?_map] at hj
      obtain ⟨t, htj, rfl⟩ := Option.map_eq_some_iff.mp hj
      obtain ⟨c, hcj, hc2⟩ := paired_get sPs htj
      have hc3 : Sq K H' t [.str c.1, .str c.2] := hc2.same (er_keep fun b o e hb => k b o (N5.keep b o e hb))
      refine ⟨rfl, _, rfl, t, c.1, c.2, rfl, hc3, _, rfl, t, c.1, c.2, rfl, hc3, (by show 2 ≤ sizeLine; decide), fun q hq => ?_⟩
      have nDq : D ≠ q := fun e => by rw [← e, hD] at hq; cases hq
      have H5q : H5 q = none := by
        cases z : H5 q with
        | none => rfl
        | some o => rw [k q o z] at hq; cases hq
      refine ⟨q, key (nrm c), L, rfl, SqT.of upd_same, by rw [upd_ne nDq]; exact hD, fun r hr => ?_, ?_, fun L' c1 c2 => ?_⟩
      · obtain ⟨_, _, _, h4, _⟩ := hL r hr
        refine SqT.of ?_
        rw [upd_ne (fun e => by rw [e, hq] at h4; cases h4)]
        exact h4
      · have := small (fun r hr => let ⟨c, a, b, _⟩ := hL r hr; ⟨c, a, b⟩) hnd
        omega
      · have tk : ps.take (j + 1) = ps.take j ++ [c] := by rw [List.take_add_one, hcj]; rfl
        have old : ∀ r ∈ L, ∃ c', c' ∈ ps.take (j + 1) ∧ r.2 = key (nrm c') ∧ (upd (upd H' q (.tup [.str (mnS c.1 c.2), .str (mxS c.1 c.2)])) D (SetK P w D L')) r.1 = some (.tup (r.2.map kV)) ∧ H5 r.1 = none := fun r hr => by
          obtain ⟨c', h1, h2, h4, h5⟩ := hL r hr
          refine ⟨c', by rw [tk]; exact List.mem_append_left _ h1, h2, ?_, h5⟩
          rw [upd_ne (fun e => by rw [e, hD] at h4; cases h4), upd_ne (fun e => by rw [e, hq] at h4; cases h4)]
          exact h4
        have kept : Same H5 (upd (upd H' q (.tup [.str (mnS c.1 c.2), .str (mxS c.1 c.2)])) D (SetK P w D L')) := fun b o e => by
          rw [upd_ne (ne_of_none e hDn), upd_ne (ne_of_none e H5q)]
          exact k b o e
        by_cases m : key (nrm c) ∈ L.map (·.2)
        · have eL := c1 m
          subst eL
          refine ⟨L', upd_same, old, fun c' hc' => ?_, hnd, hDn, kept⟩
          rw [tk] at hc'
          rcases List.mem_append.mp hc' with z | z
          · exact hall c' z
          · rw [List.mem_singleton.mp z]; exact m
        · have pm := c2 m
          refine ⟨L', upd_same, fun r hr => ?_, fun c' hc' => ?_, ?_, hDn, kept⟩
          · rcases List.mem_cons.mp (pm.mem_iff.mp hr) with e | hr
            · rw [e]
              refine ⟨c, by rw [tk]; simp, rfl, ?_, H5q⟩
              rw [upd_ne nDq.symm, upd_same]
              rfl
            · exact old r hr
          · rw [(pm.map (·.2)).mem_iff, List.map_cons]
            rw [tk] at hc'
            rcases List.mem_append.mp hc' with z | z
            · exact List.mem_cons_of_mem _ (hall c' z)
            · rw [List.mem_singleton.mp z]; exact List.mem_cons_self
          · exact (pm.map (·.2)).nodup_iff.mpr (List.nodup_cons.mpr ⟨m, hnd⟩)
    · rintro D H6 hD ⟨L, hD6, hL, hall, hnd, hDn, k6⟩
      have lts : ts.length = ps.length := Paired.length hps
      rw [List.length_map, lts, List.take_length] at hL hall
      let kk : Addr → List Str := fun a => match H6 a with | some (.tup xs) => xs.filterMap strOf | _ => []
      have kkr : ∀ r ∈ L, ∃ c, c ∈ ps ∧ r.2 = key (nrm c) ∧ kk r.1 = [(nrm c).1, (nrm c).2] := fun r hr => by
        obtain ⟨c, h1, h2, h4, _⟩ := hL r hr
        refine ⟨c, h1, h2, ?_⟩
        show (match H6 r.1 with | some (.tup xs) => xs.filterMap strOf | _ => ([] : List Str)) = _
        rw [h4, h2]
        rfl
      refine ⟨D, L, kk, rfl, hD6, fun r hr => SqT.of (hL r hr).choose_spec.2.2.1, fun r hr => ?_, fun as a2 pas was ha2 => ?_⟩
      · obtain ⟨c, _, h2, h3⟩ := kkr r hr
        rw [h3, h2]
        exact ⟨fun z => (by cases z), rfl⟩
      let pk : Addr → Str × Str := fun a => match kk a with | [x, y] => (x, y) | _ => (⟨#[]⟩, ⟨#[]⟩)
      have pkr : ∀ r ∈ L, ∃ c, c ∈ ps ∧ r.2 = key (nrm c) ∧ pk r.1 = nrm c := fun r hr => by
        obtain ⟨c, h1, h2, h3⟩ := kkr r hr
        refine ⟨c, h1, h2, ?_⟩
        show (match kk r.1 with | [x, y] => (x, y) | _ => _) = _
        rw [h3]
      have mem : ∀ a ∈ as, ∃ r ∈ L, r.1 = a := fun a ha => by
        obtain ⟨r, hr, e⟩ := List.mem_map.mp (pas.mem_iff.mp ha)
        exact ⟨r, hr, e⟩
      have ecs : as.map pk = srt ltP (ps.map nrm) := by
        refine up_one totP (up_of totP ?_ ?_) (up_srt totP _) fun z => ?_
        · refine (pas.map pk).nodup_iff.mpr ?_
          rw [List.map_map]
          refine List.pairwise_map.mpr (List.Pairwise.imp_of_mem (fun {q r} hq hr ne e => ?_) (List.pairwise_map.mp hnd))
          obtain ⟨c, _, h2, h3⟩ := pkr q hq
          obtain ⟨c', _, h2', h3'⟩ := pkr r hr
          have e' : pk q.1 = pk r.1 := e
          rw [h3, h3'] at e'
          exact ne (by rw [h2, h2', e'])
        · refine List.pairwise_map.mpr (List.Pairwise.imp_of_mem (fun {x y} hx hy e => ?_) was)
          obtain ⟨q, hq, e1⟩ := mem x hx
          obtain ⟨r, hr, e2⟩ := mem y hy
          obtain ⟨c, _, h2, h3⟩ := kkr q hq
          obtain ⟨c', _, h2', h3'⟩ := kkr r hr
          obtain ⟨d1, _, g2, g3⟩ := pkr q hq
          obtain ⟨d2, _, g2', g3'⟩ := pkr r hr
          rw [← e1, ← e2] at e ⊢
          rw [g3, g3']
          rw [h3, h3'] at e
          have z1 := keyInj _ _ (h2.symm.trans g2)
          have z2 := keyInj _ _ (h2'.symm.trans g2')
          rw [← z1, ← z2]
          exact e
        · rw [mem_srt totP, List.mem_map, List.mem_map]
          constructor
          · rintro ⟨a, ha, e⟩
            obtain ⟨r, hr, e1⟩ := mem a ha
            obtain ⟨c, h1, _, h3⟩ := pkr r hr
            exact ⟨c, h1, by rw [← e, ← e1, h3]⟩
          · rintro ⟨c, hc', e⟩
            obtain ⟨r, hr, e1⟩ := List.mem_map.mp (hall c hc')
            obtain ⟨c', h1, h2, h3⟩ := pkr r hr
            refine ⟨r.1, pas.mem_iff.mpr (List.mem_map.mpr ⟨r, hr, rfl⟩), ?_⟩
            rw [h3, ← e]
            exact keyInj _ _ (h2.symm.trans e1)
      refine ⟨a2, _, rfl, .inl ⟨SqL.of upd_same, fun ac hac => ?_⟩⟩
      have hp6 : H6 p = some (.ins C dx (putF "_kinds" (.ref ak) [])) := k6 _ _ hp5
      have pa2 : p ≠ a2 := ne_of_none hp6 ha2
      have pac : p ≠ ac := fun z => by
        rw [← z, upd_ne pa2, hp6] at hac
        cases hac
      have keep6 : ∀ b o, H6 b = some o → b ≠ p → ∀ fs, (upd (upd (upd H6 a2 (.lst (as.map V.ref))) ac (.tup (as.map V.ref))) p (.ins C dx fs)) b = some o := fun b o e hb fs => by
        have e1 : (upd H6 a2 (.lst (as.map V.ref))) b = some o := by rw [upd_ne (ne_of_none e ha2)]; exact e
        rw [upd_ne hb, upd_ne (ne_of_none e1 hac)]
        exact e1
      refine ⟨_, rfl, p, C, dx, _, rfl, by rw [upd_ne pac, upd_ne pa2]; exact hp6, T.cl, T.nC, (by show 1 < 1000; decide), ?_⟩
      refine ⟨ac, as, rfl, fun b o e hb => keep6 b o (k6 b o e) hb _, upd_same, by rw [upd_ne pac.symm, upd_same], ?_, ?_⟩
      · rw [← ecs]
        have walk : ∀ l : List Addr, (∀ a ∈ l, a ∈ as) → Prs K (upd (upd (upd H6 a2 (.lst (as.map V.ref))) ac (.tup (as.map V.ref))) p (.ins C dx (putF "_clashes" (.ref ac) (putF "_kinds" (.ref ak) [])))) l (l.map pk) := fun l => by
          induction l with
          | nil => exact fun _ => .nil
          | cons a l ih =>
            intro hl
            refine .cons ?_ (ih fun b hb => hl b (List.mem_cons_of_mem _ hb))
            obtain ⟨r, hr, e1⟩ := mem a (hl a List.mem_cons_self)
            obtain ⟨c, h1, h2, h4, h5⟩ := hL r hr
            obtain ⟨c', _, g2, g3⟩ := pkr r hr
            have z := keyInj _ _ (h2.symm.trans g2)
            refine SqT.of (keep6 _ _ ?_ (fun e => ?_) _)
            · rw [← e1, g3, ← z]
              rw [h2] at h4
              exact h4
            · rw [← e1] at e
              rw [e, hp5] at h5
              cases h5
        exact walk as fun a h => h
      · rw [← ecs, List.length_map, pas.length_eq, List.length_map]
        exact small (fun r hr => let ⟨c, a, b⟩ := kkr r hr; ⟨c, by rw [lts, List.take_length]; exact a, b.1⟩) hnd (j := ts.length)
    -- for one, other in self._clashes
    rintro σ3 H7 ⟨ac, as, rfl, k7, hp7, hac7, hpr, hlen⟩
    have N7 := N5.beside noP k7
    have hak7 := k7 _ _ hak5 pak.symm
    have csin : ∀ c ∈ srt ltP (ps.map nrm), c.1 ∈ ks ∧ c.2 ∈ ks := fun c hc => by
      obtain ⟨c0, h0, e⟩ := List.mem_map.mp ((mem_srt totP).mp hc)
      rw [← e]
      exact inP h0
    clear hak5 hp5 N5
    generalize srt ltP (ps.map nrm) = cs at q hpr hlen csin
    clear keyInj inP all2len small
    have notL : ∀ {b : Addr} {o : HO}, H7 b = some o → (∀ xs, o ≠ .lst xs) → ∀ r ∈ nl, r.2 ≠ b := fun {b o} e n r hr z => by
      have y := N7.lst r hr
      rw [z, e] at y
      cases y
      exact n _ rfl
    have las : as.length = cs.length := Paired.length hpr
    have gsmall : ∀ (n : Nat) (k : Str), ((nearM (cs.take n) k).map V.str).length < sizeLine := fun n k => by
      rw [List.length_map, sizeLine_eq]
      have z : (nearM (cs.take n) k).length ≤ (cs.take n).length := List.length_filterMap_le _ _
      rw [List.length_take] at z
      omega
    let Pl : Nat → L2.St → Hp → Prop := fun i σ' H' => ∃ v6 v7, σ' = [some (.ref p), some (.ref lk), some (.ref lc), some (.ref d), v4, v5, v6, v7] ∧ NL H H' p d nl (fun k => nearM (cs.take i) k) ∧ (∀ b o, H7 b = some o → (∀ r ∈ nl, r.2 ≠ b) → H' b = some o)
    refine ⟨Pl as.length, ⟨_, rfl, p, C, dx, _, _, rfl, hp7, T.cl, T.nC, (by rw [lookup_putF, if_pos rfl]), ac, rfl, ⟨_, SqT.of hac7⟩, for_tup (xs := as.map V.ref) Pl ⟨none, none, rfl, N7, fun b o e _ => e⟩ (fun i σ' H' _ ⟨_, _, _, _, k⟩ => SqT.of (k _ _ hac7 (notL hac7 fun _ z => nomatch z))) ?_ (fun σ' H' h => by rw [List.length_map] at h; exact h)⟩, ?_⟩
    · rintro i x σ' H' hi ⟨v6, v7, rfl, N, k⟩
      rw [List.getElem?_map] at hi
      obtain ⟨t, hti, rfl⟩ := Option.map_eq_some_iff.mp hi
      obtain ⟨c, hci, hT⟩ := paired_get hpr hti
      have hT' : SqT K H' t [.str c.1, .str c.2] := by
        rcases hT with (z | ⟨o, z⟩) | z
        · exact .inl (.inl (k _ _ z (notL z fun _ w => nomatch w)))
        · exact .inl (.inr ⟨o, k _ _ z (notL z fun _ w => nomatch w)⟩)
        · exact .inr z
      have tk : cs.take (i + 1) = cs.take i ++ [c] := by rw [List.take_add_one, hci]; rfl
      obtain ⟨m1, m2⟩ := csin c (List.mem_of_getElem? hci)
      obtain ⟨a, ha⟩ := nl_at (nl := nl) (k := c.1) (by rw [en]; exact m1)
      obtain ⟨b, hb⟩ := nl_at (nl := nl) (k := c.2) (by rw [en]; exact m2)
      have hLa := N.lst _ ha
      refine ⟨t, _, rfl, hT', rfl, _, _, rfl, _, _, rfl, rfl, ?_⟩
      refine ⟨_, rfl, _, rfl, d, .ref a, rfl, (by have z := DGet.k (k := Sum.inr c.1) N.dic; rw [nl_val N.one ha] at z; exact z), .inl ⟨rfl, _, SqL.of hLa⟩, _, rfl, a, _, _, rfl, rfl, hLa, gsmall i c.1, ?_⟩
      have N8 := N.app (x := c.2) ha
      have k8 : ∀ b o, H7 b = some o → (∀ r ∈ nl, r.2 ≠ b) → (upd H' a (.lst ((nearM (cs.take i) c.1).map V.str ++ [.str c.2]))) b = some o := fun b o e n => by
        rw [upd_ne (Ne.symm (n _ ha))]
        exact k b o e n
      refine ⟨_, rfl, _, rfl, rfl, _, rfl, ?_⟩
      by_cases e : c.1 = c.2
      · refine iteNS (by rw [e]) ?_
        refine ⟨_, _, rfl, N8.eqv fun j => ?_, k8⟩
        show _ = nearM (cs.take (i + 1)) j
        rw [tk, nearM_snoc]
        by_cases ej : j = c.1
        · rw [if_pos ej, ej, if_pos rfl]
        · rw [if_neg ej, if_neg (Ne.symm ej), if_neg (by rw [← e]; exact Ne.symm ej), List.append_nil]
      · have ne : ¬ (V.str c.1 = V.str c.2) := fun z => e (V.str.inj z)
        rw [decide_eq_false ne]
        refine iteT ?_
        have hLb := N8.lst _ hb
        refine ⟨_, rfl, _, rfl, d, .ref b, rfl, (by have z := DGet.k (k := Sum.inr c.2) N8.dic; rw [nl_val N8.one hb] at z; exact z), .inl ⟨rfl, _, SqL.of hLb⟩, _, rfl, b, _, _, rfl, rfl, hLb, ?_, ?_⟩
        · show (List.map V.str (if c.2 = c.1 then _ else nearM (cs.take i) c.2)).length < sizeLine
          rw [if_neg (Ne.symm e)]
          exact gsmall i c.2
        · have N9 := N8.app (x := c.1) hb
          refine ⟨_, _, rfl, N9.eqv fun j => ?_, fun b' o e' n => ?_⟩
          · show (if j = c.2 then (if c.2 = c.1 then _ else nearM (cs.take i) c.2) ++ [c.1] else if j = c.1 then nearM (cs.take i) c.1 ++ [c.2] else nearM (cs.take i) j) = nearM (cs.take (i + 1)) j
            rw [tk, nearM_snoc, if_neg (Ne.symm e)]
            by_cases e2 : j = c.2
            · rw [if_pos e2, e2, if_neg e, if_pos rfl]
            · rw [if_neg e2]
              by_cases e1 : j = c.1
              · rw [if_pos e1, e1, if_pos rfl]
              · rw [if_neg e1, if_neg (Ne.symm e1), if_neg (Ne.symm e2), List.append_nil]
          · rw [upd_ne (Ne.symm (n _ hb))]
            exact k8 b' o e' n
    -- self._near = {kind: tuple(near[kind]) for kind in near}
    rintro σ4 H8 ⟨v6, v7, rfl, N8', k8⟩
    have N8 : NL H H8 p d nl (nearM cs) := N8'.eqv fun k => by
      show nearM (cs.take as.length) k = nearM cs k
      rw [las, List.take_length]
    clear N8'
    have hp8 := k8 _ _ hp7 (notL hp7 fun _ z => nomatch z)
    have hac8 := k8 _ _ hac7 (notL hac7 fun _ z => nomatch z)
    have hak8 := k8 _ _ hak7 (notL hak7 fun _ z => nomatch z)
    have hpr8 : Prs K H8 as cs := paired_imp (fun t c hT => by
      rcases hT with (z | ⟨o, z⟩) | z
      · exact .inl (.inl (k8 _ _ z (notL z fun _ w => nomatch w)))
      · exact .inl (.inr ⟨o, k8 _ _ z (notL z fun _ w => nomatch w)⟩)
      · exact .inr z) hpr
    clear hp7 hac7 hak7 hpr k7 k8 notL N7
    unfold sFld tLockE
    refine ⟨d, _, N8.dic, trivial, fun od => ?_⟩
    let kv : List (Key × V) := nl.map fun r => (Sum.inr r.1, V.ref r.2)
    let Pn : Addr → Nat → Hp → Prop := fun D n H' => H' d = some (.frz od (.dK kv)) ∧ (∃ new : List (Key × V), H' D = some (.dK new) ∧ new.length ≤ n ∧ (∀ j r, nl[j]? = some r → j < n → ∃ t, valV new (Sum.inr r.1) = some (.ref t) ∧ H' t = some (.tup ((nearM cs r.1).map V.str)) ∧ H8 t = none) ∧
      (∀ key v, valV new key = some v → ∃ r ∈ nl, key = Sum.inr r.1)) ∧ H8 D = none ∧ (∀ b o, H8 b = some o → b ≠ d → H' b = some o)
    have dfree : ∀ {D : Addr}, (upd H8 d (.frz od (.dK kv))) D = none → D ≠ d ∧ H8 D = none := fun {D} hD => by
      have nD : D ≠ d := fun e => by rw [e, upd_same] at hD; cases hD
      rw [upd_ne nD] at hD
      exact ⟨nD, hD⟩
    refine dc_keys (i := 3) (j := 4) (kvs := kv) (od := od) rfl upd_same Pn (fun D hD => ?_) (fun D n H' h => h.1) ?_ ?_
    · obtain ⟨nD, hD8⟩ := dfree hD
      refine ⟨by rw [upd_ne nD.symm, upd_same], ⟨[], upd_same, Nat.le_refl _, fun j r _ h => absurd h (Nat.not_lt_zero _), fun key v h => (by cases h)⟩, hD8, fun b o e hb => ?_⟩
      rw [upd_ne (ne_of_none e hD8), upd_ne hb]
      exact e
    · rintro D n k v H' hn ⟨hf, ⟨new, hD, hl, hnew, hback⟩, hD8, kp⟩
      have hn' : (nl.map fun r => ((Sum.inr r.1 : Key), V.ref r.2))[n]? = some (k, v) := hn
      rw [List.getElem?_map] at hn'
      obtain ⟨r, hr, er⟩ := Option.map_eq_some_iff.mp hn'
      cases er
      have rm := List.mem_of_getElem? hr
      have hLr := kp _ _ (N8.lst r rm) (fun z => by have y := N8.lst r rm; rw [z, N8.dic] at y; cases y)
      refine ⟨rfl, _, rfl, _, rfl, _, rfl, d, .ref r.2, rfl, .inl ⟨kv, Sum.inr r.1, .inr ⟨od, hf⟩, rfl, ?_⟩, r.2, _, rfl, .inl ⟨SqL.of hLr, fun t ht => ?_⟩⟩
      · exact (nl_val N8.one rm).symm
      · have tD : D ≠ t := fun e => by rw [← e, hD] at ht; cases ht
        have td : d ≠ t := fun e => by rw [← e, hf] at ht; cases ht
        have t8 : H8 t = none := by
          cases z : H8 t with
          | none => rfl
          | some o => rw [kp t o z td.symm] at ht; cases ht
        have dD : d ≠ D := fun e => by rw [← e, N8.dic] at hD8; cases hD8
        refine ⟨new, Sum.inr r.1, rfl, by rw [upd_ne tD]; exact hD, small1000 ?_, by rw [upd_ne dD, upd_ne td]; exact hf, ⟨putK new (Sum.inr r.1) (.ref t), upd_same, ?_, fun j r' hj hjn => ?_, fun key v hv => ?_⟩, hD8, fun b o e hb => ?_⟩
        · have z := (List.getElem?_eq_some_iff.mp hr).1
          have y := congrArg List.length en
          rw [List.length_map] at y
          omega
        · exact Nat.le_trans (length_putK new (Sum.inr r.1) (.ref t)) (Nat.succ_le_succ hl)
        · rw [valV_put]
          by_cases e : r'.1 = r.1
          · rw [if_pos (by rw [e])]
            refine ⟨t, rfl, ?_, t8⟩
            rw [upd_ne tD.symm, upd_same, e]
          · rw [if_neg fun z => e (Sum.inr.inj z)]
            have jn : j < n := by
              rcases Nat.lt_or_ge j n with w | w
              · exact w
              · have ej : j = n := by omega
                rw [ej, hr] at hj
                cases hj
                exact absurd rfl e
            obtain ⟨t', a1, a2, a3⟩ := hnew j r' hj jn
            refine ⟨t', a1, ?_, a3⟩
            rw [upd_ne (fun z => by rw [z, hD] at a2; cases a2), upd_ne (fun z => by rw [z, ht] at a2; cases a2)]
            exact a2
        · rw [valV_put] at hv
          by_cases e : key = Sum.inr r.1
          · exact ⟨r, rm, e⟩
          · rw [if_neg e] at hv
            exact hback key v hv
        · rw [upd_ne (ne_of_none e hD8), upd_ne (ne_of_none e t8)]
          exact kp b o e hb
    · rintro D H9 hD ⟨hf, ⟨new, hD9, hl, hnew, hback⟩, hD8, kp⟩
      obtain ⟨nD, _⟩ := dfree hD
      refine ⟨hf, ?_⟩
      have old : ∀ b o, H8 b = some o → (upd H9 d (.dK kv)) b = some o := fun b o e => by
        by_cases z : b = d
        · rw [z, upd_same]
          rw [z, N8.dic] at e
          exact e
        · rw [upd_ne z]
          exact kp b o e z
      refine ⟨_, rfl, p, C, dx, _, rfl, old _ _ hp8, T.cl, T.nN, (by show 2 < 1000; decide), ?_⟩
      have keep : ∀ b o, b ≠ p → (upd H9 d (.dK kv)) b = some o → (upd (upd H9 d (.dK kv)) p (.ins C dx (bkF ak ac D))) b = some o := fun b o hb e => by
        rw [upd_ne hb]
        exact e
      have pD : p ≠ D := fun z => by rw [← z, hp8] at hD8; cases hD8
      refine q _ ⟨dx, ak, ac, D, new, as, upd_same, SqT.of (keep _ _ pak.symm (old _ _ hak8)), ?_, ?_, keep _ _ pD.symm (by rw [upd_ne nD]; exact hD9), fun k hk => ?_, fun k hk => ?_⟩ fun b o e hb => ?_
      · refine SqT.of (keep _ _ (fun z => ?_) (old _ _ hac8))
        rw [z, hp8] at hac8
        cases hac8
      · exact paired_imp (fun t c hT => by
          have ne : ∀ {o : HO}, H8 t = some o → (∀ C dx fs, o ≠ .ins C dx fs) → t ≠ p := fun {o} e n z => by
            rw [z, hp8] at e
            cases e
            exact n _ _ _ rfl
          rcases hT with (z | ⟨o, z⟩) | z
          · exact .inl (.inl (keep _ _ (ne z fun _ _ _ w => nomatch w) (old _ _ z)))
          · exact .inl (.inr ⟨o, keep _ _ (ne z fun _ _ _ w => nomatch w) (old _ _ z)⟩)
          · exact .inr z) hpr8
      · have km : k ∈ ks := (mem_srt totS).mp hk
        rw [← en] at km
        obtain ⟨a, ha⟩ := nl_at km
        obtain ⟨j, hj⟩ := List.getElem?_of_mem ha
        obtain ⟨t, a1, a2, a3⟩ := hnew j _ hj (by show j < (nl.map _).length; rw [List.length_map]; exact (List.getElem?_eq_some_iff.mp hj).1)
        have td : t ≠ d := fun z => by rw [z, N8.dic] at a3; cases a3
        exact ⟨t, a1, SqT.of (keep _ _ (fun z => by rw [z, hp8] at a3; cases a3) (by rw [upd_ne td]; exact a2))⟩
      · cases z : valV new (Sum.inr k) with
        | none => rfl
        | some v =>
          obtain ⟨r, hr, e⟩ := hback _ _ z
          refine absurd ?_ hk
          rw [mem_srt totS, ← en, Sum.inr.inj e]
          exact List.mem_map.mpr ⟨r, hr, rfl⟩
      · exact keep _ _ hb (old _ _ (N8.keep b o e hb))
end
end Sx

/-! SxFn -/
/-! Calls in short: a def, a method, a property, a static method, a class, each with its promise. -/
namespace Sx
open PySem PySem.Spec PyProof.Rows L2

/-- all built-in names that are used here are the built-in ones -/
structure Blt (mg : Str → Option Value) : Prop where
  sorted : mg "sorted" = none
  tuple : mg "tuple" = none
  min : mg "min" = none
  max : mg "max" = none
  len : mg "len" = none
  all : mg "all" = none
  isinstance : mg "isinstance" = none
  abs : mg "abs" = none
  list : mg "list" = none
  int : mg "int" = none
  range : mg "range" = none
  set : mg "set" = none
  zip : mg "zip" = none
  enumerate : mg "enumerate" = none
  dict : mg "dict" = none
  str : mg "str" = none
  bool : mg "bool" = none
section
variable (P : Program) (w : World) (K : PySem.W.Frag) (mg : Str → Option Value) (base : Heap)
/-- the module's x is a def that keeps sp -/
def FnG (x : Str) (k : Nat) (ps : List Str) (sp : Sp) : Prop := ∃ f fd, mg x = some (.ref f) ∧ PySem.W.keepIn K (.ref f) = true ∧ FnOk P w K mg base CX0 k f fd ps sp ∧ Binds K fd ps []
/-- C's m is a method that keeps sp -/
def MtG (C : Addr) (m : Str) (k : Nat) (ps : List Str) (sp : Sp) : Prop := ∃ f fd, Meth K C m f ∧ FnOk P w K mg base CX0 k f fd ps sp ∧ Binds K fd ps []
/-- C's m is a property -/
def PrG (C : Addr) (m : Str) (k : Nat) (sp : Sp) : Prop := ∃ p g fd, PropOf K C m p g ∧ FnOk P w K mg base CX0 k g fd ["self"] sp ∧ Binds K fd ["self"] []
/-- C's m is a static method -/
def SmG (C : Addr) (m : Str) (k : Nat) (ps : List Str) (sp : Sp) : Prop := ∃ mc p g fd rest, ClX.CRead K C mc ∧ PySem.W.findCls K (.ref C) mc m = some (.get (.builtin "staticmethod.__get__") (.ref p) .none (.ref C)) ∧ PySem.W.recIn K p "staticmethod" = some (.ref g :: rest) ∧
  PySem.W.keepIn K (.ref g) = true ∧ FnOk P w K mg base CX0 k g fd ps sp ∧ Binds K fd ps []
/-- the module's x is the class at C, its __init__ keeps sp -/
def MkG (x : Str) (C : Addr) (k : Nat) (ps : List Str) (sp : Sp) : Prop := ∃ f fd, mg x = some (.ref C) ∧ Mk K C f ∧ FnOk P w K mg base CX0 k f fd ps sp ∧ Binds K fd ps []
end
section
variable {X : Cx} {k : Nat} {C : Addr} {ps : List Str} {sp : Sp} {x m : Str} {p pos apos : Pos} {e o : Expr} {es : List Expr} {ta : TE} {t : TA}
theorem pe_g (G : FnG X.prog X.w X.K X.mg X.base x k ps sp) (hr : Room k X.A) (ha : PA X (e :: es) t) (hg : Gl X x := by rfl) (hdb : (x == ("__debug__" : Str)) = false := by decide)
    (he : starEach (e :: es) X.env = (false, eval e X.env) :: starEach es X.env := by rfl) (hpl : (backTo pos (starEach es X.env)).any (·.1) = false := by rfl) : PE X (.Call (.Name x p) (e :: es) [] pos) (tCall sp [] E0 t) := by
  obtain ⟨f, fd, hm, kp, F, b⟩ := G
  exact pe_call F hr hg hm kp b .nil pass0 ha hdb he hpl
theorem pe_g0 (G : FnG X.prog X.w X.K X.mg X.base x k ps sp) (hr : Room k X.A) (hg : Gl X x := by rfl) (hdb : (x == ("__debug__" : Str)) = false := by decide) : PE X (.Call (.Name x p) [] [] pos) (tCall sp [] E0 tNil) := by
  obtain ⟨f, fd, hm, kp, F, b⟩ := G
  exact pe_call0 F hr hg hm kp b .nil pass0 hdb
theorem pe_mk (G : MkG X.prog X.w X.K X.mg X.base x C k ps sp) (hr : Room (k + 1) X.A) (ha : PA X (e :: es) t) (hg : Gl X x := by rfl) (hdb : (x == ("__debug__" : Str)) = false := by decide)
    (he : starEach (e :: es) X.env = (false, eval e X.env) :: starEach es X.env := by rfl) (hpl : (backTo pos (starEach es X.env)).any (·.1) = false := by rfl) : PE X (.Call (.Name x p) (e :: es) [] pos) (tMake C sp [] E0 t) := by
  obtain ⟨f, fd, hm, M, F, b⟩ := G
  exact pe_make M F hr hg hm b .nil pass0 ha hdb he hpl
theorem pe_pg {f : Str} (G : PrG X.prog X.w X.K X.mg X.base C f k sp) (c : Cls X.K C) (he : PE X e ta) (hr : Room (k + 1) X.A) (hab : attributeBase e f X.env (eval e X.env) = eval e X.env := by rfl) : PE X (.Attribute e f pos) (tProp C sp [] E0 ta) := by
  obtain ⟨p, g, fd, hp, F, b⟩ := G
  exact pe_prop he c hp F hr b .nil (fun _ _ _ _ _ _ _ h => h.elim) hab
theorem pe_mg {pl : Sem Bool} (G : MtG X.prog X.w X.K X.mg X.base C m k ps sp) (c : Cls X.K C) (he : PE X o ta) (hr : Room k X.A) (ha : PA X (e :: es) t)
    (hst : starEach (e :: es) X.env = (false, eval e X.env) :: starEach es X.env := by rfl) (hpl : (backTo pos (starEach es X.env)).any (·.1) = false := by rfl)
    (ht : eval (.Call (.Attribute o m apos) (e :: es) [] pos) X.env = (do
      let ov ← eval o X.env
      standAt apos.atName
      let (f, first) ← holding [ov] (getMethod ov m pl)
      callWith pos f first (backTo pos (starEach (e :: es) X.env)) (backToKw pos (keywordEach [] X.env))) := by rfl) : PE X (.Call (.Attribute o m apos) (e :: es) [] pos) (tMeth C m sp [] E0 ta t) := by
  obtain ⟨f, fd, M, F, b⟩ := G
  exact pe_meth he c M F hr b .nil pass0 ha hst hpl ht
theorem pe_mg0 {pl : Sem Bool} (G : MtG X.prog X.w X.K X.mg X.base C m k ps sp) (c : Cls X.K C) (he : PE X o ta) (hr : Room k X.A)
    (ht : eval (.Call (.Attribute o m apos) [] [] pos) X.env = (do
      let ov ← eval o X.env
      standAt apos.atName
      let (f, first) ← holding [ov] (getMethod ov m pl)
      callWith pos f first (backTo pos (starEach [] X.env)) (backToKw pos (keywordEach [] X.env))) := by rfl) : PE X (.Call (.Attribute o m apos) [] [] pos) (tMeth C m sp [] E0 ta tNil) := by
  obtain ⟨f, fd, M, F, b⟩ := G
  exact pe_meth0 he c M F hr b .nil pass0 ht
theorem pe_sg {pl : Sem Bool} (G : SmG X.prog X.w X.K X.mg X.base C m k ps sp) (hm : X.mg x = some (.ref C)) (hr : Room k X.A) (ha : PA X (e :: es) t) (hg : Gl X x := by rfl) (hdb : (x == ("__debug__" : Str)) = false := by decide)
    (hst : starEach (e :: es) X.env = (false, eval e X.env) :: starEach es X.env := by rfl) (hpl : (backTo pos (starEach es X.env)).any (·.1) = false := by rfl)
    (ht : eval (.Call (.Attribute (.Name x p) m apos) (e :: es) [] pos) X.env = (do
      let ov ← eval (.Name x p) X.env
      standAt apos.atName
      let (f, first) ← holding [ov] (getMethod ov m pl)
      callWith pos f first (backTo pos (starEach (e :: es) X.env)) (backToKw pos (keywordEach [] X.env))) := by rfl) : PE X (.Call (.Attribute (.Name x p) m apos) (e :: es) [] pos) (tCall sp [] E0 t) := by
  obtain ⟨mc, q, g, fd, rest, r, c, rc, kp, F, b⟩ := G
  refine ⟨fun pins s σ H Q I h => ?_⟩
  refine PySem.W.methodCall_KW (pl := pl) (ld_glob I hg hm ?_ hdb) ht
  refine PySem.W.method_cls I.kIn r.ga (PySem.W.cls_bind I.kIn r.rd c ?_)
  refine wpAny_call (PySem.W.sm_get (s := { s with toks := s.toks + 1 }) I.kIn rc (PySem.W.handed_on (handed_of (v := V.ref g) rfl) ?_))
  have I2 := I.tok (s.toks + 1)
  refine PySem.W.callWith_K (first := []) (h₀ := X.base) I2.ok.mod.kin kp (thn (ha.run pos pins _ σ H _ I2 h) fun us s1 ⟨vs, H1, I1, rr, q1⟩ => ⟨I1.kIn, ?_⟩) hst hpl
  exact run_fn F hr b .nil pass0 I1 rr q1
end
end Sx

/-! SxLc -/
/-! Comprehensions whose elements are values, or new tuples. -/
namespace Sx
open PySem PySem.Spec PyProof.Rows L2
/-- te gives the value v whatever is laid beside; tt answers b -/
def Gv (te : TE) (σ : L2.St) (H : Hp) (v : V) : Prop := ∀ Q : VK, (∀ H', Same H H' → Q v H') → te σ H Q
def Gt (tt : TT) (σ : L2.St) (H : Hp) (b : Bool) : Prop := ∀ Q : Bool → Hp → Prop, (∀ H', Same H H' → Q b H') → tt σ H Q
/-- te gives a new tuple of the values vs -/
def Gu (te : TE) (σ : L2.St) (H : Hp) (vs : List V) : Prop := ∀ Q : VK, (∀ t H', H t = none → Same H H' → H' t = some (.tup vs) → Q (.ref t) H') → te σ H Q
theorem Same.new {H : Hp} {p : Addr} {o : HO} (h : H p = none) : Same H (upd H p o) := fun b u e => by
  rw [upd_ne (ne_of_none e h)]
  exact e
/-- a list that wasn't there may change -/
theorem Same.mut {H H' : Hp} {p : Addr} {o : HO} (e : Same H H') (h : H p = none) : Same H (upd H' p o) := fun b u q => by
  rw [upd_ne (ne_of_none q h)]
  exact e b u q
theorem same_id {H : Hp} : Same H H := fun _ _ e => e
theorem paired_map {α β γ : Type} {F : β → γ → Prop} {f : α → β} {g : α → γ} : ∀ {l : List α}, (∀ x ∈ l, F (f x) (g x)) → Paired F (l.map f) (l.map g)
  | [], _ => .nil
  | x :: l, h => .cons (h x List.mem_cons_self) (paired_map fun y hy => h y (List.mem_cons_of_mem _ hy))
theorem paired_strs (l : List Str) : Paired (fun x z => x = V.str z) (l.map V.str) l := by
  have h := paired_map (F := fun x z => x = V.str z) (f := V.str) (g := id) (l := l) fun _ _ => rfl
  rw [List.map_id] at h
  exact h
theorem paired_refs {α : Type} {F : Addr → α → Prop} {ts : List Addr} {zs : List α} (h : Paired F ts zs) : Paired (fun x z => ∃ t, x = V.ref t ∧ F t z) (ts.map V.ref) zs := by
  induction h with
  | nil => exact .nil
  | cons r _ ih => exact .cons ⟨_, rfl, r⟩ ih
theorem paired_snoc {α β : Type} {F : α → β → Prop} {as : List α} {ys : List β} {b : α} {y : β} (h : Paired F as ys) : F b y → Paired F (as ++ [b]) (ys ++ [y]) := by
  induction h with
  | nil => exact fun r => .cons r .nil
  | cons r _ ih => exact fun z => .cons r (ih z)
section
variable {K : PySem.W.Frag} {a : Addr} {xs : List V} {g : TG} {tt : TT} {te : TE} {vs : List Nat} {σ : L2.St} {H : Hp} {Qr : Addr → Hp → Prop} {α : Type} {zs : List α} {R : V → α → Prop}
/-- what a turn of a comprehension asks: the target, the test, the element -/
abbrev Turn1 (D : Addr) (g : TG) (tt : TT) (te : TE) (vs : List Nat) (σ : L2.St) (x : V) (H : Hp) (nx : Hp → Prop) : Prop := g x (wipe σ vs) H fun σ2 H2 => wipe σ2 vs = wipe σ vs ∧ tt σ2 H2 fun b H3 =>
  if b = true then te σ2 H3 fun y H4 => ∃ acc, H4 D = some (.lst acc) ∧ acc.length < sizeLine ∧ nx (upd H4 D (.lst (acc ++ [y]))) else nx H3
/-- a turn: the target gives names, the test answers c z -/
def Tst (g : TG) (tt : TT) (te : TE) (vs : List Nat) (σ : L2.St) (x : V) (H : Hp) (b : Bool) (E : TE → L2.St → Hp → Prop) : Prop := ∃ σ2, wipe σ2 vs = wipe σ vs ∧ Gt tt σ2 H b ∧ (b = true → ∀ H', Same H H' → E te σ2 H') ∧ ∀ k : L2.St → Hp → Prop, k σ2 H → g x (wipe σ vs) H k
/-- values -/
theorem vals_core {D : Addr} (f : α → V) (c : α → Bool) (hp : Paired R xs zs) (hD : H D = none) (hz : xs.length ≤ 10000)
    (ht : ∀ x z, z ∈ zs → R x z → ∀ H', Same H H' → Tst g tt te vs σ x H' (c z) fun te σ H => Gv te σ H (f z)) :
    ∀ i x H', xs[i]? = some x → (Same H H' ∧ H' D = some (.lst (((zs.take i).filter c).map f))) → Turn1 D g tt te vs σ x H' fun H'' => Same H H'' ∧ H'' D = some (.lst (((zs.take (i + 1)).filter c).map f)) := by
  rintro i x H' hi ⟨s, hd⟩
  obtain ⟨z, hzi, hR⟩ := paired_get hp hi
  have tk : zs.take (i + 1) = zs.take i ++ [z] := by rw [List.take_add_one, hzi]; rfl
  have len : (((zs.take i).filter c).map f).length < 10001 := by
    rw [List.length_map]
    have y := List.length_filter_le c (zs.take i)
    have e := Paired.length hp
    rw [List.length_take] at y
    omega
  obtain ⟨σ2, hw, hgt, hge, hg⟩ := ht x z (List.mem_of_getElem? hzi) hR H' s
  refine hg _ ⟨hw, hgt _ fun H2 s2 => ?_⟩
  cases hc : c z with
  | true =>
    refine iteT (hge hc H2 s2 _ fun H3 s3 => ⟨_, s3 _ _ (s2 _ _ hd), Nat.lt_of_lt_of_le len (by decide), Sx.Same.mut (s.trans (s2.trans s3)) hD, ?_⟩)
    rw [upd_same, tk, List.filter_append, List.map_append]
    simp [hc]
  | false =>
    refine iteF ⟨s.trans s2, ?_⟩
    rw [s2 _ _ hd, tk, List.filter_append, List.map_append]
    simp [hc]
/-- [f x for x in xs if c x], xs a list; a tuple -/
theorem lc_valsL (f : α → V) (c : α → Bool) (hx : SqL K H a xs) (hp : Paired R xs zs) (hz : xs.length ≤ 10000)
    (ht : ∀ x z, z ∈ zs → R x z → ∀ H', Same H H' → Tst g tt te vs σ x H' (c z) fun te σ H => Gv te σ H (f z)) (q : ∀ D H', H D = none → Same H H' → H' D = some (.lst ((zs.filter c).map f)) → Qr D H') :
    ∀ D, H D = none → ∃ W : Nat → Nat → Hp → Prop, (∃ m, W 0 m (upd H D (.lst []))) ∧ ∀ i m H', W i m H' → ((Itl K a).stop i H' ∧ Qr D H') ∨ ((Itl K a).go i H' ∧ ∃ Nx : Hp → Prop, (∀ H', Nx H' → ∃ m', m' < m ∧ W (i + 1) m' H') ∧ ∀ x H2, (Itl K a).yld i H' x H2 → Turn1 D g tt te vs σ x H2 Nx) := fun D hD =>
  lc_list (Qd := fun H' => Qr D H') (xs := xs) (fun i H' => Same H H' ∧ H' D = some (.lst (((zs.take i).filter c).map f))) ⟨Same.new hD, upd_same⟩ (fun i H' _ p => Same.seq p.1 hx)
    (vals_core f c hp hD hz ht) fun H' p => q D H' hD p.1 (by have z := p.2; rw [Paired.length hp, List.take_length] at z; exact z)
theorem lc_valsT (f : α → V) (c : α → Bool) (hx : SqT K H a xs) (hp : Paired R xs zs) (hz : xs.length ≤ 10000)
    (ht : ∀ x z, z ∈ zs → R x z → ∀ H', Same H H' → Tst g tt te vs σ x H' (c z) fun te σ H => Gv te σ H (f z)) (q : ∀ D H', H D = none → Same H H' → H' D = some (.lst ((zs.filter c).map f)) → Qr D H') :
    ∀ D, H D = none → ∃ W : Nat → Nat → Hp → Prop, (∃ m, W 0 m (upd H D (.lst []))) ∧ ∀ i m H', W i m H' → ((Itt K a).stop i H' ∧ Qr D H') ∨ ((Itt K a).go i H' ∧ ∃ Nx : Hp → Prop, (∀ H', Nx H' → ∃ m', m' < m ∧ W (i + 1) m' H') ∧ ∀ x H2, (Itt K a).yld i H' x H2 → Turn1 D g tt te vs σ x H2 Nx) := fun D hD =>
  lc_tup (Qd := fun H' => Qr D H') (xs := xs) (fun i H' => Same H H' ∧ H' D = some (.lst (((zs.take i).filter c).map f))) ⟨Same.new hD, upd_same⟩ (fun i H' _ p => sqT_same p.1 hx)
    (vals_core f c hp hD hz ht) fun H' p => q D H' hD p.1 (by have z := p.2; rw [Paired.length hp, List.take_length] at z; exact z)
/-- new tuples: the turn -/
def News1 (H H' : Hp) (D : Addr) (f : α → List V) (ys : List α) : Prop := Same H H' ∧ ∃ ts : List Addr, H' D = some (.lst (ts.map V.ref)) ∧ Paired (fun t x => H' t = some (.tup (f x)) ∧ H t = none ∧ t ≠ D) ts ys
theorem news_core {D : Addr} (f : α → List V) (c : α → Bool) (hp : Paired R xs zs) (hD : H D = none) (hz : xs.length ≤ 10000)
    (hg : ∀ x z, z ∈ zs → R x z → ∀ H', Same H H' → Tst g tt te vs σ x H' (c z) fun te σ H => Gu te σ H (f z)) :
    ∀ i x H', xs[i]? = some x → News1 H H' D f ((zs.take i).filter c) → Turn1 D g tt te vs σ x H' fun H'' => News1 H H'' D f ((zs.take (i + 1)).filter c) := by
  rintro i x H' hi ⟨s, ts, hd, hpr⟩
  obtain ⟨z, hzi, hR⟩ := paired_get hp hi
  have tk : zs.take (i + 1) = zs.take i ++ [z] := by rw [List.take_add_one, hzi]; rfl
  obtain ⟨σ2, hw, ht, he, hg2⟩ := hg x z (List.mem_of_getElem? hzi) hR H' s
  refine hg2 _ ⟨hw, ht _ fun H2 s2 => ?_⟩
  have stay : ∀ {H3 : Hp}, Same H' H3 → Paired (fun t x => H3 t = some (.tup (f x)) ∧ H t = none ∧ t ≠ D) ts ((zs.take i).filter c) := fun {H3} s3 => paired_imp (fun t x h => ⟨s3 _ _ h.1, h.2⟩) hpr
  cases hc : c z with
  | true =>
    refine iteT (he hc H2 s2 _ fun t H3 ht3 s3 hn => ⟨ts.map V.ref, s3 _ _ (s2 _ _ hd), ?_, ?_⟩)
    · rw [List.length_map, Paired.length hpr, sizeLine_eq]
      have y := List.length_filter_le c (zs.take i)
      have e := Paired.length hp
      rw [List.length_take] at y
      omega
    · have s13 := s.trans (s2.trans s3)
      have tD : t ≠ D := fun e => by
        rw [e] at hn
        have z := s3 _ _ (s2 _ _ hd)
        rw [hn] at z
        cases z
      have tn : H t = none := by
        cases z : H t with
        | none => rfl
        | some o => rw [s2 _ _ (s _ _ z)] at ht3; cases ht3
      refine ⟨Sx.Same.mut s13 hD, ts ++ [t], by rw [upd_same, List.map_append]; rfl, ?_⟩
      rw [tk, List.filter_append]
      have e1 : [z].filter c = [z] := by simp [hc]
      rw [e1]
      exact paired_snoc (paired_imp (fun u y h => ⟨by rw [upd_ne h.2.2]; exact h.1, h.2⟩) (stay (s2.trans s3))) ⟨by rw [upd_ne tD]; exact hn, tn, tD⟩
  | false =>
    refine iteF ⟨s.trans s2, ts, s2 _ _ hd, ?_⟩
    rw [tk, List.filter_append]
    have e1 : [z].filter c = [] := by simp [hc]
    rw [e1, List.append_nil]
    exact stay s2
theorem lc_newsL (f : α → List V) (c : α → Bool) (hx : SqL K H a xs) (hp : Paired R xs zs) (hz : xs.length ≤ 10000)
    (hg : ∀ x z, z ∈ zs → R x z → ∀ H', Same H H' → Tst g tt te vs σ x H' (c z) fun te σ H => Gu te σ H (f z))
    (q : ∀ D H', H D = none → News1 H H' D f (zs.filter c) → Qr D H') :
    ∀ D, H D = none → ∃ W : Nat → Nat → Hp → Prop, (∃ m, W 0 m (upd H D (.lst []))) ∧ ∀ i m H', W i m H' → ((Itl K a).stop i H' ∧ Qr D H') ∨ ((Itl K a).go i H' ∧ ∃ Nx : Hp → Prop, (∀ H', Nx H' → ∃ m', m' < m ∧ W (i + 1) m' H') ∧ ∀ x H2, (Itl K a).yld i H' x H2 → Turn1 D g tt te vs σ x H2 Nx) := fun D hD =>
  lc_list (Qd := fun H' => Qr D H') (xs := xs) (fun i H' => News1 H H' D f ((zs.take i).filter c)) ⟨Same.new hD, [], upd_same, .nil⟩ (fun i H' _ p => Same.seq p.1 hx)
    (news_core f c hp hD hz hg) fun H' p => q D H' hD (by rw [Paired.length hp, List.take_length] at p; exact p)
theorem lc_newsT (f : α → List V) (c : α → Bool) (hx : SqT K H a xs) (hp : Paired R xs zs) (hz : xs.length ≤ 10000)
    (hg : ∀ x z, z ∈ zs → R x z → ∀ H', Same H H' → Tst g tt te vs σ x H' (c z) fun te σ H => Gu te σ H (f z))
    (q : ∀ D H', H D = none → News1 H H' D f (zs.filter c) → Qr D H') :
    ∀ D, H D = none → ∃ W : Nat → Nat → Hp → Prop, (∃ m, W 0 m (upd H D (.lst []))) ∧ ∀ i m H', W i m H' → ((Itt K a).stop i H' ∧ Qr D H') ∨ ((Itt K a).go i H' ∧ ∃ Nx : Hp → Prop, (∀ H', Nx H' → ∃ m', m' < m ∧ W (i + 1) m' H') ∧ ∀ x H2, (Itt K a).yld i H' x H2 → Turn1 D g tt te vs σ x H2 Nx) := fun D hD =>
  lc_tup (Qd := fun H' => Qr D H') (xs := xs) (fun i H' => News1 H H' D f ((zs.take i).filter c)) ⟨Same.new hD, [], upd_same, .nil⟩ (fun i H' _ p => sqT_same p.1 hx)
    (news_core f c hp hD hz hg) fun H' p => q D H' hD (by rw [Paired.length hp, List.take_length] at p; exact p)
end
/-- a target that is one name -/
theorem tst_name {tt : TT} {te : TE} {vs : List Nat} {σ : L2.St} {x : V} {H : Hp} {b : Bool} {E : TE → L2.St → Hp → Prop} {j : Nat} (hw : wipe ((wipe σ vs).set j (some x)) vs = wipe σ vs) (ht : Gt tt ((wipe σ vs).set j (some x)) H b) (he : b = true → ∀ H', Same H H' → E te ((wipe σ vs).set j (some x)) H') :
    Tst (gName j) tt te vs σ x H b E := ⟨_, hw, ht, he, fun k hk => hk⟩
theorem gt_yes {σ : L2.St} {H : Hp} : Gt tYes σ H true := fun Q h => h H same_id
theorem gv_var {σ : L2.St} {H : Hp} {i : Nat} {v : V} (h : σ[i]? = some (some v)) : Gv (tVar i) σ H v := fun Q q => ⟨v, h, q H same_id⟩

/-! ### [(.., ..) for x in xs for y in ys if ..] -/
theorem News1.more {H H' H2 H3 : Hp} {D t : Addr} {α : Type} {f : α → List V} {ys : List α} {y : α} (N : News1 H H' D f ys) (hD : H D = none) (s2 : Same H' H2) (ht : H2 t = none) (s3 : Same H2 H3) (hn : H3 t = some (.tup (f y))) :
    ∃ acc, H3 D = some (.lst acc) ∧ acc.length = ys.length ∧ News1 H (upd H3 D (.lst (acc ++ [.ref t]))) D f (ys ++ [y]) := by
  obtain ⟨s, ts, hd, hpr⟩ := N
  have tD : t ≠ D := fun e => by
    rw [e] at hn
    have z := s3 _ _ (s2 _ _ hd)
    rw [hn] at z
    cases z
  have tn : H t = none := by
    cases z : H t with
    | none => rfl
    | some o => rw [s2 _ _ (s _ _ z)] at ht; cases ht
  refine ⟨ts.map V.ref, s3 _ _ (s2 _ _ hd), by rw [List.length_map, Paired.length hpr], Sx.Same.mut (s.trans (s2.trans s3)) hD, ts ++ [t], by rw [upd_same, List.map_append]; rfl, ?_⟩
  exact paired_snoc (paired_imp (fun u y h => ⟨by rw [upd_ne h.2.2]; exact s3 _ _ (s2 _ _ h.1), h.2⟩) hpr) ⟨by rw [upd_ne tD]; exact hn, tn, tD⟩
theorem News1.stay {H H' H2 : Hp} {D : Addr} {α : Type} {f : α → List V} {ys : List α} (N : News1 H H' D f ys) (s2 : Same H' H2) : News1 H H2 D f ys := by
  obtain ⟨s, ts, hd, hpr⟩ := N
  exact ⟨s.trans s2, ts, s2 _ _ hd, paired_imp (fun _ _ h => ⟨s2 _ _ h.1, h.2⟩) hpr⟩
section
variable {K : PySem.W.Frag} {a1 a2 : Addr} {xs1 xs2 : List V} {tt1 : TT} {te : TE} {wi1 : TI} {vs vs1 : List Nat} {σ : L2.St} {H : Hp} {Qr : Addr → Hp → Prop} {α β : Type} {zs1 : List α} {zs2 : List β} {R1 : V → α → Prop} {R2 : V → β → Prop} {j1 j2 : Nat}
def rws (c : α → β → Bool) (zs1 : List α) (zs2 : List β) : List (α × β) := zs1.flatMap fun z => (zs2.filter (c z)).map fun u => (z, u)
theorem len_rows (c : α → β → Bool) (zs2 : List β) : ∀ zs1 : List α, (rws c zs1 zs2).length ≤ zs1.length * zs2.length
  | [] => by simp [rws]
  | z :: zs1 => by
    have ih := len_rows c zs2 zs1
    have f := List.length_filter_le (c z) zs2
    unfold rws at ih ⊢
    rw [List.flatMap_cons, List.length_append, List.length_map, List.length_cons, Nat.add_mul, Nat.one_mul]
    omega
theorem lc2_newsT (f : α × β → List V) (c : α → β → Bool) (hx1 : SqT K H a1 xs1) (hp1 : Paired R1 xs1 zs1) (hx2 : SqT K H a2 xs2) (hp2 : Paired R2 xs2 zs2) (hz : zs1.length * zs2.length ≤ 10000)
    (hw1 : ∀ x, wipe ((wipe σ vs).set j1 (some x)) vs = wipe σ vs) (hw2 : ∀ x y, wipe ((wipe ((wipe σ vs).set j1 (some x)) vs1).set j2 (some y)) vs1 = wipe ((wipe σ vs).set j1 (some x)) vs1)
    (hi : ∀ x z, z ∈ zs1 → R1 x z → ∀ H', Same H H' → ∀ R : It → Hp → Prop, R (Itt K a2) H' → wi1 ((wipe σ vs).set j1 (some x)) H' R)
    (hg : ∀ x z y u, z ∈ zs1 → u ∈ zs2 → R1 x z → R2 y u → ∀ H', Same H H' → Gt tt1 ((wipe ((wipe σ vs).set j1 (some x)) vs1).set j2 (some y)) H' (c z u) ∧ (c z u = true → ∀ H'', Same H' H'' → Gu te ((wipe ((wipe σ vs).set j1 (some x)) vs1).set j2 (some y)) H'' (f (z, u))))
    (q : ∀ D H', H D = none → News1 H H' D f (rws c zs1 zs2) → Qr D H') :
    ∀ D, H D = none → ∃ W : Nat → Nat → Hp → Prop, (∃ m, W 0 m (upd H D (.lst []))) ∧ ∀ i m H', W i m H' → ((Itt K a1).stop i H' ∧ Qr D H') ∨ ((Itt K a1).go i H' ∧ ∃ Nx : Hp → Prop, (∀ H', Nx H' → ∃ m', m' < m ∧ W (i + 1) m' H') ∧ ∀ x H2, (Itt K a1).yld i H' x H2 →
      gName j1 x (wipe σ vs) H2 fun σ2 H2 => wipe σ2 vs = wipe σ vs ∧ tYes σ2 H2 fun b H3 => if b = true then wi1 σ2 H3 fun J1 H4 => ∃ W1 : Nat → Nat → Hp → Prop, (∃ m, W1 0 m H4) ∧ ∀ j k H, W1 j k H → (J1.stop j H ∧ Nx H) ∨ (J1.go j H ∧ ∃ Nx1 : Hp → Prop, (∀ H', Nx1 H' → ∃ k', k' < k ∧ W1 (j + 1) k' H') ∧ ∀ x H', J1.yld j H x H' →
        gName j2 x (wipe σ2 vs1) H' fun σ3 H5 => wipe σ3 vs1 = wipe σ2 vs1 ∧ tt1 σ3 H5 fun b H6 => if b = true then te σ3 H6 fun y H7 => ∃ acc, H7 D = some (.lst acc) ∧ acc.length < sizeLine ∧ Nx1 (upd H7 D (.lst (acc ++ [y]))) else Nx1 H6) else Nx H3) := by
  intro D hD
  have l1 := Paired.length hp1
  have l2 := Paired.length hp2
  refine ⟨fun i m H' => m = xs1.length - i ∧ i ≤ xs1.length ∧ News1 H H' D f (rws c (zs1.take i) zs2), ⟨xs1.length, rfl, Nat.zero_le _, Same.new hD, [], upd_same, .nil⟩, ?_⟩
  rintro i m H' ⟨rfl, hle, N⟩
  have sq := sqT_same N.1 hx1
  rcases Nat.lt_or_ge i xs1.length with lt | ge
  · refine .inr ⟨⟨xs1, xs1[i], sq, List.getElem?_eq_getElem lt⟩, fun H2 => News1 H H2 D f (rws c (zs1.take (i + 1)) zs2), fun H2 p2 => ⟨xs1.length - (i + 1), by omega, rfl, lt, p2⟩, fun x H2 ⟨e, y⟩ => ?_⟩
    subst e
    have hxi := y xs1 sq
    obtain ⟨z, hzi, hR⟩ := paired_get hp1 hxi
    have zm := List.mem_of_getElem? hzi
    have tk : zs1.take (i + 1) = zs1.take i ++ [z] := by rw [List.take_add_one, hzi]; rfl
    have tk2 : rws c (zs1.take (i + 1)) zs2 = rws c (zs1.take i) zs2 ++ (zs2.filter (c z)).map fun u => (z, u) := by
      unfold rws
      rw [tk, List.flatMap_append, List.flatMap_cons, List.flatMap_nil, List.append_nil]
    have llen : (rws c (zs1.take i) zs2).length ≤ i * zs2.length := by
      refine Nat.le_trans (len_rows c zs2 _) (Nat.mul_le_mul_right _ ?_)
      rw [List.length_take]
      omega
    have bnd : i * zs2.length + zs2.length ≤ 10000 := by
      have w : (i + 1) * zs2.length ≤ zs1.length * zs2.length := Nat.mul_le_mul_right _ (by omega)
      rw [Nat.add_mul, Nat.one_mul] at w
      omega
    refine ⟨hw1 x, ?_⟩
    unfold tYes
    dsimp only
    rw [if_pos rfl]
    refine hi x z zm hR _ N.1 _ ?_
    refine ⟨fun j k H4 => k = xs2.length - j ∧ j ≤ xs2.length ∧ News1 H H4 D f (rws c (zs1.take i) zs2 ++ ((zs2.take j).filter (c z)).map fun u => (z, u)), ⟨xs2.length, rfl, Nat.zero_le _, by rw [List.take_zero, List.filter_nil, List.map_nil, List.append_nil]; exact N⟩, ?_⟩
    rintro j k H4 ⟨rfl, hj, N4⟩
    have sq2 := sqT_same N4.1 hx2
    rcases Nat.lt_or_ge j xs2.length with lt2 | ge2
    · refine .inr ⟨⟨xs2, xs2[j], sq2, List.getElem?_eq_getElem lt2⟩, fun H5 => News1 H H5 D f (rws c (zs1.take i) zs2 ++ ((zs2.take (j + 1)).filter (c z)).map fun u => (z, u)), fun H5 p5 => ⟨xs2.length - (j + 1), by omega, rfl, lt2, p5⟩, fun y' H5 ⟨e, y2⟩ => ?_⟩
      subst e
      have hyj := y2 xs2 sq2
      obtain ⟨u, huj, hR2⟩ := paired_get hp2 hyj
      have tk3 : zs2.take (j + 1) = zs2.take j ++ [u] := by rw [List.take_add_one, huj]; rfl
      obtain ⟨hT, hE⟩ := hg x z y' u zm (List.mem_of_getElem? huj) hR hR2 _ N4.1
      refine ⟨hw2 x y', hT _ fun H6 s6 => ?_⟩
      cases hc : c z u with
      | true =>
        refine iteT (hE hc _ s6 _ fun t H7 ht s7 hn => ?_)
        obtain ⟨acc, h1, h2, h3⟩ := News1.more (y := (z, u)) N4 hD s6 ht s7 hn
        refine ⟨acc, h1, ?_, ?_⟩
        · rw [h2, List.length_append, List.length_map, sizeLine_eq]
          have w := List.length_filter_le (c z) (zs2.take j)
          rw [List.length_take] at w
          omega
        · have e1 : [u].filter (c z) = [u] := by simp [hc]
          rw [tk3, List.filter_append, e1, List.map_append, ← List.append_assoc]
          exact h3
      | false =>
        refine iteF ?_
        have e1 : [u].filter (c z) = [] := by simp [hc]
        rw [tk3, List.filter_append, e1, List.append_nil]
        exact N4.stay s6
    · have e : j = xs2.length := Nat.le_antisymm hj ge2
      subst e
      refine .inl ⟨⟨xs2, sq2, Nat.le_refl _⟩, ?_⟩
      rw [tk2]
      rw [l2, List.take_length] at N4
      exact N4
  · have e : i = xs1.length := Nat.le_antisymm hle ge
    subst e
    refine .inl ⟨⟨xs1, sq, Nat.le_refl _⟩, q D H' hD ?_⟩
    rw [l1, List.take_length] at N
    exact N
end
end Sx

/-! BookB -/
namespace Sx
open PySem PySem.Spec PyProof.Rows L2

/-! ### Books in good order -/
structure Std (ks : List Str) (cs : List (Str × Str)) : Prop where
  up : Up ltS ks
  few : ks.length ≤ 40
  upc : Up ltP cs
  inn : ∀ c ∈ cs, c.1 ∈ ks ∧ c.2 ∈ ks
  low : ∀ c ∈ cs, ltS c.2 c.1 = false
theorem mnS_mem {a b : Str} {p : Str → Prop} (ha : p a) (hb : p b) : p (mnS a b) := by
  unfold mnS
  split <;> assumption
theorem mxS_mem {a b : Str} {p : Str → Prop} (ha : p a) (hb : p b) : p (mxS a b) := by
  unfold mxS
  split <;> assumption
theorem nrm_low (c : Str × Str) : ltS (nrm c).2 (nrm c).1 = false := by
  show ltS (mxS c.1 c.2) (mnS c.1 c.2) = false
  unfold mxS mnS
  cases q : ltS c.1 c.2 with
  | true =>
    rw [if_pos rfl]
    cases r : ltS c.2 c.1 with
    | true => exact absurd (totS.tr q r) (by rw [totS.irr]; exact fun z => nomatch z)
    | false => rw [if_neg (by exact fun z => nomatch z)]; exact r
  | false =>
    rw [if_neg (by exact fun z => nomatch z)]
    cases r : ltS c.2 c.1 with
    | true => rw [if_pos rfl]; exact q
    | false => rw [if_neg (by exact fun z => nomatch z)]; exact totS.irr _
theorem nrm_self {c : Str × Str} (h : ltS c.2 c.1 = false) : nrm c = c := by
  show (mnS c.1 c.2, mxS c.1 c.2) = c
  unfold mnS mxS
  rw [if_neg (by rw [h]; exact fun z => nomatch z)]
  cases q : ltS c.1 c.2 with
  | true => rfl
  | false =>
    have e : c.1 = c.2 := totS.eq q h
    rw [if_neg (by exact fun z => nomatch z)]
    exact Prod.ext rfl e
theorem std_make {ks : List Str} {ps : List (Str × Str)} (few : ks.length ≤ 40) (nd : ks.Nodup) (inn : ∀ c ∈ ps, c.1 ∈ ks ∧ c.2 ∈ ks) : Std (srt ltS ks) (srt ltP (ps.map nrm)) := by
  refine ⟨up_srt totS ks, ?_, up_srt totP _, fun c hc => ?_, fun c hc => ?_⟩
  · exact Nat.le_trans (few_of (up_nodup totS (up_srt totS ks)) fun z hz => (mem_srt totS).mp hz) few
  · obtain ⟨c0, h0, e⟩ := List.mem_map.mp ((mem_srt totP).mp hc)
    obtain ⟨h1, h2⟩ := inn c0 h0
    rw [← e]
    exact ⟨(mem_srt totS).mpr (mnS_mem (p := (· ∈ ks)) h1 h2), (mem_srt totS).mpr (mxS_mem (p := (· ∈ ks)) h1 h2)⟩
  · obtain ⟨c0, h0, e⟩ := List.mem_map.mp ((mem_srt totP).mp hc)
    rw [← e]
    exact nrm_low c0
theorem map_nrm {cs : List (Str × Str)} (h : ∀ c ∈ cs, ltS c.2 c.1 = false) : cs.map nrm = cs := by
  induction cs with
  | nil => rfl
  | cons c cs ih => rw [List.map_cons, nrm_self (h c List.mem_cons_self), ih fun d hd => h d (List.mem_cons_of_mem _ hd)]
theorem std_len {ks : List Str} {cs : List (Str × Str)} (S : Std ks cs) : cs.length ≤ 1600 := by
  have z : ∀ l : List Str, (l.flatMap fun a => ks.map fun b => (a, b)).length = l.length * ks.length := fun l => by
    induction l with
    | nil => simp
    | cons a l ih => rw [List.flatMap_cons, List.length_append, ih, List.length_map, List.length_cons, Nat.add_mul, Nat.one_mul, Nat.add_comm]
  refine Nat.le_trans (few_of (m := ks.flatMap fun a => ks.map fun b => (a, b)) (up_nodup totP S.upc) fun c hc => ?_) ?_
  · obtain ⟨h1, h2⟩ := S.inn c hc
    exact List.mem_flatMap.mpr ⟨c.1, h1, List.mem_map.mpr ⟨c.2, h2, rfl⟩⟩
  · rw [z]
    exact Nat.le_trans (Nat.mul_le_mul S.few S.few) (by decide)
theorem mem_near {cs : List (Str × Str)} {k z : Str} : z ∈ nearM cs k ↔ (k, z) ∈ cs ∨ (z, k) ∈ cs := by
  unfold nearM
  rw [List.mem_filterMap]
  constructor
  · rintro ⟨c, hc, e⟩
    by_cases h : c.1 = k
    · rw [if_pos h] at e
      have e2 := Option.some.inj e
      exact .inl (by rw [← h, ← e2]; exact hc)
    · rw [if_neg h] at e
      by_cases g : c.2 = k
      · rw [if_pos g] at e
        have e2 := Option.some.inj e
        exact .inr (by rw [← g, ← e2]; exact hc)
      · rw [if_neg g] at e
        cases e
  · rintro (h | h)
    · exact ⟨_, h, by rw [if_pos rfl]⟩
    · refine ⟨_, h, ?_⟩
      by_cases g : z = k
      · rw [if_pos g, g]
      · rw [if_neg g, if_pos rfl]

/-- a field read in a comprehension -/
theorem pe_fldK {X : Cx} (K : PySem.W.Frag) {e : Expr} {f : Str} {pos : Pos} {ta : TE} (he : PE X e ta) (hK : X.K = K) (hb : attributeBase e f X.env (eval e X.env) = eval e X.env) : PE X (.Attribute e f pos) (tFld K ta f) := hK ▸ pe_fld he hb
/-! ### methods -/
abbrev sAsk : Stmt := inClass cBook 9
abbrev sClashing : Stmt := inClass cBook 11
abbrev sPeaceful : Stmt := inClass cBook 12
abbrev sOnly : Stmt := inClass cBook 14
abbrev sWithout : Stmt := inClass cBook 15
abbrev sTurned : Stmt := inClass cBook 18
abbrev sKinds : Stmt := inClass cBook 2
structure TB (K : PySem.W.Frag) (mg : Str → Option Value) (C : Addr) : Prop extends Blt mg where
  cl : Cls K C
  nK : NoAttr K C "_kinds"
  nC : NoAttr K C "_clashes"
  nN : NoAttr K C "_near"
def spAsk (K : PySem.W.Frag) (C : Addr) : Sp := fun vs H Q _ => ∃ (p t : Addr) (ks : List Str) (cs : List (Str × Str)) (xs : List Str), vs = [.ref p, .ref t] ∧ BookAt K C H p ks cs ∧ Sq K H t (xs.map V.str) ∧ (∀ x ∈ xs, x ∈ ks) ∧ Q .non H
def spKinds (K : PySem.W.Frag) (C : Addr) : Sp := fun vs H Q _ => ∃ (p : Addr) (ks : List Str) (cs : List (Str × Str)), vs = [.ref p] ∧ BookAt K C H p ks cs ∧ ∀ a, SqT K H a (ks.map V.str) → Q (.ref a) H
/-- the tuple of what f tells of a kind -/
def spOf (K : PySem.W.Frag) (C : Addr) (f : List Str → List (Str × Str) → Str → List Str) : Sp := fun vs H Q _ => ∃ (p : Addr) (ks : List Str) (cs : List (Str × Str)) (k : Str), vs = [.ref p, .str k] ∧ BookAt K C H p ks cs ∧ ks.length ≤ 40 ∧ k ∈ ks ∧ ∀ a H', Same H H' → SqT K H' a ((f ks cs k).map V.str) → Q (.ref a) H'
def peaceM (ks : List Str) (cs : List (Str × Str)) (k : Str) : List Str := ks.filter fun z => decide (z ≠ k) && !decide (z ∈ nearM cs k)
abbrev spClashing (K : PySem.W.Frag) (C : Addr) : Sp := spOf K C fun _ cs k => nearM cs k
abbrev spPeaceful (K : PySem.W.Frag) (C : Addr) : Sp := spOf K C peaceM
def onlyM (xs : List Str) (cs : List (Str × Str)) : List (Str × Str) := cs.filter fun c => decide (c.1 ∈ xs) && decide (c.2 ∈ xs)
def spOnly (K : PySem.W.Frag) (C : Addr) : Sp := fun vs H Q _ => ∃ (p t : Addr) (ks : List Str) (cs : List (Str × Str)) (xs : List Str), vs = [.ref p, .ref t] ∧ BookAt K C H p ks cs ∧ Std ks cs ∧ Sq K H t (xs.map V.str) ∧ xs.Nodup ∧ (∀ x ∈ xs, x ∈ ks) ∧
  ∀ a H', Same H H' → BookAt K C H' a (srt ltS xs) (onlyM xs cs) → Q (.ref a) H'
def spWithout (K : PySem.W.Frag) (C : Addr) : Sp := fun vs H Q _ => ∃ (p : Addr) (ks : List Str) (cs : List (Str × Str)) (k : Str), vs = [.ref p, .str k] ∧ BookAt K C H p ks cs ∧ Std ks cs ∧ k ∈ ks ∧
  ∀ a H', Same H H' → BookAt K C H' a (ks.filter fun z => decide (z ≠ k)) (onlyM (ks.filter fun z => decide (z ≠ k)) cs) → Q (.ref a) H'
theorem inV_str : ∀ {xs : List Str} {x : Str}, inV (.str x) (xs.map V.str) = decide (x ∈ xs)
  | [], x => rfl
  | y :: xs, x => by
    have e : inV (.str x) ((y :: xs).map V.str) = (eqV (.str y) (.str x) || inV (.str x) (xs.map V.str)) := rfl
    rw [e, inV_str (xs := xs)]
    have e2 : eqV (.str y) (.str x) = decide (y = x) := rfl
    rw [e2]
    by_cases h : y = x
    · subst h
      rw [decide_eq_true rfl, decide_eq_true (List.mem_cons_self (a := y) (l := xs))]
      rfl
    · rw [decide_eq_false h]
      by_cases g : x ∈ xs
      · rw [decide_eq_true g, decide_eq_true (List.mem_cons_of_mem _ g)]
        rfl
      · rw [decide_eq_false g, decide_eq_false fun m => (List.mem_cons.mp m).elim (fun z => h z.symm) g]
        rfl
theorem flat_str : ∀ xs : List Str, (xs.map V.str).all flatV = true
  | [] => rfl
  | x :: xs => by
    show (flatV (.str x) && (xs.map V.str).all flatV) = true
    rw [flat_str xs]
    rfl
section
variable {P : Program} {w : World} {K : PySem.W.Frag} {mg : Str → Option Value} {base : Heap}
abbrev nAsk : List Str := ["self", "kinds", "kind"]
theorem scAsk : FnScope nAsk ["self", "kinds"] (defScope sAsk) := ⟨rfl, rfl, rfl, by decide +kernel, rfl, by decide +kernel, by decide +kernel⟩
theorem ok_ask {f C : Addr} {fd : FuncData} {dvs : List V} (F : FunD K "_ask_for" "Book._ask_for" (defArgs sAsk) (defBody sAsk) (defScope sAsk) dvs [] f fd) (T : TB K mg C) : FnOk P w K mg base CX0 1 f fd ["self", "kinds"] (spAsk K C) := by
  refine F.ok scAsk (fun vs H Q E h => ?_) (fun cdv A outer s H vs Q E hr h => ?_)
  · obtain ⟨p, t, ks, cs, xs, rfl, _⟩ := h
    rfl
  · obtain ⟨p, t, ks, cs, xs, rfl, ⟨dx, ak, ac, an, kvs, ts, hp, hak, hac, hts, han, hin, hout⟩, hx, hks, q⟩ := h
    have hu := hu_of hr
    refine ⟨_, (pss_one (ps_for PassesOwn.never rfl (pi_sq (pv 1)) (pg_name (i := 2) scAsk.nd rfl (Or.inl rfl))
      (pss_one (ps_if (pt_cmp (pc_dnotin hu (pv 2) (pe_fld (pv 0) rfl))) (pss_one ps_never) pss_nil)))).nox, ?_⟩
    refine for_sq (i := 1) rfl hx (fun i σ' H' => H' = H ∧ ∃ v2, σ' = [some (.ref p), some (.ref t), v2]) ⟨rfl, none, rfl⟩ (fun i σ' H' ⟨e, _⟩ => by rw [e]; exact fun _ _ z => z) ?_ (fun σ' H' ⟨e, _⟩ => by rw [e]; exact q)
    rintro i x σ' H' hi ⟨rfl, v2, rfl⟩
    rw [List.getElem?_map] at hi
    obtain ⟨k, hki, rfl⟩ := Option.map_eq_some_iff.mp hi
    obtain ⟨tk, hv, _⟩ := hin k (hks k (List.mem_of_getElem? hki))
    refine ⟨_, rfl, ⟨_, rfl, p, C, dx, _, _, rfl, hp, T.cl, T.nN, bkF_near _ _ _, an, _, rfl, DGet.k (k := Sum.inr k) han, ?_⟩⟩
    rw [hv]
    exact ⟨_, rfl, iteF ⟨rfl, _, rfl⟩⟩
abbrev nKinds : List Str := ["self"]
theorem scKinds : FnScope nKinds ["self"] (defScope sKinds) := ⟨rfl, rfl, rfl, by decide +kernel, rfl, by decide +kernel, by decide +kernel⟩
theorem ok_kinds {f C : Addr} {fd : FuncData} {dvs : List V} (F : FunD K "kinds" "Book.kinds" (defArgs sKinds) (defBody sKinds) (defScope sKinds) dvs [] f fd) (T : TB K mg C) : FnOk P w K mg base CX0 1 f fd ["self"] (spKinds K C) := by
  refine F.ok scKinds (fun vs H Q E h => ?_) (fun cdv A outer s H vs Q E hr h => ?_)
  · obtain ⟨p, ks, cs, rfl, _⟩ := h
    rfl
  · obtain ⟨p, ks, cs, rfl, ⟨dx, ak, ac, an, kvs, ts, hp, hak, hac, hts, han, hin, hout⟩, q⟩ := h
    refine ⟨_, (pss_one (ps_ret (pe_fld (pv 0) rfl))).nox, ?_⟩
    exact ⟨_, rfl, p, C, dx, _, _, rfl, hp, T.cl, T.nK, bkF_kinds _ _ _, q _ hak⟩
abbrev nKind : List Str := ["self", "kind"]
theorem scClashing : FnScope nKind ["self", "kind"] (defScope sClashing) := ⟨rfl, rfl, rfl, by decide +kernel, rfl, by decide +kernel, by decide +kernel⟩
theorem ok_clashing {f C : Addr} {fd : FuncData} {dvs : List V} (F : FunD K "clashing" "Book.clashing" (defArgs sClashing) (defBody sClashing) (defScope sClashing) dvs [] f fd) (T : TB K mg C) (GA : MtG P w K mg base C "_ask_for" 1 ["self", "kinds"] (spAsk K C)) :
    FnOk P w K mg base CX0 2 f fd ["self", "kind"] (spClashing K C) := by
  refine F.ok scClashing (fun vs H Q E h => ?_) (fun cdv A outer s H vs Q E hr h => ?_)
  · obtain ⟨p, ks, cs, k, rfl, _⟩ := h
    rfl
  · obtain ⟨p, ks, cs, k, rfl, B, few, hk, q⟩ := h
    obtain ⟨dx, ak, ac, an, kvs, ts, hp, hak, hac, hts, han, hin, hout⟩ := id B
    have hu := hu_of hr
    refine ⟨_, (pss_cons (ps_expr (pe_mg GA T.cl (pv 0) hr (pa_cons (pe_tup (pa_cons (pv 1) pa_nil)) pa_nil)))
      (pss_one (ps_ret (pe_dget hu (pe_fld (pv 0) rfl) (pv 1) (fun _ _ => rfl))))).nox, ?_⟩
    refine ⟨_, rfl, p, dx, _, rfl, hp, bkF_no _ _ _ (by decide +kernel) (by decide +kernel) (by decide +kernel), ?_⟩
    refine ⟨_, rfl, (by show 1 ≤ sizeLine; decide), fun t ht => ?_⟩
    have S : Same H (upd H t (.tup [.str k])) := Sx.Same.new ht
    refine ⟨p, t, ks, cs, [k], rfl, B.same S, .inr (SqT.of upd_same), fun x hx => by rw [List.mem_singleton.mp hx]; exact hk, ?_⟩
    obtain ⟨tk, hv, hT⟩ := hin k hk
    refine ⟨_, rfl, p, C, dx, _, _, rfl, S _ _ hp, T.cl, T.nN, bkF_near _ _ _, _, rfl, an, .ref tk, rfl, ?_, q tk _ S (sqT_same S hT)⟩
    have z := DGet.k (k := Sum.inr k) (S _ _ han)
    rw [hv] at z
    exact z
abbrev nPeaceful : List Str := ["self", "kind", "other"]
theorem scPeaceful : FnScope nPeaceful ["self", "kind"] (defScope sPeaceful) := ⟨rfl, rfl, rfl, by decide +kernel, rfl, by decide +kernel, by decide +kernel⟩
theorem ok_peaceful {f C : Addr} {fd : FuncData} {dvs : List V} (F : FunD K "peaceful" "Book.peaceful" (defArgs sPeaceful) (defBody sPeaceful) (defScope sPeaceful) dvs [] f fd) (T : TB K mg C) (GA : MtG P w K mg base C "_ask_for" 1 ["self", "kinds"] (spAsk K C)) :
    FnOk P w K mg base CX0 2 f fd ["self", "kind"] (spPeaceful K C) := by
  refine F.ok scPeaceful (fun vs H Q E h => ?_) (fun cdv A outer s H vs Q E hr h => ?_)
  · obtain ⟨p, ks, cs, k, rfl, _⟩ := h
    rfl
  · obtain ⟨p, ks, cs, k, rfl, B, few, hk, q⟩ := h
    obtain ⟨dx, ak, ac, an, kvs, ts, hp, hak, hac, hts, han, hin, hout⟩ := id B
    have hu := hu_of hr
    refine ⟨_, (pss_cons (ps_expr (pe_mg GA T.cl (pv 0) hr (pa_cons (pe_tup (pa_cons (pv 1) pa_nil)) pa_nil)))
      (pss_one (ps_ret (pe_callTy cr_tupOf (by rfl) T.tuple bt_tuple (pa_cons (pe_lc (own := [("other", 2)]) (g := gName 2) rfl scPeaceful.nd (pi_tup (pe_fld (pv 0) rfl)) (blkOk_by (N := nPeaceful) (sc := defScope sPeaceful) (by decide +kernel)) (fun _ _ _ _ _ => pg_name (i := 2) scPeaceful.nd rfl (Or.inl rfl))
        (fun _ _ _ _ _ => pts_one (PW.pt (pw_and (pt_cmpR op_ne (pv 2) (pv 1) (nomark _)) (pw_and1 (pt_cmpR (r := rIn K true) op_notIn_seq (pv 2) (pe_dget hu (pe_fldK K (pv 0) (by rfl) (by rfl)) (pv 1) (fun _ _ => rfl)) (by rfl)))))) (fun _ _ _ _ _ => pv 2)) pa_nil))))).nox, ?_⟩
    refine ⟨_, rfl, p, dx, _, rfl, hp, bkF_no _ _ _ (by decide +kernel) (by decide +kernel) (by decide +kernel), ?_⟩
    refine ⟨_, rfl, (by show 1 ≤ sizeLine; decide), fun t ht => ?_⟩
    have S : Same H (upd H t (.tup [.str k])) := Sx.Same.new ht
    refine ⟨p, t, ks, cs, [k], rfl, B.same S, .inr (SqT.of upd_same), fun x hx => by rw [List.mem_singleton.mp hx]; exact hk, ?_⟩
    generalize upd H t (.tup [.str k]) = H1 at S
    obtain ⟨tk, hv, hT⟩ := hin k hk
    have hak1 := sqT_same S hak
    refine ⟨_, rfl, p, C, dx, _, _, rfl, S _ _ hp, T.cl, T.nK, bkF_kinds _ _ _, ak, rfl, ⟨_, hak1⟩, ?_⟩
    refine lc_valsT (vs := [2]) (σ := [some (.ref p), some (.str k), none]) V.str (fun z => decide (z ≠ k) && !decide (z ∈ nearM cs k)) hak1 (paired_strs ks) (by rw [List.length_map]; omega) (fun x z hz hx H2 s2 => ?_) (fun D H2 hD s2 hl => ?_)
    · subst hx
      refine tst_name (by rfl) (fun Q h => ?_) fun _ H' _ => gv_var (by rfl)
      have s3 := S.trans s2
      have hQ := h H2 same_id
      refine ⟨_, rfl, _, rfl, rfl, _, rfl, ?_⟩
      by_cases e : z = k
      · refine iteNS (by rw [e]) ?_
        rw [decide_eq_false (fun w => w e)] at hQ
        exact hQ
      · have ne : ¬ (V.str z = V.str k) := fun w => e (V.str.inj w)
        rw [decide_eq_false ne]
        refine iteT ⟨_, rfl, ⟨_, rfl, p, C, dx, _, _, rfl, s3 _ _ hp, T.cl, T.nN, bkF_near _ _ _, _, rfl, an, .ref tk, rfl, ?_, tk, _, rfl, .inr (sqT_same s3 hT), rfl, flat_str _, ?_⟩⟩
        · have z := DGet.k (k := Sum.inr k) (s3 _ _ han)
          rw [hv] at z
          exact z
        · refine ⟨_, rfl, ?_⟩
          rw [if_pos rfl, inV_str]
          rw [decide_eq_true (show z ≠ k from e)] at hQ
          exact hQ
    · refine ⟨D, _, rfl, .inl ⟨SqL.of hl, fun l hn => q l _ ?_ (SqT.of upd_same)⟩⟩
      exact S.trans (s2.trans (Sx.Same.new hn))

abbrev nOnly : List Str := ["self", "kinds", "one", "other"]
theorem scOnly : FnScope nOnly ["self", "kinds"] (defScope sOnly) := ⟨rfl, rfl, rfl, by decide +kernel, rfl, by decide +kernel, by decide +kernel⟩
abbrev InitG (P : Program) (w : World) (K : PySem.W.Frag) (mg : Str → Option Value) (base : Heap) (C : Addr) : Prop := MkG P w K mg base "Book" C 1 ["self", "kinds", "clashes"] (spInit K C)
theorem only_eq {ks xs : List Str} {cs : List (Str × Str)} (S : Std ks cs) (f : Str × Str → Bool) : srt ltP ((cs.filter f).map nrm) = cs.filter f := by
  rw [map_nrm fun c hc => S.low c (List.mem_filter.mp hc).1]
  exact srt_self totP (List.Pairwise.filter _ S.upc)
theorem ok_only {f C : Addr} {fd : FuncData} {dvs : List V} (F : FunD K "only" "Book.only" (defArgs sOnly) (defBody sOnly) (defScope sOnly) dvs [] f fd) (T : TB K mg C) (GA : MtG P w K mg base C "_ask_for" 1 ["self", "kinds"] (spAsk K C)) (GB : InitG P w K mg base C) :
    FnOk P w K mg base CX0 3 f fd ["self", "kinds"] (spOnly K C) := by
  refine F.ok scOnly (fun vs H Q E h => ?_) (fun cdv A outer s H vs Q E hr h => ?_)
  · obtain ⟨p, t, ks, cs, xs, rfl, _⟩ := h
    rfl
  · obtain ⟨p, t, ks, cs, xs, rfl, B, Sd, hx, nd, sub, q⟩ := h
    obtain ⟨dx, ak, ac, an, kvs, ts, hp, hak, hac, hts, han, hin, hout⟩ := id B
    have hu := hu_of hr
    refine ⟨_, (pss_cons (ps_expr (pe_mg GA T.cl (pv 0) (hr.mono (by decide)) (pa_cons (pv 1) pa_nil)))
      (pss_one (ps_ret (pe_mk GB hr (pa_cons (pv 1) (pa_cons (pe_lc (own := [("one", 2), ("other", 3)]) (g := gTup K 2 (gCons (gName 2) (gCons (gName 3) gNil))) rfl scOnly.nd (pi_tup (pe_fld (pv 0) rfl)) (blkOk_by (N := nOnly) (sc := defScope sOnly) (by decide +kernel))
        (fun _ _ _ _ _ => pg_tup rfl (pgs_cons (pg_name (i := 2) scOnly.nd rfl (Or.inl rfl)) (pgs_cons (pg_name (i := 3) scOnly.nd rfl (Or.inl rfl)) pgs_nil)))
        (fun _ _ _ _ _ => pts_one (PW.pt (pw_and (pt_cmpR (r := rIn K false) op_in_seq (pv 2) (pv 1) (by rfl)) (pw_and1 (pt_cmpR (r := rIn K false) op_in_seq (pv 3) (pv 1) (by rfl))))))
        (fun _ _ _ _ _ => pe_tup (pa_cons (pv 2) (pa_cons (pv 3) pa_nil)))) pa_nil)))))).nox, ?_⟩
    refine ⟨_, rfl, p, dx, _, rfl, hp, bkF_no _ _ _ (by decide +kernel) (by decide +kernel) (by decide +kernel), _, rfl, ?_⟩
    refine ⟨p, t, ks, cs, xs, rfl, B, hx, sub, ?_⟩
    refine ⟨_, rfl, ?_⟩
    refine ⟨_, rfl, p, C, dx, _, _, rfl, hp, T.cl, T.nC, bkF_clashes _ _ _, ac, rfl, ⟨_, hac⟩, ?_⟩
    have lts : ts.length = cs.length := Paired.length hts
    have clen := std_len Sd
    refine lc_newsT (vs := [2, 3]) (σ := [some (.ref p), some (.ref t), none, none]) (fun c : Str × Str => [V.str c.1, V.str c.2]) (fun c => decide (c.1 ∈ xs) && decide (c.2 ∈ xs)) hac (paired_refs hts) (by rw [List.length_map]; omega) (fun x z hz hx2 H2 s2 => ?_) (fun D H2 hD hN => ?_)
    · obtain ⟨tz, rfl, hT⟩ := hx2
      refine ⟨[some (.ref p), some (.ref t), some (.str z.1), some (.str z.2)], rfl, fun Q h => ?_, fun hb H3 s3 Q h => ?_, fun k hk => ⟨tz, _, rfl, sqT_same s2 hT, rfl, _, _, rfl, _, _, rfl, rfl, hk⟩⟩
      · have hQ := h H2 same_id
        refine ⟨_, rfl, _, rfl, t, _, rfl, hx.same s2, rfl, flat_str _, _, rfl, ?_⟩
        rw [if_neg (by decide), inV_str]
        cases e : decide (z.1 ∈ xs) with
        | false =>
          refine iteF ?_
          rw [e] at hQ
          exact hQ
        | true =>
          refine iteT ⟨_, rfl, _, rfl, t, _, rfl, hx.same s2, rfl, flat_str _, _, rfl, ?_⟩
          rw [if_neg (by decide), inV_str]
          rw [e] at hQ
          exact hQ
      · refine ⟨_, rfl, _, rfl, (by show 2 ≤ sizeLine; decide), fun t ht => h t _ ht (Sx.Same.new ht) upd_same⟩
    · obtain ⟨sN, us, hD2, hus⟩ := hN
      refine fun x dx2 nx ndx nex => ?_
      have S2 : Same H2 (upd (upd H2 dx2 (.own x)) x (.ins C dx2 [])) := (Sx.Same.new ndx).trans (Sx.Same.new (by rw [upd_ne nex.symm]; exact nx))
      refine ⟨x, dx2, t, D, us, xs, onlyM xs cs, rfl, upd_same, hx.same (sN.trans S2), .inl (SqL.of (S2 _ _ hD2)), paired_imp (fun u c h => .inr (SqT.of (S2 _ _ h.1))) hus, nd, ?_, fun c hc => ?_, fun H' hB k => ⟨rfl, ?_⟩⟩
      · exact Nat.le_trans (few_of nd sub) Sd.few
      · have z := (List.mem_filter.mp hc).2
        rw [Bool.and_eq_true, decide_eq_true_eq, decide_eq_true_eq] at z
        exact z
      · have e : srt ltP ((onlyM xs cs).map nrm) = onlyM xs cs := only_eq (xs := xs) Sd _
        rw [e] at hB
        refine q x H' (fun b o e => k b o (S2 _ _ (sN _ _ e)) fun z => ?_) hB
        rw [z] at e
        rw [sN _ _ e] at nx
        cases nx
abbrev nWithout : List Str := ["self", "kind", "other"]
theorem scWithout : FnScope nWithout ["self", "kind"] (defScope sWithout) := ⟨rfl, rfl, rfl, by decide +kernel, rfl, by decide +kernel, by decide +kernel⟩
theorem ok_without {f C : Addr} {fd : FuncData} {dvs : List V} (F : FunD K "without" "Book.without" (defArgs sWithout) (defBody sWithout) (defScope sWithout) dvs [] f fd) (T : TB K mg C) (GA : MtG P w K mg base C "_ask_for" 1 ["self", "kinds"] (spAsk K C)) (GO : MtG P w K mg base C "only" 3 ["self", "kinds"] (spOnly K C)) :
    FnOk P w K mg base CX0 4 f fd ["self", "kind"] (spWithout K C) := by
  refine F.ok scWithout (fun vs H Q E h => ?_) (fun cdv A outer s H vs Q E hr h => ?_)
  · obtain ⟨p, ks, cs, k, rfl, _⟩ := h
    rfl
  · obtain ⟨p, ks, cs, k, rfl, B, Sd, hk, q⟩ := h
    obtain ⟨dx, ak, ac, an, kvs, ts, hp, hak, hac, hts, han, hin, hout⟩ := id B
    have hu := hu_of hr
    refine ⟨_, (pss_cons (ps_expr (pe_mg GA T.cl (pv 0) (hr.mono (by decide)) (pa_cons (pe_tup (pa_cons (pv 1) pa_nil)) pa_nil)))
      (pss_one (ps_ret (pe_mg GO T.cl (pv 0) hr (pa_cons (pe_lc (own := [("other", 2)]) (g := gName 2) rfl scWithout.nd (pi_tup (pe_fld (pv 0) rfl)) (blkOk_by (N := nWithout) (sc := defScope sWithout) (by decide +kernel)) (fun _ _ _ _ _ => pg_name (i := 2) scWithout.nd rfl (Or.inl rfl))
        (fun _ _ _ _ _ => pts_one (pt_cmpR op_ne (pv 2) (pv 1) (nomark _))) (fun _ _ _ _ _ => pv 2)) pa_nil))))).nox, ?_⟩
    have noF : ∀ {m : Str}, ¬ m = "_near" → ¬ m = "_clashes" → ¬ m = "_kinds" → (bkF ak ac an).lookup m = none := fun a b c => bkF_no _ _ _ a b c
    refine ⟨_, rfl, p, dx, _, rfl, hp, noF (by decide +kernel) (by decide +kernel) (by decide +kernel), ?_⟩
    refine ⟨_, rfl, (by show 1 ≤ sizeLine; decide), fun t ht => ?_⟩
    have S : Same H (upd H t (.tup [.str k])) := Sx.Same.new ht
    refine ⟨p, t, ks, cs, [k], rfl, B.same S, .inr (SqT.of upd_same), fun x hx => by rw [List.mem_singleton.mp hx]; exact hk, ?_⟩
    generalize upd H t (.tup [.str k]) = H1 at S
    have hak1 := sqT_same S hak
    refine ⟨_, rfl, p, dx, _, rfl, S _ _ hp, noF (by decide +kernel) (by decide +kernel) (by decide +kernel), ?_⟩
    refine ⟨_, rfl, p, C, dx, _, _, rfl, S _ _ hp, T.cl, T.nK, bkF_kinds _ _ _, ak, rfl, ⟨_, hak1⟩, ?_⟩
    have few := Sd.few
    refine lc_valsT (vs := [2]) (σ := [some (.ref p), some (.str k), none]) V.str (fun z => decide (z ≠ k)) hak1 (paired_strs ks) (by rw [List.length_map]; omega) (fun x z hz hx H2 s2 => ?_) (fun D H2 hD s2 hl => ?_)
    · subst hx
      refine tst_name (by rfl) (fun Q h => ?_) fun _ H' _ => gv_var (by rfl)
      have hQ := h H2 same_id
      refine ⟨_, rfl, _, rfl, rfl, _, rfl, ?_⟩
      have e : (!decide (V.str z = V.str k)) = decide (z ≠ k) := by
        by_cases e : z = k
        · rw [decide_eq_true (by rw [e]), decide_eq_false (fun w => w e)]; rfl
        · rw [decide_eq_false fun w => e (V.str.inj w), decide_eq_true (show z ≠ k from e)]; rfl
      rw [← e] at hQ
      exact hQ
    · refine ⟨p, D, ks, cs, _, rfl, (B.same S).same s2, Sd, .inl (SqL.of hl), (up_nodup totS Sd.up).filter _, fun x hx => (List.mem_filter.mp hx).1, fun a H3 s3 hB => ?_⟩
      rw [srt_self totS (List.Pairwise.filter _ Sd.up)] at hB
      exact q a H3 (S.trans (s2.trans s3)) hB

abbrev nTurned : List Str := ["self", "pairs", "one", "other"]
theorem scTurned : FnScope nTurned ["self"] (defScope sTurned) := ⟨rfl, rfl, rfl, by decide +kernel, rfl, by decide +kernel, by decide +kernel⟩
def leS (a b : Str) : Bool := !ltS b a
def turnM (ks : List Str) (cs : List (Str × Str)) : List (Str × Str) := srt ltP (((rws leS ks ks).filter fun c => !decide (c.2 ∈ nearM cs c.1)).map nrm)
def spTurned (K : PySem.W.Frag) (C : Addr) : Sp := fun vs H Q _ => ∃ (p : Addr) (ks : List Str) (cs : List (Str × Str)), vs = [.ref p] ∧ BookAt K C H p ks cs ∧ Std ks cs ∧
  ∀ a H', Same H H' → BookAt K C H' a ks (turnM ks cs) → Q (.ref a) H'
theorem mem_rws {c : Str → Str → Bool} {ks : List Str} {p : Str × Str} : p ∈ rws c ks ks ↔ p.1 ∈ ks ∧ p.2 ∈ ks ∧ c p.1 p.2 = true := by
  unfold rws
  rw [List.mem_flatMap]
  constructor
  · rintro ⟨z, hz, h⟩
    obtain ⟨u, hu, e⟩ := List.mem_map.mp h
    obtain ⟨h1, h2⟩ := List.mem_filter.mp hu
    rw [← e]
    exact ⟨hz, h1, h2⟩
  · rintro ⟨h1, h2, h3⟩
    exact ⟨p.1, h1, List.mem_map.mpr ⟨p.2, List.mem_filter.mpr ⟨h2, h3⟩, rfl⟩⟩
theorem ok_turned {f C : Addr} {fd : FuncData} {dvs : List V} (F : FunD K "turned" "Book.turned" (defArgs sTurned) (defBody sTurned) (defScope sTurned) dvs [] f fd) (T : TB K mg C) (GB : InitG P w K mg base C) :
    FnOk P w K mg base CX0 3 f fd ["self"] (spTurned K C) := by
  refine F.ok scTurned (fun vs H Q E h => ?_) (fun cdv A outer s H vs Q E hr h => ?_)
  · obtain ⟨p, ks, cs, rfl, _⟩ := h
    rfl
  · obtain ⟨p, ks, cs, rfl, B, Sd, q⟩ := h
    obtain ⟨dx, ak, ac, an, kvs, ts, hp, hak, hac, hts, han, hin, hout⟩ := id B
    have hu := hu_of hr
    refine ⟨_, (pss_cons (ps_setLc2 (i := 1) (own := [("one", 2), ("other", 3)]) (vs1 := [3]) (g := gName 2) (g1 := gName 3) (tt := tYes) (wi1 := iTup K (tFld K (tVar 0) "_kinds")) rfl scTurned.nd rfl rfl (sw_true rfl rfl rfl (by decide +kernel)) (pi_tup (pe_fld (pv 0) rfl)) (blkOk_by (N := nTurned) (sc := defScope sTurned) (by decide +kernel)) (by decide)
        (fun _ _ _ _ _ => pg_name (i := 2) scTurned.nd rfl (Or.inl rfl)) (fun _ _ _ _ _ => pts_nil) (fun _ _ _ _ _ => pi_tup (pe_fldK K (pv 0) (by rfl) (by rfl))) (fun _ _ _ _ _ => pg_name (i := 3) scTurned.nd rfl (Or.inl rfl))
        (fun _ _ _ _ _ => pts_one (pt_cmpR op_le_str (pv 2) (pv 3) (nomark _))) (fun _ _ _ _ _ => pe_tup (pa_cons (pv 2) (pa_cons (pv 3) pa_nil))))
      (pss_one (ps_ret (pe_mk GB hr (pa_cons (pe_fld (pv 0) rfl) (pa_cons (pe_lc (own := [("one", 2), ("other", 3)]) (g := gTup K 2 (gCons (gName 2) (gCons (gName 3) gNil))) rfl scTurned.nd (pi_list (pv 1)) (blkOk_by (N := nTurned) (sc := defScope sTurned) (by decide +kernel))
        (fun _ _ _ _ _ => pg_tup rfl (pgs_cons (pg_name (i := 2) scTurned.nd rfl (Or.inl rfl)) (pgs_cons (pg_name (i := 3) scTurned.nd rfl (Or.inl rfl)) pgs_nil)))
        (fun _ _ _ _ _ => pts_one (pt_cmpR (r := rIn K true) op_notIn_seq (pv 3) (pe_dget hu (pe_fldK K (pv 0) (by rfl) (by rfl)) (pv 2) (fun _ _ => rfl)) (by rfl)))
        (fun _ _ _ _ _ => pe_tup (pa_cons (pv 2) (pa_cons (pv 3) pa_nil)))) pa_nil)))))).nox, ?_⟩
    have few := Sd.few
    have sq40 : ks.length * ks.length ≤ 1600 := Nat.mul_le_mul few few
    refine ⟨_, rfl, p, C, dx, _, _, rfl, hp, T.cl, T.nK, bkF_kinds _ _ _, ak, rfl, ⟨_, hak⟩, ?_⟩
    refine lc2_newsT (vs := [2, 3]) (vs1 := [3]) (σ := [some (.ref p), none, none, none]) (fun c : Str × Str => [V.str c.1, V.str c.2]) leS hak (paired_strs ks) hak (paired_strs ks) (by omega) (fun _ => by rfl) (fun _ _ => by rfl) (fun x z hz hx H2 s2 R hR => ?_) (fun x z y u hz hu hx hy H2 s2 => ⟨fun Q h => ?_, fun _ H3 s3 Q h => ?_⟩) (fun D H2 hD hN => ?_)
    · exact ⟨_, rfl, p, C, dx, _, _, rfl, s2 _ _ hp, T.cl, T.nK, bkF_kinds _ _ _, ak, rfl, ⟨_, sqT_same s2 hak⟩, hR⟩
    · subst hx
      subst hy
      exact ⟨_, rfl, _, rfl, _, _, rfl, rfl, _, rfl, h H2 same_id⟩
    · subst hx
      subst hy
      exact ⟨_, rfl, _, rfl, (by show 2 ≤ sizeLine; decide), fun t ht => h t _ ht (Sx.Same.new ht) upd_same⟩
    -- the second list
    obtain ⟨sN, us, hD2, hus⟩ := hN
    refine ⟨_, rfl, p, C, dx, _, _, rfl, sN _ _ hp, T.cl, T.nK, bkF_kinds _ _ _, ?_⟩
    refine ⟨_, rfl, D, rfl, ⟨_, SqL.of hD2⟩, ?_⟩
    have ul : us.length ≤ 1600 := by
      rw [Paired.length hus]
      exact Nat.le_trans (len_rows leS ks ks) sq40
    refine lc_newsL (vs := [2, 3]) (σ := [some (.ref p), some (.ref D), none, none]) (fun c : Str × Str => [V.str c.1, V.str c.2]) (fun c => !decide (c.2 ∈ nearM cs c.1)) (SqL.of hD2) (paired_refs hus) (by rw [List.length_map]; omega) (fun x z hz hx2 H3 s3 => ?_) (fun D2 H3 hD3 hN2 => ?_)
    · obtain ⟨tz, rfl, hT, _, _⟩ := hx2
      obtain ⟨m1, m2, _⟩ := mem_rws.mp hz
      obtain ⟨tk, hv, hTk⟩ := hin z.1 m1
      refine ⟨[some (.ref p), some (.ref D), some (.str z.1), some (.str z.2)], rfl, fun Q h => ?_, fun hb H4 s4 Q h => ?_, fun k hk => ⟨tz, _, rfl, SqT.of (s3 _ _ hT), rfl, _, _, rfl, _, _, rfl, rfl, hk⟩⟩
      · have hQ := h H3 same_id
        have s5 := sN.trans s3
        refine ⟨_, rfl, _, rfl, p, C, dx, _, _, rfl, s5 _ _ hp, T.cl, T.nN, bkF_near _ _ _, _, rfl, an, .ref tk, rfl, ?_, tk, _, rfl, .inr (sqT_same s5 hTk), rfl, flat_str _, _, rfl, ?_⟩
        · have y := DGet.k (k := Sum.inr z.1) (s5 _ _ han)
          rw [hv] at y
          exact y
        · rw [if_pos rfl, inV_str]
          exact hQ
      · exact ⟨_, rfl, _, rfl, (by show 2 ≤ sizeLine; decide), fun t ht => h t _ ht (Sx.Same.new ht) upd_same⟩
    · obtain ⟨sN2, us2, hD4, hus2⟩ := hN2
      refine fun x dx2 nx ndx nex => ?_
      have S2 : Same H3 (upd (upd H3 dx2 (.own x)) x (.ins C dx2 [])) := (Sx.Same.new ndx).trans (Sx.Same.new (by rw [upd_ne nex.symm]; exact nx))
      refine ⟨x, dx2, ak, D2, us2, ks, (rws leS ks ks).filter fun c => !decide (c.2 ∈ nearM cs c.1), rfl, upd_same, .inr (sqT_same (sN.trans (sN2.trans S2)) hak), .inl (SqL.of (S2 _ _ hD4)), paired_imp (fun u c h => .inr (SqT.of (S2 _ _ h.1))) hus2, up_nodup totS Sd.up, few, fun c hc => ?_, fun H' hB k => ⟨rfl, ?_⟩⟩
      · obtain ⟨m1, m2, _⟩ := mem_rws.mp (List.mem_filter.mp hc).1
        exact ⟨m1, m2⟩
      · rw [srt_self totS Sd.up] at hB
        refine q x H' (fun b o e => k b o (S2 _ _ (sN2 _ _ (sN _ _ e))) fun z => ?_) hB
        rw [z] at e
        rw [sN2 _ _ (sN _ _ e)] at nx
        cases nx
end
end Sx

/-! SxUpd -/
/-! d.update(e) of two dicts with texts or ints for keys. -/
namespace Sx
open PySem PySem.Spec PyProof.Rows L2
def rDUpd : V → List V → Hp → VK → Prop := fun x vs H Q => ∃ (a o : Addr) (kvs more : List (Key × V)), x = .ref a ∧ vs = [.ref o] ∧ a ≠ o ∧ H a = some (.dK kvs) ∧ Rd H o (.dK more) ∧ kvs.length + more.length ≤ sizeLine ∧ Q .non (upd H a (.dK (mergeK kvs more)))
theorem mtd_update {X : Cx} : MtR X "dict.update" rDUpd := by
  intro pins s σ H x vs v us Q I rx rv h
  obtain ⟨a, o, kvs, more, ex, ev, ne, e, eo, hz, q⟩ := h
  subst ex
  subst ev
  obtain rfl : v = Value.ref a := rx
  obtain ⟨u, eu, ru⟩ := vals1 rv
  subst eu
  obtain rfl : u = Value.ref o := ru
  obtain ⟨z, hd, ws, rel, dd⟩ := dk_of I.hok e
  obtain ⟨z2, hd2, ws2, rel2, dd2⟩ := dk_rd I.hok eo
  refine call_meetsIn PySem.F.slot_dict_update dd.typeIs PySem.F.entry_dict_update (PySem.F.args_dict_update_2 _ _) (meets_dict_update (mixKind X.prog X.w) a o ne hd2) ⟨ws, ws2, dd, dd2, by rw [← rel.length, ← rel2.length]; exact hz, fun h' dd' _ hs => ?_⟩
  have he : ∃ q, h'.get? a = some q := let ⟨q, _, _, hq, _⟩ := dd'; ⟨q, hq⟩
  refine ⟨.non, _, d_write (t' := s.toks) I (by rw [e]; exact True.intro) hs he (dk_new ?_ hd (KV.merge rel2 rel) dd'), rfl, q⟩
  exact Nat.le_trans (length_mergeK more kvs) hz
/-- what a merge of keys tells -/
theorem valV_merge (more : List (Key × V)) : ∀ (kvs : List (Key × V)) (k : Key), (valV (mergeK kvs more) k).isSome = ((valV kvs k).isSome || more.any fun q => decide (q.1 = k)) := by
  induction more with
  | nil => intro kvs k; simp [mergeK]
  | cons q more ih =>
    intro kvs k
    have e : mergeK kvs (q :: more) = mergeK (putK kvs q.1 q.2) more := rfl
    rw [e, ih, valV_put]
    by_cases h : k = q.1
    · rw [if_pos h]
      simp [h]
    · rw [if_neg h]
      have : decide (q.1 = k) = false := decide_eq_false fun z => h z.symm
      simp [this]

section
variable {K : PySem.W.Frag} {a : Addr} {xs : List V} {g : TG} {tt : TT} {tk tv : TE} {vs : List Nat} {σ : L2.St} {H : Hp} {Qr : Addr → Hp → Prop}
theorem dc_walkL (hx : SqL K H a xs) (Pv : Addr → Nat → Hp → Prop) (h0 : ∀ D, H D = none → Pv D 0 (upd H D (.dK []))) (hl : ∀ D j H', Pv D j H' → Same H H')
    (hs : ∀ D j x H', xs[j]? = some x → Pv D j H' → g x (wipe σ vs) H' fun σ2 H2 => wipe σ2 vs = wipe σ vs ∧ tt σ2 H2 fun b H3 => if b = true then tk σ2 H3 fun y H4 => tv σ2 H4 fun z H5 => ∃ kvs k, y = kV k ∧ H5 D = some (.dK kvs) ∧ kvs.length < sizeLine ∧ Pv D (j + 1) (upd H5 D (.dK (putK kvs k z))) else Pv D (j + 1) H3)
    (hd : ∀ D H', H D = none → Pv D xs.length H' → Qr D H') :
    ∀ D, H D = none → ∃ W : Nat → Nat → Hp → Prop, (∃ m, W 0 m (upd H D (.dK []))) ∧ ∀ i m H', W i m H' → ((Itl K a).stop i H' ∧ Qr D H') ∨ ((Itl K a).go i H' ∧ ∃ Nx : Hp → Prop, (∀ H', Nx H' → ∃ m', m' < m ∧ W (i + 1) m' H') ∧ ∀ x H2, (Itl K a).yld i H' x H2 → g x (wipe σ vs) H2 fun σ2 H2 => wipe σ2 vs = wipe σ vs ∧ tt σ2 H2 fun b H3 => if b = true then tk σ2 H3 fun y H4 => tv σ2 H4 fun z H5 => ∃ kvs k, y = kV k ∧ H5 D = some (.dK kvs) ∧ kvs.length < sizeLine ∧ Nx (upd H5 D (.dK (putK kvs k z))) else Nx H3) := by
  intro D hD
  refine ⟨fun j m H' => m = xs.length - j ∧ j ≤ xs.length ∧ Pv D j H', ⟨xs.length, rfl, Nat.zero_le _, h0 D hD⟩, ?_⟩
  rintro j m H' ⟨rfl, hj, p⟩
  have sq := Same.seq (hl D j H' p) hx
  rcases Nat.lt_or_ge j xs.length with lt | ge
  · exact .inr ⟨⟨xs, xs[j], sq, List.getElem?_eq_getElem lt⟩, Pv D (j + 1), fun H2 p2 => ⟨xs.length - (j + 1), by omega, rfl, lt, p2⟩, fun x H2 ⟨e, y⟩ => by rw [e]; exact hs D j x H' (y xs sq) p⟩
  · have e : j = xs.length := Nat.le_antisymm hj ge
    subst e
    exact .inl ⟨⟨xs, sq, Nat.le_refl _⟩, hd D H' hD p⟩
theorem dc_walkT (hx : SqT K H a xs) (Pv : Addr → Nat → Hp → Prop) (h0 : ∀ D, H D = none → Pv D 0 (upd H D (.dK []))) (hl : ∀ D j H', Pv D j H' → Same H H')
    (hs : ∀ D j x H', xs[j]? = some x → Pv D j H' → g x (wipe σ vs) H' fun σ2 H2 => wipe σ2 vs = wipe σ vs ∧ tt σ2 H2 fun b H3 => if b = true then tk σ2 H3 fun y H4 => tv σ2 H4 fun z H5 => ∃ kvs k, y = kV k ∧ H5 D = some (.dK kvs) ∧ kvs.length < sizeLine ∧ Pv D (j + 1) (upd H5 D (.dK (putK kvs k z))) else Pv D (j + 1) H3)
    (hd : ∀ D H', H D = none → Pv D xs.length H' → Qr D H') :
    ∀ D, H D = none → ∃ W : Nat → Nat → Hp → Prop, (∃ m, W 0 m (upd H D (.dK []))) ∧ ∀ i m H', W i m H' → ((Itt K a).stop i H' ∧ Qr D H') ∨ ((Itt K a).go i H' ∧ ∃ Nx : Hp → Prop, (∀ H', Nx H' → ∃ m', m' < m ∧ W (i + 1) m' H') ∧ ∀ x H2, (Itt K a).yld i H' x H2 → g x (wipe σ vs) H2 fun σ2 H2 => wipe σ2 vs = wipe σ vs ∧ tt σ2 H2 fun b H3 => if b = true then tk σ2 H3 fun y H4 => tv σ2 H4 fun z H5 => ∃ kvs k, y = kV k ∧ H5 D = some (.dK kvs) ∧ kvs.length < sizeLine ∧ Nx (upd H5 D (.dK (putK kvs k z))) else Nx H3) := by
  intro D hD
  refine ⟨fun j m H' => m = xs.length - j ∧ j ≤ xs.length ∧ Pv D j H', ⟨xs.length, rfl, Nat.zero_le _, h0 D hD⟩, ?_⟩
  rintro j m H' ⟨rfl, hj, p⟩
  have sq := sqT_same (hl D j H' p) hx
  rcases Nat.lt_or_ge j xs.length with lt | ge
  · exact .inr ⟨⟨xs, xs[j], sq, List.getElem?_eq_getElem lt⟩, Pv D (j + 1), fun H2 p2 => ⟨xs.length - (j + 1), by omega, rfl, lt, p2⟩, fun x H2 ⟨e, y⟩ => by rw [e]; exact hs D j x H' (y xs sq) p⟩
  · have e : j = xs.length := Nat.le_antisymm hj ge
    subst e
    exact .inl ⟨⟨xs, sq, Nat.le_refl _⟩, hd D H' hD p⟩
end
/-- for k in d, d locked -/
theorem for_keys {i : Nat} {d : Addr} {od : Obj} {kvs : List (Key × V)} {g : TG} {tb : TS} {D : Ends} {σ : L2.St} {H : Hp} (hv : σ[i]? = some (some (.ref d))) (hd : H d = some (.frz od (.dK kvs))) (Pv : Nat → L2.St → Hp → Prop) (h0 : Pv 0 σ H) (hl : ∀ n σ' H', Pv n σ' H' → H' d = some (.frz od (.dK kvs)))
    (hs : ∀ n k v σ' H', kvs[n]? = some (k, v) → Pv n σ' H' → g (kV k) σ' H' fun σ2 H2 => tb { D with nx := Pv (n + 1), ct := Pv (n + 1), bk := D.nx } σ2 H2) (hq : ∀ σ' H', Pv kvs.length σ' H' → D.nx σ' H') : tFor (iKeys (tVar i)) g tb D σ H := by
  refine ⟨_, hv, d, od, rfl, .inl ⟨kvs, hd, fun n m σ' H' => m = kvs.length - n ∧ n ≤ kvs.length ∧ Pv n σ' H', ⟨kvs.length, rfl, Nat.zero_le _, h0⟩, ?_⟩⟩
  rintro n m σ' H' ⟨rfl, hn, p⟩
  have hf := hl n σ' H' p
  rcases Nat.lt_or_ge n kvs.length with lt | ge
  · refine .inr ⟨⟨hf, lt⟩, Pv (n + 1), fun σ2 H2 p2 => ⟨kvs.length - (n + 1), by omega, rfl, lt, p2⟩, fun x H2 ⟨e, k, v, hk, ex⟩ => ?_⟩
    subst e
    subst ex
    exact hs n k v _ _ hk p
  · have e : n = kvs.length := Nat.le_antisymm hn ge
    subst e
    exact .inl ⟨⟨hf, Nat.le_refl _⟩, hq σ' H' p⟩
end Sx

/-! BookC -/
namespace Sx
open PySem PySem.Spec PyProof.Rows L2

/-! ### who hangs together -/
inductive Rch (nf : Str → List Str) (s : Str) : Str → Prop
  | here : Rch nf s s
  | step {y z : Str} : Rch nf s y → z ∈ nf y → Rch nf s z
structure Near (K : PySem.W.Frag) (H : Hp) (d : Addr) (kvs : List (Key × V)) (ks : List Str) (nf : Str → List Str) : Prop where
  rd : Rd H d (.dK kvs)
  keys : kvs.map (·.1) = ks.map Sum.inr
  val : ∀ k ∈ ks, ∃ t, valV kvs (Sum.inr k) = some (.ref t) ∧ SqT K H t ((nf k).map V.str)
theorem rd_same {H H' : Hp} {d : Addr} {o : HO} (s : Same H H') (r : Rd H d o) : Rd H' d o := by
  rcases r with r | ⟨u, r⟩
  · exact .inl (s _ _ r)
  · exact .inr ⟨u, s _ _ r⟩
theorem Near.same {K : PySem.W.Frag} {H H' : Hp} {d : Addr} {kvs : List (Key × V)} {ks : List Str} {nf : Str → List Str} (s : Same H H') (N : Near K H d kvs ks nf) : Near K H' d kvs ks nf :=
  ⟨rd_same s N.rd, N.keys, fun k hk => let ⟨t, a, b⟩ := N.val k hk; ⟨t, a, sqT_same s b⟩⟩
def spReached (K : PySem.W.Frag) : Sp := fun vs H Q _ => ∃ (d : Addr) (s : Str) (kvs : List (Key × V)) (ks : List Str) (nf : Str → List Str), vs = [.ref d, .str s] ∧ Near K H d kvs ks nf ∧ ks.length ≤ 40 ∧ s ∈ ks ∧ (∀ k ∈ ks, ∀ z ∈ nf k, z ∈ ks) ∧
  ∀ l H' (xs : List Str), Same H H' → H l = none → H' l = some (.lst (xs.map V.str)) → xs.Nodup → (∀ z, z ∈ xs ↔ Rch nf s z) → Q (.ref l) H'
theorem rch_in {nf : Str → List Str} {s z : Str} {ks : List Str} (hs : s ∈ ks) (hc : ∀ k ∈ ks, ∀ z ∈ nf k, z ∈ ks) (h : Rch nf s z) : z ∈ ks := by
  induction h with
  | here => exact hs
  | step _ m ih => exact hc _ ih _ m
theorem val_isSome {kv : List (Key × V)} {rs : List Str} (e : kv.map (·.1) = rs.map Sum.inr) (z : Str) : (valV kv (Sum.inr z)).isSome = decide (z ∈ rs) := by
  induction kv generalizing rs with
  | nil =>
    cases rs with
    | nil => rfl
    | cons r rs => simp at e
  | cons q kv ih =>
    cases rs with
    | nil => simp at e
    | cons r rs =>
      rw [List.map_cons, List.map_cons] at e
      obtain ⟨e1, e2⟩ := List.cons.inj e
      have h2 := ih e2
      unfold valV at h2 ⊢
      rw [List.find?_cons]
      by_cases h : r = z
      · have y : decide (q.1 = (Sum.inr z : Key)) = true := decide_eq_true (by rw [e1, h])
        simp only [y]
        rw [decide_eq_true (by rw [h]; exact List.mem_cons_self)]
        rfl
      · have y : decide (q.1 = (Sum.inr z : Key)) = false := decide_eq_false fun w => h (Sum.inr.inj (by rw [← e1]; exact w))
        simp only [y]
        rw [h2]
        by_cases g : z ∈ rs
        · rw [decide_eq_true g, decide_eq_true (List.mem_cons_of_mem _ g)]
        · rw [decide_eq_false g, decide_eq_false fun m => (List.mem_cons.mp m).elim (fun w => h w.symm) g]
theorem kv_put {kv : List (Key × V)} {rs : List Str} (e : kv.map (·.1) = rs.map Sum.inr) {z : Str} {v : V} (h : z ∉ rs) : (putK kv (Sum.inr z) v).map (·.1) = (rs ++ [z]).map Sum.inr := by
  have n : valV kv (Sum.inr z) = none := by
    have y := val_isSome e z
    rw [decide_eq_false h] at y
    cases q : valV kv (Sum.inr z) with
    | none => rfl
    | some o => rw [q] at y; cases y
  rw [putK_new _ n, List.map_append, List.map_append, e]
  rfl
theorem kv_len {kv : List (Key × V)} {rs : List Str} (e : kv.map (·.1) = rs.map Sum.inr) : kv.length = rs.length := by
  have y := congrArg List.length e
  rw [List.length_map, List.length_map] at y
  exact y
abbrev sReached : Stmt := top 13
abbrev sHanging : Stmt := top 12
abbrev sKnots : Stmt := top 10
abbrev sPeaces : Stmt := top 11
section
variable {P : Program} {w : World} {K : PySem.W.Frag} {mg : Str → Option Value} {base : Heap}
abbrev nReached : List Str := ["near", "start", "reached", "waiting", "here", "kind"]
theorem scReached : FnScope nReached ["near", "start"] (defScope sReached) := ⟨rfl, rfl, rfl, by decide +kernel, rfl, by decide +kernel, by decide +kernel⟩
structure Run (K : PySem.W.Frag) (H H' : Hp) (ks : List Str) (nf : Str → List Str) (s : Str) (r w : Addr) (rs ws : List Str) (kv : List (Key × V)) : Prop where
  same : Same H H'
  hr : H' r = some (.dK kv)
  hw : H' w = some (.lst (ws.map V.str))
  keys : kv.map (·.1) = rs.map Sum.inr
  nd : rs.Nodup
  wd : ws.Nodup
  st : s ∈ rs
  all : ∀ z ∈ rs, Rch nf s z
  sub : ∀ z ∈ ws, z ∈ rs
theorem ok_reached {f : Addr} {fd : FuncData} {dvs : List V} (F : FunD K "_reached" "_reached" (defArgs sReached) (defBody sReached) (defScope sReached) dvs [] f fd) (B : Blt mg) : FnOk P w K mg base CX0 1 f fd ["near", "start"] (spReached K) := by
  refine F.ok scReached (fun vs H Q E h => ?_) (fun cdv A outer s0 H vs Q E hr h => ?_)
  · obtain ⟨d, s, kvs, ks, nf, rfl, _⟩ := h
    rfl
  · obtain ⟨d, s, kvs, ks, nf, rfl, N, few, hs, hc, q⟩ := h
    have hu := hu_of hr
    refine ⟨_, (pss_cons (ps_set (i := 2) scReached.nd rfl (Or.inl rfl) (pe_disp (pps_cons (pv 1) pe_bl pps_nil) rfl rfl (by decide) (by decide)))
      (pss_cons (ps_set (i := 3) scReached.nd rfl (Or.inl rfl) (pe_lst (pa_cons (pv 1) pa_nil)))
      (Evl.pss_cut (ps_while PassesOwn.never (pt_truth (pv 3) (by intro _; rfl))
        (pss_cons (ps_set (i := 4) scReached.nd rfl (Or.inl rfl) (pe_bm0 PySem.F.plainAttrs_list PySem.F.slot_list_pop PySem.F.type_list_pop mt_pop (pv 3)))
        (pss_one (ps_for PassesOwn.never rfl (pi_tup (pe_dget hu (pv 0) (pv 4) (fun _ _ => rfl))) (pg_name (i := 5) scReached.nd rfl (Or.inl rfl))
          (pss_one (ps_if (pt_cmp (pc_dnotin hu (pv 5) (pv 2))) (pss_cons (ps_dput hu (pv 2) (pv 5) pe_bl rfl) (pss_one (ps_expr (pe_bm PySem.F.plainAttrs_list PySem.F.slot_list_append PySem.F.type_list_append mt_append (pv 3) (pa_cons (pv 5) pa_nil))))) pss_nil))))))
      (pss_one (ps_ret (pe_callTy (call_listD rfl) (by rfl) B.list bt_list (pa_cons (pv 2) pa_nil))))))).nox, ?_⟩
    intro r hrn
    refine ⟨_, rfl, upd_same, [(Sum.inr s, .bl true)], rfl, (by show 1 ≤ 15; decide), ?_⟩
    refine ⟨_, rfl, (by show 1 ≤ sizeLine; decide), fun w0 hw0 => ?_⟩
    have mk : mergeK ([] : List (Key × V)) [(Sum.inr s, .bl true)] = [(Sum.inr s, .bl true)] := rfl
    rw [mk] at hw0 ⊢
    have nrw : r ≠ w0 := fun e => by rw [← e, upd_same] at hw0; cases hw0
    have hw0n : H w0 = none := by rw [upd_ne nrw.symm, upd_ne nrw.symm] at hw0; exact hw0
    have R0 : Run K H (upd (upd (upd H r (.dK [])) r (.dK [(Sum.inr s, .bl true)])) w0 (.lst [V.str s])) ks nf s r w0 [s] [s] [(Sum.inr s, .bl true)] := by
      refine ⟨?_, ?_, upd_same, rfl, (by simp), (by simp), List.mem_cons_self, fun z hz => ?_, fun z hz => hz⟩
      · exact Sx.Same.mut (Sx.Same.mut (Sx.Same.new hrn) hrn) hw0n
      · rw [upd_ne nrw, upd_same]
      · rw [List.mem_singleton.mp hz]; exact .here
    generalize upd (upd (upd H r (.dK [])) r (.dK [(Sum.inr s, .bl true)])) w0 (.lst [V.str s]) = H1 at R0
    have sub : ∀ {rs : List Str}, (∀ z ∈ rs, Rch nf s z) → rs.Nodup → rs.length ≤ 40 := fun {rs} ha hn => Nat.le_trans (few_of hn fun z hz => rch_in hs hc (ha z hz)) few
    have free : ∀ {t : Addr} {o : HO}, H t = some o → t ≠ r ∧ t ≠ w0 := fun {t o} e => ⟨ne_of_none e hrn, ne_of_none e hw0n⟩
    -- while waiting
    refine ⟨fun σ' H' => ∃ v4 v5 rs kv, σ' = [some (.ref d), some (.str s), some (.ref r), some (.ref w0), v4, v5] ∧ Run K H H' ks nf s r w0 rs [] kv ∧ ∀ z ∈ rs, ∀ y ∈ nf z, y ∈ rs,
      ⟨fun m σ' H' => ∃ v4 v5 rs ws kv, σ' = [some (.ref d), some (.str s), some (.ref r), some (.ref w0), v4, v5] ∧ m = 2 * (40 - rs.length) + ws.length ∧ Run K H H' ks nf s r w0 rs ws kv ∧ ∀ z ∈ rs, z ∉ ws → ∀ y ∈ nf z, y ∈ rs,
        ⟨_, none, none, [s], [s], _, rfl, rfl, R0, fun z hz hn => absurd hz hn⟩, ?_⟩, ?_⟩
    · rintro m σ' H' ⟨v4, v5, rs, ws, kv, rfl, rfl, R, cl⟩
      refine ⟨_, rfl, _, .inl ⟨_, SqL.of R.hw, rfl⟩, ?_⟩
      cases ws with
      | nil => exact iteF ⟨v4, v5, rs, kv, rfl, R, fun z hz => cl z hz (by simp)⟩
      | cons w1 ws1 =>
        dsimp only
        rw [if_pos (show (!(List.map V.str (w1 :: ws1)).isEmpty) = true from rfl)]
        obtain ⟨ws, h, eW⟩ : ∃ ws h, w1 :: ws1 = ws ++ [h] := ⟨_, _, (List.dropLast_concat_getLast (by simp)).symm⟩
        rw [eW] at R cl ⊢
        clear eW w1 ws1
        refine ⟨fun σ' H' => ∃ m', m' < 2 * (40 - rs.length) + (ws ++ [h]).length ∧ ∃ v4 v5 rs ws kv, σ' = [some (.ref d), some (.str s), some (.ref r), some (.ref w0), v4, v5] ∧ m' = 2 * (40 - rs.length) + ws.length ∧ Run K H H' ks nf s r w0 rs ws kv ∧ ∀ z ∈ rs, z ∉ ws → ∀ y ∈ nf z, y ∈ rs, fun σ' H' z => z, ?_⟩
        -- here = waiting.pop()
        refine ⟨_, rfl, .inl ⟨rfl, _, SqL.of R.hw⟩, w0, _, .str h, rfl, rfl, R.hw, ?_, ?_⟩
        · rw [List.map_append, List.map_singleton, List.length_append, List.length_singleton]
          simp
        have hm : h ∈ rs := R.sub h (List.mem_append_right _ List.mem_cons_self)
        have hk : h ∈ ks := rch_in hs hc (R.all h hm)
        have ed : ((ws ++ [h]).map V.str).dropLast = ws.map V.str := by rw [List.map_append, List.map_singleton, List.dropLast_concat]
        rw [ed]
        obtain ⟨wn, wd⟩ : h ∉ ws ∧ ws.Nodup := by
          have y := R.wd
          rw [List.nodup_append] at y
          exact ⟨fun m => y.2.2 h m h List.mem_cons_self rfl, y.1⟩
        have wr : w0 ≠ r := nrw.symm
        have R1 : Run K H (upd H' w0 (.lst (ws.map V.str))) ks nf s r w0 rs ws kv :=
          ⟨Sx.Same.mut R.same hw0n, by rw [upd_ne nrw]; exact R.hr, upd_same, R.keys, R.nd, wd, R.st, R.all, fun z hz => R.sub z (List.mem_append_left _ hz)⟩
        generalize upd H' w0 (.lst (ws.map V.str)) = H2 at R1
        obtain ⟨t, hv, hT⟩ := N.val h hk
        have hget : DGet H2 d (.str h) (some (.ref t)) := .inl ⟨kvs, Sum.inr h, rd_same R1.same N.rd, rfl, hv.symm⟩
        have le : (nf h).length ≤ sizeLine ∨ True := .inr trivial
        clear le
        refine ⟨_, rfl, _, rfl, d, .ref t, rfl, hget, t, rfl, ⟨_, sqT_same R1.same hT⟩, ?_⟩
        refine for_tup (xs := (nf h).map V.str) (fun j σ' H' => ∃ v5 rs' ws' kv', σ' = [some (.ref d), some (.str s), some (.ref r), some (.ref w0), some (.str h), v5] ∧ 2 * (40 - rs'.length) + ws'.length < 2 * (40 - rs.length) + (ws ++ [h]).length ∧ Run K H H' ks nf s r w0 rs' ws' kv' ∧ (∀ z ∈ rs', z ∉ ws' → z ≠ h → ∀ y ∈ nf z, y ∈ rs') ∧ (∀ y ∈ (nf h).take j, y ∈ rs') ∧ h ∈ rs')
          ⟨v5, rs, ws, kv, rfl, by rw [List.length_append, List.length_singleton]; omega, R1, fun z hz hn hh => cl z hz fun m => (List.mem_append.mp m).elim hn fun y => hh (List.mem_singleton.mp y), fun y hy => (by simp at hy), hm⟩
          (fun j σ' H' _ ⟨_, _, _, _, _, _, R', _⟩ => sqT_same R'.same hT) ?_ ?_
        · rintro j x σ' H3 hj ⟨v5, rs', ws', kv', rfl, lt, R', cl', tk, hm'⟩
          rw [List.getElem?_map] at hj
          obtain ⟨y, hy, rfl⟩ := Option.map_eq_some_iff.mp hj
          have ym := List.mem_of_getElem? hy
          have tkn : (nf h).take (j + 1) = (nf h).take j ++ [y] := by rw [List.take_add_one, hy]; rfl
          have hget2 : DGet H3 r (.str y) (valV kv' (Sum.inr y)) := DGet.k (k := Sum.inr y) R'.hr
          refine ⟨_, rfl, _, rfl, r, _, rfl, hget2, _, rfl, ?_⟩
          rw [val_isSome R'.keys]
          by_cases yr : y ∈ rs'
          · rw [decide_eq_true yr]
            refine iteF ⟨_, rs', ws', kv', rfl, lt, R', cl', fun z hz => ?_, hm'⟩
            rw [tkn] at hz
            rcases List.mem_append.mp hz with a | a
            · exact tk z a
            · rw [List.mem_singleton.mp a]; exact yr
          · rw [decide_eq_false yr]
            have few' := sub R'.all R'.nd
            have ry : Rch nf s y := .step (R'.all h hm') ym
            have nd2 : (rs' ++ [y]).Nodup := nd_snoc R'.nd yr
            have few2 : (rs' ++ [y]).length ≤ 40 := sub (rs := rs' ++ [y]) (fun z hz => (List.mem_append.mp hz).elim (R'.all z) fun a => by rw [List.mem_singleton.mp a]; exact ry) nd2
            have wle : ws'.length ≤ 40 := Nat.le_trans (few_of R'.wd R'.sub) few'
            refine iteT ⟨_, rfl, _, rfl, r, _, rfl, DPut.k (k := Sum.inr y) R'.hr (small1000 (by rw [kv_len R'.keys]; omega)), ?_⟩
            have hw3 : (upd H3 r (.dK (putK kv' (Sum.inr y) (.bl true)))) w0 = some (.lst (ws'.map V.str)) := by rw [upd_ne wr]; exact R'.hw
            refine ⟨_, rfl, .inl ⟨rfl, _, SqL.of hw3⟩, _, rfl, w0, _, _, rfl, rfl, hw3, small1000 (by rw [List.length_map]; omega), ?_⟩
            refine ⟨_, rs' ++ [y], ws' ++ [y], putK kv' (Sum.inr y) (.bl true), rfl, ?_, ⟨Sx.Same.mut (Sx.Same.mut R'.same hrn) hw0n, ?_, ?_, kv_put R'.keys yr, nd2, nd_snoc R'.wd fun m => yr (R'.sub y m), List.mem_append_left _ R'.st, fun z hz => ?_, fun z hz => ?_⟩, fun z hz hn hh => ?_, fun z hz => ?_, List.mem_append_left _ hm'⟩
            · rw [List.length_append, List.length_singleton] at few2 ⊢
              rw [List.length_append, List.length_singleton]
              omega
            · rw [upd_ne nrw, upd_same]
            · rw [upd_same, List.map_append]; rfl
            · rcases List.mem_append.mp hz with a | a
              · exact R'.all z a
              · rw [List.mem_singleton.mp a]; exact ry
            · rcases List.mem_append.mp hz with a | a
              · exact List.mem_append_left _ (R'.sub z a)
              · exact List.mem_append_right _ a
            · rcases List.mem_append.mp hz with a | a
              · exact fun u hu => List.mem_append_left _ (cl' z a (fun m => hn (List.mem_append_left _ m)) hh u hu)
              · exact absurd (List.mem_append_right _ a) hn
            · rw [tkn] at hz
              rcases List.mem_append.mp hz with a | a
              · exact List.mem_append_left _ (tk z a)
              · exact List.mem_append_right _ a
        · rintro σ' H3 ⟨v5, rs', ws', kv', rfl, lt, R', cl', tk, hm'⟩
          rw [List.length_map, List.take_length] at tk
          refine ⟨_, lt, _, _, rs', ws', kv', rfl, rfl, R', fun z hz hn => ?_⟩
          by_cases e : z = h
          · rw [e]; exact tk
          · exact cl' z hz hn e
    · rintro σ' H' ⟨v4, v5, rs, kv, rfl, R, cl⟩
      refine ⟨_, rfl, r, kv, rfl, .inl R.hr, fun l hl => ?_⟩
      have e : kv.map (fun kv => kV kv.1) = rs.map V.str := by
        have y := congrArg (List.map kV) R.keys
        rw [List.map_map, List.map_map] at y
        exact y
      have lH : H l = none := by
        cases z : H l with
        | none => rfl
        | some o => rw [R.same _ _ z] at hl; cases hl
      refine q l _ rs (R.same.trans (Sx.Same.new hl)) lH (by rw [upd_same, e]) R.nd fun z => ⟨R.all z, fun h => ?_⟩
      induction h with
      | here => exact R.st
      | step _ m ih => exact cl _ ih _ m
end
end Sx

/-! BookD -/
namespace Sx
open PySem PySem.Spec PyProof.Rows L2
theorem totL : Tot ltL := ⟨ltL_irr, ltL_tr, ltL_tri⟩
open Classical in
/-- those of ks to which one comes from k -/
noncomputable def clsM (nf : Str → List Str) (ks : List Str) (k : Str) : List Str := ks.filter fun z => decide (Rch nf k z)
/-- the sets of kinds that hang together -/
noncomputable def partsM (nf : Str → List Str) (ks : List Str) : List (List Str) := srt ltL (ks.map (clsM nf ks))
open Classical in
theorem mem_cls {nf : Str → List Str} {ks : List Str} {k z : Str} : z ∈ clsM nf ks k ↔ z ∈ ks ∧ Rch nf k z := by
  unfold clsM
  rw [List.mem_filter, decide_eq_true_eq]
theorem up_cls {nf : Str → List Str} {ks : List Str} (h : Up ltS ks) (k : Str) : Up ltS (clsM nf ks k) := List.Pairwise.filter _ h
theorem Rch.trans {nf : Str → List Str} {a b c : Str} (h : Rch nf a b) (g : Rch nf b c) : Rch nf a c := by
  induction g with
  | here => exact h
  | step _ m ih => exact .step ih m
theorem Rch.symm {nf : Str → List Str} (sy : ∀ k z, z ∈ nf k → k ∈ nf z) {a b : Str} (h : Rch nf a b) : Rch nf b a := by
  induction h with
  | here => exact .here
  | step _ m ih => exact Rch.trans (.step .here (sy _ _ m)) ih
open Classical in
theorem cls_eq {nf : Str → List Str} (sy : ∀ k z, z ∈ nf k → k ∈ nf z) {ks : List Str} {a b : Str} (h : Rch nf a b) : clsM nf ks a = clsM nf ks b := by
  unfold clsM
  refine List.filter_congr fun z _ => decide_eq_decide.mpr ⟨fun g => Rch.trans (Rch.symm sy h) g, fun g => Rch.trans h g⟩
/-- what the loop has found behind n kinds -/
structure Found (nf : Str → List Str) (ks : List Str) (n : Nat) (Ls : List (List Str)) : Prop where
  up : Up ltL Ls
  hd : ∀ L ∈ Ls, ∃ h r, L = h :: r ∧ h ∈ ks.take n
  mem : ∀ L, L ∈ Ls ↔ ∃ k ∈ ks.take n, L = clsM nf ks k
theorem take_snoc {α : Type} {l : List α} {n : Nat} {x : α} (h : l[n]? = some x) : l.take (n + 1) = l.take n ++ [x] := by
  rw [List.take_add_one, h]
  rfl
theorem Found.old {nf : Str → List Str} {ks : List Str} {n : Nat} {Ls : List (List Str)} {k : Str} (sy : ∀ k z, z ∈ nf k → k ∈ nf z) (F : Found nf ks n Ls) (hk : ks[n]? = some k) (h : ∃ j ∈ ks.take n, Rch nf j k) : Found nf ks (n + 1) Ls := by
  obtain ⟨j, hj, hr⟩ := h
  refine ⟨F.up, fun L hL => ?_, fun L => ?_⟩
  · obtain ⟨h, r, e, m⟩ := F.hd L hL
    exact ⟨h, r, e, by rw [take_snoc hk]; exact List.mem_append_left _ m⟩
  · rw [F.mem, take_snoc hk]
    constructor
    · rintro ⟨i, hi, e⟩
      exact ⟨i, List.mem_append_left _ hi, e⟩
    · rintro ⟨i, hi, e⟩
      rcases List.mem_append.mp hi with a | a
      · exact ⟨i, a, e⟩
      · rw [List.mem_singleton.mp a] at e
        exact ⟨j, hj, by rw [e, cls_eq sy hr]⟩
theorem Found.fresh {nf : Str → List Str} {ks : List Str} {n : Nat} {Ls : List (List Str)} {k : Str} (sy : ∀ k z, z ∈ nf k → k ∈ nf z) (up : Up ltS ks) (F : Found nf ks n Ls) (hk : ks[n]? = some k) (h : ∀ j ∈ ks.take n, ¬ Rch nf j k) :
    Found nf ks (n + 1) (Ls ++ [clsM nf ks k]) := by
  have km := List.mem_of_getElem? hk
  have lt : n < ks.length := (List.getElem?_eq_some_iff.mp hk).1
  have e0 : ks = ks.take n ++ k :: ks.drop (n + 1) := by
    have e : ks[n] = k := (List.getElem?_eq_some_iff.mp hk).2
    rw [← e, List.getElem_cons_drop, List.take_append_drop]
  have up2 := up
  rw [e0] at up2
  have lower : ∀ j ∈ ks.take n, ltS j k = true := fun j hj => (List.pairwise_append.mp up2).2.2 j hj k List.mem_cons_self
  have kc : k ∈ clsM nf ks k := mem_cls.mpr ⟨km, .here⟩
  have hd : ∃ r, clsM nf ks k = k :: r := by
    cases q : clsM nf ks k with
    | nil => rw [q] at kc; cases kc
    | cons g r =>
      have hm := mem_cls.mp (show g ∈ clsM nf ks k by rw [q]; exact List.mem_cons_self)
      have e : g = k := by
        rw [q] at kc
        rcases List.mem_cons.mp kc with a | a
        · exact a.symm
        · have u := up_cls (nf := nf) up k
          rw [q] at u
          have l1 := (List.pairwise_cons.mp u).1 k a
          have hin := hm.1
          rw [e0] at hin
          rcases List.mem_append.mp hin with b | b
          · exact absurd (Rch.symm sy hm.2) (h g b)
          · rcases List.mem_cons.mp b with c | c
            · exact c
            · have l2 := (List.pairwise_cons.mp (List.pairwise_append.mp up2).2.1).1 g c
              rw [totS.asym l1] at l2
              cases l2
      rw [e]
      exact ⟨r, rfl⟩
  obtain ⟨r, er⟩ := hd
  refine ⟨List.pairwise_append.mpr ⟨F.up, List.pairwise_singleton _ _, fun L hL M hM => ?_⟩, fun L hL => ?_, fun L => ?_⟩
  · obtain ⟨h', r', e, m⟩ := F.hd L hL
    rw [List.mem_singleton.mp hM, e, er]
    have l := lower h' m
    show (if h' = k then ltL r' r else ltS h' k) = true
    rw [if_neg fun z => by rw [z, totS.irr] at l; cases l]
    exact l
  · rw [take_snoc hk]
    rcases List.mem_append.mp hL with a | a
    · obtain ⟨h', r', e, m⟩ := F.hd L a
      exact ⟨h', r', e, List.mem_append_left _ m⟩
    · rw [List.mem_singleton.mp a]
      exact ⟨k, r, er, List.mem_append_right _ List.mem_cons_self⟩
  · rw [List.mem_append, F.mem, take_snoc hk, List.mem_singleton]
    constructor
    · rintro (⟨i, hi, e⟩ | e)
      · exact ⟨i, List.mem_append_left _ hi, e⟩
      · exact ⟨k, List.mem_append_right _ List.mem_cons_self, e⟩
    · rintro ⟨i, hi, e⟩
      rcases List.mem_append.mp hi with a | a
      · exact .inl ⟨i, a, e⟩
      · rw [List.mem_singleton.mp a] at e
        exact .inr e
theorem Found.all {nf : Str → List Str} {ks : List Str} {Ls : List (List Str)} (F : Found nf ks ks.length Ls) : Ls = partsM nf ks := by
  unfold partsM
  refine up_one totL F.up (up_srt totL _) fun L => ?_
  rw [F.mem, mem_srt totL, List.mem_map, List.take_length]
  exact ⟨fun ⟨k, a, b⟩ => ⟨k, a, b.symm⟩, fun ⟨k, a, b⟩ => ⟨k, a, b.symm⟩⟩
/-- tuples of texts, each in a tuple -/
def Prt (K : PySem.W.Frag) (H : Hp) (a : Addr) (Ls : List (List Str)) : Prop := ∃ ts : List Addr, SqT K H a (ts.map V.ref) ∧ Paired (fun t L => SqT K H t (L.map V.str)) ts Ls
theorem Prt.same {K : PySem.W.Frag} {H H' : Hp} {a : Addr} {Ls : List (List Str)} (s : Same H H') : Prt K H a Ls → Prt K H' a Ls := fun ⟨ts, h1, h2⟩ => ⟨ts, sqT_same s h1, paired_imp (fun _ _ z => sqT_same s z) h2⟩
def spHanging (K : PySem.W.Frag) : Sp := fun vs H Q _ => ∃ (d : Addr) (kvs : List (Key × V)) (ks : List Str) (nf : Str → List Str), vs = [.ref d] ∧ H d = some (.dK kvs) ∧ Near K H d kvs ks nf ∧ ks.length ≤ 40 ∧ Up ltS ks ∧ (∀ k ∈ ks, ∀ z ∈ nf k, z ∈ ks) ∧ (∀ k z, z ∈ nf k → k ∈ nf z) ∧
  ∀ a H', Same H H' → Prt K H' a (partsM nf ks) → Q (.ref a) H'
section
variable {P : Program} {w : World} {K : PySem.W.Frag} {mg : Str → Option Value} {base : Heap}
abbrev nHanging : List Str := ["near", "seen", "found", "kind", "reached", "other"]
theorem scHanging : FnScope nHanging ["near"] (defScope sHanging) := ⟨rfl, rfl, rfl, by decide +kernel, rfl, by decide +kernel, by decide +kernel⟩
structure Hang (K : PySem.W.Frag) (H1 H' : Hp) (nf : Str → List Str) (ks : List Str) (n : Nat) (sd fa : Addr) : Prop where
  same : Same H1 H'
  seen : ∃ kv : List (Key × V), H' sd = some (.dK kv) ∧ kv.length ≤ 40 * n ∧ ∀ z, (valV kv (Sum.inr z)).isSome = true ↔ ∃ k ∈ ks.take n, Rch nf k z
  found : ∃ (ts : List Addr) (Ls : List (List Str)), H' fa = some (.lst (ts.map V.ref)) ∧ Paired (fun t L => H' t = some (.tup (L.map V.str)) ∧ H1 t = none ∧ t ≠ fa ∧ t ≠ sd) ts Ls ∧ Found nf ks n Ls ∧ Ls.length ≤ n
theorem ok_hanging {f : Addr} {fd : FuncData} {dvs : List V} (F : FunD K "_hanging" "_hanging" (defArgs sHanging) (defBody sHanging) (defScope sHanging) dvs [] f fd) (B : Blt mg) (GR : FnG P w K mg base "_reached" 1 ["near", "start"] (spReached K)) : FnOk P w K mg base CX0 2 f fd ["near"] (spHanging K) := by
  refine F.ok scHanging (fun vs H Q E h => ?_) (fun cdv A outer s0 H vs Q E hr h => ?_)
  · obtain ⟨d, kvs, ks, nf, rfl, _⟩ := h
    rfl
  · obtain ⟨d, kvs, ks, nf, rfl, hd, N, few, up, hc, sy, q⟩ := h
    have hu := hu_of hr
    refine ⟨_, (pss_cons (ps_set (i := 1) scHanging.nd rfl (Or.inl rfl) pe_dnewK)
      (pss_cons (ps_set (i := 2) scHanging.nd rfl (Or.inl rfl) (pe_lst pa_nil))
      (Evl.pss_cut (ps_lock (ps_for PassesOwn.never rfl (pi_keys (pv 0)) (pg_name (i := 3) scHanging.nd rfl (Or.inl rfl))
        (pss_one (ps_if (pt_cmp (pc_dnotin hu (pv 3) (pv 1)))
          (pss_cons (ps_set (i := 4) scHanging.nd rfl (Or.inl rfl) (pe_g GR hr (pa_cons (pv 0) (pa_cons (pv 3) pa_nil))))
          (pss_cons (ps_expr (pe_bm PySem.F.plainAttrs_dict PySem.F.slot_dict_update PySem.F.type_dict_update mtd_update (pv 1) (pa_cons (pe_dc (own := [("other", 5)]) (g := gName 5) (tt := tYes) rfl scHanging.nd (pi_list (pv 4)) (blkOk_by (N := nHanging) (sc := defScope sHanging) (by decide +kernel)) (fun _ _ _ _ _ => pg_name (i := 5) scHanging.nd rfl (Or.inl rfl)) (fun _ _ _ _ _ => pts_nil) (fun _ _ _ _ _ => pv 5) (fun _ _ _ _ _ => pe_bl)) pa_nil)))
          (pss_one (ps_expr (pe_bm PySem.F.plainAttrs_list PySem.F.slot_list_append PySem.F.type_list_append mt_append (pv 2) (pa_cons (pe_callTy cr_tupOf (by rfl) B.tuple bt_tuple (pa_cons (pe_callB (cr_sortX) (by rfl) B.sorted bt_sorted (pa_cons (pv 4) pa_nil)) pa_nil)) pa_nil)))))) pss_nil))))
      (pss_one (ps_ret (pe_callTy cr_tupOf (by rfl) B.tuple bt_tuple (pa_cons (pv 2) pa_nil))))))).nox, ?_⟩
    intro sd hsd
    refine ⟨Nat.zero_le _, fun fa hfa => ?_⟩
    have nsf : sd ≠ fa := fun e => by rw [← e, upd_same] at hfa; cases hfa
    have hfaH : H fa = none := by rw [upd_ne nsf.symm] at hfa; exact hfa
    have hsd : H sd = none := hsd
    have dsd : d ≠ sd := ne_of_none hd hsd
    have dfa : d ≠ fa := ne_of_none hd hfaH
    have hd2 : (upd (upd H sd (.dK [])) fa (.lst [])) d = some (.dK kvs) := by rw [upd_ne dfa, upd_ne dsd]; exact hd
    refine ⟨fun σ' H' => ∃ v3 v4, σ' = [some (.ref d), some (.ref sd), some (.ref fa), v3, v4, none] ∧ Same H H' ∧ ∃ (ts : List Addr) (Ls : List (List Str)), H' fa = some (.lst (ts.map V.ref)) ∧ Paired (fun t L => H' t = some (.tup (L.map V.str))) ts Ls ∧ Ls = partsM nf ks,
      ⟨d, .dK kvs, hd2, trivial, fun od => ?_⟩, ?_⟩
    · let H1 : Hp := upd H d (.frz od (.dK kvs))
      have H1d : H1 d = some (.frz od (.dK kvs)) := upd_same
      have N1 : Near K H1 d kvs ks nf := ⟨.inr ⟨od, H1d⟩, N.keys, fun k hk => by
        obtain ⟨t, a, b⟩ := N.val k hk
        refine ⟨t, a, ?_⟩
        have st : ∀ {o : HO}, H t = some o → (∀ kv, o ≠ .dK kv) → H1 t = some o := fun {o} e n => by
          show (upd H d _) t = _
          rw [upd_ne fun z => by rw [z, hd] at e; cases e; exact n _ rfl]
          exact e
        rcases b with (b | ⟨u, b⟩) | b
        · exact .inl (.inl (st b fun _ z => nomatch z))
        · exact .inl (.inr ⟨u, st b fun _ z => nomatch z⟩)
        · exact .inr b⟩
      have H1sd : H1 sd = none := by show (upd H d _) sd = none; rw [upd_ne dsd.symm]; exact hsd
      have H1fa : H1 fa = none := by show (upd H d _) fa = none; rw [upd_ne dfa.symm]; exact hfaH
      have S0 : Same H1 (upd (upd (upd H sd (.dK [])) fa (.lst [])) d (.frz od (.dK kvs))) := fun b o e => by
        by_cases z : b = d
        · rw [z, upd_same]
          rw [z, H1d] at e
          exact e
        · rw [upd_ne z]
          have e2 : H b = some o := by
            have e' : (upd H d (.frz od (.dK kvs))) b = some o := e
            rw [upd_ne z] at e'
            exact e'
          rw [upd_ne (ne_of_none e2 hfaH), upd_ne (ne_of_none e2 hsd)]
          exact e2
      refine for_keys (i := 0) (kvs := kvs) (od := od) rfl upd_same (fun n σ' H' => ∃ v3 v4, σ' = [some (.ref d), some (.ref sd), some (.ref fa), v3, v4, none] ∧ Hang K H1 H' nf ks n sd fa)
        ⟨none, none, rfl, S0, ⟨[], ?_, Nat.zero_le _, fun z => ⟨fun h => (by cases h), fun ⟨k, hk, _⟩ => (by simp at hk)⟩⟩, [], [], ?_, .nil, ⟨List.Pairwise.nil, fun L hL => (by cases hL), fun L => ⟨fun h => (by cases h), fun ⟨k, hk, _⟩ => (by simp at hk)⟩⟩, Nat.le_refl _⟩
        (fun n σ' H' ⟨_, _, _, G⟩ => G.same _ _ H1d) ?_ ?_
      · rw [upd_ne dsd.symm, upd_ne nsf, upd_same]
      · rw [upd_ne dfa.symm, upd_same]; rfl
      · rintro n key v σ' H' hn ⟨v3, v4, rfl, G⟩
        obtain ⟨k, hk, rfl⟩ : ∃ k, ks[n]? = some k ∧ key = Sum.inr k := by
          have y := congrArg (fun l => l[n]?) N.keys
          rw [List.getElem?_map, List.getElem?_map, hn] at y
          cases z : ks[n]? with
          | none => rw [z] at y; cases y
          | some k => rw [z] at y; exact ⟨k, rfl, Option.some.inj y⟩
        have km := List.mem_of_getElem? hk
        have lt : n < ks.length := (List.getElem?_eq_some_iff.mp hk).1
        obtain ⟨kv, hkv, hkl, hks⟩ := G.seen
        obtain ⟨ts, Ls, hfl, hts, Fd, hLl⟩ := G.found
        refine ⟨_, rfl, _, rfl, sd, _, rfl, DGet.k (k := Sum.inr k) hkv, _, rfl, ?_⟩
        by_cases ex : ∃ j ∈ ks.take n, Rch nf j k
        · rw [(hks k).mpr ex]
          refine iteF ⟨_, _, rfl, G.same, ⟨kv, hkv, by omega, fun z => ?_⟩, ts, Ls, hfl, hts, Fd.old sy hk ex, by omega⟩
          rw [hks z, take_snoc hk]
          constructor
          · rintro ⟨j, hj, r⟩
            exact ⟨j, List.mem_append_left _ hj, r⟩
          · rintro ⟨j, hj, r⟩
            rcases List.mem_append.mp hj with a | a
            · exact ⟨j, a, r⟩
            · rw [List.mem_singleton.mp a] at r
              obtain ⟨i, hi, r2⟩ := ex
              exact ⟨i, hi, r2.trans r⟩
        · have nos : (valV kv (Sum.inr k)).isSome = false := by
            cases z : (valV kv (Sum.inr k)).isSome with
            | false => rfl
            | true => exact absurd ((hks k).mp z) ex
          rw [nos]
          refine iteT ?_
          refine ⟨_, rfl, _, rfl, d, k, kvs, ks, nf, rfl, N1.same G.same, few, km, hc, fun l H2 xs s2 ln hl xnd hx => ?_⟩
          have xk : ∀ z ∈ xs, z ∈ ks := fun z hz => rch_in km hc ((hx z).mp hz)
          have xlen : xs.length ≤ 40 := Nat.le_trans (few_of xnd xk) few
          -- seen.update({other: True for other in reached})
          refine ⟨_, rfl, .inr (.inr (.inl ⟨rfl, .inl ⟨kv, s2 _ _ hkv⟩⟩)), ?_⟩
          refine ⟨_, rfl, l, rfl, ⟨_, SqL.of hl⟩, ?_⟩
          refine dc_walkL (vs := [5]) (σ := [some (.ref d), some (.ref sd), some (.ref fa), some (.str k), some (.ref l), none]) (SqL.of hl) (fun D j H3 => Same H2 H3 ∧ H2 D = none ∧ ∃ kv2 : List (Key × V), H3 D = some (.dK kv2) ∧ kv2.map (·.1) = (xs.take j).map Sum.inr) (fun D hD => ⟨Sx.Same.new hD, hD, [], upd_same, rfl⟩) (fun D j H3 p => p.1) ?_ ?_
          · rintro D j x H3 hj ⟨s3, hD, kv2, hkv2, ek⟩
            rw [List.getElem?_map] at hj
            obtain ⟨z, hz, rfl⟩ := Option.map_eq_some_iff.mp hj
            refine ⟨rfl, _, rfl, kv2, Sum.inr z, rfl, hkv2, small1000 ?_, Sx.Same.mut s3 hD, hD, _, upd_same, ?_⟩
            · rw [kv_len ek, List.length_take]
              omega
            · rw [kv_put ek, take_snoc hz]
              intro m
              obtain ⟨i, hi, e⟩ := List.getElem_of_mem m
              rw [List.length_take] at hi
              have e2 : xs[i]? = some z := by
                rw [← e, List.getElem_take]
                exact List.getElem?_eq_getElem (by omega)
              have := nd_ix xnd e2 hz
              omega
          · rintro D H3 hD ⟨s3, _, kv2, hkv2, ek⟩
            rw [List.length_map, List.take_length] at ek
            have S3 := G.same.trans (s2.trans s3)
            have sdD : sd ≠ D := fun e => by rw [← e, s2 _ _ hkv] at hD; cases hD
            have hkv3 := s3 _ _ (s2 _ _ hkv)
            have k2l := kv_len ek
            refine ⟨sd, D, kv, kv2, rfl, rfl, sdD, hkv3, .inl hkv2, ?_, ?_⟩
            · rw [sizeLine_eq]; have := few; omega
            have S4 : Same H1 (upd H3 sd (.dK (mergeK kv kv2))) := Sx.Same.mut S3 H1sd
            have h4sd : (upd H3 sd (.dK (mergeK kv kv2))) sd = some (.dK (mergeK kv kv2)) := upd_same
            have k4 : ∀ {b : Addr} {o : HO}, H' b = some o → b ≠ sd → (upd H3 sd (.dK (mergeK kv kv2))) b = some o := fun {b o} e n => by rw [upd_ne n]; exact s3 _ _ (s2 _ _ e)
            have h4l : (upd H3 sd (.dK (mergeK kv kv2))) l = some (.lst (xs.map V.str)) := by
              rw [upd_ne fun e => by rw [e, hkv] at ln; cases ln]
              exact s3 _ _ hl
            generalize upd H3 sd (.dK (mergeK kv kv2)) = H4 at S4 h4sd k4 h4l
            -- found.append(tuple(sorted(reached)))
            have hfl4 := k4 hfl nsf.symm
            refine ⟨_, rfl, .inl ⟨rfl, _, SqL.of hfl4⟩, ?_⟩
            refine ⟨_, rfl, l, xs, rfl, .inl (SqL.of h4l), fun ys p pm pw hp => ?_⟩
            refine ⟨p, _, rfl, .inl ⟨SqL.of upd_same, fun t ht => ?_⟩⟩
            have S5 : Same H4 (upd H4 p (.lst (ys.map V.str))) := Sx.Same.new hp
            have S6 : Same H4 (upd (upd H4 p (.lst (ys.map V.str))) t (.tup (ys.map V.str))) := S5.trans (Sx.Same.new ht)
            have tfa : t ≠ fa := fun e => by rw [e, S5 _ _ hfl4] at ht; cases ht
            have tsd : t ≠ sd := fun e => by rw [e, S5 _ _ h4sd] at ht; cases ht
            have tH1 : H1 t = none := by
              cases z : H1 t with
              | none => rfl
              | some o => rw [S5 _ _ (S4 _ _ z)] at ht; cases ht
            have eys : ys = clsM nf ks k := up_one totS (up_of totS (pm.nodup_iff.mpr xnd) pw) (up_cls up k) fun z => by
              rw [pm.mem_iff, hx z, mem_cls]
              exact ⟨fun r => ⟨rch_in km hc r, r⟩, And.right⟩
            refine ⟨fa, _, _, rfl, rfl, S6 _ _ hfl4, small1000 (by rw [List.length_map, Paired.length hts]; omega), ?_⟩
            refine ⟨_, _, rfl, Sx.Same.mut (S4.trans S6) H1fa, ⟨mergeK kv kv2, by rw [upd_ne nsf]; exact S6 _ _ h4sd, ?_, fun z => ?_⟩, ts ++ [t], Ls ++ [clsM nf ks k], by rw [upd_same, List.map_append]; rfl, ?_, Fd.fresh sy up hk fun j hj r => ex ⟨j, hj, r⟩, ?_⟩
            · have y := length_mergeK kv2 kv
              omega
            · rw [valV_merge, Bool.or_eq_true, hks z, take_snoc hk, List.any_eq_true]
              have inx : (∃ q ∈ kv2, decide (q.1 = (Sum.inr z : Key)) = true) ↔ Rch nf k z := by
                rw [← hx z]
                have y : (Sum.inr z : Key) ∈ kv2.map (·.1) ↔ z ∈ xs := by
                  rw [ek]
                  constructor
                  · intro m
                    obtain ⟨u, hu, e⟩ := List.mem_map.mp m
                    rw [← Sum.inr.inj e]
                    exact hu
                  · exact fun m => List.mem_map.mpr ⟨z, m, rfl⟩
                rw [← y, List.mem_map]
                exact ⟨fun ⟨q, a, b⟩ => ⟨q, a, decide_eq_true_eq.mp b⟩, fun ⟨q, a, b⟩ => ⟨q, a, decide_eq_true b⟩⟩
              rw [inx]
              constructor
              · rintro (⟨j, hj, r⟩ | r)
                · exact ⟨j, List.mem_append_left _ hj, r⟩
                · exact ⟨k, List.mem_append_right _ List.mem_cons_self, r⟩
              · rintro ⟨j, hj, r⟩
                rcases List.mem_append.mp hj with a | a
                · exact .inl ⟨j, a, r⟩
                · rw [List.mem_singleton.mp a] at r
                  exact .inr r
            · exact paired_snoc (paired_imp (fun u L z => ⟨by rw [upd_ne z.2.2.1]; exact S6 _ _ (k4 z.1 z.2.2.2), z.2⟩) hts) ⟨by rw [upd_ne tfa, upd_same, eys], tH1, tfa, tsd⟩
            · rw [List.length_append, List.length_singleton]
              omega
      · rintro σ' H' ⟨v3, v4, rfl, G⟩
        have eK : kvs.length = ks.length := kv_len N.keys
        refine ⟨G.same _ _ H1d, v3, v4, rfl, fun b o e => ?_, ?_⟩
        · by_cases z : b = d
          · rw [z, upd_same]
            rw [z, hd] at e
            exact e
          · rw [upd_ne z]
            refine G.same _ _ ?_
            show (upd H d _) b = _
            rw [upd_ne z]
            exact e
        · obtain ⟨ts, Ls, hfl, hts, Fd, hLl⟩ := G.found
          rw [eK] at Fd
          refine ⟨ts, Ls, by rw [upd_ne dfa.symm]; exact hfl, paired_imp (fun t L z => ?_) hts, Fd.all⟩
          rw [upd_ne fun y => by rw [y, H1d] at z; cases z.2.1]
          exact z.1
    · rintro σ' H' ⟨v3, v4, rfl, S, ts, Ls, hf, hts, rfl⟩
      refine ⟨_, rfl, fa, _, rfl, .inl ⟨SqL.of hf, fun a ha => ?_⟩⟩
      exact q a _ (S.trans (Sx.Same.new ha)) ⟨ts, SqT.of upd_same, paired_imp (fun t L z => SqT.of (Sx.Same.new ha _ _ z)) hts⟩
end
end Sx

/-! BookE -/
namespace Sx
open PySem PySem.Spec PyProof.Rows L2
/-- the other kinds at peace with a kind of the book -/
def peaceN (ks : List Str) (cs : List (Str × Str)) (k : Str) : List Str := if k ∈ ks then peaceM ks cs k else []
theorem near_in {ks : List Str} {cs : List (Str × Str)} (S : Std ks cs) : ∀ k ∈ ks, ∀ z ∈ nearM cs k, z ∈ ks := fun k _ z h => (mem_near.mp h).elim (fun m => (S.inn _ m).2) fun m => (S.inn _ m).1
theorem near_sy {cs : List (Str × Str)} : ∀ k z, z ∈ nearM cs k → k ∈ nearM cs z := fun k z h => mem_near.mpr (mem_near.mp h).symm
theorem mem_peace {ks : List Str} {cs : List (Str × Str)} {k z : Str} : z ∈ peaceM ks cs k ↔ z ∈ ks ∧ z ≠ k ∧ z ∉ nearM cs k := by
  unfold peaceM
  rw [List.mem_filter, Bool.and_eq_true, decide_eq_true_eq, Bool.not_eq_true', decide_eq_false_iff_not]
theorem peace_in {ks : List Str} {cs : List (Str × Str)} : ∀ k ∈ ks, ∀ z ∈ peaceN ks cs k, z ∈ ks := fun k hk z h => by
  unfold peaceN at h
  rw [if_pos hk] at h
  exact (mem_peace.mp h).1
theorem peace_sy {ks : List Str} {cs : List (Str × Str)} : ∀ k z, z ∈ peaceN ks cs k → k ∈ peaceN ks cs z := fun k z h => by
  unfold peaceN at h ⊢
  by_cases hk : k ∈ ks
  · rw [if_pos hk] at h
    obtain ⟨h1, h2, h3⟩ := mem_peace.mp h
    rw [if_pos h1]
    exact mem_peace.mpr ⟨hk, Ne.symm h2, fun m => h3 (near_sy _ _ m)⟩
  · rw [if_neg hk] at h
    cases h
def spHang (K : PySem.W.Frag) (C : Addr) (nf : List Str → List (Str × Str) → Str → List Str) : Sp := fun vs H Q _ => ∃ (p : Addr) (ks : List Str) (cs : List (Str × Str)), vs = [.ref p] ∧ BookAt K C H p ks cs ∧ Std ks cs ∧
  ∀ a H', Same H H' → Prt K H' a (partsM (nf ks cs) ks) → Q (.ref a) H'
abbrev spKnots (K : PySem.W.Frag) (C : Addr) : Sp := spHang K C fun _ cs => nearM cs
abbrev spPeaces (K : PySem.W.Frag) (C : Addr) : Sp := spHang K C peaceN
theorem sqT_upd {K : PySem.W.Frag} {H : Hp} {D t : Addr} {o o2 : HO} {xs : List V} (h : SqT K H t xs) (hD : H D = some o) (n1 : ∀ ys, o ≠ .tup ys) (n2 : ∀ u v, o ≠ .frz u v) : SqT K (upd H D o2) t xs := by
  rcases h with (h | ⟨u, h⟩) | h
  · exact .inl (.inl (by rw [upd_ne fun z => by rw [z, hD] at h; exact n1 _ (Option.some.inj h)]; exact h))
  · exact .inl (.inr ⟨u, by rw [upd_ne fun z => by rw [z, hD] at h; exact n2 _ _ (Option.some.inj h)]; exact h⟩)
  · exact .inr h
section
variable {P : Program} {w : World} {K : PySem.W.Frag} {mg : Str → Option Value} {base : Heap}
abbrev nKnots : List Str := ["book", "kind"]
theorem scKnots : FnScope nKnots ["book"] (defScope sKnots) := ⟨rfl, rfl, rfl, by decide +kernel, rfl, by decide +kernel, by decide +kernel⟩
theorem scPeaces : FnScope nKnots ["book"] (defScope sPeaces) := ⟨rfl, rfl, rfl, by decide +kernel, rfl, by decide +kernel, by decide +kernel⟩
/-- the dict of who is near -/
theorem near_dc {C p dx : Addr} {ks : List Str} {cs : List (Str × Str)} {fs : List (Str × V)} {f : List Str → List (Str × Str) → Str → List Str} {nf : Str → List Str} {m : Str} {H : Hp} {Q : VK} (B : BookAt K C H p ks cs) (S : Std ks cs) (hp : H p = some (.ins C dx fs)) (hm : fs.lookup m = none) (e : ∀ k ∈ ks, nf k = f ks cs k)
    (q : ∀ D H' kvs, Same H H' → H' D = some (.dK kvs) → Near K H' D kvs ks nf → Q (.ref D) H') :
    tDc (iTup K (tProp C (spKinds K C) [] E0 (tVar 0))) (gName 1) tYes (tVar 1) (tMeth C m (spOf K C f) [] E0 (tVar 0) (tCons (tVar 1) tNil)) [1] [some (.ref p), none] H Q := by
  refine ⟨_, rfl, p, dx, _, rfl, hp, p, ks, cs, rfl, B, fun a ha => ?_⟩
  refine ⟨a, rfl, ⟨_, ha⟩, ?_⟩
  have few := S.few
  have nd := up_nodup totS S.up
  refine dc_walkT (vs := [1]) (σ := [some (.ref p), none]) ha (fun D j H' => Same H H' ∧ H D = none ∧ ∃ kv : List (Key × V), H' D = some (.dK kv) ∧ kv.map (·.1) = (ks.take j).map Sum.inr ∧ ∀ k ∈ ks.take j, ∃ t, valV kv (Sum.inr k) = some (.ref t) ∧ SqT K H' t ((nf k).map V.str))
    (fun D hD => ⟨Sx.Same.new hD, hD, [], upd_same, rfl, fun k hk => (by simp at hk)⟩) (fun D j H' p => p.1) ?_ ?_
  · rintro D j x H' hj ⟨s, hD, kv, hkv, ek, hval⟩
    rw [List.getElem?_map] at hj
    obtain ⟨k, hk, rfl⟩ := Option.map_eq_some_iff.mp hj
    have km := List.mem_of_getElem? hk
    have kn : k ∉ ks.take j := fun m => by
      obtain ⟨i, hi, e⟩ := List.getElem_of_mem m
      rw [List.length_take] at hi
      have e2 : ks[i]? = some k := by
        rw [← e, List.getElem_take]
        exact List.getElem?_eq_getElem (by omega)
      have := nd_ix nd e2 hk
      omega
    refine ⟨rfl, _, rfl, _, rfl, p, dx, _, rfl, s _ _ hp, hm, _, rfl, p, ks, cs, k, rfl, B.same s, few, km, fun t H4 s4 hT => ?_⟩
    have hkv4 := s4 _ _ hkv
    refine ⟨kv, Sum.inr k, rfl, hkv4, small1000 ?_, Sx.Same.mut (s.trans s4) hD, hD, _, upd_same, ?_, fun z hz => ?_⟩
    · rw [kv_len ek, List.length_take]
      omega
    · rw [kv_put ek kn, take_snoc hk]
    · rw [take_snoc hk] at hz
      rw [valV_put]
      by_cases ez : z = k
      · rw [if_pos (by rw [ez]), ez, e k km]
        exact ⟨t, rfl, sqT_upd hT hkv4 (fun _ y => nomatch y) (fun _ _ y => nomatch y)⟩
      · rw [if_neg fun y => ez (Sum.inr.inj y)]
        rcases List.mem_append.mp hz with y | y
        · obtain ⟨t', a1, a2⟩ := hval z y
          exact ⟨t', a1, sqT_upd (sqT_same s4 a2) hkv4 (fun _ y => nomatch y) (fun _ _ y => nomatch y)⟩
        · exact absurd (List.mem_singleton.mp y) ez
  · rintro D H' hD ⟨s, _, kv, hkv, ek, hval⟩
    rw [List.length_map, List.take_length] at ek hval
    exact q D H' kv s hkv ⟨.inl hkv, ek, hval⟩
theorem ok_knots {C : Addr} {f : Addr} {fd : FuncData} {dvs : List V} (F : FunD K "knots" "knots" (defArgs sKnots) (defBody sKnots) (defScope sKnots) dvs [] f fd) (T : TB K mg C) (GK : PrG P w K mg base C "kinds" 1 (spKinds K C)) (GM : MtG P w K mg base C "clashing" 2 ["self", "kind"] (spClashing K C)) (GH : FnG P w K mg base "_hanging" 2 ["near"] (spHanging K)) :
    FnOk P w K mg base CX0 3 f fd ["book"] (spKnots K C) := by
  refine F.ok scKnots (fun vs H Q E h => ?_) (fun cdv A outer s H vs Q E hr h => ?_)
  · obtain ⟨p, ks, cs, rfl, _⟩ := h
    rfl
  · obtain ⟨p, ks, cs, rfl, B, Sd, q⟩ := h
    obtain ⟨dx, ak, ac, an, kvs, ts, hp, hak, hac, hts, han, hin, hout⟩ := id B
    refine ⟨_, (pss_one (ps_ret (pe_g GH hr (pa_cons (pe_dc (own := [("kind", 1)]) (g := gName 1) (tt := tYes) rfl scKnots.nd (pi_tup (pe_pg GK T.cl (pv 0) hr)) (blkOk_by (N := nKnots) (sc := defScope sKnots) (by decide +kernel)) (fun _ _ _ _ _ => pg_name (i := 1) scKnots.nd rfl (Or.inl rfl)) (fun _ _ _ _ _ => pts_nil)
      (fun _ _ _ _ _ => pv 1) (fun _ _ _ _ _ => pe_mg GM T.cl (pv 0) hr (pa_cons (pv 1) pa_nil))) pa_nil)))).nox, ?_⟩
    unfold tRet tCall tCons tNil
    refine near_dc (m := "clashing") (f := fun _ cs k => nearM cs k) B Sd hp (bkF_no _ _ _ (by decide +kernel) (by decide +kernel) (by decide +kernel)) (fun k _ => rfl) fun D H' kvs' s' hD N => ?_
    exact ⟨D, kvs', ks, _, rfl, hD, N, Sd.few, Sd.up, near_in Sd, near_sy, fun a H2 s2 hP => q a H2 (s'.trans s2) hP⟩
theorem ok_peaces {C : Addr} {f : Addr} {fd : FuncData} {dvs : List V} (F : FunD K "peaces" "peaces" (defArgs sPeaces) (defBody sPeaces) (defScope sPeaces) dvs [] f fd) (T : TB K mg C) (GK : PrG P w K mg base C "kinds" 1 (spKinds K C)) (GM : MtG P w K mg base C "peaceful" 2 ["self", "kind"] (spPeaceful K C)) (GH : FnG P w K mg base "_hanging" 2 ["near"] (spHanging K)) :
    FnOk P w K mg base CX0 3 f fd ["book"] (spPeaces K C) := by
  refine F.ok scPeaces (fun vs H Q E h => ?_) (fun cdv A outer s H vs Q E hr h => ?_)
  · obtain ⟨p, ks, cs, rfl, _⟩ := h
    rfl
  · obtain ⟨p, ks, cs, rfl, B, Sd, q⟩ := h
    obtain ⟨dx, ak, ac, an, kvs, ts, hp, hak, hac, hts, han, hin, hout⟩ := id B
    refine ⟨_, (pss_one (ps_ret (pe_g GH hr (pa_cons (pe_dc (own := [("kind", 1)]) (g := gName 1) (tt := tYes) rfl scPeaces.nd (pi_tup (pe_pg GK T.cl (pv 0) hr)) (blkOk_by (N := nKnots) (sc := defScope sPeaces) (by decide +kernel)) (fun _ _ _ _ _ => pg_name (i := 1) scPeaces.nd rfl (Or.inl rfl)) (fun _ _ _ _ _ => pts_nil)
      (fun _ _ _ _ _ => pv 1) (fun _ _ _ _ _ => pe_mg GM T.cl (pv 0) hr (pa_cons (pv 1) pa_nil))) pa_nil)))).nox, ?_⟩
    unfold tRet tCall tCons tNil
    refine near_dc (m := "peaceful") (f := peaceM) (nf := peaceN ks cs) B Sd hp (bkF_no _ _ _ (by decide +kernel) (by decide +kernel) (by decide +kernel)) (fun k hk => if_pos hk) fun D H' kvs' s' hD N => ?_
    exact ⟨D, kvs', ks, _, rfl, hD, N, Sd.few, Sd.up, peace_in, peace_sy, fun a H2 s2 hP => q a H2 (s'.trans s2) hP⟩
end
end Sx

/-! BookF -/
namespace Sx
open PySem PySem.Spec PyProof.Rows L2
abbrev sText : Stmt := inClass cBook 5
abbrev sOf : Stmt := inClass cBook 1
abbrev sIsKind : Stmt := top 2
def pairT (c : Str × Str) : Str := Str.empty ++ c.1 ++ "-" ++ c.2
def frontT (ks : List Str) : Str := if ks.isEmpty then "-" else Txt.join " " ks
def txtM (ks : List Str) (cs : List (Str × Str)) : Str := if cs.isEmpty then frontT ks else Str.empty ++ frontT ks ++ "; " ++ Txt.join " " (cs.map pairT)
def spText (K : PySem.W.Frag) (C : Addr) : Sp := fun vs H Q _ => ∃ (p : Addr) (ks : List Str) (cs : List (Str × Str)), vs = [.ref p] ∧ BookAt K C H p ks cs ∧ ks.length ≤ 40 ∧ cs.length ≤ 1600 ∧ (∀ k ∈ ks, k.length ≤ 100) ∧ (∀ c ∈ cs, c.1.length ≤ 100 ∧ c.2.length ≤ 100) ∧
  ((frontT ks).length ≤ 10000 ∧ (Txt.join " " (cs.map pairT)).length ≤ 1000000) ∧ ∀ H', Same H H' → Q (.str (txtM ks cs)) H'
theorem len_pairT (c : Str × Str) : (pairT c).length = c.1.length + 1 + c.2.length := by
  unfold pairT
  rw [Str.length_append, Str.length_append, Str.length_append]
  have e : (Str.empty).length = 0 := rfl
  have e1 : ("-" : Str).length = 1 := by decide +kernel
  rw [e, e1]
  omega
theorem sum_le {l : List Nat} {b : Nat} (h : ∀ x ∈ l, x ≤ b) : l.sum ≤ l.length * b := by
  induction l with
  | nil => simp
  | cons x l ih =>
    rw [List.sum_cons, List.length_cons, Nat.add_mul, Nat.one_mul]
    have a := h x List.mem_cons_self
    have c := ih fun y hy => h y (List.mem_cons_of_mem _ hy)
    omega
section
variable {P : Program} {w : World} {K : PySem.W.Frag} {mg : Str → Option Value} {base : Heap}
abbrev nText : List Str := ["self", "front", "back", "one", "other"]
theorem scText : FnScope nText ["self"] (defScope sText) := ⟨rfl, rfl, rfl, by decide +kernel, rfl, by decide +kernel, by decide +kernel⟩
theorem ok_text {f C : Addr} {fd : FuncData} {dvs : List V} (F : FunD K "text" "Book.text" (defArgs sText) (defBody sText) (defScope sText) dvs [] f fd) (T : TB K mg C) : FnOk P w K mg base CX0 1 f fd ["self"] (spText K C) := by
  refine F.ok scText (fun vs H Q E h => ?_) (fun cdv A outer s H vs Q E hr h => ?_)
  · obtain ⟨p, ks, cs, rfl, _⟩ := h
    rfl
  · obtain ⟨p, ks, cs, rfl, B, few, fewc, hk, hcl, hbig, q⟩ := h
    obtain ⟨dx, ak, ac, an, kvs, ts, hp, hak, hac, hts, han, hin, hout⟩ := id B
    refine ⟨_, (Evl.pss_cut (ps_set (i := 1) scText.nd rfl (Or.inl rfl) (pe_ifExp (pt_truth (pe_fld (pv 0) rfl) (by intro _; rfl)) (pe_join pe_str (pe_fld (pv 0) rfl)) pe_str))
      (pss_cons (ps_if (pt_not (pt_truth (pe_fld (pv 0) rfl) (by intro _; rfl))) (pss_one (ps_ret (pv 1))) pss_nil)
      (pss_cons (ps_set (i := 2) scText.nd rfl (Or.inl rfl) (pe_join pe_str (pe_lc (own := [("one", 3), ("other", 4)]) (g := gTup K 2 (gCons (gName 3) (gCons (gName 4) gNil))) (tt := tYes) rfl scText.nd (pi_tup (pe_fld (pv 0) rfl)) (blkOk_by (N := nText) (sc := defScope sText) (by decide +kernel))
        (fun _ _ _ _ _ => pg_tup rfl (pgs_cons (pg_name (i := 3) scText.nd rfl (Or.inl rfl)) (pgs_cons (pg_name (i := 4) scText.nd rfl (Or.inl rfl)) pgs_nil))) (fun _ _ _ _ _ => pts_nil)
        (fun _ _ _ _ _ => pe_joined (.cons (pe_fmt (pv 3)) (.cons pe_str (.cons (pe_fmt (pv 4)) .nil)))))))
      (pss_one (ps_ret (pe_joined (.cons (pe_fmt (pv 1)) (.cons pe_str (.cons (pe_fmt (pv 2)) .nil))))))))).nox, ?_⟩
    refine ⟨fun σ' H' => σ' = [some (.ref p), some (.str (frontT ks)), none, none, none] ∧ H' = H, ?_, ?_⟩
    · refine ⟨_, rfl, p, C, dx, _, _, rfl, hp, T.cl, T.nK, bkF_kinds _ _ _, _, .inr (.inl ⟨_, hak, rfl⟩), ?_⟩
      cases ks with
      | nil => exact iteF ⟨rfl, rfl⟩
      | cons k ks =>
        dsimp only
        rw [if_pos (show (!(List.map V.str (k :: ks)).isEmpty) = true from rfl)]
        refine ⟨⟨_, rfl⟩, _, rfl, p, C, dx, _, _, rfl, hp, T.cl, T.nK, bkF_kinds _ _ _, _, _, k :: ks, rfl, rfl, .inr hak, ?_, rfl, rfl⟩
        have y := sum_le (l := (k :: ks).map (·.length)) (b := 100) fun x hx => by
          obtain ⟨z, hz, e⟩ := List.mem_map.mp hx
          rw [← e]
          exact hk z hz
        have e1 : (" " : Str).length = 1 := by decide +kernel
        rw [List.length_map] at y
        rw [e1]
        omega
    rintro σ' H' ⟨rfl, rfl⟩
    have lts : ts.length = cs.length := Paired.length hts
    refine ⟨_, rfl, p, C, dx, _, _, rfl, hp, T.cl, T.nC, bkF_clashes _ _ _, _, .inr (.inl ⟨_, hac, rfl⟩), ?_⟩
    cases cs with
    | nil =>
      cases hts
      refine ⟨_, rfl, ?_⟩
      exact q _ same_id
    | cons c0 cs0 =>
      cases ts with
      | nil => cases hts
      | cons t0 ts0 =>
      show if (!(!(List.map V.ref (t0 :: ts0)).isEmpty)) = true then _ else _
      rw [if_neg (by simp)]
      refine ⟨⟨_, rfl⟩, _, rfl, p, C, dx, _, _, rfl, hp, T.cl, T.nC, bkF_clashes _ _ _, ac, rfl, ⟨_, hac⟩, ?_⟩
      refine lc_valsT (te := fun σ H Q => tJs [tFmt (tVar 3), tC (V.str "-"), tFmt (tVar 4)] Str.empty σ H fun out H1 => Q (V.str out) H1) (vs := [3, 4]) (σ := [some (.ref p), some (.str (frontT ks)), none, none, none]) (fun c : Str × Str => V.str (pairT c)) (fun _ => true) hac (paired_refs hts) (by rw [List.length_map]; omega) (fun x z hz hx H2 s2 => ?_) (fun D H2 hD s2 hl => ?_)
      · obtain ⟨t, rfl, hT⟩ := hx
        refine ⟨[some (.ref p), some (.str (frontT ks)), none, some (.str z.1), some (.str z.2)], rfl, gt_yes, fun _ H3 s3 Q h => ?_, fun k hk => ⟨t, _, rfl, sqT_same s2 hT, rfl, _, _, rfl, _, _, rfl, rfl, hk⟩⟩
        obtain ⟨l1, l2⟩ := hcl z hz
        have l := len_pairT z
        have small : ∀ {n : Nat}, n ≤ 300 → n ≤ sizeLine := fun h => Nat.le_trans h (by rw [sizeLine_eq]; decide)
        unfold pairT at l
        rw [Str.length_append] at l
        refine ⟨_, rfl, .inl ⟨_, rfl, small (by omega), _, rfl, small ?_, _, rfl, small (by omega), ?_⟩⟩
        · rw [Str.length_append]; show (0 : Nat) + _ ≤ 300; omega
        · refine ⟨_, rfl, .inl ⟨_, rfl, small (by omega), _, rfl, small ?_, h H3 same_id⟩⟩
          rw [Str.length_append]
          omega
      · have ef : (c0 :: cs0).filter (fun _ => true) = c0 :: cs0 := List.filter_eq_self.mpr fun _ _ => rfl
        rw [ef] at hl
        have em : (c0 :: cs0).map (fun c => V.str (pairT c)) = ((c0 :: cs0).map pairT).map V.str := by rw [List.map_map]; rfl
        rw [em] at hl
        refine ⟨" ", D, (c0 :: cs0).map pairT, rfl, rfl, .inl (SqL.of hl), ?_, ?_⟩
        · have y := sum_le (l := ((c0 :: cs0).map pairT).map (·.length)) (b := 201) fun x hx => by
            obtain ⟨z, hz, e⟩ := List.mem_map.mp hx
            obtain ⟨c, hc, e2⟩ := List.mem_map.mp hz
            rw [← e, ← e2, len_pairT]
            have w := hcl c hc
            omega
          have e1 : (" " : Str).length = 1 := by decide +kernel
          rw [List.length_map, List.length_map] at y
          rw [e1, List.length_map]
          omega
        · have small : ∀ {n : Nat}, n ≤ 2000000 → n ≤ sizeLine := fun h => Nat.le_trans h (by rw [sizeLine_eq]; decide)
          have e2 : ("; " : Str).length = 2 := by decide +kernel
          have e0 : (Str.empty).length = 0 := rfl
          refine ⟨_, rfl, .inl ⟨_, rfl, small (by omega), _, rfl, small ?_, _, rfl, small ?_, ?_⟩⟩
          · rw [Str.length_append, e0]; omega
          · rw [Str.length_append, Str.length_append, e0, e2]; omega
          · refine ⟨_, rfl, .inl ⟨_, rfl, small (by omega), _, rfl, small ?_, ?_⟩⟩
            · rw [Str.length_append, Str.length_append, Str.length_append, e0, e2]; omega
            · exact q _ s2

/-! ### is_kind -/
/-- [f c for c in x], x a text -/
theorem lc_strs {x : Str} {te : TE} {vs : List Nat} {σ : L2.St} {H : Hp} {Qr : Addr → Hp → Prop} {j : Nat} (f : Nat → V) (hz : x.cps.size ≤ 10000) (hw : ∀ v, wipe ((wipe σ vs).set j (some v)) vs = wipe σ vs)
    (ht : ∀ c ∈ x.cps.toList, ∀ H', Same H H' → Gv te ((wipe σ vs).set j (some (.str ⟨#[c]⟩))) H' (f c)) (q : ∀ D H', H D = none → Same H H' → H' D = some (.lst (x.cps.toList.map f)) → Qr D H') :
    ∀ D, H D = none → ∃ W : Nat → Nat → Hp → Prop, (∃ m, W 0 m (upd H D (.lst []))) ∧ ∀ i m H', W i m H' → ((Its x).stop i H' ∧ Qr D H') ∨ ((Its x).go i H' ∧ ∃ Nx : Hp → Prop, (∀ H', Nx H' → ∃ m', m' < m ∧ W (i + 1) m' H') ∧ ∀ v H2, (Its x).yld i H' v H2 → Turn1 D (gName j) tYes te vs σ v H2 Nx) := by
  intro D hD
  refine ⟨fun i m H' => m = x.cps.size - i ∧ i ≤ x.cps.size ∧ Same H H' ∧ H' D = some (.lst ((x.cps.toList.take i).map f)), ⟨x.cps.size, rfl, Nat.zero_le _, Sx.Same.new hD, upd_same⟩, ?_⟩
  rintro i m H' ⟨rfl, hi, s, hd⟩
  rcases Nat.lt_or_ge i x.cps.size with lt | ge
  · refine .inr ⟨lt, fun H2 => Same H H2 ∧ H2 D = some (.lst ((x.cps.toList.take (i + 1)).map f)), fun H2 p => ⟨x.cps.size - (i + 1), by omega, rfl, lt, p⟩, fun v H2 ⟨e, c, hc, ev⟩ => ?_⟩
    subst e
    subst ev
    have hl : x.cps.toList[i]? = some c := by rw [Array.getElem?_toList]; exact hc
    refine ⟨hw _, ?_⟩
    unfold tYes
    dsimp only
    rw [if_pos rfl]
    refine ht c (List.mem_of_getElem? hl) _ s _ fun H3 s3 => ⟨_, s3 _ _ hd, ?_, Sx.Same.mut (s.trans s3) hD, ?_⟩
    · rw [List.length_map, List.length_take, sizeLine_eq]
      omega
    · rw [upd_same, take_snoc hl, List.map_append]
      rfl
  · have e : i = x.cps.size := Nat.le_antisymm hi ge
    subst e
    refine .inl ⟨Nat.le_refl _, q D H' hD s ?_⟩
    rw [show x.cps.size = x.cps.toList.length from (Array.length_toList).symm, List.take_length] at hd
    exact hd
def okSign (c : Nat) : Bool := (!decide ((⟨#[c]⟩ : Str).cps.toList < ("a" : Str).cps.toList)) && (!decide (("z" : Str).cps.toList < (⟨#[c]⟩ : Str).cps.toList))
def isKindM (x : Str) : Bool := !decide (x = "") && x.cps.toList.all okSign
def spIsKind : Sp := fun vs H Q _ => ∃ x : Str, vs = [.str x] ∧ x.cps.size ≤ 4000 ∧ ∀ H', Same H H' → Q (.bl (isKindM x)) H'
abbrev nIsKind : List Str := ["thing", "sign"]
theorem scIsKind : FnScope nIsKind ["thing"] (defScope sIsKind) := ⟨rfl, rfl, rfl, by decide +kernel, rfl, by decide +kernel, by decide +kernel⟩
theorem ok_isKind {f : Addr} {fd : FuncData} {dvs : List V} (F : FunD K "is_kind" "is_kind" (defArgs sIsKind) (defBody sIsKind) (defScope sIsKind) dvs [] f fd) (B : Blt mg) : FnOk P w K mg base CX0 1 f fd ["thing"] spIsKind := by
  refine F.ok scIsKind (fun vs H Q E h => ?_) (fun cdv A outer s H vs Q E hr h => ?_)
  · obtain ⟨x, rfl, _⟩ := h
    rfl
  · obtain ⟨x, rfl, hz, q⟩ := h
    refine ⟨_, (pss_one (ps_ret (pe_and (pe_callB call_isi (by rfl) B.isinstance bt_isinstance (pa_cons (pv 0) (pa_cons (pe_bltn (v := .ty "str") (by rfl) B.str bt_str rfl) pa_nil)))
      (pe_and (pe_cmpR op_ne (pv 0) pe_str (nomark _)) (pe_one (pe_callB (cr_all rfl) (by rfl) B.all bt_all (pa_cons
        (pe_lc (own := [("sign", 1)]) (g := gName 1) (tt := tYes) rfl scIsKind.nd (pi_str (pv 0)) (blkOk_by (N := nIsKind) (sc := defScope sIsKind) (by decide +kernel)) (fun _ _ _ _ _ => pg_name (i := 1) scIsKind.nd rfl (Or.inl rfl)) (fun _ _ _ _ _ => pts_nil)
          (fun _ _ _ _ _ => pe_chain op_le_str op_le_str pe_str (pv 1) pe_str)) pa_nil))))))).nox, ?_⟩
    refine ⟨_, rfl, .str x, .ty "str", .type "str", .type "str", true, rfl, .ty "str", ?_, kit_ty (by decide +kernel), true, rfl, iteT ?_⟩
    · exact .base (.str x)
    refine ⟨_, rfl, rfl, _, rfl, ?_⟩
    have hQ := q
    unfold isKindM at hQ
    by_cases e : x = ""
    · refine iteNS (by rw [e]) ?_
      rw [decide_eq_true e] at hQ
      exact hQ _ same_id
    · have ne : ¬ (V.str x = V.str "") := fun w => e (V.str.inj w)
      rw [decide_eq_false ne]
      rw [decide_eq_false e] at hQ
      refine iteT ⟨_, rfl, x, rfl, ?_⟩
      refine lc_strs (vs := [1]) (σ := [some (.str x), none]) (fun c => .bl (okSign c)) (by omega) (fun _ => by rfl) (fun c hc H' s' Q h => ?_) (fun D H' hD s' hl => ?_)
      · have hq := h H' same_id
        unfold okSign at hq
        refine ⟨_, rfl, _, _, rfl, rfl, _, rfl, ?_⟩
        cases k : (!decide ((⟨#[c]⟩ : Str).cps.toList < ("a" : Str).cps.toList)) with
        | false =>
          rw [k] at hq
          exact iteF hq
        | true =>
          rw [k] at hq
          exact iteT ⟨_, _, rfl, rfl, hq⟩
      · refine ⟨D, x.cps.toList.map okSign, rfl, SqL.of ?_, ?_⟩
        · rw [hl, List.map_map]
          rfl
        · have ea : (x.cps.toList.map okSign).all id = x.cps.toList.all okSign := by rw [List.all_map]; rfl
          rw [ea]
          exact hQ _ s'
end
end Sx

/-! SxObj -/
/-! Comprehensions whose elements are new objects. -/
namespace Sx
open PySem PySem.Spec PyProof.Rows L2
/-- te lays the object o -/
def Go (te : TE) (σ : L2.St) (H : Hp) (o : HO) : Prop := ∀ Q : VK, (∀ t H', H t = none → Same H H' → H' t = some o → Q (.ref t) H') → te σ H Q
def NewsO {α : Type} (H H' : Hp) (D : Addr) (f : α → HO) (ys : List α) : Prop := Same H H' ∧ ∃ ts : List Addr, H' D = some (.lst (ts.map V.ref)) ∧ Paired (fun t x => H' t = some (f x) ∧ H t = none ∧ t ≠ D) ts ys
section
variable {K : PySem.W.Frag} {a : Addr} {xs : List V} {g : TG} {tt : TT} {te : TE} {vs : List Nat} {σ : L2.St} {H : Hp} {Qr : Addr → Hp → Prop} {α : Type} {zs : List α} {R : V → α → Prop}
theorem objs_core {D : Addr} (f : α → HO) (c : α → Bool) (hp : Paired R xs zs) (hD : H D = none) (hz : xs.length ≤ 10000)
    (hg : ∀ x z, z ∈ zs → R x z → ∀ H', Same H H' → Tst g tt te vs σ x H' (c z) fun te σ H => Go te σ H (f z)) :
    ∀ i x H', xs[i]? = some x → NewsO H H' D f ((zs.take i).filter c) → Turn1 D g tt te vs σ x H' fun H'' => NewsO H H'' D f ((zs.take (i + 1)).filter c) := by
  rintro i x H' hi ⟨s, ts, hd, hpr⟩
  obtain ⟨z, hzi, hR⟩ := paired_get hp hi
  have tk : zs.take (i + 1) = zs.take i ++ [z] := by rw [List.take_add_one, hzi]; rfl
  obtain ⟨σ2, hw, ht, he, hg2⟩ := hg x z (List.mem_of_getElem? hzi) hR H' s
  refine hg2 _ ⟨hw, ht _ fun H2 s2 => ?_⟩
  have stay : ∀ {H3 : Hp}, Same H' H3 → Paired (fun t x => H3 t = some (f x) ∧ H t = none ∧ t ≠ D) ts ((zs.take i).filter c) := fun {H3} s3 => paired_imp (fun t x h => ⟨s3 _ _ h.1, h.2⟩) hpr
  cases hc : c z with
  | true =>
    refine iteT (he hc H2 s2 _ fun t H3 ht3 s3 hn => ⟨ts.map V.ref, s3 _ _ (s2 _ _ hd), ?_, ?_⟩)
    · rw [List.length_map, Paired.length hpr, sizeLine_eq]
      have y := List.length_filter_le c (zs.take i)
      have e := Paired.length hp
      rw [List.length_take] at y
      omega
    · have s13 := s.trans (s2.trans s3)
      have tD : t ≠ D := fun e => by
        rw [e, s2 _ _ hd] at ht3
        cases ht3
      have tn : H t = none := by
        cases z : H t with
        | none => rfl
        | some o => rw [s2 _ _ (s _ _ z)] at ht3; cases ht3
      refine ⟨Sx.Same.mut s13 hD, ts ++ [t], by rw [upd_same, List.map_append]; rfl, ?_⟩
      rw [tk, List.filter_append]
      have e1 : [z].filter c = [z] := by simp [hc]
      rw [e1]
      exact paired_snoc (paired_imp (fun u y h => ⟨by rw [upd_ne h.2.2]; exact h.1, h.2⟩) (stay (s2.trans s3))) ⟨by rw [upd_ne tD]; exact hn, tn, tD⟩
  | false =>
    refine iteF ⟨s.trans s2, ts, s2 _ _ hd, ?_⟩
    rw [tk, List.filter_append]
    have e1 : [z].filter c = [] := by simp [hc]
    rw [e1, List.append_nil]
    exact stay s2
theorem lc_objsL (f : α → HO) (c : α → Bool) (hx : SqL K H a xs) (hp : Paired R xs zs) (hz : xs.length ≤ 10000)
    (hg : ∀ x z, z ∈ zs → R x z → ∀ H', Same H H' → Tst g tt te vs σ x H' (c z) fun te σ H => Go te σ H (f z))
    (q : ∀ D H', H D = none → NewsO H H' D f (zs.filter c) → Qr D H') :
    ∀ D, H D = none → ∃ W : Nat → Nat → Hp → Prop, (∃ m, W 0 m (upd H D (.lst []))) ∧ ∀ i m H', W i m H' → ((Itl K a).stop i H' ∧ Qr D H') ∨ ((Itl K a).go i H' ∧ ∃ Nx : Hp → Prop, (∀ H', Nx H' → ∃ m', m' < m ∧ W (i + 1) m' H') ∧ ∀ x H2, (Itl K a).yld i H' x H2 → Turn1 D g tt te vs σ x H2 Nx) := fun D hD =>
  lc_list (Qd := fun H' => Qr D H') (xs := xs) (fun i H' => NewsO H H' D f ((zs.take i).filter c)) ⟨Same.new hD, [], upd_same, .nil⟩ (fun i H' _ p => Same.seq p.1 hx)
    (objs_core f c hp hD hz hg) fun H' p => q D H' hD (by rw [Paired.length hp, List.take_length] at p; exact p)
theorem lc_objsT (f : α → HO) (c : α → Bool) (hx : SqT K H a xs) (hp : Paired R xs zs) (hz : xs.length ≤ 10000)
    (hg : ∀ x z, z ∈ zs → R x z → ∀ H', Same H H' → Tst g tt te vs σ x H' (c z) fun te σ H => Go te σ H (f z))
    (q : ∀ D H', H D = none → NewsO H H' D f (zs.filter c) → Qr D H') :
    ∀ D, H D = none → ∃ W : Nat → Nat → Hp → Prop, (∃ m, W 0 m (upd H D (.lst []))) ∧ ∀ i m H', W i m H' → ((Itt K a).stop i H' ∧ Qr D H') ∨ ((Itt K a).go i H' ∧ ∃ Nx : Hp → Prop, (∀ H', Nx H' → ∃ m', m' < m ∧ W (i + 1) m' H') ∧ ∀ x H2, (Itt K a).yld i H' x H2 → Turn1 D g tt te vs σ x H2 Nx) := fun D hD =>
  lc_tup (Qd := fun H' => Qr D H') (xs := xs) (fun i H' => NewsO H H' D f ((zs.take i).filter c)) ⟨Same.new hD, [], upd_same, .nil⟩ (fun i H' _ p => sqT_same p.1 hx)
    (objs_core f c hp hD hz hg) fun H' p => q D H' hD (by rw [Paired.length hp, List.take_length] at p; exact p)
end
end Sx

/-! BookG -/
namespace Sx
open PySem PySem.Spec PyProof.Rows L2
def frO (t : Str) : Str := (Txt.partition t "; ").1
def bkO (t : Str) : Str := (Txt.partition t "; ").2.2
def OfOk (t : Str) (ks : List Str) (ps : List (Str × Str)) : Prop :=
  t.length ≤ 4000 ∧ (frO t).length ≤ 4000 ∧ (bkO t).length ≤ 4000 ∧ (if frO t = "-" then [] else Txt.split (frO t) " ") = ks ∧
  (if (bkO t).length = 0 then [] else (Txt.split (bkO t) " ").map fun p => Txt.split p "-") = ps.map (fun c => [c.1, c.2]) ∧ (∀ p ∈ Txt.split (bkO t) " ", p.length ≤ 4000) ∧ ps.length ≤ 1600 ∧
  (∀ k ∈ ks, isKindM k = true ∧ k.cps.size ≤ 100) ∧ ks.Nodup ∧ ks.length ≤ 40 ∧ (∀ c ∈ ps, c.1 ∈ ks ∧ c.2 ∈ ks) ∧ txtM (srt ltS ks) (srt ltP (ps.map nrm)) = t ∧
  ((frontT (srt ltS ks)).length ≤ 10000 ∧ (Txt.join " " ((srt ltP (ps.map nrm)).map pairT)).length ≤ 1000000)
instance (t : Str) (ks : List Str) (ps : List (Str × Str)) : Decidable (OfOk t ks ps) := by unfold OfOk; infer_instance

def spOfB (K : PySem.W.Frag) (C : Addr) : Sp := fun vs H Q _ => ∃ (t : Str) (ks : List Str) (ps : List (Str × Str)), vs = [.str t] ∧ OfOk t ks ps ∧ ∀ a H', Same H H' → BookAt K C H' a (srt ltS ks) (srt ltP (ps.map nrm)) → Q (.ref a) H'
theorem paired_lists {α β : Type} {F : α → β → Prop} {ts : List α} {zs : List γ} {f : γ → β} (h : Paired F ts (zs.map f)) : Paired (fun t z => F t (f z)) ts zs := by
  induction zs generalizing ts with
  | nil => cases h; exact .nil
  | cons z zs ih =>
    cases h with
    | cons r t => exact .cons r (ih t)
theorem paired_mapr {α β γ : Type} {F : α → β → Prop} {G : α → γ → Prop} {f : β → γ} {ts : List α} {zs : List β} (i : ∀ t z, F t z → G t (f z)) (h : Paired F ts zs) : Paired G ts (zs.map f) := by
  induction h with
  | nil => exact .nil
  | cons r _ ih => exact .cons (i _ _ r) ih
section
variable {P : Program} {w : World} {K : PySem.W.Frag} {mg : Str → Option Value} {base : Heap}
abbrev nOf : List Str := ["text", "front", "_", "back", "kinds", "pairs", "book", "part", "kind"]
theorem scOf : FnScope nOf ["text"] (defScope sOf) := ⟨rfl, rfl, rfl, by decide +kernel, rfl, by decide +kernel, by decide +kernel⟩
theorem ok_of {f C : Addr} {fd : FuncData} {dvs : List V} (F : FunD K "of" "Book.of" (defArgs sOf) (defBody sOf) (defScope sOf) dvs [] f fd) (T : TB K mg C) (GB : InitG P w K mg base C) (GI : FnG P w K mg base "is_kind" 1 ["thing"] spIsKind) (GT : PrG P w K mg base C "text" 1 (spText K C)) :
    FnOk P w K mg base CX0 3 f fd ["text"] (spOfB K C) := by
  refine F.ok scOf (fun vs H Q E h => ?_) (fun cdv A outer s H vs Q E hr h => ?_)
  · obtain ⟨t, ks, ps, rfl, _⟩ := h
    rfl
  · obtain ⟨t, ks, ps, rfl, ⟨hl, hfl, hbl, hfr, hbk, hpl, hpn, hkk, hnd, few, hin, htx, hbig⟩, q⟩ := h
    have hu := hu_of hr
    refine ⟨_, (pss_cons (ps_asg (pe_partition (pv 0) pe_str) (pg_tup rfl (pgs_cons (pg_name (i := 1) scOf.nd rfl (Or.inl rfl)) (pgs_cons (pg_name (i := 2) scOf.nd rfl (Or.inl rfl)) (pgs_cons (pg_name (i := 3) scOf.nd rfl (Or.inl rfl)) pgs_nil)))))
      (Evl.pss_cut (ps_set (i := 4) scOf.nd rfl (Or.inl rfl) (pe_ifExp (pt_cmpR op_eq (pv 1) pe_str (nomark _)) (pe_lst pa_nil) (pe_split (pv 1) pe_str)))
      (Evl.pss_cut (ps_set (i := 5) scOf.nd rfl (Or.inl rfl) (pe_ifExp (pt_truth (pv 3) (by intro _; rfl)) (pe_lc (own := [("part", 7)]) (g := gName 7) (tt := tYes) rfl scOf.nd (pi_list (pe_split (pv 3) pe_str)) (blkOk_by (N := nOf) (sc := defScope sOf) (by decide +kernel)) (fun _ _ _ _ _ => pg_name (i := 7) scOf.nd rfl (Or.inl rfl)) (fun _ _ _ _ _ => pts_nil) (fun _ _ _ _ _ => pe_split (pv 7) pe_str)) (pe_lst pa_nil)))
      (pss_cons (ps_if (pt_not (pt_val (pe_callB (cr_all rfl) (by rfl) T.all bt_all (pa_cons (pe_lc (own := [("kind", 8)]) (g := gName 8) (tt := tYes) rfl scOf.nd (pi_list (pv 4)) (blkOk_by (N := nOf) (sc := defScope sOf) (by decide +kernel)) (fun _ _ _ _ _ => pg_name (i := 8) scOf.nd rfl (Or.inl rfl)) (fun _ _ _ _ _ => pts_nil) (fun _ _ _ _ _ => pe_g GI (hr.mono (by decide)) (pa_cons (pv 8) pa_nil))) pa_nil)))) (pss_one ps_never) pss_nil)
      (pss_cons (ps_try_thru0 (pss_one (ps_set (i := 6) scOf.nd rfl (Or.inl rfl) (pe_mk GB hr (pa_cons (pv 4) (pa_cons (pv 5) pa_nil))))))
      (pss_cons (ps_if (pt_cmpR op_ne (pe_pg GT T.cl (pv 6) hr) (pv 0) (nomark _)) (pss_one ps_never) pss_nil)
      (pss_one (ps_ret (pv 6))))))))).nox, ?_⟩
    have line : ∀ {n : Nat}, n ≤ 5000 → n ≤ sizeLine := fun h => Nat.le_trans h (by rw [sizeLine_eq]; decide)
    -- front, _, back
    refine ⟨_, rfl, ⟨_, rfl⟩, t, "; ", rfl, rfl, by decide +kernel, line (by omega), fun p0 hp0 => ?_⟩
    have S0 : Same H (upd H p0 (.tup [.str (Txt.partition t "; ").1, .str (Txt.partition t "; ").2.1, .str (Txt.partition t "; ").2.2])) := Sx.Same.new hp0
    refine ⟨p0, _, rfl, SqT.of upd_same, rfl, _, _, rfl, _, _, rfl, _, _, rfl, rfl, ?_⟩
    generalize upd H p0 (.tup [.str (Txt.partition t "; ").1, .str (Txt.partition t "; ").2.1, .str (Txt.partition t "; ").2.2]) = H0 at S0
    generalize (Txt.partition t "; ").2.1 = mid
    -- kinds
    refine ⟨fun σ' H' => ∃ lk, σ' = [some (.str t), some (.str (frO t)), some (.str mid), some (.str (bkO t)), some (.ref lk), none, none, none, none] ∧ Same H H' ∧ H' lk = some (.lst (ks.map V.str)), ?_, ?_⟩
    · refine ⟨_, rfl, rfl, _, rfl, ?_⟩
      by_cases e : frO t = "-"
      · have e2 : decide (V.str (Txt.partition t "; ").1 = V.str "-") = true := decide_eq_true (by show V.str (frO t) = _; rw [e])
        rw [e2]
        rw [if_pos e] at hfr
        refine iteT ⟨Nat.zero_le _, fun l hl => ⟨l, rfl, S0.trans (Sx.Same.new hl), by rw [upd_same, ← hfr]; rfl⟩⟩
      · have e2 : decide (V.str (Txt.partition t "; ").1 = V.str "-") = false := decide_eq_false fun w => e (V.str.inj w)
        rw [e2]
        rw [if_neg e] at hfr
        refine iteF ⟨_, rfl, ⟨_, rfl⟩, _, " ", rfl, rfl, by decide +kernel, line (by show (frO t).length + 2 ≤ 5000; omega), fun l hl => ⟨l, rfl, S0.trans (Sx.Same.new hl), ?_⟩⟩
        rw [upd_same, ← hfr]
        rfl
    rintro σ1 H1 ⟨lk, rfl, S1, hlk⟩
    -- pairs
    refine ⟨fun σ' H' => ∃ lp ts, σ' = [some (.str t), some (.str (frO t)), some (.str mid), some (.str (bkO t)), some (.ref lk), some (.ref lp), none, none, none] ∧ Same H H' ∧ H' lk = some (.lst (ks.map V.str)) ∧ H' lp = some (.lst (ts.map V.ref)) ∧ Paired (fun t c => H' t = some (.lst [.str c.1, .str c.2])) ts ps, ?_, ?_⟩
    · refine ⟨_, rfl, _, ⟨line (by omega), rfl⟩, ?_⟩
      by_cases e : (bkO t).length = 0
      · have e2 : (((bkO t).length : Int) != 0) = false := by rw [e]; rfl
        rw [e2]
        rw [if_pos e] at hbk
        have ep : ps = [] := by
          cases ps with
          | nil => rfl
          | cons p ps => cases hbk
        refine iteF ⟨Nat.zero_le _, fun l hl => ⟨l, [], rfl, S1.trans (Sx.Same.new hl), Sx.Same.new hl _ _ hlk, by rw [upd_same]; rfl, by rw [ep]; exact .nil⟩⟩
      · have e2 : (((bkO t).length : Int) != 0) = true := by
          rw [bne_iff_ne]
          intro z
          exact e (by exact_mod_cast z)
        rw [e2]
        rw [if_neg e] at hbk
        refine iteT ⟨_, rfl, ⟨_, rfl⟩, _, " ", rfl, rfl, by decide +kernel, line (by omega), fun lb hlb => ?_⟩
        have Sb : Same H1 (upd H1 lb (.lst ((Txt.split (bkO t) " ").map V.str))) := Sx.Same.new hlb
        refine ⟨lb, rfl, ⟨_, SqL.of upd_same⟩, ?_⟩
        have plen : (Txt.split (bkO t) " ").length = ps.length := by
          have y := congrArg List.length hbk
          rw [List.length_map, List.length_map] at y
          exact y
        refine lc_objsL (vs := [7]) (σ := [some (.str t), some (.str (frO t)), some (.str mid), some (.str (bkO t)), some (.ref lk), none, none, none, none]) (fun p : Str => .lst ((Txt.split p "-").map V.str)) (fun _ => true) (SqL.of upd_same) (paired_strs _) (by rw [List.length_map, plen]; omega) (fun x z hz hx H2 s2 => ?_) (fun D H2 hD hN => ?_)
        · subst hx
          refine tst_name (by rfl) gt_yes fun _ H3 s3 Q h => ?_
          have w := hpl z hz
          exact ⟨_, rfl, ⟨_, rfl⟩, z, "-", rfl, rfl, by decide +kernel, line (by omega), fun l hl => h l _ hl (Sx.Same.new hl) upd_same⟩
        · obtain ⟨sN, ts, hD2, hts⟩ := hN
          have ef : (Txt.split (bkO t) " ").filter (fun _ => true) = Txt.split (bkO t) " " := List.filter_eq_self.mpr fun _ _ => rfl
          rw [ef] at hts
          refine ⟨D, ts, rfl, S1.trans (Sb.trans sN), sN _ _ (Sb _ _ hlk), hD2, ?_⟩
          have y : Paired (fun t (x : List Str) => H2 t = some (.lst (x.map V.str))) ts ((Txt.split (bkO t) " ").map fun p => Txt.split p "-") := by
            exact paired_mapr (fun _ _ h => h.1) hts
          rw [hbk] at y
          exact paired_lists (F := fun t (x : List Str) => H2 t = some (.lst (x.map V.str))) (f := fun c : Str × Str => [c.1, c.2]) y
    rintro σ2 H2 ⟨lp, ts, rfl, S2, hlk2, hlp, hts⟩
    -- all([is_kind(kind) for kind in kinds])
    refine ⟨_, rfl, lk, rfl, ⟨_, SqL.of hlk2⟩, ?_⟩
    refine lc_valsL (vs := [8]) (σ := [some (.str t), some (.str (frO t)), some (.str mid), some (.str (bkO t)), some (.ref lk), some (.ref lp), none, none, none]) (fun k : Str => V.bl (isKindM k)) (fun _ => true) (SqL.of hlk2) (paired_strs ks) (by rw [List.length_map]; omega) (fun x z hz hx H3 s3 => ?_) (fun D H3 hD s3 hl => ?_)
    · subst hx
      refine tst_name (by rfl) gt_yes fun _ H4 s4 Q h => ?_
      have w := (hkk z hz).2
      exact ⟨_, rfl, z, rfl, by omega, fun H5 s5 => h H5 s5⟩
    have ef : ks.filter (fun _ => true) = ks := List.filter_eq_self.mpr fun _ _ => rfl
    rw [ef] at hl
    refine ⟨D, ks.map isKindM, rfl, SqL.of (by rw [hl, List.map_map]; rfl), ?_⟩
    have ea : (ks.map isKindM).all id = true := by
      rw [List.all_map, List.all_eq_true]
      exact fun k hk => (hkk k hk).1
    rw [ea]
    refine ⟨_, rfl, iteF ?_⟩
    -- book = Book(kinds, pairs)
    refine ⟨_, rfl, _, rfl, fun a dx na nd ne => ?_⟩
    have S4 : Same H3 (upd (upd H3 dx (.own a)) a (.ins C dx [])) := (Sx.Same.new nd).trans (Sx.Same.new (by rw [upd_ne ne.symm]; exact na))
    have S24 := s3.trans S4
    refine ⟨a, dx, lk, lp, ts, ks, ps, rfl, upd_same, .inl (SqL.of (S24 _ _ hlk2)), .inl (SqL.of (S24 _ _ hlp)), paired_imp (fun u c h => .inl (SqL.of (S24 _ _ h))) hts, hnd, few, hin, fun H5 hB k5 => ⟨rfl, ?_⟩⟩
    have aH : ∀ b o, H b = some o → b ≠ a := fun b o e z => by
      rw [z] at e
      rw [s3 _ _ (S2 _ _ e)] at na
      cases na
    have S5 : Same H H5 := fun b o e => k5 b o (S24 _ _ (S2 _ _ e)) (aH b o e)
    have Sd := std_make few hnd hin
    obtain ⟨dx5, _, _, _, _, _, h5, _⟩ := hB.ex
    have kl : ∀ k ∈ ks, k.length ≤ 100 := fun k hk => (hkk k hk).2
    refine ⟨_, rfl, a, dx5, _, rfl, h5, a, _, _, rfl, hB, Sd.few, std_len Sd, fun k hk => kl k ((mem_srt totS).mp hk), fun c hc => ?_, hbig, fun H6 s6 => ?_⟩
    · obtain ⟨m1, m2⟩ := Sd.inn c hc
      exact ⟨kl _ ((mem_srt totS).mp m1), kl _ ((mem_srt totS).mp m2)⟩
    refine ⟨_, rfl, rfl, _, rfl, iteNS (by rw [htx]) ?_⟩
    exact ⟨_, rfl, q a H6 (S5.trans s6) (hB.same s6)⟩
end
end Sx

/-! LawA -/
namespace Sx
open PySem PySem.Spec PyProof.Rows L2
abbrev sTake : Stmt := top 16
/-- an urn: any number, a number below 2 ^ 62, how often it was asked -/
structure Urn (H : Hp) (u : Addr) (n : Nat) : Prop where
  ex : ∃ a b c : Int, H u = some (.lst [.int a, .int b, .int c]) ∧ -(2 ^ 62) < b ∧ b < 2 ^ 62 ∧ 0 ≤ c ∧ c ≤ n
theorem Urn.more {H : Hp} {u : Addr} {n m : Nat} (U : Urn H u n) (h : n ≤ m) : Urn H u m := by
  obtain ⟨a, b, c, h1, h2, h3, h4, h5⟩ := U.ex
  exact ⟨a, b, c, h1, h2, h3, h4, by omega⟩
def spTake : Sp := fun vs H Q _ => ∃ (u : Addr) (n low : Nat), vs = [.ref u, .int low] ∧ Urn H u n ∧ n < 2 ^ 40 ∧ 0 < low ∧ low < 1000000 ∧ ∀ (k : Nat) H', k < low → Urn H' u (n + 1) → (∀ b, b ≠ u → H' b = H b) → Q (.int k) H'
theorem fm {x l : Int} (h : 0 < l) : 0 ≤ Int.fmod x l ∧ Int.fmod x l < l := by
  rw [Int.fmod_eq_emod_of_nonneg _ (by omega)]
  exact ⟨Int.emod_nonneg _ (by omega), Int.emod_lt_of_pos _ h⟩
section
variable {P : Program} {w : World} {K : PySem.W.Frag} {mg : Str → Option Value} {base : Heap}
abbrev nTake : List Str := ["_law_urn", "_law_low_so", "_law_drawn", "_law_once", "_law_far", "_law_twice"]
theorem scTake : FnScope nTake ["_law_urn", "_law_low_so"] (defScope sTake) := ⟨rfl, rfl, rfl, by decide +kernel, rfl, by decide +kernel, by decide +kernel⟩
theorem ok_take {f : Addr} {fd : FuncData} {dvs : List V} (F : FunD K "_law_take" "_law_take" (defArgs sTake) (defBody sTake) (defScope sTake) dvs [] f fd) (B : Blt mg) : FnOk P w K mg base CX0 1 f fd ["_law_urn", "_law_low_so"] spTake := by
  refine F.ok scTake (fun vs H Q E h => ?_) (fun cdv A outer s H vs Q E hr h => ?_)
  · obtain ⟨u, n, low, rfl, _⟩ := h
    rfl
  · obtain ⟨u, n, low, rfl, ⟨a, b, c, hu, b1, b2, c1, c2⟩, hn, l0, l1, q⟩ := h
    refine ⟨_, (pss_cons (ps_if (pt_cmpR op_gt (pe_ix ix_list (pv 0) pe_int (fun _ _ => rfl)) pe_int (nomark _))
        (pss_cons (ps_set (i := 2) scTake.nd rfl (Or.inl rfl) (pe_op op_modN (pe_callTy call_int1 (by rfl) B.int bt_int (pa_cons (pe_ix ix_list (pv 0) pe_int (fun _ _ => rfl)) pa_nil)) (pv 1)))
        (pss_cons (ps_asg (pe_op op_fdivN (pe_ix ix_list (pv 0) pe_int (fun _ _ => rfl)) (pv 1)) (pg_sub (pv 0) pe_int set_list))
        (pss_one (ps_ret (pv 2))))) pss_nil)
      (pss_cons (ps_asg (pe_op op_add (pe_ix ix_list (pv 0) pe_int (fun _ _ => rfl)) pe_int) (pg_sub (pv 0) pe_int set_list))
      (pss_cons (ps_set (i := 3) scTake.nd rfl (Or.inl rfl) (pe_op op_modN (pe_callTy call_int1 (by rfl) B.int bt_int (pa_cons (pe_op op_mul (pe_op op_add (pe_ix ix_list (pv 0) pe_int (fun _ _ => rfl)) (pe_op op_mul pe_int (pe_ix ix_list (pv 0) pe_int (fun _ _ => rfl)))) (pe_op op_add pe_int (pe_ix ix_list (pv 0) pe_int (fun _ _ => rfl)))) pa_nil)) pe_int))
      (pss_cons (ps_set (i := 4) scTake.nd rfl (Or.inl rfl) (pe_op op_add (pe_op op_modN (pe_callTy call_int1 (by rfl) B.int bt_int (pa_cons (pv 3) pa_nil)) pe_int) pe_int))
      (pss_cons (ps_set (i := 5) scTake.nd rfl (Or.inl rfl) (pe_op op_modN (pe_callTy call_int1 (by rfl) B.int bt_int (pa_cons (pe_op op_mul (pe_op op_add (pe_op op_add (pv 3) (pe_ix ix_list (pv 0) pe_int (fun _ _ => rfl))) (pe_op op_fdivN (pe_ix ix_list (pv 0) pe_int (fun _ _ => rfl)) pe_int)) (pv 4)) pa_nil)) pe_int))
      (pss_one (ps_ret (pe_op op_modN (pe_callTy call_int1 (by rfl) B.int bt_int (pa_cons (pe_op op_fdivN (pe_op op_modN (pe_callTy call_int1 (by rfl) B.int bt_int (pa_cons (pe_op op_add (pe_op op_mul (pv 5) pe_int) (pv 3)) pa_nil)) pe_int) pe_int) pa_nil)) (pv 1))))))))).nox, ?_⟩
    have e0 : ([V.int a, V.int b, V.int c])[0]? = some (.int a) := rfl
    refine ⟨_, rfl, u, _, _, .int a, rfl, rfl, SqL.of hu, atI_nat (j := 0) rfl, _, _, rfl, rfl, _, rfl, ?_⟩
    have lz : (low : Int) ≠ 0 := by omega
    have nat : ∀ {i : Int} {k : Nat}, 0 ≤ i → i.toNat = k → V.int i = V.int (k : Nat) := fun {i k} h e => by rw [← e, Int.toNat_of_nonneg h]
    by_cases ha : (0 : Int) < a
    · rw [decide_eq_true ha]
      refine iteT ⟨_, rfl, u, _, _, .int a, rfl, rfl, SqL.of hu, atI_nat (j := 0) rfl, .inl ⟨_, rfl, _, rfl, _, _, rfl, rfl, lz, ?_⟩⟩
      refine ⟨_, rfl, u, _, _, .int a, rfl, rfl, SqL.of hu, atI_nat (j := 0) rfl, _, rfl, _, _, rfl, rfl, ⟨lz, by omega⟩, _, rfl, u, _, _, 0, rfl, rfl, hu, rfl, ?_⟩
      obtain ⟨f0, f1⟩ := fm (x := a) (l := low) (by omega)
      refine ⟨_, rfl, ?_⟩
      show Q (V.int (Int.fmod a low)) _
      have e : Int.fmod a low = ((Int.fmod a low).toNat : Int) := (Int.toNat_of_nonneg f0).symm
      rw [e]
      exact q _ _ (by omega) ⟨_, b, c, upd_same, b1, b2, c1, by omega⟩ fun x hx => upd_ne hx
    · rw [decide_eq_false ha]
      refine iteF ?_
      refine ⟨_, rfl, u, _, _, .int c, rfl, rfl, SqL.of hu, atI_nat (j := 2) rfl, _, _, rfl, rfl, _, rfl, u, _, _, 2, rfl, rfl, hu, rfl, ?_⟩
      have hu2 : (upd H u (.lst ([V.int a, V.int b, V.int c].set 2 (.int (c + 1))))) u = some (.lst [.int a, .int b, .int (c + 1)]) := upd_same
      have keep : ∀ x, x ≠ u → (upd H u (.lst ([V.int a, V.int b, V.int c].set 2 (.int (c + 1))))) x = H x := fun x hx => upd_ne hx
      generalize upd H u (.lst ([V.int a, V.int b, V.int c].set 2 (.int (c + 1)))) = H2 at hu2 keep
      have c3 : 0 ≤ c + 1 := by omega
      have c4 : c + 1 ≤ 2 ^ 40 := by omega
      have urn : Urn H2 u (n + 1) := ⟨a, b, c + 1, hu2, b1, b2, c3, by omega⟩
      generalize c + 1 = d at hu2 c3 c4
      have nz : ∀ (j : Int), j ≠ 0 → j ≠ 0 := fun _ h => h
      have nd : ∀ (j : Int), (j ≠ 0 ∧ j.natAbs < 1073741824) → (j ≠ 0 ∧ j.natAbs < 1073741824) := fun _ h => h
      have m1 : ∀ x : Int, 0 ≤ Int.fmod x 2147483647 ∧ Int.fmod x 2147483647 < 2147483647 := fun x => fm (by decide)
      have m2 : ∀ x : Int, 0 ≤ Int.fmod x 40009 ∧ Int.fmod x 40009 < 40009 := fun x => fm (by decide)
      have m3 : ∀ x : Int, 0 ≤ Int.fmod x 2147483629 ∧ Int.fmod x 2147483629 < 2147483629 := fun x => fm (by decide)
      have dv : -(2 ^ 62) ≤ Int.fdiv b 1000003 ∧ Int.fdiv b 1000003 ≤ 2 ^ 62 := by
        rw [Int.fdiv_eq_ediv_of_nonneg _ (by decide)]
        omega
      refine ⟨_, rfl, u, _, _, .int b, rfl, rfl, SqL.of hu2, atI_nat (j := 1) rfl, _, rfl, u, _, _, .int d, rfl, rfl, SqL.of hu2, atI_nat (j := 2) rfl, _, _, rfl, rfl, .inl ⟨by decide, by decide⟩, _, _, rfl, rfl, ?_⟩
      refine ⟨_, rfl, u, _, _, .int d, rfl, rfl, SqL.of hu2, atI_nat (j := 2) rfl, _, _, rfl, rfl, _, _, rfl, rfl, .inl ⟨by omega, by omega⟩, .inl ⟨_, rfl, _, _, rfl, rfl, nz _ (by decide), ?_⟩⟩
      obtain ⟨o1, o2⟩ := m1 ((b + 48271 * d) * (39373 + d))
      refine ⟨_, rfl, .inl ⟨_, rfl, _, _, rfl, rfl, nz _ (by decide), _, _, rfl, rfl, ?_⟩⟩
      obtain ⟨f1, f2⟩ := m2 (Int.fmod ((b + 48271 * d) * (39373 + d)) 2147483647)
      refine ⟨_, rfl, _, rfl, u, _, _, .int d, rfl, rfl, SqL.of hu2, atI_nat (j := 2) rfl, _, _, rfl, rfl, ?_⟩
      refine ⟨_, rfl, u, _, _, .int b, rfl, rfl, SqL.of hu2, atI_nat (j := 1) rfl, _, _, rfl, rfl, nd _ (by decide), _, _, rfl, rfl, _, rfl, _, _, rfl, rfl, .inl ⟨by omega, by omega⟩, .inl ⟨_, rfl, _, _, rfl, rfl, nz _ (by decide), ?_⟩⟩
      obtain ⟨t1, t2⟩ := m3 ((Int.fmod ((b + 48271 * d) * (39373 + d)) 2147483647 + d + Int.fdiv b 1000003) * (Int.fmod (Int.fmod ((b + 48271 * d) * (39373 + d)) 2147483647) 40009 + 7))
      refine ⟨_, rfl, _, _, rfl, rfl, .inl ⟨by omega, by omega⟩, _, rfl, _, _, rfl, rfl, .inl ⟨_, rfl, _, _, rfl, rfl, nz _ (by decide), _, _, rfl, rfl, nd _ (by decide), .inl ⟨_, rfl, _, rfl, _, _, rfl, rfl, lz, ?_⟩⟩⟩
      have g0 : ∀ x : Int, 0 ≤ Int.fmod x low := fun x => (fm (by omega)).1
      have g1 : ∀ x : Int, Int.fmod x low < low := fun x => (fm (by omega)).2
      show Q (V.int (Int.fmod _ low)) _
      generalize Int.fdiv (Int.fmod _ 2147483587) 64 = z
      have z0 := g0 z
      have z1 := g1 z
      have e : Int.fmod z low = ((Int.fmod z low).toNat : Int) := (Int.toNat_of_nonneg z0).symm
      rw [e]
      exact q _ _ (by omega) urn keep
end
end Sx

/-! LawB -/
namespace Sx
open PySem PySem.Spec PyProof.Rows L2
abbrev sLOf : Stmt := top 18
abbrev sMixed : Stmt := top 20
abbrev sCross : Stmt := top 22
/-- all but what stands at u stays -/
def SameU (u : Addr) (H H' : Hp) : Prop := ∀ b o, H b = some o → b ≠ u → H' b = some o
theorem SameU.trans {u : Addr} {H H' H2 : Hp} (a : SameU u H H') (b : SameU u H' H2) : SameU u H H2 := fun c o e n => b c o (a c o e n) n
theorem SameU.id {u : Addr} {H : Hp} : SameU u H H := fun _ _ e _ => e
theorem SameU.of {u : Addr} {H H' : Hp} (s : Same H H') : SameU u H H' := fun b o e _ => s b o e
theorem SameU.but {u : Addr} {H H' : Hp} (s : ∀ b, b ≠ u → H' b = H b) : SameU u H H' := fun b o e n => by rw [s b n]; exact e
theorem SameU.mut {u : Addr} {H H' : Hp} {p : Addr} {o : HO} (e : SameU u H H') (h : H p = none) : SameU u H (upd H' p o) := fun b x q n => by
  rw [upd_ne (ne_of_none q h)]
  exact e b x q n
theorem SameU.sqL {K : PySem.W.Frag} {u a : Addr} {H H' : Hp} {xs : List V} (s : SameU u H H') (h : SqL K H a xs) (n : a ≠ u) : SqL K H' a xs := by
  rcases h with (h | ⟨o, h⟩) | h
  · exact .inl (.inl (s _ _ h n))
  · exact .inl (.inr ⟨o, s _ _ h n⟩)
  · exact .inr h
theorem Urn.is {H : Hp} {u : Addr} {n : Nat} (U : Urn H u n) : ∃ o, H u = some (.lst o) := let ⟨_, _, _, h, _⟩ := U.ex; ⟨_, h⟩
theorem Urn.ne {H : Hp} {u p : Addr} {n : Nat} {o : HO} (U : Urn H u n) (h : H p = some o) (k : ∀ xs, o ≠ .lst xs) : p ≠ u := fun z => by
  obtain ⟨x, e⟩ := U.is
  rw [z, e] at h
  cases h
  exact k _ rfl
theorem SameU.sqT {K : PySem.W.Frag} {u a : Addr} {n : Nat} {H H' : Hp} {xs : List V} (s : SameU u H H') (U : Urn H u n) (h : SqT K H a xs) : SqT K H' a xs := by
  rcases h with (h | ⟨o, h⟩) | h
  · exact .inl (.inl (s _ _ h (U.ne h fun _ z => nomatch z)))
  · exact .inl (.inr ⟨o, s _ _ h (U.ne h fun _ z => nomatch z)⟩)
  · exact .inr h
theorem Urn.same {H H' : Hp} {u : Addr} {n : Nat} (U : Urn H u n) (s : Same H H') : Urn H' u n := by
  obtain ⟨a, b, c, h, r⟩ := U.ex
  exact ⟨a, b, c, s _ _ h, r⟩
theorem Urn.upd {H : Hp} {u p : Addr} {n : Nat} {o : HO} (U : Urn H u n) (h : p ≠ u) : Urn (upd H p o) u n := by
  obtain ⟨a, b, c, e, r⟩ := U.ex
  exact ⟨a, b, c, by rw [upd_ne h.symm]; exact e, r⟩
def spLOf (K : PySem.W.Frag) : Sp := fun vs H Q _ => ∃ (u p : Addr) (n : Nat) (xs : List V), vs = [.ref u, .ref p] ∧ Urn H u n ∧ n < 2 ^ 40 ∧ SqL K H p xs ∧ p ≠ u ∧ 0 < xs.length ∧ xs.length < 1000000 ∧
  ∀ (k : Nat) v H', xs[k]? = some v → Urn H' u (n + 1) → SameU u H H' → Q v H'
def spMixed (K : PySem.W.Frag) : Sp := fun vs H Q _ => ∃ (u p : Addr) (n : Nat) (xs : List V), vs = [.ref u, .ref p] ∧ Urn H u n ∧ n + xs.length < 2 ^ 40 ∧ Sq K H p xs ∧ p ≠ u ∧ xs.length < 100000 ∧
  ∀ l (ys : List V) H', ys.Perm xs → H l = none → H' l = some (.lst ys) → Urn H' u (n + xs.length) → SameU u H H' → Q (.ref l) H'
def crossM {α : Type} (xs ys : List α) : List (α × α) := xs.flatMap fun a => ys.map fun b => (a, b)
def Prn (H H' : Hp) (l : Addr) (cs : List (Str × Str)) : Prop := ∃ ts : List Addr, H' l = some (.lst (ts.map V.ref)) ∧ Paired (fun t c => H' t = some (.tup [.str c.1, .str c.2]) ∧ H t = none) ts cs
def spCross (K : PySem.W.Frag) : Sp := fun vs H Q _ => ∃ (p q : Addr) (xs ys : List Str), vs = [.ref p, .ref q] ∧ Sq K H p (xs.map V.str) ∧ Sq K H q (ys.map V.str) ∧ xs.length ≤ 100 ∧ ys.length ≤ 100 ∧
  ∀ l H', Same H H' → H l = none → Prn H H' l (crossM xs ys) → Q (.ref l) H'
theorem perm_erase {α : Type} : ∀ (l : List α) (k : Nat) (h : k < l.length), (l[k] :: l.eraseIdx k).Perm l
  | x :: l, 0, _ => List.Perm.refl _
  | x :: l, k + 1, h => by
    show (l[k]'(by simpa using h) :: x :: l.eraseIdx k).Perm (x :: l)
    exact (List.Perm.swap _ _ _).trans ((perm_erase l k (by simpa using h)).cons x)
theorem paired_app {α β : Type} {F : α → β → Prop} {as bs : List α} {ys zs : List β} (h : Paired F as ys) (g : Paired F bs zs) : Paired F (as ++ bs) (ys ++ zs) := by
  induction h with
  | nil => exact g
  | cons r _ ih => exact .cons r ih
theorem seqIx {k n : Nat} (h : k < n) : seqIndex? (k : Int) n = some k := by
  unfold seqIndex?
  have h1 : ¬ ((k : Int) < 0) := by omega
  have h2 : (decide ((0 : Int) ≤ k) && decide ((k : Int) < n)) = true := by
    rw [Bool.and_eq_true, decide_eq_true_eq, decide_eq_true_eq]
    omega
  simp only [if_neg h1, h2, if_true, Int.toNat_natCast]
section
variable {P : Program} {w : World} {K : PySem.W.Frag} {mg : Str → Option Value} {base : Heap}
abbrev nLOf : List Str := ["_law_urn", "_law_some_so"]
theorem scLOf : FnScope nLOf ["_law_urn", "_law_some_so"] (defScope sLOf) := ⟨rfl, rfl, rfl, by decide +kernel, rfl, by decide +kernel, by decide +kernel⟩
abbrev TakeG (P : Program) (w : World) (K : PySem.W.Frag) (mg : Str → Option Value) (base : Heap) : Prop := FnG P w K mg base "_law_take" 1 ["_law_urn", "_law_low_so"] spTake
theorem ok_lof {f : Addr} {fd : FuncData} {dvs : List V} (F : FunD K "_law_of" "_law_of" (defArgs sLOf) (defBody sLOf) (defScope sLOf) dvs [] f fd) (B : Blt mg) (GT : TakeG P w K mg base) : FnOk P w K mg base CX0 2 f fd ["_law_urn", "_law_some_so"] (spLOf K) := by
  refine F.ok scLOf (fun vs H Q E h => ?_) (fun cdv A outer s H vs Q E hr h => ?_)
  · obtain ⟨u, p, n, xs, rfl, _⟩ := h
    rfl
  · obtain ⟨u, p, n, xs, rfl, U, hn, hx, ne, l0, l1, q⟩ := h
    refine ⟨_, (pss_one (ps_ret (pe_ix ix_list (pv 1) (pe_g GT hr (pa_cons (pv 0) (pa_cons (pe_callB call_len_seq (by rfl) B.len PySem.boot_len (pa_cons (pv 1) pa_nil)) pa_nil))) (fun _ _ => rfl)))).nox, ?_⟩
    refine ⟨_, rfl, _, rfl, _, rfl, p, xs, rfl, .inl hx, u, n, xs.length, rfl, U, hn, l0, l1, fun k H' lt U' k' => ?_⟩
    have S : SameU u H H' := SameU.but k'
    exact ⟨p, xs, _, xs[k], rfl, rfl, S.sqL hx ne, atI_nat (j := k) (List.getElem?_eq_getElem lt), q k _ H' (List.getElem?_eq_getElem lt) U' S⟩
abbrev nMixed : List Str := ["_law_urn", "_law_pool", "_law_rest_so", "_law_found", "_law_turn"]
theorem scMixed : FnScope nMixed ["_law_urn", "_law_pool"] (defScope sMixed) := ⟨rfl, rfl, rfl, by decide +kernel, rfl, by decide +kernel, by decide +kernel⟩
theorem ok_mixed {f : Addr} {fd : FuncData} {dvs : List V} (F : FunD K "_law_mixed" "_law_mixed" (defArgs sMixed) (defBody sMixed) (defScope sMixed) dvs [] f fd) (B : Blt mg) (GT : TakeG P w K mg base) : FnOk P w K mg base CX0 2 f fd ["_law_urn", "_law_pool"] (spMixed K) := by
  refine F.ok scMixed (fun vs H Q E h => ?_) (fun cdv A outer s H vs Q E hr h => ?_)
  · obtain ⟨u, p, n, xs, rfl, _⟩ := h
    rfl
  · obtain ⟨u, p, n, xs, rfl, U, hn, hx, ne, l1, q⟩ := h
    refine ⟨_, (pss_cons (ps_par (i := 2) (j := 3) (by rfl) scMixed.nd rfl rfl (by decide) rfl rfl (pa_cons (pe_callTy (r := fun xs H Q => ∃ p ys, xs = [.ref p] ∧ (SqL K H p ys ∨ SqT K H p ys) ∧ ∀ l, H l = none → Q (.ref l) (upd H l (.lst ys))) call_list_of (by rfl) B.list bt_list (pa_cons (pv 1) pa_nil)) (pa_cons (pe_lst pa_nil) pa_nil)) (by rfl))
      (Evl.pss_cut (ps_for PassesOwn.never rfl (pi_range1 (by rfl) B.range (pa_cons (pe_callB call_len_seq (by rfl) B.len PySem.boot_len (pa_cons (pv 1) pa_nil)) pa_nil)) (pg_name (i := 4) scMixed.nd rfl (Or.inl rfl))
        (pss_one (ps_expr (pe_bm PySem.F.plainAttrs_list PySem.F.slot_list_append PySem.F.type_list_append mt_append (pv 3) (pa_cons (pe_bm PySem.F.plainAttrs_list PySem.F.slot_list_pop PySem.F.type_list_pop mt_popAt (pv 2) (pa_cons (pe_g GT hr (pa_cons (pv 0) (pa_cons (pe_callB call_len_seq (by rfl) B.len PySem.boot_len (pa_cons (pv 2) pa_nil)) pa_nil))) pa_nil)) pa_nil)))))
      (pss_one (ps_ret (pv 3))))).nox, ?_⟩
    refine ⟨_, rfl, p, xs, rfl, hx, fun r hr0 => ⟨Nat.zero_le _, fun l hl => ⟨_, _, rfl, ?_⟩⟩⟩
    have rl : r ≠ l := fun e => by rw [← e, upd_same] at hl; cases hl
    have hl0 : H l = none := by rw [upd_ne rl.symm] at hl; exact hl
    obtain ⟨ou, hou⟩ := U.is
    have ru : r ≠ u := fun e => by rw [e, hou] at hr0; cases hr0
    have lu : l ≠ u := fun e => by rw [e, hou] at hl0; cases hl0
    have S1 : Same H (upd (upd H r (.lst xs)) l (.lst [])) := (Sx.Same.new hr0).trans (Sx.Same.new hl)
    have h1r : (upd (upd H r (.lst xs)) l (.lst [])) r = some (.lst xs) := by rw [upd_ne rl, upd_same]
    have h1l : (upd (upd H r (.lst xs)) l (.lst [])) l = some (.lst []) := upd_same
    generalize upd (upd H r (.lst xs)) l (.lst []) = H1 at S1 h1r h1l
    refine ⟨fun σ' H' => ∃ v4 ys, σ' = [some (.ref u), some (.ref p), some (.ref r), some (.ref l), v4] ∧ SameU u H H' ∧ Urn H' u (n + xs.length) ∧ H' l = some (.lst ys) ∧ ys.Perm xs, ?_, ?_⟩
    · have big : xs.length < 2 ^ 62 := by omega
      refine ⟨_, rfl, p, xs, rfl, hx.imp (Same.seq S1) (sqT_same S1), xs.length, rfl, by omega, by omega, ?_⟩
      refine for_range (lo := 0) (n := xs.length) (fun i σ' H' => ∃ v4 rs ys, σ' = [some (.ref u), some (.ref p), some (.ref r), some (.ref l), v4] ∧ SameU u H H' ∧ Urn H' u (n + i) ∧ H' r = some (.lst rs) ∧ H' l = some (.lst ys) ∧ (ys ++ rs).Perm xs ∧ rs.length + i = xs.length)
        ⟨none, xs, [], rfl, SameU.of S1, U.same S1, h1r, h1l, List.Perm.refl _, rfl⟩ ?_ ?_
      · rintro i σ' H' hi ⟨v4, rs, ys, rfl, S, U', hr', hl', pm, len⟩
        refine ⟨_, rfl, .inl ⟨rfl, _, SqL.of hl'⟩, _, rfl, .inl ⟨rfl, _, SqL.of hr'⟩, ?_⟩
        refine ⟨_, rfl, _, rfl, r, rs, rfl, .inl (SqL.of hr'), u, n + i, rs.length, rfl, U', by omega, by omega, by omega, fun k H2 hk U2 k2 => ?_⟩
        have hr2 : H2 r = some (.lst rs) := by rw [k2 r ru]; exact hr'
        have hl2 : H2 l = some (.lst ys) := by rw [k2 l lu]; exact hl'
        refine ⟨r, rs, k, k, rs[k], rfl, rfl, hr2, by omega, by omega, seqIx hk, List.getElem?_eq_getElem hk, ?_⟩
        have pml := pm.length_eq
        rw [List.length_append] at pml
        refine ⟨l, ys, _, rfl, rfl, by rw [upd_ne rl.symm]; exact hl2, by rw [sizeLine_eq]; omega, ?_⟩
        refine ⟨_, rs.eraseIdx k, ys ++ [rs[k]], rfl, ((S.trans (SameU.but k2)).mut hr0).mut hl0, (U2.upd ru).upd lu, by rw [upd_ne rl, upd_same], upd_same, ?_, ?_⟩
        · rw [List.append_assoc, List.singleton_append]
          exact ((perm_erase rs k hk).append_left ys).trans pm
        · rw [List.length_eraseIdx_of_lt hk]
          omega
      · rintro σ' H' ⟨v4, rs, ys, rfl, S, U', hr', hl', pm, len⟩
        have e : rs = [] := List.length_eq_zero_iff.mp (by omega)
        rw [e, List.append_nil] at pm
        exact ⟨v4, ys, rfl, S, U', hl', pm⟩
    rintro σ' H' ⟨v4, ys, rfl, S, U', hl', pm⟩
    exact ⟨_, rfl, q l ys H' pm hl0 hl' U' S⟩
abbrev nCross : List Str := ["_law_some_so", "_law_more_so", "_law_found", "_law_own", "_law_bit"]
theorem scCross : FnScope nCross ["_law_some_so", "_law_more_so"] (defScope sCross) := ⟨rfl, rfl, rfl, by decide +kernel, rfl, by decide +kernel, by decide +kernel⟩
theorem ok_cross {f : Addr} {fd : FuncData} {dvs : List V} (F : FunD K "_law_cross" "_law_cross" (defArgs sCross) (defBody sCross) (defScope sCross) dvs [] f fd) (B : Blt mg) : FnOk P w K mg base CX0 1 f fd ["_law_some_so", "_law_more_so"] (spCross K) := by
  refine F.ok scCross (fun vs H Q E h => ?_) (fun cdv A outer s H vs Q E hr h => ?_)
  · obtain ⟨p, q, xs, ys, rfl, _⟩ := h
    rfl
  · obtain ⟨p, q', xs, ys, rfl, hx, hy, lx, ly, q⟩ := h
    refine ⟨_, (pss_cons (ps_set (i := 2) scCross.nd rfl (Or.inl rfl) (pe_lst pa_nil))
      (Evl.pss_cut (ps_for PassesOwn.never rfl (pi_sq (pv 0)) (pg_name (i := 3) scCross.nd rfl (Or.inr rfl))
        (pss_one (ps_set (i := 2) scCross.nd rfl (Or.inl rfl) (pe_op op_cat (pv 2) (pe_lc (own := [("_law_bit", 4)]) (g := gName 4) (tt := tYes) rfl scCross.nd (pi_sq (pv 1)) (blkOk_by (N := nCross) (sc := defScope sCross) (by decide +kernel)) (fun _ _ _ _ _ => pg_name (i := 4) scCross.nd rfl (Or.inl rfl)) (fun _ _ _ _ _ => pts_nil) (fun _ _ _ _ _ => pe_tup (pa_cons (pv 3) (pa_cons (pv 4) pa_nil))))))))
      (pss_one (ps_ret (pv 2))))).nox, ?_⟩
    refine ⟨Nat.zero_le _, fun l0 hl0 => ?_⟩
    refine ⟨fun σ' H' => ∃ v3 lf, σ' = [some (.ref p), some (.ref q'), some (.ref lf), v3, none] ∧ Same H H' ∧ H lf = none ∧ Prn H H' lf (crossM xs ys), ?_, ?_⟩
    · refine for_sq (i := 0) (Hx := H) rfl hx (fun i σ' H' => ∃ v3 lf, σ' = [some (.ref p), some (.ref q'), some (.ref lf), v3, none] ∧ Same H H' ∧ H lf = none ∧ Prn H H' lf (crossM (xs.take i) ys))
        ⟨none, l0, rfl, Sx.Same.new hl0, hl0, [], upd_same, .nil⟩ (fun i σ' H' ⟨_, _, _, S, _⟩ => S) ?_ ?_
      · rintro i x σ' H' hi ⟨v3, lf, rfl, S, hlf, ts, hts, hpr⟩
        rw [List.getElem?_map] at hi
        obtain ⟨a, ha, rfl⟩ := Option.map_eq_some_iff.mp hi
        have ll : ts.length = (crossM (xs.take i) ys).length := Paired.length hpr
        have lc : ∀ zs : List Str, (crossM zs ys).length = zs.length * ys.length := fun zs => by
          induction zs with
          | nil => simp [crossM]
          | cons z zs ih =>
            show (ys.map (fun b => (z, b)) ++ crossM zs ys).length = _
            rw [List.length_append, ih, List.length_map, List.length_cons, Nat.add_mul, Nat.one_mul, Nat.add_comm]
        have tb : ts.length ≤ 10000 := by
          rw [ll, lc]
          have h1 : (xs.take i).length ≤ 100 := by rw [List.length_take]; omega
          exact Nat.le_trans (Nat.mul_le_mul h1 ly) (by decide)
        have done : ∀ D H2, H' D = none → News1 H' H2 D (fun b : Str => [V.str a, V.str b]) ys → ∃ us : List Addr, H2 D = some (.lst (us.map V.ref)) ∧ H2 lf = some (.lst (ts.map V.ref)) ∧ (ts.map V.ref).length + (us.map V.ref).length ≤ sizeLine ∧ ∀ p2, H2 p2 = none → Same H (upd H2 p2 (.lst (ts.map V.ref ++ us.map V.ref))) ∧ H p2 = none ∧ Prn H (upd H2 p2 (.lst (ts.map V.ref ++ us.map V.ref))) p2 (crossM (xs.take (i + 1)) ys) := by
          rintro D H2 hD ⟨s2, us, hus, hpu⟩
          refine ⟨us, hus, s2 _ _ hts, ?_, fun p2 hp2 => ?_⟩
          · rw [List.length_map, List.length_map, Paired.length hpu, sizeLine_eq]
            omega
          · have p2H : H p2 = none := by
              cases z : H p2 with
              | none => rfl
              | some o => rw [s2 _ _ (S _ _ z)] at hp2; cases hp2
            have Sn : Same H2 (upd H2 p2 (.lst (ts.map V.ref ++ us.map V.ref))) := Sx.Same.new hp2
            refine ⟨S.trans (s2.trans Sn), p2H, ts ++ us, by rw [upd_same, List.map_append], ?_⟩
            have e : crossM (xs.take (i + 1)) ys = crossM (xs.take i) ys ++ ys.map fun b => (a, b) := by
              unfold crossM
              rw [take_snoc ha, List.flatMap_append, List.flatMap_cons, List.flatMap_nil, List.append_nil]
            rw [e]
            refine paired_app (paired_imp (fun t c h => ⟨Sn _ _ (s2 _ _ h.1), h.2⟩) hpr) (paired_mapr (fun t b h => ⟨Sn _ _ h.1, ?_⟩) hpu)
            cases z : H t with
            | none => rfl
            | some o => exact absurd (S _ _ z) (by rw [h.2.1]; exact fun y => nomatch y)
        refine ⟨_, rfl, ?_⟩
        have turn : ∀ x z, z ∈ ys → x = V.str z → ∀ H3, Same H' H3 → Tst (gName 4) tYes (tTup (tCons (tVar 3) (tCons (tVar 4) tNil))) [4] [some (.ref p), some (.ref q'), some (.ref lf), some (.str a), none] x H3 true fun te σ H => Gu te σ H [V.str a, V.str z] := fun x z hz hx H3 s3 => by
          subst hx
          refine tst_name (by rfl) gt_yes fun _ H4 s4 Q h => ?_
          exact ⟨_, rfl, _, rfl, (by show 2 ≤ sizeLine; decide), fun t ht => h t _ ht (Sx.Same.new ht) upd_same⟩
        have ef : ys.filter (fun _ => true) = ys := List.filter_eq_self.mpr fun _ _ => rfl
        rcases hy with hy | hy
        · refine .inl ⟨_, rfl, q', rfl, ⟨_, Same.seq S hy⟩, ?_⟩
          refine lc_newsL (fun b : Str => [V.str a, V.str b]) (fun _ => true) (Same.seq S hy) (paired_strs ys) (by rw [List.length_map]; omega) turn (fun D H2 hD hN => ?_)
          rw [ef] at hN
          obtain ⟨us, h1, h2, h3, h4⟩ := done D H2 hD hN
          exact ⟨lf, D, _, _, rfl, rfl, h2, h1, h3, fun p2 hp2 => let ⟨a1, a2, a3⟩ := h4 p2 hp2; ⟨_, p2, rfl, a1, a2, a3⟩⟩
        · refine .inr ⟨_, rfl, q', rfl, ⟨_, sqT_same S hy⟩, ?_⟩
          refine lc_newsT (fun b : Str => [V.str a, V.str b]) (fun _ => true) (sqT_same S hy) (paired_strs ys) (by rw [List.length_map]; omega) turn (fun D H2 hD hN => ?_)
          rw [ef] at hN
          obtain ⟨us, h1, h2, h3, h4⟩ := done D H2 hD hN
          exact ⟨lf, D, _, _, rfl, rfl, h2, h1, h3, fun p2 hp2 => let ⟨a1, a2, a3⟩ := h4 p2 hp2; ⟨_, p2, rfl, a1, a2, a3⟩⟩
      · rintro σ' H' ⟨v3, lf, rfl, S, hlf, R⟩
        rw [List.length_map, List.take_length] at R
        exact ⟨v3, lf, rfl, S, hlf, R⟩
    rintro σ' H' ⟨v3, lf, rfl, S, hlf, R⟩
    exact ⟨_, rfl, q lf H' S hlf R⟩
end
end Sx

/-! SxData -/
/-! Data: what stays, what is alike. -/
namespace Sx
open PySem PySem.Spec PyProof.Rows L2
theorem same_sqL {K : PySem.W.Frag} {H H' : Hp} {a : Addr} {xs : List V} (s : Same H H') (h : SqL K H a xs) : SqL K H' a xs := Same.seq s h
mutual
theorem dp_same {K : PySem.W.Frag} {H H' : Hp} (s : Same H H') : ∀ (d : PyData) {v : V}, Dp K H v d → Dp K H' v d
  | .none, _, .non => .non
  | .bool b, _, .bl _ => .bl b
  | .int i, _, .int _ => .int i
  | .str x, _, .str _ => .str x
  | .list ds, _, .lst h hs => .lst (same_sqL s h) (dps_same s ds hs)
  | .tuple ds, _, .tup h hs => .tup (sqT_same s h) (dps_same s ds hs)
theorem dps_same {K : PySem.W.Frag} {H H' : Hp} (s : Same H H') : ∀ (ds : List PyData) {vs : List V}, DpAll K H vs ds → DpAll K H' vs ds
  | [], _, .nil => .nil
  | d :: ds, _, .cons h hs => .cons (dp_same s d h) (dps_same s ds hs)
end
def sD (x : Str) : PyData := .str x
def lD (xs : List Str) : PyData := .list (xs.map sD)
def tD (xs : List Str) : PyData := .tuple (xs.map sD)
theorem dps_strs {K : PySem.W.Frag} {H : Hp} : ∀ xs : List Str, DpAll K H (xs.map V.str) (xs.map sD)
  | [] => .nil
  | x :: xs => .cons (.str x) (dps_strs xs)
theorem dp_list {K : PySem.W.Frag} {H : Hp} {a : Addr} {xs : List Str} (h : SqL K H a (xs.map V.str)) : Dp K H (.ref a) (lD xs) := .lst h (dps_strs xs)
theorem dp_tup {K : PySem.W.Frag} {H : Hp} {a : Addr} {xs : List Str} (h : SqT K H a (xs.map V.str)) : Dp K H (.ref a) (tD xs) := .tup h (dps_strs xs)
theorem eqv_strs : ∀ xs ys : List Str, PyData.eqvAll (xs.map sD) (ys.map sD) = decide (xs = ys)
  | [], [] => rfl
  | [], _ :: _ => rfl
  | _ :: _, [] => rfl
  | x :: xs, y :: ys => by
    show (PyData.eqv (.str x) (.str y) && PyData.eqvAll (xs.map sD) (ys.map sD)) = _
    rw [eqv_strs xs ys]
    have e : PyData.eqv (.str x) (.str y) = (x == y) := by simp only [PyData.eqv]
    rw [e]
    by_cases h : x = y
    · subst h
      by_cases g : xs = ys
      · subst g; simp
      · simp [g]
    · simp [h]
theorem eqv_l (xs ys : List Str) : PyData.eqv (lD xs) (lD ys) = decide (xs = ys) := by
  have e : PyData.eqv (lD xs) (lD ys) = PyData.eqvAll (xs.map sD) (ys.map sD) := by simp only [lD, PyData.eqv]
  rw [e, eqv_strs]
theorem eqv_t (xs ys : List Str) : PyData.eqv (tD xs) (tD ys) = decide (xs = ys) := by
  have e : PyData.eqv (tD xs) (tD ys) = PyData.eqvAll (xs.map sD) (ys.map sD) := by simp only [tD, PyData.eqv]
  rw [e, eqv_strs]
def Oks (xs : List Str) : Prop := ∀ x ∈ xs, PyData.strOk x = true
def Okss (Ls : List (List Str)) : Prop := ∀ L ∈ Ls, Oks L
theorem lay_strs : ∀ xs : List Str, Oks xs → PyData.canLayAll0 (xs.map sD) = true ∧ PyData.depthAll (xs.map sD) = 0
  | [], _ => by simp [PyData.canLayAll0, PyData.depthAll]
  | x :: xs, h => by
    obtain ⟨a, b⟩ := lay_strs xs fun y hy => h y (List.mem_cons_of_mem _ hy)
    have c := h x List.mem_cons_self
    rw [List.map_cons]
    simp only [PyData.canLayAll0, PyData.depthAll, a, b, sD, PyData.canLay0, PyData.depth, c]
    simp
theorem lay_l (xs : List Str) (h : Oks xs) : (lD xs).canLay0 = true ∧ (lD xs).depth = 1 := by
  obtain ⟨a, b⟩ := lay_strs xs h
  simp only [lD, PyData.canLay0, PyData.depth, a, b]
  simp
theorem lay_t (xs : List Str) (h : Oks xs) : (tD xs).canLay0 = true ∧ (tD xs).depth = 1 := by
  obtain ⟨a, b⟩ := lay_strs xs h
  simp only [tD, PyData.canLay0, PyData.depth, a, b]
  simp
theorem lay_all {f : List Str → PyData} (hf : ∀ xs, Oks xs → (f xs).canLay0 = true ∧ (f xs).depth = 1) : ∀ Ls : List (List Str), Okss Ls → PyData.canLayAll0 (Ls.map f) = true ∧ PyData.depthAll (Ls.map f) ≤ 1
  | [], _ => by simp [PyData.canLayAll0, PyData.depthAll]
  | L :: Ls, h => by
    obtain ⟨a, b⟩ := lay_all hf Ls fun y hy => h y (List.mem_cons_of_mem _ hy)
    obtain ⟨c, d⟩ := hf L (h L List.mem_cons_self)
    rw [List.map_cons]
    simp only [PyData.canLayAll0, PyData.depthAll, a, c, d]
    refine ⟨rfl, ?_⟩
    omega
theorem shp {d : PyData} (a : d.canLay0 = true) (b : d.depth ≤ 64) : SeqAt.shaped d = true := by
  show (d.canLay0 && decide (d.depth ≤ 64)) = true
  rw [a, decide_eq_true b]
  rfl
theorem shp_ll (Ls : List (List Str)) (h : Okss Ls) : SeqAt.shaped (.list (Ls.map lD)) = true := by
  obtain ⟨a, b⟩ := lay_all lay_l Ls h
  exact shp (by simp only [PyData.canLay0, a]) (by simp only [PyData.depth]; omega)
theorem shp_tt (Ls : List (List Str)) (h : Okss Ls) : SeqAt.shaped (.tuple (Ls.map tD)) = true := by
  obtain ⟨a, b⟩ := lay_all lay_t Ls h
  exact shp (by simp only [PyData.canLay0, a]) (by simp only [PyData.depth]; omega)
theorem shp_l (L : List Str) (h : Oks L) : SeqAt.shaped (lD L) = true := shp (lay_l L h).1 (by rw [(lay_l L h).2]; decide)
theorem shp_t (L : List Str) (h : Oks L) : SeqAt.shaped (tD L) = true := shp (lay_t L h).1 (by rw [(lay_t L h).2]; decide)
/-- x not in t, t a tuple of data -/
def rNotInT (K : PySem.W.Frag) : R2 := fun x y H Q => ∃ d ds, Dp K H x d ∧ Dp K H y (.tuple ds) ∧ SeqAt.shaped d = true ∧ SeqAt.shaped (.tuple ds) = true ∧ Q (.bl (!ds.any fun z => PyData.eqv z d)) H
theorem op_notInT {X : Cx} (hu : X.A.units + 65 < cLine) : OpR X (compareOp .NotIn) (rNotInT X.K) := by
  intro pins s σ H x y v u Q I rx ry h
  obtain ⟨d, ds, hd, he, sd, se, q⟩ := h
  obtain ⟨as, r1⟩ := Dp.reads I d x v hd rx
  obtain ⟨bs, r2⟩ := Dp.reads I (.tuple ds) y u he ry
  exact SeqAt.notIn_tuple_reads r2 r1 (SeqAt.canLay_of_shaped se) (SeqAt.canLay_of_shaped sd) (room_in_shaped sd hu) ⟨.bl _, H, I, rfl, q⟩
end Sx

/-! LawC -/
namespace Sx
open PySem PySem.Spec PyProof.Rows L2
abbrev sGroups : Stmt := top 25
/-- pairs of texts that stand in a list or a tuple -/
def PrsQ (K : PySem.W.Frag) (H : Hp) (a : Addr) (cs : List (Str × Str)) : Prop := ∃ ts : List Addr, Sq K H a (ts.map V.ref) ∧ Paired (fun t c => SqT K H t [.str c.1, .str c.2]) ts cs
def spGroups (K : PySem.W.Frag) : Sp := fun vs H Q _ => ∃ (t q : Addr) (ks : List Str) (cs : List (Str × Str)), vs = [.ref t, .ref q] ∧ Sq K H t (ks.map V.str) ∧ PrsQ K H q cs ∧ Up ltS ks ∧ ks.length ≤ 60 ∧ cs.length ≤ 10000 ∧ Oks ks ∧ (∀ c ∈ cs, c.1 ∈ ks ∧ c.2 ∈ ks) ∧
  ∀ a H', Same H H' → Prt K H' a (partsM (nearM cs) ks) → Q (.ref a) H'
/-- lots behind some pairs -/
structure Lots (ks : List Str) (cs : List (Str × Str)) (Ls : List (List Str)) : Prop where
  flat : Ls.flatten.Perm ks
  up : ∀ L ∈ Ls, Up ltS L ∧ L ≠ []
  conn : ∀ L ∈ Ls, ∀ x ∈ L, ∀ y ∈ L, Rch (nearM cs) x y
  shut : ∀ L ∈ Ls, ∀ x ∈ L, ∀ y ∈ nearM cs x, y ∈ L
theorem flatten_one (ks : List Str) : (ks.map fun k => [k]).flatten = ks := by
  induction ks with
  | nil => rfl
  | cons k ks ih => rw [List.map_cons, List.flatten_cons, ih]; rfl
theorem Lots.start (ks : List Str) : Lots ks [] (ks.map fun k => [k]) := by
  refine ⟨by rw [flatten_one], fun L hL => ?_, fun L hL x hx y hy => ?_, fun L hL x hx y hy => ?_⟩
  · obtain ⟨k, _, rfl⟩ := List.mem_map.mp hL
    exact ⟨List.pairwise_singleton _ _, by simp⟩
  · obtain ⟨k, _, rfl⟩ := List.mem_map.mp hL
    rw [List.mem_singleton.mp hx, List.mem_singleton.mp hy]
    exact .here
  · cases hy
theorem rch_more {cs : List (Str × Str)} {c : Str × Str} {x y : Str} (h : Rch (nearM cs) x y) : Rch (nearM (cs ++ [c])) x y := by
  induction h with
  | here => exact .here
  | step _ m ih =>
    refine .step ih (mem_near.mpr ?_)
    exact (mem_near.mp m).imp (fun z => List.mem_append_left _ z) fun z => List.mem_append_left _ z
theorem perm_parts {α : Type} (c : α → Bool) : ∀ l : List α, (l.filter (fun x => !c x) ++ l.filter c).Perm l
  | [] => List.Perm.refl _
  | x :: l => by
    cases h : c x with
    | true =>
      rw [List.filter_cons_of_neg (by simp [h]), List.filter_cons_of_pos h]
      exact (List.perm_middle).trans ((perm_parts c l).cons x)
    | false =>
      rw [List.filter_cons_of_pos (by simp [h]), List.filter_cons_of_neg (by simp [h])]
      exact (perm_parts c l).cons x
theorem perm_flatten {l m : List (List Str)} (h : l.Perm m) : l.flatten.Perm m.flatten := by
  induction h with
  | nil => exact List.Perm.refl _
  | cons x _ ih => exact ih.append_left x
  | swap x y l =>
    rw [List.flatten_cons, List.flatten_cons, List.flatten_cons, List.flatten_cons, ← List.append_assoc, ← List.append_assoc]
    exact List.perm_append_comm.append_right _
  | trans _ _ a b => exact a.trans b
def hasM (c : Str × Str) (L : List Str) : Bool := decide (c.1 ∈ L) || decide (c.2 ∈ L)
theorem Lots.next {ks : List Str} {cs : List (Str × Str)} {Ls : List (List Str)} {c : Str × Str} {new : List Str} (up : Up ltS ks) (Lo : Lots ks cs Ls) (h1 : c.1 ∈ ks) (h2 : c.2 ∈ ks) (hp : new.Perm (Ls.filter (hasM c)).flatten) (hs : new.Pairwise fun x y => ltS y x = false) :
    Lots ks (cs ++ [c]) (Ls.filter (fun L => !hasM c L) ++ [new]) := by
  have nd : Ls.flatten.Nodup := Lo.flat.nodup_iff.mpr (up_nodup totS up)
  have pf : (Ls.filter (fun L => !hasM c L) ++ [new]).flatten.Perm Ls.flatten := by
    rw [List.flatten_append, List.flatten_singleton]
    refine (List.Perm.append_left _ hp).trans ?_
    rw [← List.flatten_append]
    exact perm_flatten (perm_parts (hasM c) Ls)
  have lot : ∀ {k : Str}, k ∈ ks → ∃ L ∈ Ls, k ∈ L := fun {k} h => List.mem_flatten.mp (Lo.flat.mem_iff.mpr h)
  obtain ⟨L1, hL1, m1⟩ := lot h1
  obtain ⟨L2, hL2, m2⟩ := lot h2
  have has1 : hasM c L1 = true := by unfold hasM; rw [decide_eq_true m1]; rfl
  have has2 : hasM c L2 = true := by unfold hasM; rw [decide_eq_true m2, Bool.or_true]
  have newm : ∀ {x : Str}, x ∈ new ↔ ∃ L ∈ Ls, hasM c L = true ∧ x ∈ L := fun {x} => by
    rw [hp.mem_iff, List.mem_flatten]
    constructor
    · rintro ⟨L, hL, hx⟩
      obtain ⟨a, b⟩ := List.mem_filter.mp hL
      exact ⟨L, a, b, hx⟩
    · rintro ⟨L, a, b, hx⟩
      exact ⟨L, List.mem_filter.mpr ⟨a, b⟩, hx⟩
  have ndn : new.Nodup := by
    have z : (Ls.filter (fun L => !hasM c L) ++ [new]).flatten.Nodup := pf.nodup_iff.mpr nd
    rw [List.flatten_append, List.flatten_singleton, List.nodup_append] at z
    exact z.2.1
  have edge : Rch (nearM (cs ++ [c])) c.1 c.2 := .step .here (mem_near.mpr (.inl (List.mem_append_right _ List.mem_cons_self)))
  have sy := @near_sy (cs ++ [c])
  have to1 : ∀ {x : Str}, x ∈ new → Rch (nearM (cs ++ [c])) x c.1 := fun {x} hx => by
    obtain ⟨L, a, b, m⟩ := newm.mp hx
    unfold hasM at b
    rcases Bool.or_eq_true_iff.mp b with w | w
    · exact rch_more (Lo.conn L a x m c.1 (decide_eq_true_eq.mp w))
    · exact (rch_more (Lo.conn L a x m c.2 (decide_eq_true_eq.mp w))).trans (Rch.symm sy edge)
  refine ⟨pf.trans Lo.flat, fun L hL => ?_, fun L hL x hx y hy => ?_, fun L hL x hx y hy => ?_⟩
  · rcases List.mem_append.mp hL with a | a
    · exact Lo.up L (List.mem_filter.mp a).1
    · rw [List.mem_singleton.mp a]
      refine ⟨up_of totS ndn hs, fun e => ?_⟩
      have z := newm.mpr ⟨L1, hL1, has1, m1⟩
      rw [e] at z
      cases z
  · rcases List.mem_append.mp hL with a | a
    · exact rch_more (Lo.conn L (List.mem_filter.mp a).1 x hx y hy)
    · rw [List.mem_singleton.mp a] at hx hy
      exact (to1 hx).trans (Rch.symm sy (to1 hy))
  · have old : y ∈ nearM cs x ∨ (x = c.1 ∧ y = c.2) ∨ (x = c.2 ∧ y = c.1) := by
      rcases mem_near.mp hy with m | m
      · rcases List.mem_append.mp m with b | b
        · exact .inl (mem_near.mpr (.inl b))
        · have e := List.mem_singleton.mp b
          exact .inr (.inl ⟨congrArg Prod.fst e, congrArg Prod.snd e⟩)
      · rcases List.mem_append.mp m with b | b
        · exact .inl (mem_near.mpr (.inr b))
        · have e := List.mem_singleton.mp b
          exact .inr (.inr ⟨congrArg Prod.snd e, congrArg Prod.fst e⟩)
    rcases List.mem_append.mp hL with a | a
    · obtain ⟨a1, a2⟩ := List.mem_filter.mp a
      rw [Bool.not_eq_true'] at a2
      unfold hasM at a2
      rw [Bool.or_eq_false_iff, decide_eq_false_iff_not, decide_eq_false_iff_not] at a2
      rcases old with m | m | m
      · exact Lo.shut L a1 x hx y m
      · exact absurd (by rw [← m.1]; exact hx) a2.1
      · exact absurd (by rw [← m.1]; exact hx) a2.2
    · rw [List.mem_singleton.mp a] at hx ⊢
      rcases old with m | m | m
      · obtain ⟨L', b1, b2, b3⟩ := newm.mp hx
        exact newm.mpr ⟨L', b1, b2, Lo.shut L' b1 x b3 y m⟩
      · rw [m.2]; exact newm.mpr ⟨L2, hL2, has2, m2⟩
      · rw [m.2]; exact newm.mpr ⟨L1, hL1, has1, m1⟩
theorem Lots.cls {ks : List Str} {cs : List (Str × Str)} {Ls : List (List Str)} (up : Up ltS ks) (Lo : Lots ks cs Ls) {L : List Str} (hL : L ∈ Ls) {k : Str} (hk : k ∈ L) : L = clsM (nearM cs) ks k := by
  refine up_one totS (Lo.up L hL).1 (up_cls up k) fun z => ?_
  rw [mem_cls]
  constructor
  · exact fun hz => ⟨Lo.flat.mem_iff.mp (List.mem_flatten.mpr ⟨L, hL, hz⟩), Lo.conn L hL k hk z hz⟩
  · rintro ⟨h0, r⟩
    clear h0
    induction r with
    | here => exact hk
    | step _ m ih => exact Lo.shut L hL _ ih _ m
theorem Lots.parts {ks : List Str} {cs : List (Str × Str)} {Ls ys : List (List Str)} (up : Up ltS ks) (Lo : Lots ks cs Ls) (pm : ys.Perm Ls) (pw : ys.Pairwise fun x y => ltL y x = false) : ys = partsM (nearM cs) ks := by
  have nd : Ls.Nodup := by
    have z : Ls.flatten.Nodup := Lo.flat.nodup_iff.mpr (up_nodup totS up)
    have ne : ∀ L ∈ Ls, L ≠ [] := fun L h => (Lo.up L h).2
    clear pm pw Lo
    induction Ls with
    | nil => exact List.nodup_nil
    | cons L Ls ih =>
      rw [List.flatten_cons, List.nodup_append] at z
      refine List.nodup_cons.mpr ⟨fun m => ?_, ih z.2.1 fun M h => ne M (List.mem_cons_of_mem _ h)⟩
      cases L with
      | nil => exact ne [] List.mem_cons_self rfl
      | cons a L => exact z.2.2 a List.mem_cons_self a (List.mem_flatten.mpr ⟨_, m, List.mem_cons_self⟩) rfl
  unfold partsM
  refine up_one totL (up_of totL (pm.nodup_iff.mpr nd) pw) (up_srt totL _) fun L => ?_
  rw [pm.mem_iff, mem_srt totL, List.mem_map]
  constructor
  · intro hL
    obtain ⟨k, hk⟩ := List.exists_mem_of_ne_nil L (Lo.up L hL).2
    exact ⟨k, Lo.flat.mem_iff.mp (List.mem_flatten.mpr ⟨L, hL, hk⟩), (Lo.cls up hL hk).symm⟩
  · rintro ⟨k, hk, e⟩
    obtain ⟨M, hM, m⟩ := List.mem_flatten.mp (Lo.flat.mem_iff.mpr hk)
    rw [← e, ← Lo.cls up hM m]
    exact hM

theorem Lots.len {ks : List Str} {cs : List (Str × Str)} {Ls : List (List Str)} (Lo : Lots ks cs Ls) : Ls.length ≤ ks.length := by
  have e := Lo.flat.length_eq
  rw [← e]
  have ne : ∀ L ∈ Ls, L ≠ [] := fun L h => (Lo.up L h).2
  clear e Lo
  induction Ls with
  | nil => exact Nat.zero_le _
  | cons L Ls ih =>
    have a := ih fun M h => ne M (List.mem_cons_of_mem _ h)
    have b := List.length_pos_iff.mpr (ne L List.mem_cons_self)
    rw [List.flatten_cons, List.length_append, List.length_cons]
    omega
theorem map_filter_snd {α : Type} (lz : List (α × List Str)) (c : List Str → Bool) : (lz.filter fun z => c z.2).map (·.2) = (lz.map (·.2)).filter c := by
  rw [List.filter_map]
  rfl
theorem flat_le (c : List Str → Bool) (Ls : List (List Str)) : (Ls.filter c).flatten.length ≤ Ls.flatten.length := by
  have e := (perm_flatten (perm_parts c Ls)).length_eq
  rw [List.flatten_append, List.length_append] at e
  omega
theorem refs_of {xs : List V} : (∀ x ∈ xs, ∃ t, x = V.ref t) → ∃ ts : List Addr, xs = ts.map V.ref := by
  induction xs with
  | nil => exact fun _ => ⟨[], rfl⟩
  | cons x xs ih =>
    intro h
    obtain ⟨t, e⟩ := h x List.mem_cons_self
    obtain ⟨ts, e2⟩ := ih fun y hy => h y (List.mem_cons_of_mem _ hy)
    exact ⟨t :: ts, by rw [e, e2]; rfl⟩
def txts (H : Hp) : V → List Str
  | .ref t => match H t with
    | some (.tup vs) => vs.filterMap strOf
    | _ => []
  | _ => []
theorem strs_back : ∀ L : List Str, (L.map V.str).filterMap strOf = L
  | [] => rfl
  | x :: L => by
    rw [List.map_cons, List.filterMap_cons]
    show x :: _ = _
    rw [strs_back L]
theorem txts_at {H : Hp} {t : Addr} {L : List Str} (h : H t = some (.tup (L.map V.str))) : txts H (.ref t) = L := by
  unfold txts
  dsimp only
  rw [h]
  exact strs_back L
theorem dps_lots {K : PySem.W.Frag} {H : Hp} : ∀ {mz : List (Addr × List Str)}, (∀ z ∈ mz, H z.1 = some (.lst (z.2.map V.str))) → DpAll K H (mz.map fun z => V.ref z.1) ((mz.map (·.2)).map lD)
  | [], _ => .nil
  | z :: mz, h => .cons (dp_list (SqL.of (h z List.mem_cons_self))) (dps_lots fun y hy => h y (List.mem_cons_of_mem _ hy))
section
variable {P : Program} {w : World} {K : PySem.W.Frag} {mg : Str → Option Value} {base : Heap}
abbrev nGroups : List Str := ["_law_tags_here", "_law_near_so", "_law_lots_so", "_law_own", "_law_bit", "_law_mine", "_law_every", "_law_lot_so"]
theorem scGroups : FnScope nGroups ["_law_tags_here", "_law_near_so"] (defScope sGroups) := ⟨rfl, rfl, rfl, by decide +kernel, rfl, by decide +kernel, by decide +kernel⟩
/-- lots as they stand: addresses and what they hold -/
def LotsAt (H' : Hp) (l : Addr) (lz : List (Addr × List Str)) : Prop := H' l = some (.lst (lz.map fun z => V.ref z.1)) ∧ ∀ z ∈ lz, H' z.1 = some (.lst (z.2.map V.str))
theorem ok_groups {f : Addr} {fd : FuncData} {dvs : List V} (F : FunD K "_law_groups" "_law_groups" (defArgs sGroups) (defBody sGroups) (defScope sGroups) dvs [] f fd) (B : Blt mg) : FnOk P w K mg base CX0 1 f fd ["_law_tags_here", "_law_near_so"] (spGroups K) := by
  refine F.ok scGroups (fun vs H Q E h => ?_) (fun cdv A outer s H vs Q E hr h => ?_)
  · obtain ⟨t, q', ks, cs, rfl, _⟩ := h
    rfl
  · obtain ⟨t, q', ks, cs, rfl, ht, ⟨ts, hq, hts⟩, up, few, fewc, oks, hin, q⟩ := h
    have hu : (A.deeper (envOfC "_law_groups" (defScope sGroups) s.heap.objs.size f cdv)).units + 65 < cLine := by have := hr.un; omega
    refine ⟨_, (Evl.pss_cut (ps_setLc (i := 2) (own := [("_law_own", 3)]) (g := gName 3) (tt := tYes) (by rfl) scGroups.nd rfl rfl (sw_true rfl rfl rfl (by decide +kernel)) (pi_sq (pv 0)) (blkOk_by (N := nGroups) (sc := defScope sGroups) (by decide +kernel)) (fun _ _ _ _ _ => pg_name (i := 3) scGroups.nd rfl (Or.inl rfl)) (fun _ _ _ _ _ => pts_nil) (fun _ _ _ _ _ => pe_lst (pa_cons (pv 3) pa_nil)))
      (Evl.pss_cut (ps_for PassesOwn.never rfl (pi_sq (pv 1)) (pg_tup rfl (pgs_cons (pg_name (i := 3) scGroups.nd rfl (Or.inr rfl)) (pgs_cons (pg_name (i := 4) scGroups.nd rfl (Or.inr rfl)) pgs_nil)))
        (pss_cons (ps_set (i := 5) scGroups.nd rfl (Or.inr rfl) (pe_lc (own := [("_law_lot_so", 7)]) (g := gName 7) rfl scGroups.nd (pi_list (pv 2)) (blkOk_by (N := nGroups) (sc := defScope sGroups) (by decide +kernel)) (fun _ _ _ _ _ => pg_name (i := 7) scGroups.nd rfl (Or.inl rfl))
            (fun _ _ _ _ _ => pts_one (PW.pt (pw_or (pt_cmpR (r := rIn K false) op_in_seq (pv 3) (pv 7) (by rfl)) (pw_or1 (pt_cmpR (r := rIn K false) op_in_seq (pv 4) (pv 7) (by rfl)))))) (fun _ _ _ _ _ => pv 7)))
        (pss_cons (ps_set (i := 6) scGroups.nd rfl (Or.inl rfl) (pe_lst pa_nil))
        (Evl.pss_cut (ps_for PassesOwn.never rfl (pi_list (pv 5)) (pg_name (i := 7) scGroups.nd rfl (Or.inl rfl)) (pss_one (ps_set (i := 6) scGroups.nd rfl (Or.inl rfl) (pe_op op_cat (pv 6) (pv 7)))))
        (pss_one (ps_set (i := 2) scGroups.nd rfl (Or.inl rfl) (pe_op op_cat (pe_lc (own := [("_law_lot_so", 7)]) (g := gName 7) rfl scGroups.nd (pi_list (pv 2)) (blkOk_by (N := nGroups) (sc := defScope sGroups) (by decide +kernel)) (fun _ _ _ _ _ => pg_name (i := 7) scGroups.nd rfl (Or.inl rfl))
            (fun _ _ _ _ _ => pts_one (pt_cmpR (r := rNotInD K) (op_notInD hu) (pv 7) (pv 5) (by rfl))) (fun _ _ _ _ _ => pv 7)) (pe_lst (pa_cons (pe_callB cr_sortX (by rfl) B.sorted bt_sorted (pa_cons (pv 6) pa_nil)) pa_nil)))))))))
      (pss_one (ps_ret (pe_callTy cr_tupOf (by rfl) B.tuple bt_tuple (pa_cons (pe_callB (cr_sortTL) (by rfl) B.sorted bt_sorted (pa_cons (pe_lc (own := [("_law_lot_so", 7)]) (g := gName 7) (tt := tYes) rfl scGroups.nd (pi_list (pv 2)) (blkOk_by (N := nGroups) (sc := defScope sGroups) (by decide +kernel)) (fun _ _ _ _ _ => pg_name (i := 7) scGroups.nd rfl (Or.inl rfl)) (fun _ _ _ _ _ => pts_nil)
            (fun _ _ _ _ _ => pe_callTy (r := rTupOf K) cr_tupOf (by rfl) B.tuple bt_tuple (pa_cons (pv 7) pa_nil))) pa_nil)) pa_nil)))))).nox, ?_⟩
    have refl : ∀ {H2 : Hp} {lz : List (Addr × List Str)}, (∀ z ∈ lz, H2 z.1 = some (.lst (z.2.map V.str))) → Paired (fun x z => x = V.ref z.1 ∧ H2 z.1 = some (.lst (z.2.map V.str))) (lz.map fun z => V.ref z.1) lz := fun {H2 lz} h => by
      have y := paired_map (F := fun x (z : Addr × List Str) => x = V.ref z.1 ∧ H2 z.1 = some (.lst (z.2.map V.str))) (f := fun z => V.ref z.1) (g := id) (l := lz) fun z hz => ⟨rfl, h z hz⟩
      rw [List.map_id] at y
      exact y
    refine ⟨fun σ' H' => ∃ l lz, σ' = [some (.ref t), some (.ref q'), some (.ref l), none, none, none, none, none] ∧ Same H H' ∧ LotsAt H' l lz ∧ lz.map (·.2) = ks.map fun k => [k], ?_, ?_⟩
    · have turn : ∀ x z, z ∈ ks → x = V.str z → ∀ H3, Same H H3 → Tst (gName 3) tYes (tLst (tCons (tVar 3) tNil)) [3] [some (.ref t), some (.ref q'), none, none, none, none, none, none] x H3 true fun te σ H => Go te σ H (.lst [V.str z]) := fun x z hz hx H3 s3 => by
        subst hx
        refine tst_name (by rfl) gt_yes fun _ H4 s4 Q h => ?_
        exact ⟨_, rfl, (by show 1 ≤ sizeLine; decide), fun l hl => h l _ hl (Sx.Same.new hl) upd_same⟩
      have done : ∀ D H2, H D = none → NewsO H H2 D (fun z : Str => .lst [V.str z]) (ks.filter fun _ => true) → ∃ l lz, [some (.ref t), some (.ref q'), some (.ref D), none, none, none, none, none] = [some (V.ref t), some (.ref q'), some (.ref l), none, none, none, none, none] ∧ Same H H2 ∧ LotsAt H2 l lz ∧ lz.map (·.2) = ks.map fun k => [k] := by
        rintro D H2 hD ⟨S, us, hD2, hus⟩
        rw [List.filter_eq_self.mpr fun _ _ => rfl] at hus
        refine ⟨D, us.zip (ks.map fun k => [k]), rfl, S, ⟨?_, ?_⟩, ?_⟩
        · rw [hD2]
          have l := Paired.length hus
          have e : (us.zip (ks.map fun k => [k])).map (fun z => V.ref z.1) = us.map V.ref := by
            rw [show (fun z : Addr × List Str => V.ref z.1) = V.ref ∘ Prod.fst from rfl, ← List.map_map, List.map_fst_zip (by rw [List.length_map]; omega)]
          rw [e]
        · intro z hz
          obtain ⟨i, hi, e⟩ := List.getElem_of_mem hz
          have hi' := hi
          rw [List.length_zip, List.length_map] at hi'
          rw [List.getElem_zip, List.getElem_map] at e
          obtain ⟨k, hk, h1, _⟩ := paired_get hus (List.getElem?_eq_getElem (show i < us.length by omega))
          rw [← e]
          have e2 : ks[i] = k := (List.getElem?_eq_some_iff.mp hk).2
          rw [e2]
          exact h1
        · rw [List.map_snd_zip (by rw [List.length_map, Paired.length hus]; omega)]
      rcases ht with ht | ht
      · refine .inl ⟨_, rfl, t, rfl, ⟨_, ht⟩, ?_⟩
        exact lc_objsL (fun z : Str => .lst [V.str z]) (fun _ => true) ht (paired_strs ks) (by rw [List.length_map]; omega) turn done
      · refine .inr ⟨_, rfl, t, rfl, ⟨_, ht⟩, ?_⟩
        exact lc_objsT (fun z : Str => .lst [V.str z]) (fun _ => true) ht (paired_strs ks) (by rw [List.length_map]; omega) turn done
    rintro σ0 H0 ⟨l0, lz0, rfl, S0, LA0, e0⟩
    refine ⟨fun σ' H' => ∃ v3 v4 v5 v6 v7 l lz, σ' = [some (.ref t), some (.ref q'), some (.ref l), v3, v4, v5, v6, v7] ∧ Same H H' ∧ LotsAt H' l lz ∧ Lots ks cs (lz.map (·.2)), ?_, ?_⟩
    · refine for_sq (i := 1) (Hx := H) rfl hq (fun i σ' H' => ∃ v3 v4 v5 v6 v7 l lz, σ' = [some (.ref t), some (.ref q'), some (.ref l), v3, v4, v5, v6, v7] ∧ Same H H' ∧ LotsAt H' l lz ∧ Lots ks (cs.take i) (lz.map (·.2)))
        ⟨none, none, none, none, none, l0, lz0, rfl, S0, LA0, by rw [e0, List.take_zero]; exact Lots.start ks⟩ (fun i σ' H' ⟨_, _, _, _, _, _, _, _, S, _⟩ => S) ?_ ?_
      · rintro i x σ' H' hi ⟨v3, v4, v5, v6, v7, l, lz, rfl, S, ⟨hl, hlz⟩, Lo⟩
        rw [List.getElem?_map] at hi
        obtain ⟨tz, hti, rfl⟩ := Option.map_eq_some_iff.mp hi
        obtain ⟨c, hci, hT⟩ := paired_get hts hti
        obtain ⟨m1, m2⟩ := hin c (List.mem_of_getElem? hci)
        have lzl : lz.length ≤ 60 := by have := Lo.len; rw [List.length_map] at this; omega
        have okL : ∀ L ∈ lz.map (·.2), Oks L := fun L hL y hy => oks y (Lo.flat.mem_iff.mp (List.mem_flatten.mpr ⟨L, hL, hy⟩))
        refine ⟨tz, _, rfl, sqT_same S hT, rfl, _, _, rfl, _, _, rfl, rfl, ?_⟩
        -- mine
        refine ⟨_, rfl, l, rfl, ⟨_, SqL.of hl⟩, ?_⟩
        refine lc_valsL (vs := [7]) (σ := [some (.ref t), some (.ref q'), some (.ref l), some (.str c.1), some (.str c.2), v5, v6, v7]) (fun z : Addr × List Str => V.ref z.1) (fun z => hasM c z.2) (SqL.of hl) (refl hlz) (by rw [List.length_map]; omega) (fun x z hz hx H2 s2 => ?_) (fun D5 H2 hD5 s2 hm => ?_)
        · obtain ⟨rfl, hz2⟩ := hx
          refine tst_name (by rfl) (fun Q h => ?_) fun _ H3 s3 => gv_var (by rfl)
          have hQ := h H2 same_id
          unfold hasM at hQ
          refine ⟨_, rfl, _, rfl, z.1, _, rfl, .inl (SqL.of (s2 _ _ hz2)), rfl, flat_str _, _, rfl, ?_⟩
          rw [if_neg (by decide), inV_str]
          cases e : decide (c.1 ∈ z.2) with
          | true => rw [e] at hQ; exact iteT hQ
          | false =>
            rw [e] at hQ
            refine iteF ⟨_, rfl, _, rfl, z.1, _, rfl, .inl (SqL.of (s2 _ _ hz2)), rfl, flat_str _, _, rfl, ?_⟩
            rw [if_neg (by decide), inV_str]
            exact hQ
        -- every
        refine ⟨Nat.zero_le _, fun e0 he0 => ?_⟩
        let mz := lz.filter fun z => hasM c z.2
        have mzs : mz.map (·.2) = (lz.map (·.2)).filter (hasM c) := map_filter_snd lz (hasM c)
        have S3 : Same H2 (upd H2 e0 (.lst [])) := Sx.Same.new he0
        have mza : ∀ {H4 : Hp}, Same H2 H4 → ∀ z ∈ mz, H4 z.1 = some (.lst (z.2.map V.str)) := fun {H4} s4 z hz => s4 _ _ (s2 _ _ (hlz z (List.mem_filter.mp hz).1))
        have fl : (mz.map (·.2)).flatten.length ≤ 60 := by
          rw [mzs]
          have a := flat_le (hasM c) (lz.map (·.2))
          have b := Lo.flat.length_eq
          omega
        refine ⟨fun σ' H4 => ∃ v7 e, σ' = [some (.ref t), some (.ref q'), some (.ref l), some (.str c.1), some (.str c.2), some (.ref D5), some (.ref e), v7] ∧ Same H2 H4 ∧ H4 e = some (.lst ((mz.map (·.2)).flatten.map V.str)), ?_, ?_⟩
        · refine ⟨_, rfl, D5, rfl, ⟨_, SqL.of (S3 _ _ hm)⟩, ?_⟩
          refine for_list (xs := mz.map fun z => V.ref z.1) (fun j σ' H4 => ∃ v7 e, σ' = [some (.ref t), some (.ref q'), some (.ref l), some (.str c.1), some (.str c.2), some (.ref D5), some (.ref e), v7] ∧ Same H2 H4 ∧ H4 e = some (.lst (((mz.take j).map (·.2)).flatten.map V.str)))
            ⟨v7, e0, rfl, S3, upd_same⟩ (fun j σ' H4 _ ⟨_, _, _, s4, _⟩ => SqL.of (s4 _ _ hm)) ?_ ?_
          · rintro j x σ' H4 hj ⟨v7, e, rfl, s4, he⟩
            rw [List.getElem?_map] at hj
            obtain ⟨z, hz, rfl⟩ := Option.map_eq_some_iff.mp hj
            have zm := List.mem_of_getElem? hz
            have hz4 := mza s4 z zm
            have tk : ((mz.take (j + 1)).map (·.2)).flatten = ((mz.take j).map (·.2)).flatten ++ z.2 := by
              rw [take_snoc hz, List.map_append, List.flatten_append, List.map_singleton, List.flatten_singleton]
            have tl : ((mz.take (j + 1)).map (·.2)).flatten.length ≤ 60 := by
              refine Nat.le_trans ?_ fl
              have e2 : mz = mz.take (j + 1) ++ mz.drop (j + 1) := (List.take_append_drop _ _).symm
              have e3 := congrArg (fun m : List (Addr × List Str) => (m.map (·.2)).flatten.length) e2
              rw [List.map_append, List.flatten_append, List.length_append] at e3
              omega
            rw [tk, List.length_append] at tl
            refine ⟨_, rfl, _, rfl, e, z.1, _, _, rfl, rfl, he, hz4, by rw [List.length_map, List.length_map, sizeLine_eq]; omega, fun p hp => ?_⟩
            refine ⟨_, p, rfl, s4.trans (Sx.Same.new hp), ?_⟩
            rw [upd_same, tk, List.map_append]
          · rintro σ' H4 ⟨v7, e, rfl, s4, he⟩
            rw [List.length_map, List.take_length] at he
            exact ⟨v7, e, rfl, s4, he⟩
        rintro σ4 H4 ⟨w7, e, rfl, s4, he⟩
        -- lots = [..] + [sorted(every)]
        have s24 := s2.trans s4
        refine ⟨_, rfl, l, rfl, ⟨_, SqL.of (s24 _ _ hl)⟩, ?_⟩
        refine lc_valsL (vs := [7]) (σ := [some (.ref t), some (.ref q'), some (.ref l), some (.str c.1), some (.str c.2), some (.ref D5), some (.ref e), w7]) (fun z : Addr × List Str => V.ref z.1) (fun z => !hasM c z.2) (SqL.of (s24 _ _ hl)) (refl fun z hz => s24 _ _ (hlz z hz)) (by rw [List.length_map]; omega) (fun x z hz hx H5 s5 => ?_) (fun D6 H5 hD6 s5 hr => ?_)
        · obtain ⟨rfl, hz2⟩ := hx
          refine tst_name (by rfl) (fun Q h => ?_) fun _ H3 s3 => gv_var (by rfl)
          have hQ := h H5 same_id
          have oz := okL z.2 (List.mem_map.mpr ⟨z, hz, rfl⟩)
          have om : Okss (mz.map (·.2)) := fun L hL => okL L (by rw [mzs] at hL; exact (List.mem_filter.mp hL).1)
          refine ⟨_, rfl, _, rfl, lD z.2, (mz.map (·.2)).map lD, dp_list (SqL.of (s5 _ _ hz2)), .lst (SqL.of (s5 _ _ (s4 _ _ hm))) (dps_lots (mza (s4.trans s5))), shp_l _ oz, shp_ll _ om, _, rfl, ?_⟩
          have e1 : (((mz.map (·.2)).map lD).any fun w => PyData.eqv w (lD z.2)) = hasM c z.2 := by
            rw [Bool.eq_iff_iff, List.any_eq_true]
            constructor
            · rintro ⟨w, hw, hv⟩
              obtain ⟨L, hL, e⟩ := List.mem_map.mp hw
              rw [← e, eqv_l, decide_eq_true_eq] at hv
              rw [mzs] at hL
              rw [← hv]
              exact (List.mem_filter.mp hL).2
            · intro hh
              refine ⟨lD z.2, List.mem_map.mpr ⟨z.2, ?_, rfl⟩, by rw [eqv_l]; exact decide_eq_true rfl⟩
              rw [mzs]
              exact List.mem_filter.mpr ⟨List.mem_map.mpr ⟨z, hz, rfl⟩, hh⟩
          rw [e1]
          exact hQ
        · have he5 := s5 _ _ he
          refine ⟨_, rfl, e, (mz.map (·.2)).flatten, rfl, .inl (SqL.of he5), fun ys p pm pw hp => ?_⟩
          have Sp : Same H5 (upd H5 p (.lst (ys.map V.str))) := Sx.Same.new hp
          refine ⟨(by show 1 ≤ sizeLine; decide), fun l2 hl2 => ?_⟩
          have S2 : Same (upd H5 p (.lst (ys.map V.str))) (upd (upd H5 p (.lst (ys.map V.str))) l2 (.lst [.ref p])) := Sx.Same.new hl2
          refine ⟨D6, l2, _, _, rfl, rfl, S2 _ _ (Sp _ _ hr), upd_same, ?_, fun l3 hl3 => ?_⟩
          · have a := List.length_filter_le (fun z : Addr × List Str => !hasM c z.2) lz
            rw [List.length_map, sizeLine_eq]
            show _ + 1 ≤ _
            omega
          · have S3 : Same (upd (upd H5 p (.lst (ys.map V.str))) l2 (.lst [.ref p])) (upd (upd (upd H5 p (.lst (ys.map V.str))) l2 (.lst [.ref p])) l3 (.lst (((lz.filter fun z => !hasM c z.2).map fun z => V.ref z.1) ++ [.ref p]))) := Sx.Same.new hl3
            have SA := s24.trans (s5.trans (Sp.trans (S2.trans S3)))
            refine ⟨_, _, _, _, _, l3, (lz.filter fun z => !hasM c z.2) ++ [(p, ys)], rfl, S.trans SA, ⟨by rw [upd_same, List.map_append]; rfl, fun z hz => ?_⟩, ?_⟩
            · rcases List.mem_append.mp hz with a | a
              · exact SA _ _ (hlz z (List.mem_filter.mp a).1)
              · rw [List.mem_singleton.mp a]
                exact S3 _ _ (S2 _ _ upd_same)
            · rw [take_snoc hci, List.map_append, List.map_singleton, map_filter_snd lz fun L => !hasM c L]
              refine Lo.next up m1 m2 ?_ pw
              rw [← mzs]
              exact pm
      · rintro σ' H' ⟨v3, v4, v5, v6, v7, l, lz, rfl, S, LA, Lo⟩
        have e : (ts.map V.ref).length = cs.length := by rw [List.length_map, Paired.length hts]
        rw [e, List.take_length] at Lo
        exact ⟨v3, v4, v5, v6, v7, l, lz, rfl, S, LA, Lo⟩
    rintro σ1 H1 ⟨v3, v4, v5, v6, v7, l, lz, rfl, S1, ⟨hl, hlz⟩, Lo⟩
    have lzl : lz.length ≤ 60 := by have := Lo.len; rw [List.length_map] at this; omega
    refine ⟨_, rfl, l, rfl, ⟨_, SqL.of hl⟩, ?_⟩
    refine lc_objsL (vs := [7]) (σ := [some (.ref t), some (.ref q'), some (.ref l), v3, v4, v5, v6, v7]) (fun z : Addr × List Str => .tup (z.2.map V.str)) (fun _ => true) (SqL.of hl) (refl hlz) (by rw [List.length_map]; omega) (fun x z hz hx H2 s2 => ?_) (fun D H2 hD hN => ?_)
    · obtain ⟨rfl, hz2⟩ := hx
      refine tst_name (by rfl) gt_yes fun _ H3 s3 Q h => ?_
      exact ⟨_, rfl, z.1, _, rfl, .inl ⟨SqL.of (s3 _ _ (s2 _ _ hz2)), fun l hl => h l _ hl (Sx.Same.new hl) upd_same⟩⟩
    obtain ⟨s2, us, hus, hpu⟩ := hN
    rw [List.filter_eq_self.mpr fun _ _ => rfl] at hpu
    have pu : Paired (fun u L => H2 u = some (.tup (L.map V.str))) us (lz.map (·.2)) := paired_mapr (fun u z h => h.1) hpu
    have kx : ∀ x ∈ us.map V.ref, ∃ u L, x = V.ref u ∧ L ∈ lz.map (·.2) ∧ H2 u = some (.tup (L.map V.str)) := fun x hx => by
      obtain ⟨u, hu', e⟩ := List.mem_map.mp hx
      obtain ⟨j, hj⟩ := List.getElem?_of_mem hu'
      obtain ⟨L, hL, h⟩ := paired_get pu hj
      exact ⟨u, L, e.symm, List.mem_of_getElem? hL, h⟩
    have mapk : (us.map V.ref).map (txts H2) = lz.map (·.2) := by
      have h : ∀ {us : List Addr} {Ls : List (List Str)}, Paired (fun u L => H2 u = some (.tup (L.map V.str))) us Ls → (us.map V.ref).map (txts H2) = Ls := fun h => by
        induction h with
        | nil => rfl
        | cons r _ ih => rw [List.map_cons, List.map_cons, ih, txts_at r]
      exact h pu
    refine ⟨D, us.map V.ref, txts H2, rfl, SqL.of hus, fun x hx => ?_, fun ys p pm pw hp => ?_⟩
    · obtain ⟨u, L, rfl, hL, h⟩ := kx x hx
      rw [txts_at h]
      exact ⟨(Lo.up L hL).2, u, rfl, SqT.of h⟩
    · obtain ⟨ws, rfl⟩ : ∃ ws : List Addr, ys = ws.map V.ref := refs_of fun y hy => let ⟨u, _, e, _⟩ := kx y (pm.mem_iff.mp hy); ⟨u, e⟩
      refine ⟨p, _, rfl, .inl ⟨SqL.of upd_same, fun a ha => ?_⟩⟩
      have Sa : Same H2 (upd (upd H2 p (.lst (ws.map V.ref))) a (.tup (ws.map V.ref))) := (Sx.Same.new hp).trans (Sx.Same.new ha)
      refine q a _ (S1.trans (s2.trans Sa)) ⟨ws, SqT.of upd_same, ?_⟩
      have pmk : ((ws.map V.ref).map (txts H2)).Perm (lz.map (·.2)) := by rw [← mapk]; exact pm.map _
      have e := Lo.parts up pmk (List.pairwise_map.mpr pw)
      rw [← e, List.map_map]
      have y := paired_map (F := fun t L => SqT K (upd (upd H2 p (.lst (ws.map V.ref))) a (.tup (ws.map V.ref))) t (L.map V.str)) (f := id) (g := txts H2 ∘ V.ref) (l := ws) fun u hu' => by
        obtain ⟨u', L, e, _, h⟩ := kx (V.ref u) (pm.mem_iff.mp (List.mem_map.mpr ⟨u, hu', rfl⟩))
        cases e
        show SqT K _ u ((txts H2 (V.ref u)).map V.str)
        rw [txts_at h]
        exact SqT.of (Sa _ _ h)
      rw [List.map_id] at y
      exact y
end
end Sx

/-! SxZip -/
/-! [.. for x, y in zip(xs, ys)] -/
namespace Sx
open PySem PySem.Spec PyProof.Rows L2 RZ
section
variable {K : PySem.W.Frag} {a b : Addr} {xs ys : List V} {te : TE} {vs : List Nat} {σ : L2.St} {H : Hp} {Qr : Addr → Hp → Prop} {j1 j2 : Nat}
theorem lc_zipL (hx : SqL K H a xs) (hy : SqL K H b ys) (hl : xs.length = ys.length) (hz : xs.length ≤ 10000) (hw : ∀ x y, wipe (((wipe σ vs).set j1 (some x)).set j2 (some y)) vs = wipe σ vs)
    (ht : ∀ (i : Nat) x y, xs[i]? = some x → ys[i]? = some y → ∀ H', Same H H' → Gv te (((wipe σ vs).set j1 (some x)).set j2 (some y)) H' (.bl true)) (q : ∀ D H', H D = none → Same H H' → H' D = some (.lst (List.replicate xs.length (.bl true))) → Qr D H') :
    ∀ D, H D = none → ∃ W : Nat → Nat → Hp → Prop, (∃ m, W 0 m (upd H D (.lst []))) ∧ ∀ i m H', W i m H' → ((Itz K a b).stop i H' ∧ Qr D H') ∨ ((Itz K a b).go i H' ∧ ∃ Nx : Hp → Prop, (∀ H', Nx H' → ∃ m', m' < m ∧ W (i + 1) m' H') ∧ ∀ v H2, (Itz K a b).yld i H' v H2 → Turn1 D (gTup K 2 (gCons (gName j1) (gCons (gName j2) gNil))) tYes te vs σ v H2 Nx) := by
  intro D hD
  refine ⟨fun i m H' => m = xs.length - i ∧ i ≤ xs.length ∧ Same H H' ∧ H' D = some (.lst (List.replicate i (.bl true))), ⟨xs.length, rfl, Nat.zero_le _, Sx.Same.new hD, upd_same⟩, ?_⟩
  rintro i m H' ⟨rfl, hi, s, hd⟩
  have sx := same_sqL s hx
  have sy := same_sqL s hy
  rcases Nat.lt_or_ge i xs.length with lt | ge
  · have lt2 : i < ys.length := by omega
    refine .inr ⟨⟨xs, ys, xs[i], ys[i], sx, sy, List.getElem?_eq_getElem lt, List.getElem?_eq_getElem lt2⟩, fun H2 => Same H H2 ∧ H2 D = some (.lst (List.replicate (i + 1) (.bl true))), fun H2 p => ⟨xs.length - (i + 1), by omega, rfl, lt, p⟩, fun v H2 ⟨T, x, y, ev, hT, eH, h1, h2⟩ => ?_⟩
    subst ev
    have s2 : Same H' H2 := by rw [eH]; exact Sx.Same.new hT
    have hT2 : H2 T = some (.tup [x, y]) := by rw [eH]; exact upd_same
    refine ⟨T, [x, y], rfl, SqT.of hT2, rfl, _, _, rfl, _, _, rfl, rfl, ?_⟩
    refine ⟨hw x y, ?_⟩
    unfold tYes
    dsimp only
    rw [if_pos rfl]
    refine ht i x y (h1 xs sx) (h2 ys sy) _ (s.trans s2) _ fun H3 s3 => ⟨_, s3 _ _ (s2 _ _ hd), ?_, Sx.Same.mut (s.trans (s2.trans s3)) hD, ?_⟩
    · rw [List.length_replicate, sizeLine_eq]
      omega
    · rw [upd_same, List.replicate_succ']
  · have e : i = xs.length := Nat.le_antisymm hi ge
    subst e
    exact .inl ⟨⟨xs, ys, sx, sy, .inl (Nat.le_refl _)⟩, q D H' hD s hd⟩
theorem lc_zipT (hx : SqT K H a xs) (hy : SqT K H b ys) (hl : xs.length = ys.length) (hz : xs.length ≤ 10000) (hw : ∀ x y, wipe (((wipe σ vs).set j1 (some x)).set j2 (some y)) vs = wipe σ vs)
    (ht : ∀ (i : Nat) x y, xs[i]? = some x → ys[i]? = some y → ∀ H', Same H H' → Gv te (((wipe σ vs).set j1 (some x)).set j2 (some y)) H' (.bl true)) (q : ∀ D H', H D = none → Same H H' → H' D = some (.lst (List.replicate xs.length (.bl true))) → Qr D H') :
    ∀ D, H D = none → ∃ W : Nat → Nat → Hp → Prop, (∃ m, W 0 m (upd H D (.lst []))) ∧ ∀ i m H', W i m H' → ((ItzT K a b).stop i H' ∧ Qr D H') ∨ ((ItzT K a b).go i H' ∧ ∃ Nx : Hp → Prop, (∀ H', Nx H' → ∃ m', m' < m ∧ W (i + 1) m' H') ∧ ∀ v H2, (ItzT K a b).yld i H' v H2 → Turn1 D (gTup K 2 (gCons (gName j1) (gCons (gName j2) gNil))) tYes te vs σ v H2 Nx) := by
  intro D hD
  refine ⟨fun i m H' => m = xs.length - i ∧ i ≤ xs.length ∧ Same H H' ∧ H' D = some (.lst (List.replicate i (.bl true))), ⟨xs.length, rfl, Nat.zero_le _, Sx.Same.new hD, upd_same⟩, ?_⟩
  rintro i m H' ⟨rfl, hi, s, hd⟩
  have sx := sqT_same s hx
  have sy := sqT_same s hy
  rcases Nat.lt_or_ge i xs.length with lt | ge
  · have lt2 : i < ys.length := by omega
    refine .inr ⟨⟨xs, ys, xs[i], ys[i], sx, sy, List.getElem?_eq_getElem lt, List.getElem?_eq_getElem lt2⟩, fun H2 => Same H H2 ∧ H2 D = some (.lst (List.replicate (i + 1) (.bl true))), fun H2 p => ⟨xs.length - (i + 1), by omega, rfl, lt, p⟩, fun v H2 ⟨T, x, y, ev, hT, eH, h1, h2⟩ => ?_⟩
    subst ev
    have s2 : Same H' H2 := by rw [eH]; exact Sx.Same.new hT
    have hT2 : H2 T = some (.tup [x, y]) := by rw [eH]; exact upd_same
    refine ⟨T, [x, y], rfl, SqT.of hT2, rfl, _, _, rfl, _, _, rfl, rfl, ?_⟩
    refine ⟨hw x y, ?_⟩
    unfold tYes
    dsimp only
    rw [if_pos rfl]
    refine ht i x y (h1 xs sx) (h2 ys sy) _ (s.trans s2) _ fun H3 s3 => ⟨_, s3 _ _ (s2 _ _ hd), ?_, Sx.Same.mut (s.trans (s2.trans s3)) hD, ?_⟩
    · rw [List.length_replicate, sizeLine_eq]
      omega
    · rw [upd_same, List.replicate_succ']
  · have e : i = xs.length := Nat.le_antisymm hi ge
    subst e
    exact .inl ⟨⟨xs, ys, sx, sy, .inl (Nat.le_refl _)⟩, q D H' hD s hd⟩
end
theorem tyx_list {K : PySem.W.Frag} {H : Hp} {a : Addr} {xs : List V} (h : SqL K H a xs) : TyX K H (.ref a) (.type "list") := by
  rcases h with (h | ⟨o, h⟩) | ⟨o, its, n, hk, hc, r⟩
  · exact .base (.lst h)
  · exact .base (.frz h)
  · exact .kList hk hc
theorem tyx_tup {K : PySem.W.Frag} {H : Hp} {a : Addr} {xs : List V} (h : SqT K H a xs) : TyX K H (.ref a) (.type "tuple") := by
  rcases h with (h | ⟨o, h⟩) | ⟨o, its, n, hk, hc, r⟩
  · exact .base (.tup h)
  · exact .fTuple h
  · exact .kTuple hk hc
theorem dps_len {K : PySem.W.Frag} {H : Hp} : ∀ {xs : List V} {ds : List PyData}, DpAll K H xs ds → xs.length = ds.length
  | _, _, .nil => rfl
  | _, _, .cons _ h => by rw [List.length_cons, List.length_cons, dps_len h]
theorem dps_get {K : PySem.W.Frag} {H : Hp} : ∀ {xs : List V} {ds : List PyData} {i : Nat} {x : V}, DpAll K H xs ds → xs[i]? = some x → ∃ d, ds[i]? = some d ∧ Dp K H x d
  | _, _, 0, _, .cons h _, e => by cases e; exact ⟨_, rfl, h⟩
  | _, _, i + 1, _, .cons _ h, e => dps_get (i := i) h e
  | _, _, _, _, .nil, e => by simp at e
theorem depth_mem : ∀ {ds : List PyData} {d : PyData}, d ∈ ds → d.depth ≤ PyData.depthAll ds
  | _ :: ds, _, h => by
    rcases List.mem_cons.mp h with e | e
    · rw [e]; simp only [PyData.depthAll]; omega
    · have := depth_mem (ds := ds) e
      simp only [PyData.depthAll]; omega
theorem lay_mem : ∀ {ds : List PyData} {d : PyData}, PyData.canLayAll0 ds = true → d ∈ ds → d.canLay0 = true
  | x :: ds, d, a, h => by
    simp only [PyData.canLayAll0, Bool.and_eq_true] at a
    rcases List.mem_cons.mp h with e | e
    · rw [e]; exact a.1
    · exact lay_mem a.2 e
mutual
theorem eqv_refl : ∀ d : PyData, d.canLay0 = true → PyData.eqv d d = true
  | .none, _ => by simp only [PyData.eqv]
  | .bool b, _ => by simp only [PyData.eqv]; simp
  | .int i, _ => by simp only [PyData.eqv]; simp
  | .str x, _ => by simp only [PyData.eqv]; simp
  | .list ds, h => by simp only [PyData.canLay0] at h; simp only [PyData.eqv]; exact eqvs_refl ds h
  | .tuple ds, h => by simp only [PyData.canLay0] at h; simp only [PyData.eqv]; exact eqvs_refl ds h
  | .dict kvs, h => by simp only [PyData.canLay0] at h; cases h
theorem eqvs_refl : ∀ ds : List PyData, PyData.canLayAll0 ds = true → PyData.eqvAll ds ds = true
  | [], _ => by simp only [PyData.eqvAll]
  | d :: ds, h => by
    simp only [PyData.canLayAll0, Bool.and_eq_true] at h
    simp only [PyData.eqvAll, eqv_refl d h.1, eqvs_refl ds h.2]
    rfl
end
end Sx

/-! LawD -/
namespace Sx
open PySem PySem.Spec PyProof.Rows L2 RZ
abbrev sSame : Stmt := top 19
mutual
def plainD : PyData → Bool
  | .int _ => true
  | .str _ => true
  | .list ds => plainAll ds
  | .tuple ds => plainAll ds
  | _ => false
def plainAll : List PyData → Bool
  | [] => true
  | d :: ds => plainD d && plainAll ds
end
mutual
def wide : PyData → Bool
  | .list ds => decide (ds.length ≤ 10000) && wideAll ds
  | .tuple ds => decide (ds.length ≤ 10000) && wideAll ds
  | _ => true
def wideAll : List PyData → Bool
  | [] => true
  | d :: ds => wide d && wideAll ds
end
theorem wide_mem : ∀ {ds : List PyData} {d : PyData}, wideAll ds = true → d ∈ ds → wide d = true
  | x :: ds, d, a, h => by
    simp only [wideAll, Bool.and_eq_true] at a
    rcases List.mem_cons.mp h with e | e
    · rw [e]; exact a.1
    · exact wide_mem a.2 e
theorem plain_mem : ∀ {ds : List PyData} {d : PyData}, plainAll ds = true → d ∈ ds → plainD d = true
  | x :: ds, d, a, h => by
    simp only [plainAll, Bool.and_eq_true] at a
    rcases List.mem_cons.mp h with e | e
    · rw [e]; exact a.1
    · exact plain_mem a.2 e
def spSame (K : PySem.W.Frag) (n : Nat) : Sp := fun vs H Q _ => ∃ (x y : V) (d : PyData), vs = [x, y] ∧ Dp K H x d ∧ Dp K H y d ∧ d.depth ≤ n ∧ plainD d = true ∧ wide d = true ∧ ∀ H', Same H H' → Q (.bl true) H'
theorem kitNo2 {K : PySem.W.Frag} {a b c : String} (h1 : kitB a b = some false) (h2 : kitB a c = some false) : PySem.W.kitAny K (.type a) [.type b, .type c] = some false :=
  kitAny_cons (kit_ty h1) (fun _ => kitAny_cons (kit_ty h2) (fun _ => kitAny_nil) (fun h => nomatch h)) (fun h => nomatch h)
theorem kitYes1 {K : PySem.W.Frag} {a b c : String} (h1 : kitB a b = some true) : PySem.W.kitAny K (.type a) [.type b, .type c] = some true :=
  kitAny_cons (kit_ty h1) (fun h => nomatch h) (fun _ => rfl)
theorem kitYes2 {K : PySem.W.Frag} {a b c : String} (h1 : kitB a b = some false) (h2 : kitB a c = some true) : PySem.W.kitAny K (.type a) [.type b, .type c] = some true :=
  kitAny_cons (kit_ty h1) (fun _ => kitAny_cons (kit_ty h2) (fun h => nomatch h) (fun _ => rfl)) (fun h => nomatch h)
section
variable {P : Program} {w : World} {K : PySem.W.Frag} {mg : Str → Option Value} {base : Heap}
abbrev nSame : List Str := ["_law_got", "_law_goal", "_law_mine_so", "_law_own"]
theorem scSame : FnScope nSame ["_law_got", "_law_goal"] (defScope sSame) := ⟨rfl, rfl, rfl, by decide +kernel, rfl, by decide +kernel, by decide +kernel⟩
theorem ok_same1 {f : Addr} {fd : FuncData} {dvs : List V} {n : Nat} (F : FunD K "_law_same" "_law_same" (defArgs sSame) (defBody sSame) (defScope sSame) dvs [] f fd) (B : Blt mg) (GS : n = 0 ∨ ∃ m, n = m + 1 ∧ FnG P w K mg base "_law_same" n ["_law_got", "_law_goal"] (spSame K m)) :
    FnOk P w K mg base CX0 (n + 1) f fd ["_law_got", "_law_goal"] (spSame K n) := by
  refine F.ok scSame (fun vs H Q E h => ?_) (fun cdv A outer s H vs Q E hr h => ?_)
  · obtain ⟨x, y, d, rfl, _⟩ := h
    rfl
  · obtain ⟨x, y, d, rfl, hx, hy, dep, pl, wd, q⟩ := h
    cases n with
    | zero =>
      have bs : (∃ i, x = V.int i ∧ y = V.int i) ∨ ∃ z, x = V.str z ∧ y = V.str z := by
        cases hx with
        | non => cases pl
        | bl b => cases pl
        | int i => cases hy; exact .inl ⟨i, rfl, rfl⟩
        | str z => cases hy; exact .inr ⟨z, rfl, rfl⟩
        | lst _ _ => simp only [PyData.depth] at dep; omega
        | tup _ _ => simp only [PyData.depth] at dep; omega
      clear hx hy
      refine ⟨_, (pss_cons (ps_if (pt_val (pe_callB call_isiT (by rfl) B.isinstance bt_isinstance (pa_cons (pv 1) (pa_cons (pe_tup (pa_cons (pe_bltn (v := .ty "list") (by rfl) B.list bt_list rfl) (pa_cons (pe_bltn (v := .ty "tuple") (by rfl) B.tuple bt_tuple rfl) pa_nil))) pa_nil)))) (pss_cons ps_never (pss_one ps_never)) pss_nil)
        (pss_cons (ps_if (PW.pt (pw_or (pt_cmp (pc_isN (pv 1))) (pw_or1 (pt_val (pe_callB call_isiT (by rfl) B.isinstance bt_isinstance (pa_cons (pv 1) (pa_cons (pe_tup (pa_cons (pe_bltn (v := .ty "bool") (by rfl) B.bool bt_bool rfl) (pa_cons (pe_bltn (v := .ty "str") (by rfl) B.str bt_str rfl) pa_nil))) pa_nil)))))))
            (pss_one (ps_ret (pe_and (pe_cmpR op_eq (pv 0) (pv 1) (nomark _)) (pe_and (pe_cmpR op_eq (pe_callB call_isi (by rfl) B.isinstance bt_isinstance (pa_cons (pv 0) (pa_cons (pe_bltn (v := .ty "bool") (by rfl) B.bool bt_bool rfl) pa_nil))) (pe_callB call_isi (by rfl) B.isinstance bt_isinstance (pa_cons (pv 1) (pa_cons (pe_bltn (v := .ty "bool") (by rfl) B.bool bt_bool rfl) pa_nil))) (nomark _))
              (pe_one (pe_cmpR op_eq (pe_cmp (pc_isN (pv 0)) rfl) (pe_cmp (pc_isN (pv 1)) rfl) (nomark _))))))) pss_nil)
        (pss_one (ps_ret (pe_and (pe_callB call_isi (by rfl) B.isinstance bt_isinstance (pa_cons (pv 0) (pa_cons (pe_bltn (v := .ty "int") (by rfl) B.int bt_int rfl) pa_nil))) (pe_and (pe_not (pe_callB call_isi (by rfl) B.isinstance bt_isinstance (pa_cons (pv 0) (pa_cons (pe_bltn (v := .ty "bool") (by rfl) B.bool bt_bool rfl) pa_nil)))) (pe_one (pe_cmpR op_eq (pv 0) (pv 1) (nomark _))))))))).nox, ?_⟩
      rcases bs with ⟨i, rfl, rfl⟩ | ⟨z, rfl, rfl⟩
      · refine ⟨_, rfl, (by show 2 ≤ sizeLine; decide), fun tp htp => ?_⟩
        refine ⟨.int i, tp, _, _, _, false, rfl, upd_same, .cons (.ty _) (.cons (.ty _) .nil), .base (.int i), kitNo2 (by decide +kernel) (by decide +kernel), _, rfl, iteF ?_⟩
        have S1 : Same H (upd H tp (.tup [.ty "list", .ty "tuple"])) := Sx.Same.new htp
        generalize upd H tp (.tup [.ty "list", .ty "tuple"]) = H1 at S1 ⊢
        refine ⟨_, rfl, _, rfl, ?_⟩
        rw [decide_eq_false (show ¬ (V.int i = V.non) from fun z => nomatch z)]
        refine iteF ⟨_, rfl, (by show 2 ≤ sizeLine; decide), fun tp2 htp2 => ?_⟩
        refine ⟨.int i, tp2, _, _, _, false, rfl, upd_same, .cons (.ty _) (.cons (.ty _) .nil), .base (.int i), kitNo2 (by decide +kernel) (by decide +kernel), _, rfl, iteF ?_⟩
        have S2 : Same H1 (upd H1 tp2 (.tup [.ty "bool", .ty "str"])) := Sx.Same.new htp2
        refine ⟨_, rfl, .int i, .ty "int", .type "int", .type "int", true, rfl, .ty "int", .base (.int i), kit_ty (by decide +kernel), _, rfl, iteT ?_⟩
        refine ⟨_, rfl, .int i, .ty "bool", .type "int", .type "bool", false, rfl, .ty "bool", .base (.int i), kit_ty (by decide +kernel), _, rfl, _, rfl, iteT ?_⟩
        refine ⟨_, rfl, _, rfl, rfl, ?_⟩
        rw [decide_eq_true rfl]
        exact q _ (S1.trans S2)
      · refine ⟨_, rfl, (by show 2 ≤ sizeLine; decide), fun tp htp => ?_⟩
        refine ⟨.str z, tp, _, _, _, false, rfl, upd_same, .cons (.ty _) (.cons (.ty _) .nil), .base (.str z), kitNo2 (by decide +kernel) (by decide +kernel), _, rfl, iteF ?_⟩
        have S1 : Same H (upd H tp (.tup [.ty "list", .ty "tuple"])) := Sx.Same.new htp
        generalize upd H tp (.tup [.ty "list", .ty "tuple"]) = H1 at S1 ⊢
        refine ⟨_, rfl, _, rfl, ?_⟩
        rw [decide_eq_false (show ¬ (V.str z = V.non) from fun z => nomatch z)]
        refine iteF ⟨_, rfl, (by show 2 ≤ sizeLine; decide), fun tp2 htp2 => ?_⟩
        refine ⟨.str z, tp2, _, _, _, true, rfl, upd_same, .cons (.ty _) (.cons (.ty _) .nil), .base (.str z), kitYes2 (by decide +kernel) (by decide +kernel), _, rfl, iteT ?_⟩
        have S2 : Same H1 (upd H1 tp2 (.tup [.ty "bool", .ty "str"])) := Sx.Same.new htp2
        refine ⟨_, rfl, _, rfl, rfl, _, rfl, ?_⟩
        rw [decide_eq_true rfl]
        refine iteT ⟨_, rfl, .str z, .ty "bool", .type "str", .type "bool", false, rfl, .ty "bool", .base (.str z), kit_ty (by decide +kernel), _, rfl, .str z, .ty "bool", .type "str", .type "bool", false, rfl, .ty "bool", .base (.str z), kit_ty (by decide +kernel), rfl, _, rfl, ?_⟩
        rw [decide_eq_true rfl]
        refine iteT ⟨_, rfl, _, rfl, rfl, ?_⟩
        rw [decide_eq_true rfl]
        exact q _ (S1.trans S2)
    | succ m =>
      obtain e | ⟨m', e, GS⟩ := GS
      · cases e
      cases e
      refine ⟨_, (pss_cons (ps_if (pt_val (pe_callB call_isiT (by rfl) B.isinstance bt_isinstance (pa_cons (pv 1) (pa_cons (pe_tup (pa_cons (pe_bltn (v := .ty "list") (by rfl) B.list bt_list rfl) (pa_cons (pe_bltn (v := .ty "tuple") (by rfl) B.tuple bt_tuple rfl) pa_nil))) pa_nil)))) (pss_cons (ps_if (PW.pt (pw_or (pt_cmpR op_ne (pe_callB call_isi (by rfl) B.isinstance bt_isinstance (pa_cons (pv 0) (pa_cons (pe_bltn (v := .ty "list") (by rfl) B.list bt_list rfl) pa_nil))) (pe_callB call_isi (by rfl) B.isinstance bt_isinstance (pa_cons (pv 1) (pa_cons (pe_bltn (v := .ty "list") (by rfl) B.list bt_list rfl) pa_nil))) (nomark _)) (pw_or1 (pt_cmpR op_ne (pe_callB call_isi (by rfl) B.isinstance bt_isinstance (pa_cons (pv 0) (pa_cons (pe_bltn (v := .ty "tuple") (by rfl) B.tuple bt_tuple rfl) pa_nil))) (pe_callB call_isi (by rfl) B.isinstance bt_isinstance (pa_cons (pv 1) (pa_cons (pe_bltn (v := .ty "tuple") (by rfl) B.tuple bt_tuple rfl) pa_nil))) (nomark _))))) (pss_one ps_never) pss_nil)
          (pss_one (ps_ret (pe_and (pe_cmpR op_eq (pe_callB call_len_seq (by rfl) B.len PySem.boot_len (pa_cons (pv 0) pa_nil)) (pe_callB call_len_seq (by rfl) B.len PySem.boot_len (pa_cons (pv 1) pa_nil)) (nomark _))
            (pe_one (pe_callB (cr_all rfl) (by rfl) B.all bt_all (pa_cons (pe_lc (own := [("_law_mine_so", 2), ("_law_own", 3)]) (g := gTup K 2 (gCons (gName 2) (gCons (gName 3) gNil))) (tt := tYes) rfl scSame.nd (pi_zipA (by rfl) B.zip (pa_cons (pv 0) (pa_cons (pv 1) pa_nil))) (blkOk_by (N := nSame) (sc := defScope sSame) (by decide +kernel))
              (fun _ _ _ _ _ => pg_tup rfl (pgs_cons (pg_name (i := 2) scSame.nd rfl (Or.inl rfl)) (pgs_cons (pg_name (i := 3) scSame.nd rfl (Or.inl rfl)) pgs_nil))) (fun _ _ _ _ _ => pts_nil) (fun _ _ _ _ _ => pe_g GS hr (pa_cons (pv 2) (pa_cons (pv 3) pa_nil)))) pa_nil))))))) pss_nil)
        (pss_cons (ps_if (PW.pt (pw_or (pt_cmp (pc_isN (pv 1))) (pw_or1 (pt_val (pe_callB call_isiT (by rfl) B.isinstance bt_isinstance (pa_cons (pv 1) (pa_cons (pe_tup (pa_cons (pe_bltn (v := .ty "bool") (by rfl) B.bool bt_bool rfl) (pa_cons (pe_bltn (v := .ty "str") (by rfl) B.str bt_str rfl) pa_nil))) pa_nil)))))))
            (pss_one (ps_ret (pe_and (pe_cmpR op_eq (pv 0) (pv 1) (nomark _)) (pe_and (pe_cmpR op_eq (pe_callB call_isi (by rfl) B.isinstance bt_isinstance (pa_cons (pv 0) (pa_cons (pe_bltn (v := .ty "bool") (by rfl) B.bool bt_bool rfl) pa_nil))) (pe_callB call_isi (by rfl) B.isinstance bt_isinstance (pa_cons (pv 1) (pa_cons (pe_bltn (v := .ty "bool") (by rfl) B.bool bt_bool rfl) pa_nil))) (nomark _))
              (pe_one (pe_cmpR op_eq (pe_cmp (pc_isN (pv 0)) rfl) (pe_cmp (pc_isN (pv 1)) rfl) (nomark _))))))) pss_nil)
        (pss_one (ps_ret (pe_and (pe_callB call_isi (by rfl) B.isinstance bt_isinstance (pa_cons (pv 0) (pa_cons (pe_bltn (v := .ty "int") (by rfl) B.int bt_int rfl) pa_nil))) (pe_and (pe_not (pe_callB call_isi (by rfl) B.isinstance bt_isinstance (pa_cons (pv 0) (pa_cons (pe_bltn (v := .ty "bool") (by rfl) B.bool bt_bool rfl) pa_nil)))) (pe_one (pe_cmpR op_eq (pv 0) (pv 1) (nomark _))))))))).nox, ?_⟩
      obtain bs | ⟨a, b, xs, ys, ds, rfl, rfl, sx, sy, ax, ay, rfl⟩ | ⟨a, b, xs, ys, ds, rfl, rfl, sx, sy, ax, ay, rfl⟩ : ((∃ i, x = V.int i ∧ y = V.int i) ∨ ∃ z, x = V.str z ∧ y = V.str z) ∨
          (∃ a b xs ys ds, x = V.ref a ∧ y = V.ref b ∧ SqL K H a xs ∧ SqL K H b ys ∧ DpAll K H xs ds ∧ DpAll K H ys ds ∧ d = .list ds) ∨ (∃ a b xs ys ds, x = V.ref a ∧ y = V.ref b ∧ SqT K H a xs ∧ SqT K H b ys ∧ DpAll K H xs ds ∧ DpAll K H ys ds ∧ d = .tuple ds) := by
        cases hx with
        | non => cases pl
        | bl b => cases pl
        | int i => cases hy; exact .inl (.inl ⟨i, rfl, rfl⟩)
        | str z => cases hy; exact .inl (.inr ⟨z, rfl, rfl⟩)
        | lst h1 h2 => cases hy with | lst h3 h4 => exact .inr (.inl ⟨_, _, _, _, _, rfl, rfl, h1, h3, h2, h4, rfl⟩)
        | tup h1 h2 => cases hy with | tup h3 h4 => exact .inr (.inr ⟨_, _, _, _, _, rfl, rfl, h1, h3, h2, h4, rfl⟩)
      · clear hx hy
        rcases bs with ⟨i, rfl, rfl⟩ | ⟨z, rfl, rfl⟩
        · refine ⟨_, rfl, (by show 2 ≤ sizeLine; decide), fun tp htp => ?_⟩
          refine ⟨.int i, tp, _, _, _, false, rfl, upd_same, .cons (.ty _) (.cons (.ty _) .nil), .base (.int i), kitNo2 (by decide +kernel) (by decide +kernel), _, rfl, iteF ?_⟩
          have S1 : Same H (upd H tp (.tup [.ty "list", .ty "tuple"])) := Sx.Same.new htp
          generalize upd H tp (.tup [.ty "list", .ty "tuple"]) = H1 at S1 ⊢
          refine ⟨_, rfl, _, rfl, ?_⟩
          rw [decide_eq_false (show ¬ (V.int i = V.non) from fun z => nomatch z)]
          refine iteF ⟨_, rfl, (by show 2 ≤ sizeLine; decide), fun tp2 htp2 => ?_⟩
          refine ⟨.int i, tp2, _, _, _, false, rfl, upd_same, .cons (.ty _) (.cons (.ty _) .nil), .base (.int i), kitNo2 (by decide +kernel) (by decide +kernel), _, rfl, iteF ?_⟩
          have S2 : Same H1 (upd H1 tp2 (.tup [.ty "bool", .ty "str"])) := Sx.Same.new htp2
          refine ⟨_, rfl, .int i, .ty "int", .type "int", .type "int", true, rfl, .ty "int", .base (.int i), kit_ty (by decide +kernel), _, rfl, iteT ?_⟩
          refine ⟨_, rfl, .int i, .ty "bool", .type "int", .type "bool", false, rfl, .ty "bool", .base (.int i), kit_ty (by decide +kernel), _, rfl, _, rfl, iteT ?_⟩
          refine ⟨_, rfl, _, rfl, rfl, ?_⟩
          rw [decide_eq_true rfl]
          exact q _ (S1.trans S2)
        · refine ⟨_, rfl, (by show 2 ≤ sizeLine; decide), fun tp htp => ?_⟩
          refine ⟨.str z, tp, _, _, _, false, rfl, upd_same, .cons (.ty _) (.cons (.ty _) .nil), .base (.str z), kitNo2 (by decide +kernel) (by decide +kernel), _, rfl, iteF ?_⟩
          have S1 : Same H (upd H tp (.tup [.ty "list", .ty "tuple"])) := Sx.Same.new htp
          generalize upd H tp (.tup [.ty "list", .ty "tuple"]) = H1 at S1 ⊢
          refine ⟨_, rfl, _, rfl, ?_⟩
          rw [decide_eq_false (show ¬ (V.str z = V.non) from fun z => nomatch z)]
          refine iteF ⟨_, rfl, (by show 2 ≤ sizeLine; decide), fun tp2 htp2 => ?_⟩
          refine ⟨.str z, tp2, _, _, _, true, rfl, upd_same, .cons (.ty _) (.cons (.ty _) .nil), .base (.str z), kitYes2 (by decide +kernel) (by decide +kernel), _, rfl, iteT ?_⟩
          have S2 : Same H1 (upd H1 tp2 (.tup [.ty "bool", .ty "str"])) := Sx.Same.new htp2
          refine ⟨_, rfl, _, rfl, rfl, _, rfl, ?_⟩
          rw [decide_eq_true rfl]
          refine iteT ⟨_, rfl, .str z, .ty "bool", .type "str", .type "bool", false, rfl, .ty "bool", .base (.str z), kit_ty (by decide +kernel), _, rfl, .str z, .ty "bool", .type "str", .type "bool", false, rfl, .ty "bool", .base (.str z), kit_ty (by decide +kernel), rfl, _, rfl, ?_⟩
          rw [decide_eq_true rfl]
          refine iteT ⟨_, rfl, _, rfl, rfl, ?_⟩
          rw [decide_eq_true rfl]
          exact q _ (S1.trans S2)
      · refine ⟨_, rfl, (by show 2 ≤ sizeLine; decide), fun tp htp => ?_⟩
        have S1 : Same H (upd H tp (.tup [.ty "list", .ty "tuple"])) := Sx.Same.new htp
        refine ⟨.ref b, tp, _, _, _, true, rfl, upd_same, .cons (.ty _) (.cons (.ty _) .nil), tyx_list (same_sqL S1 sy), kitYes1 (by decide +kernel), _, rfl, iteT ?_⟩
        generalize upd H tp (.tup [.ty "list", .ty "tuple"]) = H1 at S1 ⊢
        have sx1 := same_sqL S1 sx
        have sy1 := same_sqL S1 sy
        refine ⟨_, rfl, .ref a, .ty "list", .type "list", .type "list", true, rfl, .ty "list", tyx_list sx1, kit_ty (by decide +kernel), _, rfl, .ref b, .ty "list", .type "list", .type "list", true, rfl, .ty "list", tyx_list sy1, kit_ty (by decide +kernel), rfl, _, rfl, ?_⟩
        rw [decide_eq_true rfl]
        refine iteF ⟨_, rfl, .ref a, .ty "tuple", .type "list", .type "tuple", false, rfl, .ty "tuple", tyx_list sx1, kit_ty (by decide +kernel), _, rfl, .ref b, .ty "tuple", .type "list", .type "tuple", false, rfl, .ty "tuple", tyx_list sy1, kit_ty (by decide +kernel), rfl, _, rfl, ?_⟩
        rw [decide_eq_true rfl]
        refine iteF ?_
        have lx := dps_len ax
        have ly := dps_len ay
        simp only [wide, Bool.and_eq_true, decide_eq_true_eq] at wd
        simp only [plainD] at pl
        simp only [PyData.depth] at dep
        refine ⟨_, rfl, a, xs, rfl, .inl sx1, _, rfl, b, ys, rfl, .inl sy1, rfl, _, rfl, ?_⟩
        rw [decide_eq_true (show V.int (xs.length : Nat) = V.int (ys.length : Nat) by rw [lx, ly])]
        refine iteT ⟨_, rfl, _, rfl, a, b, xs, ys, rfl, .inl ⟨sx1, sy1, ?_⟩⟩
        refine lc_zipL (vs := [2, 3]) (σ := [some (.ref a), some (.ref b), none, none]) (j1 := 2) (j2 := 3) sx1 sy1 (by omega) (by omega) (fun _ _ => by rfl) (fun i x y hi hj H' s' Q h => ?_) (fun D H' hD s' hl => ?_)
        · obtain ⟨e, he, hxe⟩ := dps_get ax hi
          obtain ⟨e', he', hye⟩ := dps_get ay hj
          rw [he] at he'
          cases he'
          have em := List.mem_of_getElem? he
          have S2 := S1.trans s'
          have dm := depth_mem em
          exact ⟨_, rfl, _, rfl, x, y, e, rfl, dp_same S2 e hxe, dp_same S2 e hye, by omega, plain_mem pl em, wide_mem wd.2 em, fun H5 s5 => h H5 s5⟩
        · refine ⟨D, List.replicate xs.length true, rfl, SqL.of (by rw [hl, List.map_replicate]), ?_⟩
          have ea : (List.replicate xs.length true).all id = true := by
            rw [List.all_eq_true]
            intro z hz
            rw [(List.mem_replicate.mp hz).2]
            rfl
          rw [ea]
          exact q _ (S1.trans s')
      · refine ⟨_, rfl, (by show 2 ≤ sizeLine; decide), fun tp htp => ?_⟩
        have S1 : Same H (upd H tp (.tup [.ty "list", .ty "tuple"])) := Sx.Same.new htp
        refine ⟨.ref b, tp, _, _, _, true, rfl, upd_same, .cons (.ty _) (.cons (.ty _) .nil), tyx_tup (sqT_same S1 sy), kitYes2 (by decide +kernel) (by decide +kernel), _, rfl, iteT ?_⟩
        generalize upd H tp (.tup [.ty "list", .ty "tuple"]) = H1 at S1 ⊢
        have sx1 := sqT_same S1 sx
        have sy1 := sqT_same S1 sy
        refine ⟨_, rfl, .ref a, .ty "list", .type "tuple", .type "list", false, rfl, .ty "list", tyx_tup sx1, kit_ty (by decide +kernel), _, rfl, .ref b, .ty "list", .type "tuple", .type "list", false, rfl, .ty "list", tyx_tup sy1, kit_ty (by decide +kernel), rfl, _, rfl, ?_⟩
        rw [decide_eq_true rfl]
        refine iteF ⟨_, rfl, .ref a, .ty "tuple", .type "tuple", .type "tuple", true, rfl, .ty "tuple", tyx_tup sx1, kit_ty (by decide +kernel), _, rfl, .ref b, .ty "tuple", .type "tuple", .type "tuple", true, rfl, .ty "tuple", tyx_tup sy1, kit_ty (by decide +kernel), rfl, _, rfl, ?_⟩
        rw [decide_eq_true rfl]
        refine iteF ?_
        have lx := dps_len ax
        have ly := dps_len ay
        simp only [wide, Bool.and_eq_true, decide_eq_true_eq] at wd
        simp only [plainD] at pl
        simp only [PyData.depth] at dep
        refine ⟨_, rfl, a, xs, rfl, .inr sx1, _, rfl, b, ys, rfl, .inr sy1, rfl, _, rfl, ?_⟩
        rw [decide_eq_true (show V.int (xs.length : Nat) = V.int (ys.length : Nat) by rw [lx, ly])]
        refine iteT ⟨_, rfl, _, rfl, a, b, xs, ys, rfl, .inr ⟨sx1, sy1, ?_⟩⟩
        refine lc_zipT (vs := [2, 3]) (σ := [some (.ref a), some (.ref b), none, none]) (j1 := 2) (j2 := 3) sx1 sy1 (by omega) (by omega) (fun _ _ => by rfl) (fun i x y hi hj H' s' Q h => ?_) (fun D H' hD s' hl => ?_)
        · obtain ⟨e, he, hxe⟩ := dps_get ax hi
          obtain ⟨e', he', hye⟩ := dps_get ay hj
          rw [he] at he'
          cases he'
          have em := List.mem_of_getElem? he
          have S2 := S1.trans s'
          have dm := depth_mem em
          exact ⟨_, rfl, _, rfl, x, y, e, rfl, dp_same S2 e hxe, dp_same S2 e hye, by omega, plain_mem pl em, wide_mem wd.2 em, fun H5 s5 => h H5 s5⟩
        · refine ⟨D, List.replicate xs.length true, rfl, SqL.of (by rw [hl, List.map_replicate]), ?_⟩
          have ea : (List.replicate xs.length true).all id = true := by
            rw [List.all_eq_true]
            intro z hz
            rw [(List.mem_replicate.mp hz).2]
            rfl
          rw [ea]
          exact q _ (S1.trans s')
/-- same at every depth -/
theorem ok_same {f : Addr} {fd : FuncData} {dvs : List V} (F : FunD K "_law_same" "_law_same" (defArgs sSame) (defBody sSame) (defScope sSame) dvs [] f fd) (B : Blt mg) (hm : mg "_law_same" = some (.ref f)) (kp : PySem.W.keepIn K (.ref f) = true) (bd : Binds K fd ["_law_got", "_law_goal"] []) :
    ∀ n, FnOk P w K mg base CX0 (n + 1) f fd ["_law_got", "_law_goal"] (spSame K n)
  | 0 => ok_same1 F B (.inl rfl)
  | n + 1 => ok_same1 F B (.inr ⟨n, rfl, f, fd, hm, kp, ok_same F B hm kp bd n, bd⟩)
end
end Sx

/-! SxWalk -/
/-! Comprehensions with an invariant of one's own. -/
namespace Sx
open PySem PySem.Spec PyProof.Rows L2
section
variable {K : PySem.W.Frag} {a : Addr} {xs : List V} {g : TG} {tt : TT} {te : TE} {vs : List Nat} {σ : L2.St} {H : Hp} {Qr : Addr → Hp → Prop} {n : Nat}
theorem lc_walkL (hx : SqL K H a xs) (Pv : Addr → Nat → Hp → Prop) (h0 : ∀ D, H D = none → Pv D 0 (upd H D (.lst []))) (hl : ∀ D j H', Pv D j H' → SqL K H' a xs)
    (hs : ∀ D (j : Nat) x H', xs[j]? = some x → H D = none → Pv D j H' → Turn1 D g tt te vs σ x H' (Pv D (j + 1)))
    (hd : ∀ D H', H D = none → Pv D xs.length H' → Qr D H') :
    ∀ D, H D = none → ∃ W : Nat → Nat → Hp → Prop, (∃ m, W 0 m (upd H D (.lst []))) ∧ ∀ i m H', W i m H' → ((Itl K a).stop i H' ∧ Qr D H') ∨ ((Itl K a).go i H' ∧ ∃ Nx : Hp → Prop, (∀ H', Nx H' → ∃ m', m' < m ∧ W (i + 1) m' H') ∧ ∀ x H2, (Itl K a).yld i H' x H2 → Turn1 D g tt te vs σ x H2 Nx) := by
  intro D hD
  refine ⟨fun j m H' => m = xs.length - j ∧ j ≤ xs.length ∧ Pv D j H', ⟨xs.length, rfl, Nat.zero_le _, h0 D hD⟩, ?_⟩
  rintro j m H' ⟨rfl, hj, p⟩
  have sq := hl D j H' p
  rcases Nat.lt_or_ge j xs.length with lt | ge
  · exact .inr ⟨⟨xs, xs[j], sq, List.getElem?_eq_getElem lt⟩, Pv D (j + 1), fun H2 p2 => ⟨xs.length - (j + 1), by omega, rfl, lt, p2⟩, fun x H2 ⟨e, y⟩ => by rw [e]; exact hs D j x H' (y xs sq) hD p⟩
  · have e : j = xs.length := Nat.le_antisymm hj ge
    subst e
    exact .inl ⟨⟨xs, sq, Nat.le_refl _⟩, hd D H' hD p⟩
theorem lc_walkT (hx : SqT K H a xs) (Pv : Addr → Nat → Hp → Prop) (h0 : ∀ D, H D = none → Pv D 0 (upd H D (.lst []))) (hl : ∀ D j H', Pv D j H' → SqT K H' a xs)
    (hs : ∀ D (j : Nat) x H', xs[j]? = some x → H D = none → Pv D j H' → Turn1 D g tt te vs σ x H' (Pv D (j + 1)))
    (hd : ∀ D H', H D = none → Pv D xs.length H' → Qr D H') :
    ∀ D, H D = none → ∃ W : Nat → Nat → Hp → Prop, (∃ m, W 0 m (upd H D (.lst []))) ∧ ∀ i m H', W i m H' → ((Itt K a).stop i H' ∧ Qr D H') ∨ ((Itt K a).go i H' ∧ ∃ Nx : Hp → Prop, (∀ H', Nx H' → ∃ m', m' < m ∧ W (i + 1) m' H') ∧ ∀ x H2, (Itt K a).yld i H' x H2 → Turn1 D g tt te vs σ x H2 Nx) := by
  intro D hD
  refine ⟨fun j m H' => m = xs.length - j ∧ j ≤ xs.length ∧ Pv D j H', ⟨xs.length, rfl, Nat.zero_le _, h0 D hD⟩, ?_⟩
  rintro j m H' ⟨rfl, hj, p⟩
  have sq := hl D j H' p
  rcases Nat.lt_or_ge j xs.length with lt | ge
  · exact .inr ⟨⟨xs, xs[j], sq, List.getElem?_eq_getElem lt⟩, Pv D (j + 1), fun H2 p2 => ⟨xs.length - (j + 1), by omega, rfl, lt, p2⟩, fun x H2 ⟨e, y⟩ => by rw [e]; exact hs D j x H' (y xs sq) hD p⟩
  · have e : j = xs.length := Nat.le_antisymm hj ge
    subst e
    exact .inl ⟨⟨xs, sq, Nat.le_refl _⟩, hd D H' hD p⟩
theorem lc_walkR (Pv : Addr → Nat → Hp → Prop) (h0 : ∀ D, H D = none → Pv D 0 (upd H D (.lst []))) 
    (hs : ∀ D (j : Nat) x H', j < n ∧ x = V.int (0 + (j : Nat)) → H D = none → Pv D j H' → Turn1 D g tt te vs σ x H' (Pv D (j + 1)))
    (hd : ∀ D H', H D = none → Pv D n H' → Qr D H') :
    ∀ D, H D = none → ∃ W : Nat → Nat → Hp → Prop, (∃ m, W 0 m (upd H D (.lst []))) ∧ ∀ i m H', W i m H' → ((Itr 0 n).stop i H' ∧ Qr D H') ∨ ((Itr 0 n).go i H' ∧ ∃ Nx : Hp → Prop, (∀ H', Nx H' → ∃ m', m' < m ∧ W (i + 1) m' H') ∧ ∀ x H2, (Itr 0 n).yld i H' x H2 → Turn1 D g tt te vs σ x H2 Nx) := by
  intro D hD
  refine ⟨fun j m H' => m = n - j ∧ j ≤ n ∧ Pv D j H', ⟨n, rfl, Nat.zero_le _, h0 D hD⟩, ?_⟩
  rintro j m H' ⟨rfl, hj, p⟩
  by_cases lt : j < n
  · exact .inr ⟨lt, Pv D (j + 1), fun H2 p2 => ⟨n - (j + 1), by omega, rfl, lt, p2⟩, fun x H2 ⟨e, y⟩ => by rw [e]; exact hs D j x H' ⟨lt, y⟩ hD p⟩
  · have e : j = n := by omega
    subst e
    exact .inl ⟨Nat.le_refl _, hd D H' hD p⟩
end
end Sx

/-! LawE -/
namespace Sx
open PySem PySem.Spec PyProof.Rows L2
abbrev sBox : Stmt := top 15
abbrev sCells : Stmt := top 17
def spBox (K : PySem.W.Frag) : Sp := fun vs H Q _ => ∃ (a : Addr) (k : Nat) (ns : List Int), vs = [.ref a, .int k] ∧ SqL K H a (ns.map V.int) ∧ k < ns.length ∧ ns.length ≤ 3 ∧ ∀ l H', Same H H' → H l = none → Urn H' l 0 → Q (.ref l) H'
def spCells (K : PySem.W.Frag) : Sp := fun vs H Q _ => ∃ (a : Addr) (ns : List Int), vs = [.ref a, .int 3] ∧ SqL K H a (ns.map V.int) ∧ ns.length ≤ 63 ∧ ∀ l (ms : List Int) H', Same H H' → H' l = some (.lst (ms.map V.int)) → ms.length ≤ 3 → Q (.ref l) H'
theorem b01 : ∀ b : Bool, -(2 ^ 64) < (if b = true then (1 : Int) else 0) ∧ (if b = true then (1 : Int) else 0) < 2 ^ 64
  | true => by decide
  | false => by decide
section
variable {P : Program} {w : World} {K : PySem.W.Frag} {mg : Str → Option Value} {base : Heap}
/-- for i, x in enumerate(xs) -/
theorem for_enum {a : Addr} {xs : List V} {tb : TS} {D : Ends} {σ : L2.St} {H : Hp} {j1 j2 : Nat} (hx : SqL K H a xs) (Pv : Nat → L2.St → Hp → Prop) (h0 : Pv 0 σ H) (hl : ∀ i σ' H', Pv i σ' H' → SqL K H' a xs) (hk : ∀ i σ' H' H2, Pv i σ' H' → Same H' H2 → Pv i σ' H2)
    (hs : ∀ (i : Nat) x σ' H', xs[i]? = some x → Pv i σ' H' → tb { D with nx := Pv (i + 1), ct := Pv (i + 1), bk := D.nx } ((σ'.set j1 (some (.int (i : Nat)))).set j2 (some x)) H') (hq : ∀ σ' H', Pv xs.length σ' H' → D.nx σ' H') :
    ∃ W : Nat → Nat → L2.St → Hp → Prop, (∃ m, W 0 m σ H) ∧ ∀ i m σ H, W i m σ H → ((Ite K a).stop i H ∧ D.nx σ H) ∨ ((Ite K a).go i H ∧ ∃ N : L2.St → Hp → Prop, (∀ σ' H', N σ' H' → ∃ m', m' < m ∧ W (i + 1) m' σ' H') ∧ ∀ x H', (Ite K a).yld i H x H' → gTup K 2 (gCons (gName j1) (gCons (gName j2) gNil)) x σ H' fun σ2 H2 => tb { D with nx := N, ct := N, bk := D.nx } σ2 H2) := by
  refine ⟨fun i m σ' H' => m = xs.length - i ∧ i ≤ xs.length ∧ Pv i σ' H', ⟨xs.length, rfl, Nat.zero_le _, h0⟩, ?_⟩
  rintro i m σ' H' ⟨rfl, hi, p⟩
  have sq := hl i σ' H' p
  rcases Nat.lt_or_ge i xs.length with lt | ge
  · refine .inr ⟨⟨xs, xs[i], sq, List.getElem?_eq_getElem lt⟩, Pv (i + 1), fun σ2 H2 p2 => ⟨xs.length - (i + 1), by omega, rfl, lt, p2⟩, fun v H2 ⟨T, x, ev, hT, eH, y⟩ => ?_⟩
    subst ev
    have s2 : Same H' H2 := by rw [eH]; exact Sx.Same.new hT
    have hT2 : H2 T = some (.tup [.int (i : Nat), x]) := by rw [eH]; exact upd_same
    exact ⟨T, _, rfl, SqT.of hT2, rfl, _, _, rfl, _, _, rfl, rfl, hs i x σ' H2 (y xs sq) (hk _ _ _ _ p s2)⟩
  · have e : i = xs.length := Nat.le_antisymm hi ge
    subst e
    exact .inl ⟨⟨xs, sq, Nat.le_refl _⟩, hq σ' H' p⟩
abbrev nBox : List Str := ["_law_script", "_law_k", "_law_cell"]
theorem scBox : FnScope nBox ["_law_script", "_law_k"] (defScope sBox) := ⟨rfl, rfl, rfl, by decide +kernel, rfl, by decide +kernel, by decide +kernel⟩
theorem ok_box {f : Addr} {fd : FuncData} {dvs : List V} (F : FunD K "_law_box" "_law_box" (defArgs sBox) (defBody sBox) (defScope sBox) dvs [] f fd) (B : Blt mg) : FnOk P w K mg base CX0 1 f fd ["_law_script", "_law_k"] (spBox K) := by
  refine F.ok scBox (fun vs H Q E h => ?_) (fun cdv A outer s H vs Q E hr h => ?_)
  · obtain ⟨a, k, ns, rfl, _⟩ := h
    rfl
  · obtain ⟨a, k, ns, rfl, hx, hk, l3, q⟩ := h
    refine ⟨_, (pss_cons (ps_set (i := 2) scBox.nd rfl (Or.inl rfl) (pe_ifExp (pt_cmpR op_lt (pv 1) (pe_callB call_len_seq (by rfl) B.len PySem.boot_len (pa_cons (pv 0) pa_nil)) (nomark _)) (pe_ix ix_list (pv 0) (pv 1) (fun _ _ => rfl)) pe_int))
      (pss_one (ps_ret (pe_lst (pa_cons (pe_op op_mul (pe_callB call_abs (by rfl) B.abs bt_abs (pa_cons (pv 2) pa_nil)) (pe_callTy call_int1 (by rfl) B.int bt_int (pa_cons (pe_cmpR op_ge (pe_callB call_abs (by rfl) B.abs bt_abs (pa_cons (pv 2) pa_nil)) (pe_op op_pow pe_int pe_int) (nomark _)) pa_nil)))
        (pa_cons (pe_op op_add (pe_op op_add (pe_op op_modN (pe_callTy call_int1 (by rfl) B.int bt_int (pa_cons (pv 2) pa_nil)) pe_int) (pe_op op_mul pe_int (pv 1))) pe_int) (pa_cons pe_int pa_nil))))))).nox, ?_⟩
    refine ⟨_, rfl, _, rfl, a, _, rfl, .inl hx, _, _, rfl, rfl, _, rfl, ?_⟩
    rw [List.length_map, decide_eq_true (show (k : Int) < (ns.length : Nat) by omega)]
    refine iteT ⟨_, rfl, _, rfl, a, _, _, .int ns[k], rfl, rfl, hx, atI_nat (j := k) (by rw [List.getElem?_map, List.getElem?_eq_getElem hk]; rfl), ?_⟩
    generalize ns[k] = c
    refine ⟨_, rfl, c, rfl, _, rfl, c, rfl, _, _, rfl, rfl, ⟨by decide, by decide, by decide⟩, _, _, rfl, rfl, .inr ⟨_, rfl, _, _, rfl, rfl, .inr ?_, ?_⟩⟩
    · exact b01 _
    refine ⟨_, rfl, .inl ⟨_, rfl, _, _, rfl, rfl, (show (2305843009213693951 : Int) ≠ 0 by decide), _, rfl, _, _, rfl, rfl, .inl ⟨by decide, by decide⟩, _, _, rfl, rfl, _, _, rfl, rfl, ?_⟩⟩
    refine ⟨(by show 3 ≤ sizeLine; decide), fun l hl => q l _ (Sx.Same.new hl) hl ⟨_, _, 0, upd_same, ?_, ?_, Int.le_refl _, Int.le_refl _⟩⟩
    · have f := fm (x := c) (l := 2305843009213693951) (by decide)
      show -(2 ^ 62) < Int.fmod c 2305843009213693951 + 39373 * (k : Int) + 618006
      omega
    · have f := fm (x := c) (l := 2305843009213693951) (by decide)
      show Int.fmod c 2305843009213693951 + 39373 * (k : Int) + 618006 < 2 ^ 62
      omega
abbrev nCells : List Str := ["_law_script", "_law_top", "_law_cells_here", "_law_k", "_law_cell", "_law_at_so"]
theorem scCells : FnScope nCells ["_law_script", "_law_top"] (defScope sCells) := ⟨rfl, rfl, rfl, by decide +kernel, rfl, by decide +kernel, by decide +kernel⟩
theorem cutV_map (ns : List Int) (lo hi : Option Int) : ∃ ms : List Int, cutV (ns.map V.int) lo hi = ms.map V.int ∧ ms.length = (cutV (ns.map V.int) lo hi).length := by
  refine ⟨(ns.drop (HT.sIx (ns.map V.int).length 0 lo)).take (HT.sIx (ns.map V.int).length (ns.map V.int).length hi - HT.sIx (ns.map V.int).length 0 lo), ?_, ?_⟩
  · unfold cutV
    rw [← List.map_drop, ← List.map_take]
  · unfold cutV
    rw [List.length_take, List.length_take, List.length_drop, List.length_drop, List.length_map]
theorem ok_cells {f : Addr} {fd : FuncData} {dvs : List V} (F : FunD K "_law_cells" "_law_cells" (defArgs sCells) (defBody sCells) (defScope sCells) dvs [] f fd) (B : Blt mg) : FnOk P w K mg base CX0 1 f fd ["_law_script", "_law_top"] (spCells K) := by
  refine F.ok scCells (fun vs H Q E h => ?_) (fun cdv A outer s H vs Q E hr h => ?_)
  · obtain ⟨a, ns, rfl, _⟩ := h
    rfl
  · obtain ⟨a, ns, rfl, hx, l63, q⟩ := h
    refine ⟨_, (Evl.pss_cut (ps_set (i := 2) scCells.nd rfl (Or.inl rfl) (pe_orT (pe_callTy call_list_of (by rfl) B.list bt_list (pa_cons (pe_slice sl_list (pv 0) po_none (po_some (pv 1))) pa_nil)) (pe_one (pe_lst (pa_cons pe_int pa_nil)))))
      (Evl.pss_cut (ps_for PassesOwn.never rfl (pi_enum (by rfl) B.enumerate (pa_cons (pe_slice sl_list (pv 0) (po_some (pv 1)) (po_some pe_int)) pa_nil)) (pg_tup rfl (pgs_cons (pg_name (i := 3) scCells.nd rfl (Or.inl rfl)) (pgs_cons (pg_name (i := 4) scCells.nd rfl (Or.inl rfl)) pgs_nil)))
        (pss_cons (ps_set (i := 5) scCells.nd rfl (Or.inl rfl) (pe_op op_modN (pe_callTy call_int1 (by rfl) B.int bt_int (pa_cons (pv 3) pa_nil)) (pv 1)))
        (pss_one (ps_asg (pe_op op_add (pe_ix ix_list (pv 2) (pv 5) (fun _ _ => rfl)) (pe_op op_mul (pv 4) (pe_op op_add (pv 3) pe_int))) (pg_sub (pv 2) (pv 5) set_list)))))
      (pss_one (ps_ret (pv 2))))).nox, ?_⟩
    obtain ⟨ms, em, lm⟩ := cutV_map ns none (some ((3 : Nat) : Int))
    obtain ⟨cs, ec, lc⟩ := cutV_map ns (some ((3 : Nat) : Int)) (some ((63 : Nat) : Int))
    have nl : (ns.map V.int).length = ns.length := List.length_map _
    have lm2 : ms.length = min 3 ns.length := by
      rw [lm]
      unfold cutV
      rw [List.length_take, List.length_drop, HT.sIx_none, HT.sIx_nat, nl]
      omega
    have lc2 : cs.length = ns.length - 3 := by
      rw [lc]
      unfold cutV
      rw [List.length_take, List.length_drop, HT.sIx_nat, HT.sIx_nat, nl]
      omega
    refine ⟨fun σ' H' => ∃ (l : Addr) (ds : List Int), σ' = [some (.ref a), some (.int 3), some (.ref l), none, none, none] ∧ Same H H' ∧ H l = none ∧ H' l = some (.lst (ds.map V.int)) ∧ (ds.length = min 3 ns.length ∨ (ds.length = 1 ∧ ns.length = 0)), ?_, ?_⟩
    · refine ⟨_, rfl, _, rfl, _, rfl, a, _, rfl, hx, fun p hp => ?_⟩
      have em' : cutV (ns.map V.int) none (some 3) = ms.map V.int := em
      rw [em']
      have S1 : Same H (upd H p (.lst (ms.map V.int))) := Sx.Same.new hp
      refine ⟨p, _, rfl, .inl (SqL.of upd_same), fun l hl => ?_⟩
      have S2 : Same (upd H p (.lst (ms.map V.int))) (upd (upd H p (.lst (ms.map V.int))) l (.lst (ms.map V.int))) := Sx.Same.new hl
      have fresh : ∀ {q : Addr}, (upd H p (.lst (ms.map V.int))) q = none → H q = none := fun {q} hq => by
        cases z : H q with
        | none => rfl
        | some o => rw [S1 _ _ z] at hq; cases hq
      refine ⟨_, .inl ⟨_, SqL.of upd_same, rfl⟩, ?_⟩
      cases ms with
      | nil =>
        refine iteF ⟨(by show 1 ≤ sizeLine; decide), fun l2 hl2 => ?_⟩
        have e0 : ns.length = 0 := by rw [List.length_nil] at lm2; omega
        have l2p : H l2 = none := by
          cases z : H l2 with
          | none => rfl
          | some o => rw [S2 _ _ (S1 _ _ z)] at hl2; cases hl2
        exact ⟨l2, [0], rfl, S1.trans (S2.trans (Sx.Same.new hl2)), l2p, by rw [upd_same]; rfl, .inr ⟨rfl, e0⟩⟩
      | cons m ms =>
        refine iteT ⟨l, m :: ms, rfl, S1.trans S2, fresh hl, upd_same, .inl lm2⟩
    rintro σ1 H1 ⟨l, ds, rfl, S1, lH, hl, dl⟩
    have d3 : ds.length ≤ 3 := by omega
    refine ⟨fun σ' H' => ∃ v3 v4 v5 ds', σ' = [some (.ref a), some (.int 3), some (.ref l), v3, v4, v5] ∧ Same H H' ∧ H' l = some (.lst (List.map V.int ds')) ∧ ds'.length ≤ 3, ?_, ?_⟩
    · refine ⟨_, rfl, _, rfl, _, rfl, _, rfl, a, _, rfl, same_sqL S1 hx, fun p hp => ?_⟩
      have ec' : cutV (ns.map V.int) (some 3) (some 63) = cs.map V.int := ec
      rw [ec']
      have S2 : Same H1 (upd H1 p (.lst (cs.map V.int))) := Sx.Same.new hp
      have lp : l ≠ p := ne_of_none hl hp
      refine ⟨p, _, rfl, SqL.of upd_same, ?_⟩
      refine for_enum (xs := cs.map V.int) (SqL.of upd_same) (fun i σ' H' => ∃ v3 v4 v5 ds', σ' = [some (.ref a), some (.int 3), some (.ref l), v3, v4, v5] ∧ Same H H' ∧ H' l = some (.lst (List.map V.int ds')) ∧ ds'.length = ds.length ∧ H' p = some (.lst (cs.map V.int)))
        ⟨none, none, none, ds, rfl, S1.trans S2, S2 _ _ hl, rfl, upd_same⟩ (fun i σ' H' ⟨_, _, _, _, _, _, _, _, h⟩ => SqL.of h) (fun i σ' H' H2 ⟨v3, v4, v5, ds', e, s, h1, h2, h3⟩ s2 => ⟨v3, v4, v5, ds', e, s.trans s2, s2 _ _ h1, h2, s2 _ _ h3⟩) ?_ ?_
      · rintro i x σ' H' hi ⟨v3, v4, v5, ds', rfl, s, h1, h2, h3⟩
        rw [List.getElem?_map] at hi
        obtain ⟨c, hc, rfl⟩ := Option.map_eq_some_iff.mp hi
        have il := (List.getElem?_eq_some_iff.mp hc).1
        have dl3 : ds'.length = 3 := by omega
        have e : Int.fmod (i : Int) 3 = ((i % 3 : Nat) : Int) := by
          rw [Int.fmod_eq_emod_of_nonneg _ (by decide)]
          omega
        have lt3 : i % 3 < ds'.length := by omega
        refine ⟨_, rfl, .inl ⟨_, rfl, _, rfl, _, _, rfl, rfl, (show (3 : Int) ≠ 0 by decide), ?_⟩⟩
        refine ⟨_, rfl, _, rfl, l, _, _, .int ds'[i % 3], rfl, rfl, SqL.of h1, ?_, _, rfl, _, rfl, _, _, rfl, rfl, _, _, rfl, rfl, .inr ⟨by omega, by omega⟩, _, _, rfl, rfl, _, rfl, _, rfl, l, _, _, i % 3, rfl, rfl, h1, ?_, ?_⟩
        · show atI (ds'.map V.int) (Int.fmod (i : Int) 3) = _
          rw [e]
          exact atI_nat (j := i % 3) (by rw [List.getElem?_map, List.getElem?_eq_getElem lt3]; rfl)
        · show ixN (ds'.map V.int).length (Int.fmod (i : Int) 3) = _
          rw [e]
          unfold ixN
          rw [if_pos (by omega), if_pos (by rw [List.length_map]; omega), Int.toNat_natCast]
        · refine ⟨_, _, _, ds'.set (i % 3) (ds'[i % 3] + c * ((i : Int) + 2)), rfl, Sx.Same.mut s lH, ?_, by rw [List.length_set]; exact h2, by rw [upd_ne lp.symm]; exact h3⟩
          rw [upd_same, List.map_set]
      · rintro σ' H' ⟨v3, v4, v5, ds', rfl, s, h1, h2, h3⟩
        exact ⟨v3, v4, v5, ds', rfl, s, h1, by omega⟩
    rintro σ2 H2 ⟨v3, v4, v5, ds', rfl, s2, h1, h2⟩
    exact ⟨_, rfl, q l ds' H2 s2 h1 h2⟩
end
end Sx

/-! LawF -/
namespace Sx
open PySem PySem.Spec PyProof.Rows L2
abbrev sTags : Stmt := top 21
def signsM : Str := "abcdefghijklmnopqrstuvwxyz"
theorem signs_at : ∀ k : Fin 26, signsM.cps[k.val]? = some (97 + k.val) := by decide +kernel
theorem signs_len : signsM.length = 26 := by decide +kernel
def signM (k : Nat) : Str := ⟨#[97 + k]⟩
def spTags (K : PySem.W.Frag) : Sp := fun vs H Q _ => ∃ (u : Addr) (n many : Nat), vs = [.ref u, .int many] ∧ Urn H u n ∧ n + 20 < 2 ^ 40 ∧ 1 ≤ many ∧ many ≤ 8 ∧
  ∀ l (ks : List Str) H', Up ltS ks → ks.length = many → Oks ks → H l = none → H' l = some (.lst (ks.map V.str)) → Urn H' u (n + 20) → SameU u H H' → Q (.ref l) H'
theorem ok_append {a b : Str} (h : PyData.strOk a = true) (g : PyData.strOk b = true) : PyData.strOk (a ++ b) = true := by
  unfold PyData.strOk at h g ⊢
  rw [← Array.all_toList, List.all_eq_true] at h g ⊢
  intro c hc
  have e : (a ++ b).cps.toList = a.cps.toList ++ b.cps.toList := by
    show (a.cps ++ b.cps).toList = _
    exact Array.toList_append
  rw [e] at hc
  exact (List.mem_append.mp hc).elim (h c) (g c)
theorem ok_cut {a : Str} {lo hi : Option Int} (h : PyData.strOk a = true) : PyData.strOk (cutS a lo hi) = true := by
  unfold PyData.strOk at h ⊢
  rw [← Array.all_toList, List.all_eq_true] at h ⊢
  intro c hc
  unfold cutS at hc
  exact h c (List.mem_of_mem_drop (List.mem_of_mem_take hc))
theorem ok_sign {k : Nat} (h : k < 26) : PyData.strOk (signM k) = true := by
  unfold PyData.strOk signM
  rw [← Array.all_toList, List.all_eq_true]
  intro c hc
  have e : c = 97 + k := by simpa using hc
  rw [e]
  exact decide_eq_true (by omega)
theorem ok_join : ∀ {xs : List Str}, Oks xs → PyData.strOk (Txt.join "" xs) = true := by
  have e : ∀ xs : List Str, Txt.join "" xs = Str.join "" xs := fun xs => StrLaws.glued_eq_join "" xs
  have h : ∀ xs : List Str, Oks xs → PyData.strOk (Str.join "" xs) = true := fun xs => by
    induction xs with
    | nil => exact fun _ => by decide +kernel
    | cons x xs ih =>
      intro o
      cases xs with
      | nil => exact o x List.mem_cons_self
      | cons y r =>
        show PyData.strOk (x ++ "" ++ Str.join "" (y :: r)) = true
        exact ok_append (ok_append (o x List.mem_cons_self) (by decide +kernel)) (ih fun z hz => o z (List.mem_cons_of_mem _ hz))
  exact fun {xs} o => by rw [e]; exact h xs o
theorem len_join (xs : List Str) (h : ∀ x ∈ xs, x.length = 1) : (Txt.join "" xs).length = xs.length := by
  have e : (Txt.join "" xs).length = (xs.map (·.length)).sum + (xs.length - 1) * ("" : Str).length := PySem.size_glued "" xs
  have e1 : ("" : Str).length = 0 := by decide +kernel
  rw [e, e1, Nat.mul_zero, Nat.add_zero]
  clear e e1
  induction xs with
  | nil => rfl
  | cons x xs ih =>
    rw [List.map_cons, List.sum_cons, h x List.mem_cons_self, ih (fun y hy => h y (List.mem_cons_of_mem _ hy)), List.length_cons]
    omega
def idx (f b k : Nat) : Nat := (f + b * k) % 26
theorem idx_inj {f b i j : Nat} (hb : b = 1 ∨ b = 3 ∨ b = 7 ∨ b = 11 ∨ b = 25) (hi : i < 8) (hj : j < 8) (h : idx f b i = idx f b j) : i = j := by
  unfold idx at h
  rcases hb with rfl | rfl | rfl | rfl | rfl <;> omega
theorem sign_inj {i j : Nat} (h : signM i = signM j) : i = j := by
  have e := congrArg (fun z : Str => z.cps.toList) h
  have e2 : [97 + i] = [97 + j] := e
  have := (List.cons.inj e2).1
  omega
theorem mid_inj {a b x y : Str} (h : a ++ x ++ b = a ++ y ++ b) : x = y := by
  have e : (a ++ x ++ b).cps.toList = (a ++ y ++ b).cps.toList := by rw [h]
  have u : ∀ z : Str, (a ++ z ++ b).cps.toList = a.cps.toList ++ z.cps.toList ++ b.cps.toList := fun z => by
    show ((a.cps ++ z.cps) ++ b.cps).toList = _
    rw [Array.toList_append, Array.toList_append]
  rw [u, u] at e
  have e2 := List.append_cancel_left (List.append_cancel_right e)
  cases x with
  | mk x => cases y with
    | mk y => exact congrArg Str.mk (Array.toList_inj.mp e2)
theorem nodup_range {f : Nat → Str} {n : Nat} (h : ∀ i j, i < n → j < n → f i = f j → i = j) : ((List.range n).map f).Nodup := by
  refine List.pairwise_map.mpr ((List.nodup_range (n := n)).imp_of_mem fun {i j} hi hj ne e => ne (h i j (List.mem_range.mp hi) (List.mem_range.mp hj) e))
theorem range_take {α : Type} (f : Nat → α) (n : Nat) : (List.range (n + 1)).map f = (List.range n).map f ++ [f n] := by
  rw [List.range_succ, List.map_append]
  rfl
def rJoinK (K : PySem.W.Frag) : V → List V → Hp → VK → Prop := fun x xs H Q => ∃ a p, ∃ ys : List Str, x = .str a ∧ xs = [.ref p] ∧ (SqL K H p (ys.map V.str) ∨ SqT K H p (ys.map V.str)) ∧ (ys.map (·.length)).sum + ys.length * a.length ≤ 16777216 ∧ Q (.str (Txt.join a ys)) H
section
variable {P : Program} {w : World} {K : PySem.W.Frag} {mg : Str → Option Value} {base : Heap}
abbrev LOfG (P : Program) (w : World) (K : PySem.W.Frag) (mg : Str → Option Value) (base : Heap) : Prop := FnG P w K mg base "_law_of" 2 ["_law_urn", "_law_some_so"] (spLOf K)
abbrev nTags : List Str := ["_law_urn", "_law_many_so", "_law_signs", "_law_first_so", "_law_by_so", "_law_row_so", "_law_stem", "_law_at_so", "_law_k", "_law_turn"]
theorem scTags : FnScope nTags ["_law_urn", "_law_many_so"] (defScope sTags) := ⟨rfl, rfl, rfl, by decide +kernel, rfl, by decide +kernel, by decide +kernel⟩
theorem ok_tags {f : Addr} {fd : FuncData} {dvs : List V} (F : FunD K "_law_tags" "_law_tags" (defArgs sTags) (defBody sTags) (defScope sTags) dvs [] f fd) (B : Blt mg) (GT : TakeG P w K mg base) (GO : LOfG P w K mg base) : FnOk P w K mg base CX0 3 f fd ["_law_urn", "_law_many_so"] (spTags K) := by
  refine F.ok scTags (fun vs H Q E h => ?_) (fun cdv A outer s H vs Q E hr h => ?_)
  · obtain ⟨u, n, many, rfl, _⟩ := h
    rfl
  · obtain ⟨u, n, many, rfl, U, hn, m1, m8, q⟩ := h
    have hr1 : Room 1 (A.deeper (envOfC "_law_tags" (defScope sTags) s.heap.objs.size f cdv)) := hr.mono (by decide)
    refine ⟨_, (pss_cons (ps_set (i := 2) scTags.nd rfl (Or.inr rfl) pe_str)
      (pss_cons (ps_asg (pe_tup (pa_cons (pe_g GT hr1 (pa_cons (pv 0) (pa_cons pe_int pa_nil))) (pa_cons (pe_g GO hr (pa_cons (pv 0) (pa_cons (pe_lst (pa_cons pe_int (pa_cons pe_int (pa_cons pe_int (pa_cons pe_int (pa_cons pe_int pa_nil)))))) pa_nil))) pa_nil))) (pg_tup rfl (pgs_cons (pg_name (i := 3) scTags.nd rfl (Or.inr rfl)) (pgs_cons (pg_name (i := 4) scTags.nd rfl (Or.inr rfl)) pgs_nil))))
      (Evl.pss_cut (ps_set (i := 5) scTags.nd rfl (Or.inr rfl) (pe_lc (own := [("_law_k", 8)]) (g := gName 8) (tt := tYes) rfl scTags.nd (pi_range1 (by rfl) B.range (pa_cons (pe_callB (call_max2 rfl) (by rfl) B.max bt_max (pa_cons pe_int (pa_cons (pv 1) pa_nil))) pa_nil)) (blkOk_by (N := nTags) (sc := defScope sTags) (by decide +kernel)) (fun _ _ _ _ _ => pg_name (i := 8) scTags.nd rfl (Or.inl rfl)) (fun _ _ _ _ _ => pts_nil)
          (fun _ _ _ _ _ => pe_item_str (pv 2) (pe_op op_modN (pe_callTy call_int1 (by rfl) B.int bt_int (pa_cons (pe_op op_add (pv 3) (pe_op op_mul (pv 4) (pv 8))) pa_nil)) pe_int) (fun _ _ => rfl))))
      (pss_cons (ps_if (PW.pt (pw_and (pt_cmpR op_lt (pv 1) pe_int (nomark _)) (pw_and1 (pt_cmpR op_eq (pe_g GT hr1 (pa_cons (pv 0) (pa_cons pe_int pa_nil))) pe_int (nomark _)))))
          (pss_one (ps_ret (pe_callB cr_sortX (by rfl) B.sorted bt_sorted (pa_cons (pe_lc (own := [("_law_k", 8)]) (g := gName 8) (tt := tYes) rfl scTags.nd (pi_range1 (by rfl) B.range (pa_cons (pv 1) pa_nil)) (blkOk_by (N := nTags) (sc := defScope sTags) (by decide +kernel)) (fun _ _ _ _ _ => pg_name (i := 8) scTags.nd rfl (Or.inl rfl)) (fun _ _ _ _ _ => pts_nil)
            (fun _ _ _ _ _ => pe_m1 (r := rJoinK K) PySem.F.slot_str_join PySem.F.type_str_join mt_join pe_str (pe_slice (r := rSlL K) sl_list (pv 5) po_none (po_some (pe_op op_add (pv 8) pe_int))))) pa_nil)))) pss_nil)
      (Evl.pss_cut (ps_set (i := 6) scTags.nd rfl (Or.inr rfl) (pe_join pe_str (pe_lc (own := [("_law_turn", 9)]) (g := gName 9) (tt := tYes) rfl scTags.nd (pi_range1 (by rfl) B.range (pa_cons (pe_g GO hr (pa_cons (pv 0) (pa_cons (pe_lst (pa_cons pe_int (pa_cons pe_int (pa_cons pe_int (pa_cons pe_int (pa_cons pe_int pa_nil)))))) pa_nil))) pa_nil)) (blkOk_by (N := nTags) (sc := defScope sTags) (by decide +kernel)) (fun _ _ _ _ _ => pg_name (i := 9) scTags.nd rfl (Or.inl rfl)) (fun _ _ _ _ _ => pts_nil)
          (fun _ _ _ _ _ => pe_item_str (pv 2) (pe_g GT hr1 (pa_cons (pv 0) (pa_cons pe_int pa_nil))) (fun _ _ => rfl)))))
      (pss_cons (ps_set (i := 7) scTags.nd rfl (Or.inr rfl) (pe_g GT hr1 (pa_cons (pv 0) (pa_cons (pe_op op_add (pe_callB call_len_str (by rfl) B.len PySem.boot_len (pa_cons (pv 6) pa_nil)) pe_int) pa_nil))))
      (pss_one (ps_ret (pe_callB cr_sortX (by rfl) B.sorted bt_sorted (pa_cons (pe_lc (own := [("_law_k", 8)]) (g := gName 8) (tt := tYes) rfl scTags.nd (pi_range1 (by rfl) B.range (pa_cons (pv 1) pa_nil)) (blkOk_by (N := nTags) (sc := defScope sTags) (by decide +kernel)) (fun _ _ _ _ _ => pg_name (i := 8) scTags.nd rfl (Or.inl rfl)) (fun _ _ _ _ _ => pts_nil)
            (fun _ _ _ _ _ => pe_op op_add_str (pe_op op_add_str (pe_slice sl_str (pv 6) po_none (po_some (pv 7))) (pe_ix (r := rIxL K) ix_list (pv 5) (pv 8) (fun _ _ => rfl))) (pe_slice sl_str (pv 6) (po_some (pv 7)) po_none))) pa_nil)))))))))).nox, ?_⟩
    obtain ⟨ou, hou⟩ := U.is
    have nu : ∀ {H1 : Hp} {l : Addr}, SameU u H H1 → Urn H1 u (n + 20) → H1 l = none → l ≠ u := fun {H1 l} _ U1 e z => by
      obtain ⟨o, ho⟩ := U1.is
      rw [z, ho] at e
      cases e
    -- first, by
    refine ⟨_, rfl, u, n, 26, rfl, U, by omega, by omega, by omega, fun f1 H1 hf1 U1 k1 => ?_⟩
    have S1 : SameU u H H1 := SameU.but k1
    refine ⟨_, rfl, (by show 5 ≤ sizeLine; decide), fun l2 hl2 => ?_⟩
    have l2u := nu S1 (U1.more (by omega)) hl2
    refine ⟨u, l2, n + 1, [.int 1, .int 3, .int 7, .int 11, .int 25], rfl, U1.upd l2u, by omega, SqL.of upd_same, l2u, by decide, by decide, fun k2 v H2 hv U2 S2 => ?_⟩
    have S12 : SameU u H H2 := S1.trans ((SameU.of (Sx.Same.new hl2)).trans S2)
    obtain ⟨b, hb, rfl⟩ : ∃ b : Nat, (b = 1 ∨ b = 3 ∨ b = 7 ∨ b = 11 ∨ b = 25) ∧ v = .int b := by
      match k2, hv with
      | 0, hv => cases hv; exact ⟨1, by simp, rfl⟩
      | 1, hv => cases hv; exact ⟨3, by simp, rfl⟩
      | 2, hv => cases hv; exact ⟨7, by simp, rfl⟩
      | 3, hv => cases hv; exact ⟨11, by simp, rfl⟩
      | 4, hv => cases hv; exact ⟨25, by simp, rfl⟩
      | k + 5, hv => simp at hv
    clear hv k2
    refine ⟨(by show 2 ≤ sizeLine; decide), fun t ht => ⟨t, _, rfl, SqT.of upd_same, rfl, _, _, rfl, _, _, rfl, rfl, ?_⟩⟩
    have S3 : SameU u H (upd H2 t (.tup [.int f1, .int b])) := S12.trans (SameU.of (Sx.Same.new ht))
    have U3 : Urn (upd H2 t (.tup [.int f1, .int b])) u (n + 2) := U2.same (Sx.Same.new ht)
    generalize upd H2 t (.tup [.int f1, .int b]) = H3 at S3 U3 ⊢
    clear S12 S2 U2 ht S1 U1 k1 hl2 l2u
    have b25 : b ≤ 25 := by omega
    -- row
    let row : List Str := (List.range 8).map fun k => signM (idx f1 b k)
    refine ⟨fun σ' H' => ∃ lr, σ' = [some (.ref u), some (.int many), some (.str signsM), some (.int f1), some (.int b), some (.ref lr), none, none, none, none] ∧ SameU u H H' ∧ Urn H' u (n + 2) ∧ lr ≠ u ∧ H lr = none ∧ H' lr = some (.lst (row.map V.str)), ?_, ?_⟩
    · refine ⟨_, rfl, _, _, rfl, ?_⟩
      rw [if_neg (by omega)]
      refine ⟨8, rfl, by decide, by decide, ?_⟩
      refine lc_walkR (n := 8) (vs := [8]) (σ := [some (.ref u), some (.int many), some (.str signsM), some (.int f1), some (.int b), none, none, none, none, none]) (fun D i H' => Same H3 H' ∧ H' D = some (.lst (((List.range i).map fun k => signM (idx f1 b k)).map V.str)))
        (fun D hD => ⟨Sx.Same.new hD, upd_same⟩) ?_ ?_
      · rintro D i x H' ⟨hi, rfl⟩ hD ⟨s, hd⟩
        have f0 := fm (x := (f1 : Int) + (b : Int) * (0 + (i : Int))) (l := 26) (by decide)
        have e : Int.fmod ((f1 : Int) + (b : Int) * (0 + (i : Int))) 26 = ((idx f1 b i : Nat) : Int) := by
          rw [Int.fmod_eq_emod_of_nonneg _ (by decide)]
          unfold idx
          rw [Int.zero_add]
          push_cast
          rfl
        have il : idx f1 b i < 26 := Nat.mod_lt _ (by decide)
        have bi : -(2 ^ 64) < (b : Int) ∧ (b : Int) < 2 ^ 64 := by omega
        refine ⟨rfl, _, rfl, _, rfl, _, rfl, _, rfl, _, _, rfl, rfl, .inl bi, _, _, rfl, rfl, .inl ⟨_, rfl, _, _, rfl, rfl, (show (26 : Int) ≠ 0 by decide), ?_⟩⟩
        refine ⟨signsM, ((idx f1 b i : Nat) : Int), 97 + idx f1 b i, rfl, congrArg V.int e, by omega, by omega, by rw [signs_len]; omega, ?_, _, hd, ?_, Sx.Same.mut s hD, ?_⟩
        · rw [Int.toNat_natCast]
          exact signs_at ⟨_, il⟩
        · rw [List.length_map, List.length_map, List.length_range, sizeLine_eq]
          omega
        · rw [upd_same, range_take, List.map_append]
          rfl
      · rintro D H' hD ⟨s, hd⟩
        have DH : H D = none := by
          cases z : H D with
          | none => rfl
          | some o =>
            by_cases e : D = u
            · obtain ⟨o, ho⟩ := U3.is
              rw [e, ho] at hD
              cases hD
            · rw [S3 _ _ z e] at hD; cases hD
        exact ⟨D, rfl, S3.trans (SameU.of s), U3.same s, nu S3 (U3.more (by omega)) hD, DH, hd⟩
    rintro σ4 H4 ⟨lr, rfl, S4, U4, lru, lrH, hlr⟩
    have rlen : row.length = 8 := by show ((List.range 8).map _).length = 8; rw [List.length_map, List.length_range]
    have rget : ∀ k : Nat, k < 8 → row[k]? = some (signM (idx f1 b k)) := fun k hk => by
      show ((List.range 8).map _)[k]? = _
      rw [List.getElem?_map, List.getElem?_range hk]
      rfl
    have rok : ∀ x ∈ row, x.length = 1 ∧ PyData.strOk x = true := fun x hx => by
      obtain ⟨k, _, e⟩ := List.mem_map.mp hx
      rw [← e]
      exact ⟨rfl, ok_sign (Nat.mod_lt _ (by decide))⟩
    -- the end: sorted
    have fin : ∀ (ks0 : List Str) (D : Addr) (H' : Hp), ks0.Nodup → ks0.length = many → Oks ks0 → SameU u H H' → Urn H' u (n + 20) → H' D = some (.lst (ks0.map V.str)) → ∀ (ys : List Str) (p : Addr), ys.Perm ks0 → ys.Pairwise (fun x y => ltS y x = false) → H' p = none → Q (.ref p) (upd H' p (.lst (ys.map V.str))) := fun ks0 D H' nd len ok S' U' hD ys p pm pw hp => by
      have pH : H p = none := by
        cases z : H p with
        | none => rfl
        | some o =>
          by_cases e : p = u
          · obtain ⟨o, ho⟩ := U'.is
            rw [e, ho] at hp
            cases hp
          · rw [S' _ _ z e] at hp; cases hp
      have s := Sx.Same.new (o := .lst (ys.map V.str)) hp
      exact q p ys _ (up_of totS (pm.nodup_iff.mpr nd) pw) (by rw [pm.length_eq]; exact len) (fun x hx => ok x (pm.mem_iff.mp hx)) pH upd_same (U'.same s) (S'.trans (SameU.of s))
    refine ⟨_, rfl, _, _, rfl, rfl, _, rfl, ?_⟩
    rw [decide_eq_true (show (many : Int) < 9 by omega)]
    refine iteT ⟨_, rfl, u, n + 2, 4, rfl, U4, by omega, by omega, by omega, fun k5 H5 hk5 U5 k5' => ?_⟩
    have S5 : SameU u H H5 := S4.trans (SameU.but k5')
    have hlr5 : H5 lr = some (.lst (row.map V.str)) := by rw [k5' lr lru]; exact hlr
    clear hlr U4 S4 k5'
    refine ⟨rfl, _, rfl, ?_⟩
    refine ite2 (fun _ => ?_) (fun _ => ?_)
    · -- prefixes
      have U5' := U5
      refine ⟨_, rfl, (many : Int), rfl, by omega, by omega, ?_⟩
      have pre1 : ∀ k : Nat, k < 8 → (Txt.join "" (row.take (k + 1))).length = k + 1 := fun k hk => by
        rw [len_join _ fun x hx => (rok x (List.mem_of_mem_take hx)).1, List.length_take, rlen]
        omega
      refine lc_walkR (n := many) (vs := [8]) (σ := [some (.ref u), some (.int many), some (.str signsM), some (.int f1), some (.int b), some (.ref lr), none, none, none, none]) (fun D i H' => Same H5 H' ∧ H' D = some (.lst (((List.range i).map fun k => Txt.join "" (row.take (k + 1))).map V.str)))
        (fun D hD => ⟨Sx.Same.new hD, upd_same⟩) ?_ ?_
      · rintro D i x H' ⟨hi, rfl⟩ hD ⟨s, hd⟩
        have ei : (0 + (i : Int) + 1) = ((i + 1 : Nat) : Int) := by omega
        have ec : cutV (row.map V.str) none (some (0 + (i : Int) + 1)) = (row.take (i + 1)).map V.str := by
          rw [ei]
          unfold cutV
          rw [HT.sIx_none, HT.sIx_nat, List.drop_zero, ← List.map_take, List.length_map, rlen, Nat.sub_zero, Nat.min_eq_left (by omega)]
        refine ⟨rfl, ⟨_, rfl⟩, _, rfl, _, rfl, _, _, rfl, rfl, _, rfl, lr, _, rfl, SqL.of (s _ _ hlr5), fun p hp => ?_⟩
        have s2 : Same H' (upd H' p (.lst (cutV (row.map V.str) none (some (0 + (i : Int) + 1))))) := Sx.Same.new hp
        refine ⟨"", p, row.take (i + 1), rfl, rfl, .inl (SqL.of (by rw [upd_same, ec])), ?_, _, s2 _ _ hd, ?_, Sx.Same.mut (s.trans s2) hD, ?_⟩
        · have a := sum_le (l := (row.take (i + 1)).map (·.length)) (b := 1) fun y hy => by
            obtain ⟨z, hz, e⟩ := List.mem_map.mp hy
            rw [← e, (rok z (List.mem_of_mem_take hz)).1]
            exact Nat.le_refl _
          have e1 : ("" : Str).length = 0 := by decide +kernel
          rw [List.length_map] at a
          have l1 : (row.take (i + 1)).length ≤ 8 := by rw [List.length_take]; omega
          rw [e1]
          omega
        · rw [List.length_map, List.length_map, List.length_range, sizeLine_eq]
          omega
        · rw [upd_same, range_take, List.map_append]
          rfl
      · rintro D H' hD ⟨s, hd⟩
        refine ⟨D, _, rfl, .inl (SqL.of hd), fin _ D H' (nodup_range fun i j hi hj e => ?_) (by rw [List.length_map, List.length_range]) (fun x hx => ?_) (S5.trans (SameU.of s)) ((U5'.same s).more (by omega)) hd⟩
        · have a := congrArg Str.length e
          rw [pre1 i (by omega), pre1 j (by omega)] at a
          omega
        · obtain ⟨k, _, e⟩ := List.mem_map.mp hx
          rw [← e]
          exact ok_join fun y hy => (rok y (List.mem_of_mem_take hy)).2
    · -- stem
      refine ⟨fun σ' H' => ∃ stem : Str, σ' = [some (.ref u), some (.int many), some (.str signsM), some (.int f1), some (.int b), some (.ref lr), some (.str stem), none, none, none] ∧ SameU u H H' ∧ Urn H' u (n + 11) ∧ H' lr = some (.lst (row.map V.str)) ∧ stem.length ≤ 7 ∧ PyData.strOk stem = true, ?_, ?_⟩
      · refine ⟨⟨_, rfl⟩, _, rfl, (by show 5 ≤ sizeLine; decide), fun l2 hl2 => ?_⟩
        have l2u := nu S5 (U5.more (by omega)) hl2
        have lr2 : lr ≠ l2 := ne_of_none hlr5 hl2
        refine ⟨u, l2, n + 3, [.int 0, .int 0, .int 1, .int 5, .int 7], rfl, U5.upd l2u, by omega, SqL.of upd_same, l2u, by decide, by decide, fun k6 v H6 hv U6 S6 => ?_⟩
        have S56 : SameU u H5 H6 := (SameU.of (Sx.Same.new hl2)).trans S6
        obtain ⟨m, hm, rfl⟩ : ∃ m : Nat, m ≤ 7 ∧ v = .int m := by
          match k6, hv with
          | 0, hv => cases hv; exact ⟨0, by omega, rfl⟩
          | 1, hv => cases hv; exact ⟨0, by omega, rfl⟩
          | 2, hv => cases hv; exact ⟨1, by omega, rfl⟩
          | 3, hv => cases hv; exact ⟨5, by omega, rfl⟩
          | 4, hv => cases hv; exact ⟨7, by omega, rfl⟩
          | k + 5, hv => simp at hv
        refine ⟨(m : Int), rfl, by omega, by omega, ?_⟩
        refine lc_walkR (n := m) (vs := [9]) (σ := [some (.ref u), some (.int many), some (.str signsM), some (.int f1), some (.int b), some (.ref lr), none, none, none, none]) (fun D i H' => SameU u H6 H' ∧ Urn H' u (n + 4 + i) ∧ ∃ cs : List Str, H' D = some (.lst (cs.map V.str)) ∧ cs.length = i ∧ ∀ x ∈ cs, x.length = 1 ∧ PyData.strOk x = true)
          (fun D hD => ⟨SameU.of (Sx.Same.new hD), U6.same (Sx.Same.new hD), [], upd_same, rfl, fun x hx => (by cases hx)⟩) ?_ ?_
        · rintro D i x H' ⟨hi, rfl⟩ hD ⟨s, U', cs, hd, hl, hc⟩
          have Du : D ≠ u := nu (S5.trans S56) (U6.more (by omega)) hD
          refine ⟨rfl, _, rfl, _, rfl, u, n + 4 + i, 26, rfl, U', by omega, by omega, by omega, fun k7 H7 hk7 U7 k7' => ?_⟩
          refine ⟨signsM, (k7 : Int), 97 + k7, rfl, rfl, by omega, by omega, by rw [signs_len]; omega, ?_, cs.map V.str, by rw [k7' D Du]; exact hd, ?_, (s.trans (SameU.but k7')).mut hD, U7.upd Du, cs ++ [signM k7], ?_, ?_, fun x hx => ?_⟩
          · rw [Int.toNat_natCast]
            exact signs_at ⟨_, hk7⟩
          · rw [List.length_map, sizeLine_eq]
            omega
          · rw [upd_same, List.map_append]
            rfl
          · rw [List.length_append, hl]
            rfl
          · rcases List.mem_append.mp hx with a | a
            · exact hc x a
            · rw [List.mem_singleton.mp a]
              exact ⟨rfl, ok_sign hk7⟩
        · rintro D H' hD ⟨s, U', cs, hd, hl, hc⟩
          have a := sum_le (l := cs.map (·.length)) (b := 1) fun y hy => by
            obtain ⟨z, hz, e⟩ := List.mem_map.mp hy
            rw [← e, (hc z hz).1]
            exact Nat.le_refl _
          have e1 : ("" : Str).length = 0 := by decide +kernel
          rw [List.length_map] at a
          refine ⟨"", D, cs, rfl, rfl, .inl (SqL.of hd), by rw [e1]; omega, Txt.join "" cs, rfl, S5.trans (S56.trans s), U'.more (by omega), s _ _ (S56 _ _ hlr5 lru) lru, ?_, ok_join fun x hx => (hc x hx).2⟩
          rw [len_join cs fun x hx => (hc x hx).1]
          omega
      rintro σ6 H6 ⟨stem, rfl, S6, U6, hlr6, sl, so⟩
      refine ⟨_, rfl, _, rfl, stem, rfl, (by rw [sizeLine_eq]; omega), _, _, rfl, rfl, u, n + 11, stem.length + 1, by push_cast; rfl, U6, by omega, by omega, by omega, fun at_ H7 hat U7 k7 => ?_⟩
      have S7 : SameU u H H7 := S6.trans (SameU.but k7)
      have hlr7 : H7 lr = some (.lst (row.map V.str)) := by rw [k7 lr lru]; exact hlr6
      refine ⟨_, rfl, (many : Int), rfl, by omega, by omega, ?_⟩
      let g : Nat → Str := fun k => cutS stem none (some (at_ : Int)) ++ signM (idx f1 b k) ++ cutS stem (some (at_ : Int)) none
      have cl : ∀ lo hi, (cutS stem lo hi).length ≤ 7 := fun lo hi => by
        show (cutS stem lo hi).cps.size ≤ 7
        unfold cutS
        have a : stem.cps.toList.length = stem.length := Array.length_toList
        rw [List.size_toArray, List.length_take, List.length_drop]
        omega
      refine lc_walkR (n := many) (vs := [8]) (σ := [some (.ref u), some (.int many), some (.str signsM), some (.int f1), some (.int b), some (.ref lr), some (.str stem), some (.int at_), none, none]) (fun D i H' => Same H7 H' ∧ H' D = some (.lst (((List.range i).map g).map V.str)))
        (fun D hD => ⟨Sx.Same.new hD, upd_same⟩) ?_ ?_
      · rintro D i x H' ⟨hi, rfl⟩ hD ⟨s, hd⟩
        have c1 := cl none (some (at_ : Int))
        have c2 := cl (some (at_ : Int)) none
        have ok : ∀ {m : Nat}, m ≤ 100 → m ≤ sizeLine := fun h => Nat.le_trans h (by rw [sizeLine_eq]; decide)
        refine ⟨rfl, _, rfl, _, rfl, _, rfl, stem, rfl, ok (by omega), ?_⟩
        refine ⟨_, rfl, _, rfl, lr, _, _, .str (signM (idx f1 b i)), rfl, rfl, SqL.of (s _ _ hlr7), ?_, _, _, rfl, rfl, ?_, ?_⟩
        · rw [Int.zero_add]
          exact atI_nat (j := i) (by rw [List.getElem?_map, rget i (by omega)]; rfl)
        · show (cutS stem none (some (at_ : Int))).length + 1 ≤ _
          exact ok (by omega)
        · refine ⟨_, rfl, _, rfl, _, rfl, stem, rfl, ok (by omega), _, _, rfl, rfl, ?_, _, hd, ?_, Sx.Same.mut s hD, ?_⟩
          · rw [Str.length_append]
            show (cutS stem none (some (at_ : Int))).length + 1 + (cutS stem (some (at_ : Int)) none).length ≤ _
            exact ok (by omega)
          · rw [List.length_map, List.length_map, List.length_range, sizeLine_eq]
            omega
          · rw [upd_same, range_take, List.map_append]
            rfl
      · rintro D H' hD ⟨s, hd⟩
        refine ⟨D, _, rfl, .inl (SqL.of hd), fin _ D H' (nodup_range fun i j hi hj e => ?_) (by rw [List.length_map, List.length_range]) (fun x hx => ?_) (S7.trans (SameU.of s)) ((U7.same s).more (by omega)) hd⟩
        · exact idx_inj hb (by omega) (by omega) (sign_inj (mid_inj e))
        · obtain ⟨k, _, e⟩ := List.mem_map.mp hx
          rw [← e]
          exact ok_append (ok_append (ok_cut so) (ok_sign (Nat.mod_lt _ (by decide)))) (ok_cut so)
end
end Sx

/-! LawG -/
namespace Sx
open PySem PySem.Spec PyProof.Rows L2
abbrev sWeb : Stmt := top 23
abbrev sHost : Stmt := top 24
/-- pairs of texts, each in a tuple, in a list -/
def PrL (H' : Hp) (l : Addr) (cs : List (Str × Str)) : Prop := ∃ ts : List Addr, H' l = some (.lst (ts.map V.ref)) ∧ Paired (fun t c => H' t = some (.tup [.str c.1, .str c.2])) ts cs
theorem PrL.same {H H' : Hp} {l : Addr} {cs : List (Str × Str)} (s : Same H H') (p : PrL H l cs) : PrL H' l cs := by
  obtain ⟨ts, a, b⟩ := p
  exact ⟨ts, s _ _ a, paired_imp (fun _ _ z => s _ _ z) b⟩
theorem PrL.sameU {H H' : Hp} {u l n : Nat} {cs : List (Str × Str)} (s : SameU u H H') (U : Urn H u n) (h : l ≠ u) (p : PrL H l cs) : PrL H' l cs := by
  obtain ⟨ts, a, b⟩ := p
  exact ⟨ts, s _ _ a h, paired_imp (fun t c z => by refine s _ _ z (U.ne z fun _ y => ?_); cases y) b⟩
theorem two_sorted {a b : Str} {ys : List Str} (pm : ys.Perm [a, b]) (pw : ys.Pairwise fun x y => ltS y x = false) : ys = [mnS a b, mxS a b] := by
  have len := pm.length_eq
  match ys, len with
  | [x, y], _ =>
    have hyx : ltS y x = false := (List.pairwise_cons.mp pw).1 y List.mem_cons_self
    have hx : x = a ∨ x = b := by simpa using pm.mem_iff.mp (List.mem_cons_self (a := x) (l := [y]))
    have hs : (x = a ∧ y = b) ∨ (x = b ∧ y = a) := by
      rcases hx with rfl | rfl
      · have p2 := (List.perm_cons x).mp pm
        have e := List.perm_singleton.mp p2
        exact .inl ⟨rfl, (List.cons.inj e).1⟩
      · have p2 := (List.perm_cons x).mp (pm.trans (List.Perm.swap x a []))
        have e := List.perm_singleton.mp p2
        exact .inr ⟨rfl, (List.cons.inj e).1⟩
    have e1 : mnS a b = if ltS b a = true then b else a := rfl
    have e2 : mxS a b = if ltS a b = true then b else a := rfl
    rw [e1, e2]
    rcases hs with ⟨rfl, rfl⟩ | ⟨rfl, rfl⟩
    · rw [if_neg (by rw [hyx]; exact fun z => nomatch z)]
      cases h : ltS x y with
      | true => rw [if_pos rfl]
      | false => rw [if_neg (by exact fun z => nomatch z), totS.eq h hyx]
    · rw [if_neg (c := ltS y x = true) (by rw [hyx]; exact fun z => nomatch z)]
      cases h : ltS x y with
      | true => rw [if_pos rfl]
      | false => rw [if_neg (by exact fun z => nomatch z), totS.eq h hyx]
theorem erase_map {α β : Type} (f : α → β) : ∀ (l : List α) (k : Nat), (l.map f).eraseIdx k = (l.eraseIdx k).map f
  | [], _ => rfl
  | _ :: _, 0 => rfl
  | x :: l, k + 1 => by
    show f x :: (l.map f).eraseIdx k = f x :: (l.eraseIdx k).map f
    rw [erase_map f l k]
theorem pick_pairs {H : Hp} {cs : List (Str × Str)} {g : Str × Str → Str × Str} : ∀ {ws : List Addr}, (∀ w ∈ ws, ∃ c ∈ cs, H w = some (.tup [.str (g c).1, .str (g c).2])) → ∃ ds : List (Str × Str), Paired (fun w d => H w = some (.tup [.str d.1, .str d.2])) ws ds ∧ ∀ d ∈ ds, ∃ c ∈ cs, d = g c
  | [], _ => ⟨[], .nil, fun d hd => (by cases hd)⟩
  | w :: ws, h => by
    obtain ⟨c, hc, e⟩ := h w List.mem_cons_self
    obtain ⟨ds, h1, h2⟩ := pick_pairs fun v hv => h v (List.mem_cons_of_mem _ hv)
    refine ⟨g c :: ds, .cons e h1, fun d hd => ?_⟩
    rcases List.mem_cons.mp hd with a | a
    · exact ⟨c, hc, a⟩
    · exact h2 d a
/-- a test that draws once -/
def Gd (u m : Nat) (tt : TT) (σ : L2.St) (H : Hp) : Prop := ∀ Q : Bool → Hp → Prop, (∀ b H', Urn H' u (m + 1) → (∀ p, p ≠ u → H' p = H p) → Q b H') → tt σ H Q
theorem urn_fresh {H : Hp} {u l n : Nat} (U : Urn H u n) (h : H l = none) : l ≠ u := fun z => by
  obtain ⟨o, ho⟩ := U.is
  rw [z, ho] at h
  cases h
/-- [new for x in xs if (drawn)] -/
theorem lc_drawL {K : PySem.W.Frag} {a u m : Nat} {xs : List V} {tt : TT} {te : TE} {vs : List Nat} {σ : L2.St} {H : Hp} {Qr : Addr → Hp → Prop} {α : Type} {zs : List α} {R : V → α → Prop} {j : Nat} (f : α → HO)
    (hx : SqL K H a xs) (hp : Paired R xs zs) (au : a ≠ u) (hz : xs.length ≤ 10000) (hw : ∀ x, wipe ((wipe σ vs).set j (some x)) vs = wipe σ vs) (U : Urn H u m)
    (ht : ∀ x z i H', z ∈ zs → R x z → i < xs.length → SameU u H H' → Urn H' u (m + i) → Gd u (m + i) tt ((wipe σ vs).set j (some x)) H')
    (he : ∀ x z n H', z ∈ zs → R x z → SameU u H H' → Urn H' u n → Go te ((wipe σ vs).set j (some x)) H' (f z))
    (q : ∀ D H' (ts : List Addr) (ys : List α), H D = none → D ≠ u → SameU u H H' → Urn H' u (m + xs.length) → H' D = some (.lst (ts.map V.ref)) → Paired (fun t y => H' t = some (f y) ∧ t ≠ D ∧ t ≠ u ∧ H t = none) ts ys → (∀ y ∈ ys, y ∈ zs) → ys.length ≤ xs.length → Qr D H') :
    ∀ D, H D = none → ∃ W : Nat → Nat → Hp → Prop, (∃ m, W 0 m (upd H D (.lst []))) ∧ ∀ i m H', W i m H' → ((Itl K a).stop i H' ∧ Qr D H') ∨ ((Itl K a).go i H' ∧ ∃ Nx : Hp → Prop, (∀ H', Nx H' → ∃ m', m' < m ∧ W (i + 1) m' H') ∧ ∀ x H2, (Itl K a).yld i H' x H2 → Turn1 D (gName j) tt te vs σ x H2 Nx) := by
  refine lc_walkL hx (fun D i H' => D ≠ u ∧ SameU u H H' ∧ Urn H' u (m + i) ∧ ∃ (ts : List Addr) (ys : List α), H' D = some (.lst (ts.map V.ref)) ∧ Paired (fun t y => H' t = some (f y) ∧ t ≠ D ∧ t ≠ u ∧ H t = none) ts ys ∧ (∀ y ∈ ys, y ∈ zs) ∧ ys.length ≤ i)
    (fun D hD => ⟨urn_fresh U hD, SameU.of (Sx.Same.new hD), U.upd (urn_fresh U hD), [], [], upd_same, .nil, fun y hy => (by cases hy), Nat.le_refl _⟩) (fun D i H' p => p.2.1.sqL hx au) ?_ ?_
  · rintro D i x H' hi hD ⟨Du, S, U', ts, ys, hd, hpr, hys, hyl⟩
    obtain ⟨z, hzi, hR⟩ := paired_get hp hi
    have zm := List.mem_of_getElem? hzi
    have il := (List.getElem?_eq_some_iff.mp hi).1
    refine ⟨hw x, ht x z i H' zm hR il S U' _ fun b H2 U2 k2 => ?_⟩
    have S2 : SameU u H H2 := S.trans (SameU.but k2)
    have stay : Paired (fun t y => H2 t = some (f y) ∧ t ≠ D ∧ t ≠ u ∧ H t = none) ts ys := paired_imp (fun t y h => ⟨by rw [k2 t h.2.2.1]; exact h.1, h.2⟩) hpr
    have hd2 : H2 D = some (.lst (ts.map V.ref)) := by rw [k2 D Du]; exact hd
    cases b with
    | false => exact iteF ⟨Du, S2, U2, ts, ys, hd2, stay, hys, by omega⟩
    | true =>
      refine iteT (he x z _ H2 zm hR S2 U2 _ fun t H3 ht3 s3 hn => ⟨_, s3 _ _ hd2, ?_, Du, (S2.trans (SameU.of s3)).mut hD, (U2.same s3).upd Du, ts ++ [t], ys ++ [z], by rw [upd_same, List.map_append]; rfl, ?_, fun y hy => ?_, ?_⟩)
      · rw [List.length_map, Paired.length hpr, sizeLine_eq]
        omega
      · have tD : t ≠ D := fun e => by rw [e, hd2] at ht3; cases ht3
        have tu : t ≠ u := urn_fresh U2 ht3
        have tH : H t = none := by
          cases z : H t with
          | none => rfl
          | some o => rw [S2 _ _ z tu] at ht3; cases ht3
        exact paired_snoc (paired_imp (fun t y h => ⟨by rw [upd_ne h.2.1]; exact s3 _ _ h.1, h.2⟩) stay) ⟨by rw [upd_ne tD]; exact hn, tD, tu, tH⟩
      · rcases List.mem_append.mp hy with w | w
        · exact hys y w
        · rw [List.mem_singleton.mp w]; exact zm
      · rw [List.length_append, List.length_singleton]
        omega
  · rintro D H' hD ⟨Du, S, U', ts, ys, hd, hpr, hys, hyl⟩
    exact q D H' ts ys hD Du S U' hd hpr hys hyl
def inKs (ks : List Str) (cs : List (Str × Str)) : Prop := ∀ c ∈ cs, c.1 ∈ ks ∧ c.2 ∈ ks
theorem inKs.app {ks : List Str} {a b : List (Str × Str)} (h : inKs ks a) (g : inKs ks b) : inKs ks (a ++ b) := fun c hc => (List.mem_append.mp hc).elim (fun z => h c z) fun z => g c z
/-- pairs of texts, each in a tuple, in a tuple -/
def PrT (K : PySem.W.Frag) (H : Hp) (a : Addr) (cs : List (Str × Str)) : Prop := ∃ ts : List Addr, SqT K H a (ts.map V.ref) ∧ Paired (fun t c => H t = some (.tup [.str c.1, .str c.2])) ts cs
def spWeb (K : PySem.W.Frag) : Sp := fun vs H Q _ => ∃ (u t : Addr) (n : Nat) (ks : List Str), vs = [.ref u, .ref t] ∧ Urn H u n ∧ n + 200 < 2 ^ 40 ∧ SqL K H t (ks.map V.str) ∧ t ≠ u ∧ ks.length ≤ 8 ∧
  ∀ a (cs : List (Str × Str)) H', inKs ks cs → (∀ c ∈ cs, ltS c.2 c.1 = false) → cs.length ≤ 1000 → PrT K H' a cs → Urn H' u (n + 200) → SameU u H H' → Q (.ref a) H'
section
variable {P : Program} {w : World} {K : PySem.W.Frag} {mg : Str → Option Value} {base : Heap}
abbrev CrossG (P : Program) (w : World) (K : PySem.W.Frag) (mg : Str → Option Value) (base : Heap) : Prop := FnG P w K mg base "_law_cross" 1 ["_law_some_so", "_law_more_so"] (spCross K)
abbrev nWeb : List Str := ["_law_urn", "_law_tags_here", "_law_sort_so", "_law_pairs_so", "_law_lots_so", "_law_one_so", "_law_far_so", "_law_k", "_law_own"]
theorem scWeb : FnScope nWeb ["_law_urn", "_law_tags_here"] (defScope sWeb) := ⟨rfl, rfl, rfl, by decide +kernel, rfl, by decide +kernel, by decide +kernel⟩
theorem ok_web {f : Addr} {fd : FuncData} {dvs : List V} (F : FunD K "_law_web" "_law_web" (defArgs sWeb) (defBody sWeb) (defScope sWeb) dvs [] f fd) (B : Blt mg) (GT : TakeG P w K mg base) (GC : CrossG P w K mg base) : FnOk P w K mg base CX0 2 f fd ["_law_urn", "_law_tags_here"] (spWeb K) := by
  refine F.ok scWeb (fun vs H Q E h => ?_) (fun cdv A outer s H vs Q E hr h => ?_)
  · obtain ⟨u, t, n, ks, rfl, _⟩ := h
    rfl
  · obtain ⟨u, t, n, ks, rfl, U, hn, hx, tu, k8, q⟩ := h
    refine ⟨_, (pss_cons (ps_asg (pe_tup (pa_cons (pe_g GT hr (pa_cons (pv 0) (pa_cons pe_int pa_nil))) (pa_cons (pe_lst pa_nil) pa_nil))) (pg_tup rfl (pgs_cons (pg_name (i := 2) scWeb.nd rfl (Or.inr rfl)) (pgs_cons (pg_name (i := 3) scWeb.nd rfl (Or.inl rfl)) pgs_nil))))
      (Evl.pss_cut (ps_if (pt_cmpR op_lt (pv 2) pe_int (nomark _))
        (Evl.pss_cut (ps_setLc (i := 4) (own := [("_law_own", 8)]) (g := gName 8) (tt := tYes) (by rfl) scWeb.nd rfl rfl (sw_true rfl rfl rfl (by decide +kernel)) (pi_list (pv 1)) (blkOk_by (N := nWeb) (sc := defScope sWeb) (by decide +kernel)) (fun _ _ _ _ _ => pg_name (i := 8) scWeb.nd rfl (Or.inl rfl)) (fun _ _ _ _ _ => pts_nil) (fun _ _ _ _ _ => pe_lst (pa_cons (pv 8) pa_nil)))
        (pss_one (ps_while PassesOwn.never (pt_cmpR op_gt (pe_callB call_len_seq (by rfl) B.len PySem.boot_len (pa_cons (pv 4) pa_nil)) pe_int (nomark _))
          (pss_cons (ps_set (i := 5) scWeb.nd rfl (Or.inl rfl) (pe_bm PySem.F.plainAttrs_list PySem.F.slot_list_pop PySem.F.type_list_pop mt_popAt (pv 4) (pa_cons (pe_g GT hr (pa_cons (pv 0) (pa_cons (pe_callB call_len_seq (by rfl) B.len PySem.boot_len (pa_cons (pv 4) pa_nil)) pa_nil))) pa_nil)))
          (pss_cons (ps_set (i := 6) scWeb.nd rfl (Or.inl rfl) (pe_bm PySem.F.plainAttrs_list PySem.F.slot_list_pop PySem.F.type_list_pop mt_popAt (pv 4) (pa_cons (pe_g GT hr (pa_cons (pv 0) (pa_cons (pe_callB call_len_seq (by rfl) B.len PySem.boot_len (pa_cons (pv 4) pa_nil)) pa_nil))) pa_nil)))
          (Evl.pss_cut (ps_if (pt_cmpR op_eq (pe_g GT hr (pa_cons (pv 0) (pa_cons pe_int pa_nil))) pe_int (nomark _)) (pss_one (ps_set (i := 3) scWeb.nd rfl (Or.inl rfl) (pe_op op_cat (pv 3) (pe_g GC hr (pa_cons (pv 5) (pa_cons (pv 6) pa_nil)))))) pss_nil)
          (pss_one (ps_expr (pe_bm PySem.F.plainAttrs_list PySem.F.slot_list_append PySem.F.type_list_append mt_append (pv 4) (pa_cons (pe_op op_cat (pv 5) (pv 6)) pa_nil))))))))))
        (pss_one (ps_for PassesOwn.never rfl (pi_range1 (by rfl) B.range (pa_cons (pe_callB call_len_seq (by rfl) B.len PySem.boot_len (pa_cons (pv 1) pa_nil)) pa_nil)) (pg_name (i := 7) scWeb.nd rfl (Or.inr rfl))
          (pss_one (ps_set (i := 3) scWeb.nd rfl (Or.inl rfl) (pe_op op_cat (pv 3) (pe_lc (own := [("_law_own", 8)]) (g := gName 8) rfl scWeb.nd (pi_list (pe_slice sl_list (pv 1) po_none (po_some (pv 7)))) (blkOk_by (N := nWeb) (sc := defScope sWeb) (by decide +kernel)) (fun _ _ _ _ _ => pg_name (i := 8) scWeb.nd rfl (Or.inl rfl))
            (fun _ _ _ _ _ => pts_one (pt_cmpR op_eq (pe_g GT hr (pa_cons (pv 0) (pa_cons (pv 2) pa_nil))) pe_int (nomark _))) (fun _ _ _ _ _ => pe_tup (pa_cons (pv 8) (pa_cons (pe_ix (r := rIxL K) ix_list (pv 1) (pv 7) (fun _ _ => rfl)) pa_nil))))))))))
      (Evl.pss_cut (ps_set (i := 3) scWeb.nd rfl (Or.inl rfl) (pe_op op_cat (pv 3) (pe_lc (own := [("_law_own", 8)]) (g := gName 8) rfl scWeb.nd (pi_list (pv 1)) (blkOk_by (N := nWeb) (sc := defScope sWeb) (by decide +kernel)) (fun _ _ _ _ _ => pg_name (i := 8) scWeb.nd rfl (Or.inl rfl))
            (fun _ _ _ _ _ => pts_one (pt_cmpR op_eq (pe_g GT hr (pa_cons (pv 0) (pa_cons pe_int pa_nil))) pe_int (nomark _))) (fun _ _ _ _ _ => pe_tup (pa_cons (pv 8) (pa_cons (pv 8) pa_nil))))))
      (pss_one (ps_ret (pe_callTy cr_tupOf (by rfl) B.tuple bt_tuple (pa_cons (pe_callB (cr_sortTL) (by rfl) B.sorted bt_sorted (pa_cons (pe_lc (own := [("_law_own", 8)]) (g := gName 8) (tt := tYes) rfl scWeb.nd (pi_list (pv 3)) (blkOk_by (N := nWeb) (sc := defScope sWeb) (by decide +kernel)) (fun _ _ _ _ _ => pg_name (i := 8) scWeb.nd rfl (Or.inl rfl)) (fun _ _ _ _ _ => pts_nil)
            (fun _ _ _ _ _ => pe_callTy (r := rTupOf K) cr_tupOf (by rfl) B.tuple bt_tuple (pa_cons (pe_callB (r := rSortX K) cr_sortX (by rfl) B.sorted bt_sorted (pa_cons (pv 8) pa_nil)) pa_nil))) pa_nil)) pa_nil))))))).nox, ?_⟩
    have nd8 : ∀ {l : Nat}, l ≤ 5000 → l ≤ sizeLine := fun h => Nat.le_trans h (by rw [sizeLine_eq]; decide)
    -- a list of pairs joined with another one
    have cat : ∀ {H1 : Hp} {l D m : Nat} {cs ds : List (Str × Str)}, Urn H1 u m → l ≠ u → D ≠ u → PrL H1 l cs → PrL H1 D ds → cs.length + ds.length ≤ 5000 → rCat (.ref l) (.ref D) H1 (fun v H2 => ∃ p, v = .ref p ∧ p ≠ u ∧ Same H1 H2 ∧ Urn H2 u m ∧ PrL H2 p (cs ++ ds)) := fun {H1 l D m cs ds} U1 lu Du hl hD len => by
      obtain ⟨ts, a, b⟩ := hl
      obtain ⟨us, c, d⟩ := hD
      refine ⟨l, D, _, _, rfl, rfl, a, c, ?_, fun p hp => ⟨p, rfl, urn_fresh U1 hp, Sx.Same.new hp, U1.same (Sx.Same.new hp), ts ++ us, by rw [upd_same, List.map_append], ?_⟩⟩
      · rw [List.length_map, List.length_map, Paired.length b, Paired.length d]
        exact nd8 len
      · exact paired_app (paired_imp (fun _ _ z => Sx.Same.new hp _ _ z) b) (paired_imp (fun _ _ z => Sx.Same.new hp _ _ z) d)
    -- sort, pairs
    refine ⟨_, rfl, u, n, 4, rfl, U, by omega, by omega, by omega, fun k1 H1 hk1 U1 k1' => ?_⟩
    refine ⟨Nat.zero_le _, fun l0 hl0 => ?_⟩
    have l0u := urn_fresh U1 hl0
    refine ⟨(by show 2 ≤ sizeLine; decide), fun t0 ht0 => ⟨t0, _, rfl, SqT.of upd_same, rfl, _, _, rfl, _, _, rfl, rfl, ?_⟩⟩
    have sA : Same H1 (upd H1 l0 (.lst [])) := Sx.Same.new hl0
    have sB : Same (upd H1 l0 (.lst [])) (upd (upd H1 l0 (.lst [])) t0 (.tup [.int k1, .ref l0])) := Sx.Same.new ht0
    have S2 : SameU u H (upd (upd H1 l0 (.lst [])) t0 (.tup [.int k1, .ref l0])) := (SameU.but k1').trans (SameU.of (sA.trans sB))
    have U2 : Urn (upd (upd H1 l0 (.lst [])) t0 (.tup [.int k1, .ref l0])) u (n + 1) := U1.same (sA.trans sB)
    have P2 : PrL (upd (upd H1 l0 (.lst [])) t0 (.tup [.int k1, .ref l0])) l0 [] := ⟨[], sB _ _ upd_same, .nil⟩
    generalize upd (upd H1 l0 (.lst [])) t0 (.tup [.int k1, .ref l0]) = H2 at S2 U2 P2 ⊢
    clear sA sB U1 k1' ht0 hl0
    refine ⟨fun σ' H' => ∃ (v4 v5 v6 v7 : Option V) (lp : Addr) (cs : List (Str × Str)), σ' = [some (.ref u), some (.ref t), some (.int k1), some (.ref lp), v4, v5, v6, v7, none] ∧ lp ≠ u ∧ SameU u H H' ∧ Urn H' u (n + 100) ∧ PrL H' lp cs ∧ inKs ks cs ∧ cs.length ≤ 600, ?_, ?_⟩
    · refine ⟨_, rfl, _, _, rfl, rfl, _, rfl, ?_⟩
      refine ite2 (fun _ => ?_) (fun hno => ?_)
      · -- lots
        refine ⟨fun σ' H' => ∃ (l : Addr) (lz : List (Addr × List Str)), σ' = [some (.ref u), some (.ref t), some (.int k1), some (.ref l0), some (.ref l), none, none, none, none] ∧ l ≠ u ∧ l ≠ l0 ∧ SameU u H H' ∧ Urn H' u (n + 1) ∧ PrL H' l0 [] ∧ H' l = some (.lst (lz.map fun z => V.ref z.1)) ∧ (∀ z ∈ lz, H' z.1 = some (.lst (z.2.map V.str)) ∧ z.1 ≠ l ∧ z.1 ≠ u) ∧ (∀ z ∈ lz, ∀ x ∈ z.2, x ∈ ks) ∧ (lz.map (·.2)).flatten.length ≤ 8 ∧ lz.length ≤ 8 ∧ H l = none, ?_, ?_⟩
        · refine ⟨_, rfl, t, rfl, ⟨_, S2.sqL hx tu⟩, ?_⟩
          refine lc_objsL (vs := [8]) (σ := [some (.ref u), some (.ref t), some (.int k1), some (.ref l0), none, none, none, none, none]) (fun z : Str => .lst [V.str z]) (fun _ => true) (S2.sqL hx tu) (paired_strs ks) (by rw [List.length_map]; omega) (fun x z hz hx2 H5 s5 => ?_) (fun D H5 hD hN => ?_)
          · subst hx2
            refine tst_name (by rfl) gt_yes fun _ H4 s4 Q h => ?_
            exact ⟨_, rfl, (by show 1 ≤ sizeLine; decide), fun l hl => h l _ hl (Sx.Same.new hl) upd_same⟩
          · obtain ⟨s5, us, hus, hpu⟩ := hN
            rw [List.filter_eq_self.mpr fun _ _ => rfl] at hpu
            have lu := Paired.length hpu
            obtain ⟨o0, ho0⟩ : ∃ o, H2 l0 = some o := let ⟨_, a, _⟩ := P2; ⟨_, a⟩
            have Dl0 : D ≠ l0 := fun e => by rw [e, ho0] at hD; cases hD
            have Du := urn_fresh U2 hD
            have DH : H D = none := by
              cases z : H D with
              | none => rfl
              | some o => rw [S2 _ _ z Du] at hD; cases hD
            refine ⟨D, us.zip (ks.map fun k => [k]), rfl, Du, Dl0, S2.trans (SameU.of s5), U2.same s5, P2.same s5, ?_, fun z hz => ?_, fun z hz x hxz => ?_, ?_, ?_, DH⟩
            · rw [hus]
              have e : (us.zip (ks.map fun k => [k])).map (fun z => V.ref z.1) = us.map V.ref := by
                rw [show (fun z : Addr × List Str => V.ref z.1) = V.ref ∘ Prod.fst from rfl, ← List.map_map, List.map_fst_zip (by rw [List.length_map]; omega)]
              rw [e]
            · obtain ⟨i, hi, e⟩ := List.getElem_of_mem hz
              have hi' := hi
              rw [List.length_zip, List.length_map] at hi'
              rw [List.getElem_zip, List.getElem_map] at e
              obtain ⟨k, hk, h1, h2, h3⟩ := paired_get hpu (List.getElem?_eq_getElem (show i < us.length by omega))
              rw [← e]
              have e2 : ks[i] = k := (List.getElem?_eq_some_iff.mp hk).2
              rw [e2]
              exact ⟨h1, h3, urn_fresh U2 h2⟩
            · obtain ⟨i, hi, e⟩ := List.getElem_of_mem hz
              rw [List.getElem_zip, List.getElem_map] at e
              rw [← e] at hxz
              rw [List.mem_singleton.mp hxz]
              exact List.getElem_mem _
            · rw [List.map_snd_zip (by rw [List.length_map, lu]; omega), flatten_one]
              exact k8
            · rw [List.length_zip, List.length_map]
              omega
        rintro σ5 H5 ⟨l, lz, rfl, lu, ll0, S5, U5, P5, hl5, hz5, hk5, fl5, le5, lH⟩
        refine ⟨fun m σ' H' => ∃ (v5 v6 : Option V) (lp : Addr) (cs : List (Str × Str)) (lz : List (Addr × List Str)), σ' = [some (.ref u), some (.ref t), some (.int k1), some (.ref lp), some (.ref l), v5, v6, none, none] ∧ m = lz.length ∧ lz.length ≤ 8 ∧ SameU u H H' ∧ Urn H' u (n + 1 + 3 * (8 - lz.length)) ∧ lp ≠ u ∧ lp ≠ l ∧ PrL H' lp cs ∧ inKs ks cs ∧ cs.length ≤ 64 * (8 - lz.length) ∧
            H' l = some (.lst (lz.map fun z => V.ref z.1)) ∧ (∀ z ∈ lz, H' z.1 = some (.lst (z.2.map V.str)) ∧ z.1 ≠ l ∧ z.1 ≠ u) ∧ (∀ z ∈ lz, ∀ x ∈ z.2, x ∈ ks) ∧ (lz.map (·.2)).flatten.length ≤ 8,
          ⟨_, none, none, l0, [], lz, rfl, rfl, le5, S5, U5.more (by omega), l0u, ll0.symm, P5, fun c hc => (by cases hc), Nat.zero_le _, hl5, hz5, hk5, fl5⟩, ?_⟩
        rintro m σ' H' ⟨v5, v6, lp, cs, lz, rfl, rfl, le, S', U', lpu, lpl, P', in', len', hl', hz', hk', fl'⟩
        refine ⟨_, rfl, l, _, rfl, .inl (SqL.of hl'), _, _, rfl, rfl, _, rfl, ?_⟩
        rw [List.length_map]
        refine ite2 (fun h1 => ?_) (fun h1 => ?_)
        · have two : 2 ≤ lz.length := by have := decide_eq_true_eq.mp h1; omega
          refine ⟨fun σ' H' => ∃ m', m' < lz.length ∧ ∃ (v5 v6 : Option V) (lp : Addr) (cs : List (Str × Str)) (lz : List (Addr × List Str)), σ' = [some (.ref u), some (.ref t), some (.int k1), some (.ref lp), some (.ref l), v5, v6, none, none] ∧ m' = lz.length ∧ lz.length ≤ 8 ∧ SameU u H H' ∧ Urn H' u (n + 1 + 3 * (8 - lz.length)) ∧ lp ≠ u ∧ lp ≠ l ∧ PrL H' lp cs ∧ inKs ks cs ∧ cs.length ≤ 64 * (8 - lz.length) ∧
            H' l = some (.lst (lz.map fun z => V.ref z.1)) ∧ (∀ z ∈ lz, H' z.1 = some (.lst (z.2.map V.str)) ∧ z.1 ≠ l ∧ z.1 ≠ u) ∧ (∀ z ∈ lz, ∀ x ∈ z.2, x ∈ ks) ∧ (lz.map (·.2)).flatten.length ≤ 8, fun _ _ z => z, ?_⟩
          -- one
          refine ⟨_, rfl, .inl ⟨rfl, _, SqL.of hl'⟩, ?_⟩
          refine ⟨_, rfl, _, rfl, l, _, rfl, .inl (SqL.of hl'), u, _, lz.length, by rw [List.length_map]; rfl, U', by omega, by omega, by omega, fun i H6 hi U6 k6 => ?_⟩
          have hl6 : H6 l = some (.lst (lz.map fun z => V.ref z.1)) := by rw [k6 l lu]; exact hl'
          have hz6 : ∀ z ∈ lz, H6 z.1 = some (.lst (z.2.map V.str)) ∧ z.1 ≠ l ∧ z.1 ≠ u := fun z hz => ⟨by rw [k6 _ (hz' z hz).2.2]; exact (hz' z hz).1, (hz' z hz).2⟩
          have P6 : PrL H6 lp cs := P'.sameU (SameU.but k6) U' lpu
          have S6 := S'.trans (SameU.but k6)
          refine ⟨l, _, (i : Int), i, .ref lz[i].1, rfl, rfl, hl6, by omega, by omega, by rw [List.length_map]; exact seqIx hi, by rw [List.getElem?_map, List.getElem?_eq_getElem hi]; rfl, ?_⟩
          rw [erase_map]
          have one := hz6 _ (List.getElem_mem hi)
          have p1 := perm_erase lz i hi
          have l1 : (lz.eraseIdx i).length = lz.length - 1 := List.length_eraseIdx_of_lt hi
          have m1 : ∀ z ∈ lz.eraseIdx i, z ∈ lz := fun z hz => p1.mem_iff.mp (List.mem_cons_of_mem _ hz)
          have f1 := (perm_flatten (p1.map (·.2))).length_eq
          rw [List.map_cons, List.flatten_cons, List.length_append] at f1
          have k1' := hk' _ (List.getElem_mem hi)
          generalize lz[i] = one_ at one f1 k1' ⊢
          generalize lz.eraseIdx i = lz1 at l1 m1 f1 ⊢
          have updL : ∀ {H6 : Hp} {o : HO}, (∀ z ∈ lz, H6 z.1 = some (.lst (z.2.map V.str)) ∧ z.1 ≠ l ∧ z.1 ≠ u) → ∀ z ∈ lz, (upd H6 l o) z.1 = some (.lst (z.2.map V.str)) ∧ z.1 ≠ l ∧ z.1 ≠ u := fun {H6 o} h z hz => ⟨by rw [upd_ne (h z hz).2.1]; exact (h z hz).1, (h z hz).2⟩
          have updP : ∀ {H6 : Hp} {xs ys : List V} {cs : List (Str × Str)} {lp : Addr}, lp ≠ l → H6 l = some (.lst xs) → PrL H6 lp cs → PrL (upd H6 l (.lst ys)) lp cs := fun {H6 xs ys cs lp} n h p => by
            obtain ⟨ts, a, b⟩ := p
            exact ⟨ts, by rw [upd_ne n]; exact a, paired_imp (fun t c z => by rw [upd_ne fun e => by rw [e, h] at z; cases z]; exact z) b⟩
          have P7 := updP (ys := lz1.map fun z => V.ref z.1) lpl hl6 P6
          have hz7 := updL (o := .lst (lz1.map fun z => V.ref z.1)) hz6
          have S7 : SameU u H (upd H6 l (.lst (lz1.map fun z => V.ref z.1))) := S6.mut lH
          have U7 := U6.upd (o := .lst (lz1.map fun z => V.ref z.1)) lu
          have o7 : (upd H6 l (.lst (lz1.map fun z => V.ref z.1))) one_.1 = some (.lst (one_.2.map V.str)) := by rw [upd_ne one.2.1]; exact one.1
          have hl7 : (upd H6 l (.lst (lz1.map fun z => V.ref z.1))) l = some (.lst (lz1.map fun z => V.ref z.1)) := upd_same
          generalize upd H6 l (.lst (lz1.map fun z => V.ref z.1)) = H7 at P7 hz7 S7 U7 o7 hl7 ⊢
          clear P6 hz6 S6 U6 hl6 k6
          -- far
          refine ⟨_, rfl, .inl ⟨rfl, _, SqL.of hl7⟩, ?_⟩
          refine ⟨_, rfl, _, rfl, l, _, rfl, .inl (SqL.of hl7), u, _, lz1.length, by rw [List.length_map]; rfl, U7, by omega, by omega, by omega, fun j H8 hj U8 k8' => ?_⟩
          have hl8 : H8 l = some (.lst (lz1.map fun z => V.ref z.1)) := by rw [k8' l lu]; exact hl7
          have hz8 : ∀ z ∈ lz, H8 z.1 = some (.lst (z.2.map V.str)) ∧ z.1 ≠ l ∧ z.1 ≠ u := fun z hz => ⟨by rw [k8' _ (hz7 z hz).2.2]; exact (hz7 z hz).1, (hz7 z hz).2⟩
          have P8 : PrL H8 lp cs := P7.sameU (SameU.but k8') U7 lpu
          have S8 := S7.trans (SameU.but k8')
          have o8 : H8 one_.1 = some (.lst (one_.2.map V.str)) := by rw [k8' _ one.2.2]; exact o7
          refine ⟨l, _, (j : Int), j, .ref lz1[j].1, rfl, rfl, hl8, by omega, by omega, by rw [List.length_map]; exact seqIx hj, by rw [List.getElem?_map, List.getElem?_eq_getElem hj]; rfl, ?_⟩
          rw [erase_map]
          have far := hz8 _ (m1 _ (List.getElem_mem hj))
          have p2 := perm_erase lz1 j hj
          have l2 : (lz1.eraseIdx j).length = lz1.length - 1 := List.length_eraseIdx_of_lt hj
          have m2 : ∀ z ∈ lz1.eraseIdx j, z ∈ lz := fun z hz => m1 z (p2.mem_iff.mp (List.mem_cons_of_mem _ hz))
          have f2 := (perm_flatten (p2.map (·.2))).length_eq
          rw [List.map_cons, List.flatten_cons, List.length_append] at f2
          have k2' := hk' _ (m1 _ (List.getElem_mem hj))
          generalize lz1[j] = far_ at far f2 k2' ⊢
          generalize lz1.eraseIdx j = lz2 at l2 m2 f2 ⊢
          have P9 := updP (ys := lz2.map fun z => V.ref z.1) lpl hl8 P8
          have hz9 := updL (o := .lst (lz2.map fun z => V.ref z.1)) hz8
          have S9 : SameU u H (upd H8 l (.lst (lz2.map fun z => V.ref z.1))) := S8.mut lH
          have U9 := U8.upd (o := .lst (lz2.map fun z => V.ref z.1)) lu
          have o9 : (upd H8 l (.lst (lz2.map fun z => V.ref z.1))) one_.1 = some (.lst (one_.2.map V.str)) := by rw [upd_ne one.2.1]; exact o8
          have fa9 : (upd H8 l (.lst (lz2.map fun z => V.ref z.1))) far_.1 = some (.lst (far_.2.map V.str)) := by rw [upd_ne far.2.1]; exact far.1
          have hl9 : (upd H8 l (.lst (lz2.map fun z => V.ref z.1))) l = some (.lst (lz2.map fun z => V.ref z.1)) := upd_same
          generalize upd H8 l (.lst (lz2.map fun z => V.ref z.1)) = H9 at P9 hz9 S9 U9 o9 fa9 hl9 ⊢
          clear P8 hz8 S8 U8 hl8 k8' P7 hz7 S7 U7 o7 hl7 o8
          -- pairs
          refine ⟨fun σ' H' => ∃ (lp : Addr) (cs : List (Str × Str)), σ' = [some (.ref u), some (.ref t), some (.int k1), some (.ref lp), some (.ref l), some (.ref one_.1), some (.ref far_.1), none, none] ∧ SameU u H9 H' ∧ Urn H' u (n + 1 + 3 * (8 - (lz.length - 1))) ∧ lp ≠ u ∧ lp ≠ l ∧ PrL H' lp cs ∧ inKs ks cs ∧ cs.length ≤ 64 * (8 - (lz.length - 1)), ?_, ?_⟩
          · refine ⟨_, rfl, u, _, 2, rfl, U9, by omega, by omega, by omega, fun k10 H10 hk10 U10 k10' => ⟨rfl, _, rfl, ?_⟩⟩
            have S10 : SameU u H9 H10 := SameU.but k10'
            have P10 : PrL H10 lp cs := P9.sameU S10 U9 lpu
            refine ite2 (fun _ => ?_) (fun _ => ?_)
            · have o10 : H10 one_.1 = some (.lst (one_.2.map V.str)) := S10 _ _ o9 one.2.2
              have fa10 : H10 far_.1 = some (.lst (far_.2.map V.str)) := S10 _ _ fa9 far.2.2
              have hl10 := S10 _ _ hl9 lu
              refine ⟨_, rfl, _, rfl, _, rfl, one_.1, far_.1, one_.2, far_.2, rfl, .inl (SqL.of o10), .inl (SqL.of fa10), by omega, by omega, fun D H11 s11 hD R11 => ?_⟩
              have U11 := U10.same s11
              have Du := urn_fresh U10 hD
              have PD : PrL H11 D (crossM one_.2 far_.2) := by
                obtain ⟨ts, a, b⟩ := R11
                exact ⟨ts, a, paired_imp (fun _ _ z => z.1) b⟩
              have cl : (crossM one_.2 far_.2).length ≤ 64 := by
                have e : ∀ zs : List Str, (crossM zs far_.2).length = zs.length * far_.2.length := fun zs => by
                  induction zs with
                  | nil => simp [crossM]
                  | cons z zs ih =>
                    show (far_.2.map (fun b => (z, b)) ++ crossM zs far_.2).length = _
                    rw [List.length_append, ih, List.length_map, List.length_cons, Nat.add_mul, Nat.one_mul, Nat.add_comm]
                rw [e]
                exact Nat.le_trans (Nat.mul_le_mul (show one_.2.length ≤ 8 by omega) (show far_.2.length ≤ 8 by omega)) (by decide)
              obtain ⟨l', D', xs, zs, e1, e2, h1', h2', h3', h4'⟩ := cat U11 lpu Du (P10.same s11) PD (by omega)
              refine ⟨l', D', xs, zs, e1, e2, h1', h2', h3', fun p hp => ?_⟩
              obtain ⟨p', e, pu, s, U12, P12⟩ := h4' p hp
              cases e
              refine ⟨p, _, rfl, S10.trans (SameU.of (s11.trans s)), U12.more (by omega), pu, fun e => ?_, P12, inKs.app in' (fun c hc => ?_), by rw [List.length_append]; omega⟩
              · rw [e, s11 _ _ hl10] at hp
                cases hp
              · obtain ⟨x, hx1, hx2⟩ := List.mem_flatMap.mp hc
                obtain ⟨y, hy, e⟩ := List.mem_map.mp hx2
                rw [← e]
                exact ⟨k1' x hx1, k2' y hy⟩
            · exact ⟨lp, cs, rfl, S10, U10.more (by omega), lpu, lpl, P10, in', by omega⟩
          rintro σ10 H10 ⟨lp', cs', rfl, S10, U10, lpu', lpl', P10, in10, len10⟩
          -- lots.append(one + far)
          have hl10 := S10 _ _ hl9 lu
          have o10 := S10 _ _ o9 one.2.2
          have fa10 := S10 _ _ fa9 far.2.2
          refine ⟨_, rfl, .inl ⟨rfl, _, SqL.of hl10⟩, _, rfl, _, rfl, one_.1, far_.1, _, _, rfl, rfl, o10, fa10, by rw [List.length_map, List.length_map]; exact nd8 (by omega), fun p hp => ?_⟩
          have sp : Same H10 (upd H10 p (.lst (one_.2.map V.str ++ far_.2.map V.str))) := Sx.Same.new hp
          have pl : p ≠ l := fun e => by rw [e, hl10] at hp; cases hp
          have pu := urn_fresh U10 hp
          refine ⟨l, _, _, rfl, rfl, sp _ _ hl10, small1000 (by rw [List.length_map]; omega), ?_⟩
          refine ⟨lz2.length + 1, by omega, _, _, lp', cs', lz2 ++ [(p, one_.2 ++ far_.2)], rfl, by rw [List.length_append]; rfl, by rw [List.length_append, List.length_singleton]; omega, (S9.trans (S10.trans (SameU.of sp))).mut lH, ?_, lpu', lpl', updP lpl' (sp _ _ hl10) (P10.same sp), in10, ?_, by rw [upd_same, List.map_append]; rfl, fun z hz => ?_, fun z hz => ?_, ?_⟩
          · refine ((U10.same sp).upd lu).more ?_
            rw [List.length_append, List.length_singleton]
            omega
          · rw [List.length_append, List.length_singleton]
            omega
          · rcases List.mem_append.mp hz with a | a
            · have y := hz9 z (m2 z a)
              exact ⟨by rw [upd_ne y.2.1]; exact sp _ _ (S10 _ _ y.1 y.2.2), y.2⟩
            · rw [List.mem_singleton.mp a]
              refine ⟨?_, pl, pu⟩
              show (upd (upd H10 p _) l _) p = _
              rw [upd_ne pl, upd_same, List.map_append]
          · rcases List.mem_append.mp hz with a | a
            · exact hk' z (m2 z a)
            · rw [List.mem_singleton.mp a]
              exact fun x hx => (List.mem_append.mp hx).elim (k1' x) (k2' x)
          · rw [List.map_append, List.flatten_append, List.length_append]
            show _ + ([one_.2 ++ far_.2].flatten).length ≤ 8
            rw [List.flatten_singleton, List.length_append]
            omega
        · have few1 : 8 - lz.length ≤ 8 := by omega
          exact ⟨_, v5, v6, none, lp, cs, rfl, lpu, S', U'.more (by omega), P', in', by omega⟩
      · have k2 : 2 ≤ k1 := by
          rcases Nat.lt_or_ge k1 2 with a | a
          · exact absurd (decide_eq_true (show (k1 : Int) < 2 by omega)) hno
          · exact a
        refine ⟨_, rfl, t, _, rfl, .inl (S2.sqL hx tu), _, rfl, by rw [List.length_map]; omega, by rw [List.length_map]; omega, ?_⟩
        rw [List.length_map]
        refine for_range (lo := 0) (n := ks.length) (fun i σ' H' => ∃ (v7 : Option V) (lp : Addr) (cs : List (Str × Str)), σ' = [some (.ref u), some (.ref t), some (.int k1), some (.ref lp), none, none, none, v7, none] ∧ lp ≠ u ∧ SameU u H H' ∧ Urn H' u (n + 1 + 8 * i) ∧ PrL H' lp cs ∧ inKs ks cs ∧ cs.length ≤ 8 * i)
          ⟨none, l0, [], rfl, l0u, S2, U2, P2, fun c hc => (by cases hc), Nat.le_refl _⟩ ?_ ?_
        · rintro i σ' H' hi ⟨v7, lp, cs, rfl, lpu, S', U', P', in', len'⟩
          have ei : (0 + (i : Int)) = ((i : Nat) : Int) := Int.zero_add _
          have ec : cutV (ks.map V.str) none (some (0 + (i : Int))) = (ks.take i).map V.str := by
            rw [ei]
            unfold cutV
            rw [HT.sIx_none, HT.sIx_nat, List.drop_zero, ← List.map_take, List.length_map, Nat.sub_zero, Nat.min_eq_left (by omega)]
          refine ⟨_, rfl, _, rfl, _, rfl, _, rfl, t, _, rfl, S'.sqL hx tu, fun p hp => ?_⟩
          rw [ec]
          have sp : Same H' (upd H' p (.lst ((ks.take i).map V.str))) := Sx.Same.new hp
          have pu := urn_fresh U' hp
          have il : (ks.take i).length = i := by rw [List.length_take]; omega
          refine ⟨p, rfl, ⟨_, SqL.of upd_same⟩, ?_⟩
          have Sp : SameU u H (upd H' p (.lst ((ks.take i).map V.str))) := S'.trans (SameU.of sp)
          refine lc_drawL (vs := [8]) (σ := [some (.ref u), some (.ref t), some (.int k1), some (.ref lp), none, none, none, some (.int (0 + (i : Int))), none]) (fun z : Str => .tup [.str z, .str ks[i]]) (SqL.of upd_same) (paired_strs (ks.take i)) pu (by rw [List.length_map]; omega) (fun _ => by rfl) (U'.same sp) (fun x z j H5 hz hxz hj S5 U5 Q h => ?_) (fun x z m H5 hz hxz S5 U5 Q h => ?_) (fun D H5 ts ys hD Du S5 U5 hd hpr hys hyl => ?_)
          · rw [List.length_map, il] at hj
            exact ⟨_, rfl, _, rfl, u, _, k1, rfl, U5, by omega, by omega, by omega, fun k H6 hk U6 k6 => ⟨rfl, _, rfl, h _ H6 U6 k6⟩⟩
          · subst hxz
            refine ⟨_, rfl, _, rfl, _, rfl, t, _, _, .str ks[i], rfl, rfl, (Sp.trans S5).sqL hx tu, ?_, (by show 2 ≤ sizeLine; decide), fun t ht => h t _ ht (Sx.Same.new ht) upd_same⟩
            rw [ei]
            exact atI_nat (j := i) (by rw [List.getElem?_map, List.getElem?_eq_getElem hi]; rfl)
          · rw [List.length_map, il] at U5 hyl
            have P5 : PrL H5 lp cs := (P'.same sp).sameU S5 (U'.same sp) lpu
            have PD : PrL H5 D (ys.map fun z => (z, ks[i])) := ⟨ts, hd, paired_mapr (fun t z h => h.1) hpr⟩
            obtain ⟨l, D', xs, zs, e1, e2, h1, h2, h3, h4⟩ := cat U5 lpu Du P5 PD (by rw [List.length_map]; omega)
            refine ⟨l, D', xs, zs, e1, e2, h1, h2, h3, fun p hp => ?_⟩
            obtain ⟨p', e, pu, s, U6, P6⟩ := h4 p hp
            cases e
            refine ⟨_, p, _, rfl, pu, Sp.trans (S5.trans (SameU.of s)), U6.more (by omega), P6, inKs.app in' (fun c hc => ?_), by rw [List.length_append, List.length_map]; omega⟩
            obtain ⟨z, hz, e⟩ := List.mem_map.mp hc
            rw [← e]
            exact ⟨List.mem_of_mem_take (hys z hz), List.getElem_mem hi⟩
        · rintro σ' H' ⟨v7, lp, cs, rfl, lpu, S', U', P', in', len'⟩
          exact ⟨none, none, none, v7, lp, cs, rfl, lpu, S', U'.more (by omega), P', in', by omega⟩
    rintro σ3 H3 ⟨v4, v5, v6, v7, lp, cs, rfl, lpu, S3, U3, P3, in3, len3⟩
    refine ⟨fun σ' H' => ∃ (lp : Addr) (cs : List (Str × Str)), σ' = [some (.ref u), some (.ref t), some (.int k1), some (.ref lp), v4, v5, v6, v7, none] ∧ SameU u H H' ∧ Urn H' u (n + 200) ∧ PrL H' lp cs ∧ inKs ks cs ∧ cs.length ≤ 1000, ?_, ?_⟩
    · refine ⟨_, rfl, _, rfl, t, rfl, ⟨_, S3.sqL hx tu⟩, ?_⟩
      refine lc_drawL (vs := [8]) (σ := [some (.ref u), some (.ref t), some (.int k1), some (.ref lp), v4, v5, v6, v7, none]) (fun z : Str => .tup [.str z, .str z]) (S3.sqL hx tu) (paired_strs ks) tu (by rw [List.length_map]; omega) (fun _ => by rfl) U3 (fun x z i H' hz hxz hi S' U' Q h => ?_) (fun x z m H' hz hxz S' U' Q h => ?_) (fun D H' ts ys hD Du S' U' hd hpr hys hyl => ?_)
      · rw [List.length_map] at hi
        exact ⟨_, rfl, u, _, 3, rfl, U', by omega, by omega, by omega, fun k H5 hk U5 k5 => ⟨rfl, _, rfl, h _ H5 U5 k5⟩⟩
      · subst hxz
        exact ⟨_, rfl, _, rfl, (by show 2 ≤ sizeLine; decide), fun t ht => h t _ ht (Sx.Same.new ht) upd_same⟩
      · rw [List.length_map] at U' hyl
        have P' : PrL H' lp cs := P3.sameU S' U3 lpu
        have PD : PrL H' D (ys.map fun z => (z, z)) := ⟨ts, hd, paired_mapr (fun t z h => h.1) hpr⟩
        obtain ⟨l, D', xs, zs, e1, e2, h1, h2, h3, h4⟩ := cat U' lpu Du P' PD (by rw [List.length_map]; omega)
        refine ⟨l, D', xs, zs, e1, e2, h1, h2, h3, fun p hp => ?_⟩
        obtain ⟨p', e, pu, s, U6, P6⟩ := h4 p hp
        cases e
        refine ⟨p, _, rfl, S3.trans (S'.trans (SameU.of s)), U6.more (by omega), P6, inKs.app in3 (fun c hc => ?_), by rw [List.length_append, List.length_map]; omega⟩
        obtain ⟨z, hz, e⟩ := List.mem_map.mp hc
        rw [← e]
        exact ⟨hys z hz, hys z hz⟩
    rintro σ4 H4 ⟨lp4, cs4, rfl, S4, U4, ⟨ts, hl4, hts⟩, in4, len4⟩
    refine ⟨_, rfl, lp4, rfl, ⟨_, SqL.of hl4⟩, ?_⟩
    refine lc_objsL (vs := [8]) (σ := [some (.ref u), some (.ref t), some (.int k1), some (.ref lp4), v4, v5, v6, v7, none]) (fun c : Str × Str => .tup [.str (nrm c).1, .str (nrm c).2]) (fun _ => true) (SqL.of hl4) (paired_refs hts) (by rw [List.length_map, Paired.length hts]; omega) (fun x z hz hx2 H5 s5 => ?_) (fun D H5 hD hN => ?_)
    · obtain ⟨tz, rfl, hT⟩ := hx2
      refine tst_name (by rfl) gt_yes fun _ H6 s6 Q h => ?_
      refine ⟨_, rfl, tz, [z.1, z.2], rfl, .inr (SqT.of (s6 _ _ (s5 _ _ hT))), fun ys p pm pw hp => ?_⟩
      rw [two_sorted pm pw]
      have sp : Same H6 (upd H6 p (.lst ([mnS z.1 z.2, mxS z.1 z.2].map V.str))) := Sx.Same.new hp
      refine ⟨p, _, rfl, .inl ⟨SqL.of upd_same, fun l hl => h l _ ?_ (sp.trans (Sx.Same.new hl)) upd_same⟩⟩
      cases y : H6 l with
      | none => rfl
      | some o => rw [sp _ _ y] at hl; cases hl
    obtain ⟨s5, us, hus, hpu⟩ := hN
    rw [List.filter_eq_self.mpr fun _ _ => rfl] at hpu
    have kx : ∀ x ∈ us.map V.ref, ∃ w c, x = V.ref w ∧ c ∈ cs4 ∧ H5 w = some (.tup [.str (nrm c).1, .str (nrm c).2]) := fun x hx => by
      obtain ⟨w', hw', e⟩ := List.mem_map.mp hx
      obtain ⟨j, hj⟩ := List.getElem?_of_mem hw'
      obtain ⟨c, hc, h, _⟩ := paired_get hpu hj
      exact ⟨w', c, e.symm, List.mem_of_getElem? hc, h⟩
    refine ⟨D, us.map V.ref, txts H5, rfl, SqL.of hus, fun x hx => ?_, fun ys p pm pw hp => ?_⟩
    · obtain ⟨w', c, rfl, hc, h⟩ := kx x hx
      rw [txts_at (L := [(nrm c).1, (nrm c).2]) h]
      exact ⟨by simp, w', rfl, SqT.of h⟩
    · obtain ⟨ws, rfl⟩ : ∃ ws : List Addr, ys = ws.map V.ref := refs_of fun y hy => let ⟨w', _, e, _⟩ := kx y (pm.mem_iff.mp hy); ⟨w', e⟩
      refine ⟨p, _, rfl, .inl ⟨SqL.of upd_same, fun a ha => ?_⟩⟩
      have Sa : Same H5 (upd (upd H5 p (.lst (ws.map V.ref))) a (.tup (ws.map V.ref))) := (Sx.Same.new hp).trans (Sx.Same.new ha)
      obtain ⟨ds, d1, d2⟩ := pick_pairs (H := H5) (cs := cs4) (g := nrm) (ws := ws) fun w' hw' => by
        obtain ⟨v, c, e, hc, h⟩ := kx (V.ref w') (pm.mem_iff.mp (List.mem_map.mpr ⟨w', hw', rfl⟩))
        cases e
        exact ⟨c, hc, h⟩
      have lw := pm.length_eq
      rw [List.length_map, List.length_map, Paired.length hpu] at lw
      refine q a ds _ (fun d hd => ?_) (fun d hd => ?_) (by rw [← Paired.length d1]; omega) ⟨ws, SqT.of upd_same, paired_imp (fun _ _ h => Sa _ _ h) d1⟩ (U4.same (s5.trans Sa)) (S4.trans (SameU.of (s5.trans Sa)))
      · obtain ⟨c, hc, e⟩ := d2 d hd
        obtain ⟨i1, i2⟩ := in4 c hc
        rw [e]
        exact ⟨mnS_mem (p := (· ∈ ks)) i1 i2, mxS_mem (p := (· ∈ ks)) i1 i2⟩
      · obtain ⟨c, hc, e⟩ := d2 d hd
        rw [e]
        exact nrm_low c
end
end Sx

/-! SxRev -/
/-! t[::-1] of a pair. -/
namespace Sx
open PySem PySem.Spec PyProof.Rows L2
section
variable {prog : Program} {w : World} {A : Around} {E : Value → Shared → Prop} {s : Shared}
theorem applied_rev {sl : Addr} {vs : Value} {Q : Int × Int × Nat → Shared → Prop} (hs : s.heap.IsSliceOf sl .none .none vs) (ps : IsPart vs (some (-1))) (h : Q ((1 : Int), (-1 : Int), 2) s) :
    wpAny (model prog w) A (Builtin.Slice.sliceApplied (.ref sl) (pure (2 : Int))) Q E s := by
  obtain ⟨os, hos, hcs, hds⟩ := id hs
  unfold Builtin.Slice.sliceApplied Builtin.Slice.sliceFields
  refine wpAny_bind (wpAny_bind (wpAny_field hos hds (x := .none) rfl (wpAny_bind (wpAny_field hos hds (x := .none) rfl (wpAny_bind (wpAny_field hos hds (x := vs) rfl (wpAny_pure ?_)))))))
  refine wpAny_bind (HT.slicePart_ ps ?_)
  show wpAny _ _ (if ((-1 : Int) == 0) = true then _ else _) _ _ s
  rw [if_neg (by decide)]
  refine wpAny_bind (slicePart_none (wpAny_bind (slicePart_none (wpAny_bind (wpAny_pure ?_)))))
  exact wpAny_pure h
theorem getItem_rev {t sl : Addr} {x y vs : Value} {Q : Value → Shared → Prop} (ht : IsTup s.heap t #[x, y]) (hs : s.heap.IsSliceOf sl .none .none vs) (ps : IsPart vs (some (-1)))
    (h : Q (.ref s.heap.objs.size) { s with heap := s.heap.push { cls := .type "tuple", data := .seq #[y, x] } }) : wpAny (model prog w) A (getItem (.ref t) (.ref sl)) Q E s := by
  obtain ⟨os, hos, hcs, hds⟩ := id hs
  have hTs : s.TypeIs (.ref sl) "slice" := ⟨os, hos, hcs⟩
  unfold getItem
  try with_reducible refine wpAny_holding ?_
  first | refine wpAny_bind (wpAny_pure ?_) | skip
  refine wpAny_bind (wpAny_sequenceKey ht.typeIs (by decide) ?_)
  refine wpAny_bind (wpAny_callSpecial?_slot (name := Str.ofString "__getitem__") ht.typeIs PyProof.Rows.slot_tuple_getitem
    (wpAny_call_entry PyProof.Rows.slot_tuple_getitem ht.typeIs entry_tuple_getitem ?_ (args_tuple_getitem _ _)))
  show wpAny _ _ (Builtin.Tuple.tupleItemsOf (.ref t) >>= _) _ _ s
  refine wpAny_bind (tupleItemsOf_ ht ?_)
  refine wpAny_bind (wpAny_typeOf hTs ?_)
  rw [if_pos (by decide)]
  refine wpAny_bind (applied_rev hs ps ?_)
  have hno : ¬ (((1 : Int) == 0 && (-1 : Int) == 1 && 2 == (#[x, y] : Array Value).size) = true) := fun z => by cases z
  have e : ((List.range 2).filterMap fun (m : Nat) => (#[x, y] : Array Value)[((1 : Int) + (m : Int) * -1).toNat]?).toArray = #[y, x] := rfl
  show wpAny _ _ (if ((1 : Int) == 0 && (-1 : Int) == 1 && 2 == (#[x, y] : Array Value).size) = true then _ else _) _ _ s
  rw [if_neg hno, e]
  first
    | exact wpAny_bind (m := Builtin.Tuple.tupleExact _) (wpAny_newObj_type (wpAny_pure ⟨_, rfl, wpAny_pure h⟩) (by show 2 ≤ sizeLine; decide))
    | exact wpAny_bind (m := Builtin.Tuple.tupleExact _) (wpAny_newObj_type (wpAny_bind (wpAny_pure (wpAny_pure ⟨_, rfl, wpAny_pure h⟩))) (by show 2 ≤ sizeLine; decide))
end
def tRev2 (K : PySem.W.Frag) (te : TE) : TE := fun σ H Q => te σ H fun x H1 => ∃ a u v, x = .ref a ∧ SqT K H1 a [u, v] ∧ ∀ p, H1 p = none → Q (.ref p) (upd H1 p (.tup [v, u]))
section
variable {X : Cx}
theorem pe_rev2 {e : Expr} {te : TE} {k : Nat} {p1 p2 p3 pos : Pos} (he : PE X e te) : PE X (.Subscript e (.Slice none none (some (.UnaryOp .USub (.Constant (.int 1) k p1) p2)) p3) pos) (tRev2 X.K te) := by
  refine ⟨fun pins s σ H Q I h => ?_⟩
  refine Subscript_ (thn (he.run pins s σ H _ I h) fun v s1 ⟨x, H1, I1, r1, q1⟩ => ?_)
  obtain ⟨a, u1, v1, ex, hx, q⟩ := q1
  subst ex
  cases r1
  have hst : PO X (some (.UnaryOp .USub (.Constant (.int 1) k p1) p2)) (tPart (tUn (rU fun i => .int (-i)) (tC (.int 1)))) := po_some (pe_un un_neg pe_int)
  refine wpAny_Slice (thn (po_none.run pins s1 σ H1 (fun o H2 => o = none ∧ H2 = H1) I1 ⟨rfl, rfl⟩) fun vl s2 ⟨l, H2, I2, pl, el, e2⟩ => ?_)
  subst el e2
  refine thn (po_none.run pins s2 σ H2 (fun o H3 => o = none ∧ H3 = H2) I2 ⟨rfl, rfl⟩) fun vu s3 ⟨u, H3, I3, pu, eu, e3⟩ => ?_
  subst eu e3
  refine thn (hst.run pins s3 σ H3 (fun o H4 => o = some (-1) ∧ H4 = H3) I3 ⟨1, rfl, -1, rfl, rfl, rfl⟩) fun vs s4 ⟨o, H4, I4, ps, eo, e4⟩ => ?_
  subst eo e4
  have I5 : Inv X pins σ H4 { s4 with heap := s4.heap.push { cls := .type "slice", data := .fields #[vl, vu, vs] } } := I4.kept (t' := s4.toks) fun b ob q => Heap.get?_push_of_some _ q
  obtain ⟨its, r, ht, hz⟩ := I5.tuple hx
  obtain ⟨x1, y1, ei, rx1, ry1⟩ := vals2 r
  subst ei
  cases pl
  cases pu
  show wpAny (model X.prog X.w) X.A (subscriptTail e (.Slice none none (some (.UnaryOp .USub (.Constant (.int 1) k p1) p2)) p3) (.ref a) (.ref s4.heap.objs.size)) (EP X pins σ Q) X.xe { s4 with heap := s4.heap.push { cls := .type "slice", data := .fields #[.none, .none, vs] } }
  refine tail_any (ops := [.ref a, .ref s4.heap.objs.size]) ht.typeIs (PyProof.Rows.slot_tuple_getitem.lookup) ?_ (by with_unfolding_all rfl)
  refine getItem_rev ht (Heap.IsSliceOf.new _ .none .none vs) ps ?_
  refine ⟨.ref _, _, I5.laid (t' := s4.toks) (o := .tup [v1, u1]) (fun b ob q => Heap.get?_push_of_some _ q) (Nat.le_refl _) ?_, rfl, q _ (I5.hok.fresh (Nat.le_refl _))⟩
  exact ⟨by show 2 ≤ sizeLine; decide, _, .cons ry1 (.cons rx1 .nil), IsTup.new _ _⟩
end
end Sx

/-! LawH -/
namespace Sx
open PySem PySem.Spec PyProof.Rows L2
theorem nrm_swap (c : Str × Str) : nrm (c.2, c.1) = nrm c := by
  show (mnS c.2 c.1, mxS c.2 c.1) = (mnS c.1 c.2, mxS c.1 c.2)
  unfold mnS mxS
  cases h : ltS c.1 c.2 with
  | true =>
    have g := totS.asym h
    rw [g]
    rfl
  | false =>
    cases g : ltS c.2 c.1 with
    | true => rfl
    | false => rw [totS.eq h g]
def rdP (H : Hp) (w : Addr) : Str × Str := match H w with
  | some (.tup [.str a, .str b]) => (a, b)
  | _ => ("", "")
theorem rdP_at {H : Hp} {w : Addr} {c : Str × Str} (h : H w = some (.tup [.str c.1, .str c.2])) : rdP H w = c := by
  unfold rdP
  rw [h]
theorem rdP_all {H : Hp} : ∀ {us : List Addr} {ds : List (Str × Str)}, Paired (fun t d => H t = some (.tup [.str d.1, .str d.2])) us ds → us.map (rdP H) = ds
  | _, _, .nil => rfl
  | _, _, .cons r h => by rw [List.map_cons, rdP_at r, rdP_all h]
theorem perm_strs {ys : List V} {ks : List Str} (pm : ys.Perm (ks.map V.str)) : ∃ ms : List Str, ys = ms.map V.str ∧ ms.Perm ks := by
  refine ⟨ys.filterMap strOf, ?_, ?_⟩
  · have all : ∀ y ∈ ys, ∃ z, y = V.str z := fun y hy => by
      obtain ⟨z, _, e⟩ := List.mem_map.mp (pm.mem_iff.mp hy)
      exact ⟨z, e.symm⟩
    clear pm
    induction ys with
    | nil => rfl
    | cons y ys ih =>
      obtain ⟨z, rfl⟩ := all y List.mem_cons_self
      show V.str z :: ys = V.str z :: (ys.filterMap strOf).map V.str
      rw [← ih fun y hy => all y (List.mem_cons_of_mem _ hy)]
  · have e := pm.filterMap strOf
    rw [strs_back] at e
    exact e
theorem perm_refsV {ys : List V} {us : List Addr} (pm : ys.Perm (us.map V.ref)) : ∃ ws : List Addr, ys = ws.map V.ref ∧ ws.Perm us := by
  let f : V → Option Addr := fun v => match v with | .ref a => some a | _ => none
  have back : ∀ us : List Addr, (us.map V.ref).filterMap f = us := fun us => by
    induction us with
    | nil => rfl
    | cons u us ih => show u :: (us.map V.ref).filterMap f = u :: us; rw [ih]
  obtain ⟨ws, e⟩ : ∃ ws : List Addr, ys = ws.map V.ref := refs_of fun y hy => by
    obtain ⟨u, _, e⟩ := List.mem_map.mp (pm.mem_iff.mp hy)
    exact ⟨u, e.symm⟩
  refine ⟨ws, e, ?_⟩
  have p := pm.filterMap f
  rw [e, back, back] at p
  exact p
def spHost (K : PySem.W.Frag) (C : Addr) : Sp := fun vs H Q _ => ∃ (u t p : Addr) (n : Nat) (ks : List Str) (cs : List (Str × Str)), vs = [.ref u, .ref t, .ref p] ∧ Urn H u n ∧ n + 3000 < 2 ^ 40 ∧ SqL K H t (ks.map V.str) ∧ t ≠ u ∧ PrT K H p cs ∧ Up ltS ks ∧ ks.length ≤ 8 ∧ inKs ks cs ∧ (∀ c ∈ cs, ltS c.2 c.1 = false) ∧ cs.length ≤ 1000 ∧
  ∀ b H', BookAt K C H' b ks (srt ltP cs) → Urn H' u (n + 3000) → SameU u H H' → Q (.ref b) H'
section
variable {P : Program} {w : World} {K : PySem.W.Frag} {mg : Str → Option Value} {base : Heap}
abbrev MixG (P : Program) (w : World) (K : PySem.W.Frag) (mg : Str → Option Value) (base : Heap) : Prop := FnG P w K mg base "_law_mixed" 2 ["_law_urn", "_law_pool"] (spMixed K)
abbrev nHost : List Str := ["_law_urn", "_law_tags_here", "_law_pairs_so", "_law_some", "_law_own"]
theorem scHost : FnScope nHost ["_law_urn", "_law_tags_here", "_law_pairs_so"] (defScope sHost) := ⟨rfl, rfl, rfl, by decide +kernel, rfl, by decide +kernel, by decide +kernel⟩
theorem ok_host {C : Addr} {f : Addr} {fd : FuncData} {dvs : List V} (F : FunD K "_law_host" "_law_host" (defArgs sHost) (defBody sHost) (defScope sHost) dvs [] f fd) (B : Blt mg) (GT : TakeG P w K mg base) (GM : MixG P w K mg base) (GB : InitG P w K mg base C) : FnOk P w K mg base CX0 3 f fd ["_law_urn", "_law_tags_here", "_law_pairs_so"] (spHost K C) := by
  refine F.ok scHost (fun vs H Q E h => ?_) (fun cdv A outer s H vs Q E hr h => ?_)
  · obtain ⟨u, t, p, n, ks, cs, rfl, _⟩ := h
    rfl
  · obtain ⟨u, t, p, n, ks, cs, rfl, U, hn, hx, tu, ⟨ts, hp, hts⟩, up, k8, ink, low, c1000, q⟩ := h
    have hr1 : Room 1 (A.deeper (envOfC "_law_host" (defScope sHost) s.heap.objs.size f cdv)) := hr.mono (by decide)
    refine ⟨_, (Evl.pss_cut (ps_setLc (i := 3) (own := [("_law_own", 4)]) (g := gName 4) (tt := tYes) (by rfl) scHost.nd rfl rfl (sw_true rfl rfl rfl (by decide +kernel)) (pi_tup (pv 2)) (blkOk_by (N := nHost) (sc := defScope sHost) (by decide +kernel)) (fun _ _ _ _ _ => pg_name (i := 4) scHost.nd rfl (Or.inl rfl)) (fun _ _ _ _ _ => pts_nil)
        (fun _ _ _ _ _ => pe_ifExp (pt_cmpR op_eq (pe_g GT hr1 (pa_cons (pv 0) (pa_cons pe_int pa_nil))) pe_int (nomark _)) (pv 4) (show PE _ _ (tRev2 K (tVar 4)) from pe_rev2 (pv 4))))
      (pss_one (ps_ret (pe_mk GB hr (pa_cons (pe_g GM hr (pa_cons (pv 0) (pa_cons (pv 1) pa_nil))) (pa_cons (pe_g GM hr (pa_cons (pv 0) (pa_cons (pe_op op_cat (pv 3) (pe_slice sl_list (pv 3) po_none (po_some pe_int))) pa_nil))) pa_nil)))))).nox, ?_⟩
    have ltc : ts.length = cs.length := Paired.length hts
    refine ⟨fun σ' H' => ∃ (l : Addr) (us : List Addr) (ds : List (Str × Str)), σ' = [some (.ref u), some (.ref t), some (.ref p), some (.ref l), none] ∧ l ≠ u ∧ SameU u H H' ∧ Urn H' u (n + 1000) ∧ H' l = some (.lst (us.map V.ref)) ∧ Paired (fun t d => H' t = some (.tup [.str d.1, .str d.2])) us ds ∧ Paired (fun d c => d = c ∨ d = (c.2, c.1)) ds cs, ?_, ?_⟩
    · refine ⟨_, rfl, p, rfl, ⟨_, hp⟩, ?_⟩
      refine lc_walkT (vs := [4]) (σ := [some (.ref u), some (.ref t), some (.ref p), none, none]) hp (fun D i H' => D ≠ u ∧ SameU u H H' ∧ Urn H' u (n + i) ∧ ∃ (us : List Addr) (ds : List (Str × Str)), H' D = some (.lst (us.map V.ref)) ∧ us.length = i ∧ Paired (fun t d => H' t = some (.tup [.str d.1, .str d.2])) us ds ∧ Paired (fun d c => d = c ∨ d = (c.2, c.1)) ds (cs.take i))
        (fun D hD => ⟨urn_fresh U hD, SameU.of (Sx.Same.new hD), U.upd (urn_fresh U hD), [], [], upd_same, rfl, .nil, .nil⟩) (fun D i H' pv => pv.2.1.sqT U hp) ?_ ?_
      · rintro D i x H' hi hD ⟨Du, S, U', us, ds, hd, hul, hus, hds⟩
        rw [List.getElem?_map] at hi
        obtain ⟨tz, hti, rfl⟩ := Option.map_eq_some_iff.mp hi
        obtain ⟨c, hci, hT⟩ := paired_get hts hti
        have il := (List.getElem?_eq_some_iff.mp hti).1
        refine ⟨rfl, ?_⟩
        unfold tYes
        dsimp only
        rw [if_pos rfl]
        refine ⟨_, rfl, u, n + i, 2, rfl, U', by omega, by omega, by omega, fun k H2 hk U2 k2 => ⟨rfl, _, rfl, ?_⟩⟩
        have S2 : SameU u H H2 := S.trans (SameU.but k2)
        have tzu : tz ≠ u := U.ne hT (fun xs y => by cases y)
        have hT2 : H2 tz = some (.tup [.str c.1, .str c.2]) := S2 _ _ hT tzu
        have hd2 : H2 D = some (.lst (us.map V.ref)) := by rw [k2 D Du]; exact hd
        have hus2 : Paired (fun t d => H2 t = some (.tup [.str d.1, .str d.2])) us ds := paired_imp (fun t d h => by rw [k2 t (U'.ne h (fun xs y => by cases y))]; exact h) hus
        have up : ∀ {H3 : Hp} {o : HO} {xs : List V}, H3 D = some (.lst xs) → Paired (fun t d => H3 t = some (.tup [.str d.1, .str d.2])) us ds → Paired (fun t d => (upd H3 D o) t = some (.tup [.str d.1, .str d.2])) us ds := fun {H3 o xs} hD3 h => paired_imp (fun t d h => by rw [upd_ne fun e => by rw [e, hD3] at h; cases h]; exact h) h
        have len : (us.map V.ref).length < sizeLine := by rw [List.length_map, sizeLine_eq]; omega
        have tk : cs.take (i + 1) = cs.take i ++ [c] := take_snoc hci
        refine ite2 (fun _ => ?_) (fun _ => ?_)
        · refine ⟨_, rfl, _, hd2, len, Du, S2.mut hD, U2.upd Du, us ++ [tz], ds ++ [c], by rw [upd_same, List.map_append]; rfl, by rw [List.length_append, hul]; rfl, paired_snoc (up hd2 hus2) ?_, by rw [tk]; exact paired_snoc hds (.inl rfl)⟩
          rw [upd_ne fun e => by rw [e, hd2] at hT2; cases hT2]
          exact hT2
        · refine ⟨_, rfl, tz, _, _, rfl, SqT.of hT2, fun r hr => ?_⟩
          have s3 : Same H2 (upd H2 r (.tup [.str c.2, .str c.1])) := Sx.Same.new hr
          have hd3 := s3 _ _ hd2
          refine ⟨_, hd3, len, Du, (S2.trans (SameU.of s3)).mut hD, (U2.same s3).upd Du, us ++ [r], ds ++ [(c.2, c.1)], by rw [upd_same, List.map_append]; rfl, by rw [List.length_append, hul]; rfl, paired_snoc (up hd3 (paired_imp (fun _ _ h => s3 _ _ h) hus2)) ?_, by rw [tk]; exact paired_snoc hds (.inr rfl)⟩
          have rD : r ≠ D := fun e => by
            rw [e, hd2] at hr
            cases hr
          rw [upd_ne rD, upd_same]
      · rintro D H' hD ⟨Du, S, U', us, ds, hd, hul, hus, hds⟩
        rw [List.length_map] at U' hds
        rw [ltc, List.take_length] at hds
        exact ⟨D, us, ds, rfl, Du, S, U'.more (by omega), hd, hus, hds⟩
    rintro σ1 H1 ⟨l, us, ds, rfl, lu, S1, U1, hl, hus, hds⟩
    have lus : us.length = cs.length := by rw [Paired.length hus, Paired.length hds]
    -- mixed tags
    refine ⟨_, rfl, _, rfl, u, t, n + 1000, ks.map V.str, rfl, U1, by rw [List.length_map]; omega, .inl (S1.sqL hx tu), tu, by rw [List.length_map]; omega, fun la ya H2 pa laH hla U2 S2 => ?_⟩
    obtain ⟨ms, rfl, pms⟩ := perm_strs pa
    rw [List.length_map] at U2
    have lau : la ≠ u := urn_fresh U1 laH
    have hl2 := S2 _ _ hl lu
    -- some + some[:1]
    refine ⟨_, rfl, _, rfl, _, rfl, _, rfl, l, _, rfl, SqL.of hl2, fun p1 hp1 => ?_⟩
    have ec : cutV (us.map V.ref) none (some 1) = (us.take 1).map V.ref := by
      show cutV (us.map V.ref) none (some ((1 : Nat) : Int)) = _
      unfold cutV
      rw [HT.sIx_none, HT.sIx_nat, List.drop_zero, ← List.map_take, Nat.sub_zero, List.length_map]
      congr 1
      rw [List.take_eq_take_iff]
      omega
    rw [ec]
    have s3 : Same H2 (upd H2 p1 (.lst ((us.take 1).map V.ref))) := Sx.Same.new hp1
    have l1 : (us.take 1).length ≤ 1 := by rw [List.length_take]; omega
    refine ⟨l, p1, _, _, rfl, rfl, s3 _ _ hl2, upd_same, by rw [List.length_map, List.length_map, sizeLine_eq]; omega, fun p2 hp2 => ?_⟩
    have s4 : Same (upd H2 p1 (.lst ((us.take 1).map V.ref))) (upd (upd H2 p1 (.lst ((us.take 1).map V.ref))) p2 (.lst (us.map V.ref ++ (us.take 1).map V.ref))) := Sx.Same.new hp2
    have U4 := (U2.same s3).same s4
    have s34 := s3.trans s4
    have p2u : p2 ≠ u := urn_fresh (U2.same s3) hp2
    have h4 : (upd (upd H2 p1 (.lst ((us.take 1).map V.ref))) p2 (.lst (us.map V.ref ++ (us.take 1).map V.ref))) p2 = some (.lst ((us ++ us.take 1).map V.ref)) := by rw [upd_same, List.map_append]
    generalize upd (upd H2 p1 (.lst ((us.take 1).map V.ref))) p2 (.lst (us.map V.ref ++ (us.take 1).map V.ref)) = H4 at U4 s34 h4 ⊢
    clear s3 s4 hp1 hp2
    refine ⟨u, p2, _, (us ++ us.take 1).map V.ref, rfl, U4, by rw [List.length_map, List.length_append]; omega, .inl (SqL.of h4), p2u, by rw [List.length_map, List.length_append]; omega, fun lb yb H5 pb lbH hlb U5 S5 => ?_⟩
    obtain ⟨ws, rfl, pws⟩ := perm_refsV pb
    rw [List.length_map, List.length_append] at U5
    have S25 : SameU u H2 H5 := (SameU.of s34).trans S5
    have hus5 : Paired (fun t d => H5 t = some (.tup [.str d.1, .str d.2])) us ds := paired_imp (fun t d h => S25 _ _ (S2 _ _ h (U1.ne h (fun xs y => by cases y))) (U1.ne h (fun xs y => by cases y))) hus
    have hla5 := S25 _ _ hla lau
    have lbu : lb ≠ u := urn_fresh U4 lbH
    -- Book
    intro x dx nx ndx nex
    have s6 : Same H5 (upd (upd H5 dx (.own x)) x (.ins C dx [])) := (Sx.Same.new ndx).trans (Sx.Same.new (by rw [upd_ne nex.symm]; exact nx))
    have rd : us.map (rdP H5) = ds := rdP_all hus5
    have memw : ∀ w ∈ ws, ∃ d ∈ ds, H5 w = some (.tup [.str d.1, .str d.2]) := fun w hw => by
      have m : w ∈ us := (List.mem_append.mp (pws.mem_iff.mp hw)).elim (fun z => z) fun z => List.mem_of_mem_take z
      obtain ⟨j, hj⟩ := List.getElem?_of_mem m
      obtain ⟨d, hd, h⟩ := paired_get hus5 hj
      exact ⟨d, List.mem_of_getElem? hd, h⟩
    have prw : Paired (fun t c => Sq K (upd (upd H5 dx (.own x)) x (.ins C dx [])) t [.str c.1, .str c.2]) ws (ws.map (rdP H5)) := by
      have y := paired_map (F := fun t (c : Str × Str) => Sq K (upd (upd H5 dx (.own x)) x (.ins C dx [])) t [.str c.1, .str c.2]) (f := id) (g := rdP H5) (l := ws) fun w hw => by
        obtain ⟨d, _, h⟩ := memw w hw
        rw [rdP_at h]
        exact .inr (SqT.of (s6 _ _ h))
      rw [List.map_id] at y
      exact y
    have dc : ∀ d ∈ ds, ∃ c ∈ cs, nrm d = c := fun d hd => by
      obtain ⟨j, hj⟩ := List.getElem?_of_mem hd
      obtain ⟨c, hc, h⟩ := paired_get hds hj
      have cm := List.mem_of_getElem? hc
      refine ⟨c, cm, ?_⟩
      rcases h with rfl | rfl
      · exact nrm_self (low _ cm)
      · rw [nrm_swap]
        exact nrm_self (low _ cm)
    have cd : ∀ c ∈ cs, ∃ d ∈ ds, nrm d = c := fun c hc => by
      obtain ⟨j, hj⟩ := List.getElem?_of_mem hc
      have jl : j < ds.length := by rw [Paired.length hds]; exact (List.getElem?_eq_some_iff.mp hj).1
      obtain ⟨c', hc', h⟩ := paired_get hds (List.getElem?_eq_getElem jl)
      rw [hj] at hc'
      cases hc'
      refine ⟨ds[j], List.getElem_mem jl, ?_⟩
      rcases h with h | h
      · rw [h]; exact nrm_self (low _ hc)
      · rw [h, nrm_swap]; exact nrm_self (low _ hc)
    have pin : ∀ c ∈ ws.map (rdP H5), c ∈ ds := fun c hc => by
      obtain ⟨w', hw, e⟩ := List.mem_map.mp hc
      obtain ⟨d, hd, h⟩ := memw w' hw
      rw [← e, rdP_at h]
      exact hd
    have dink : ∀ d ∈ ds, d.1 ∈ ks ∧ d.2 ∈ ks := fun d hd => by
      obtain ⟨j, hj⟩ := List.getElem?_of_mem hd
      obtain ⟨c, hc, h⟩ := paired_get hds hj
      obtain ⟨i1, i2⟩ := ink c (List.mem_of_getElem? hc)
      rcases h with rfl | rfl
      · exact ⟨i1, i2⟩
      · exact ⟨i2, i1⟩
    refine ⟨x, dx, la, lb, ws, ms, ws.map (rdP H5), rfl, upd_same, .inl (SqL.of (s6 _ _ hla5)), .inl (SqL.of (s6 _ _ hlb)), prw, pms.nodup_iff.mpr (up_nodup totS up), by rw [pms.length_eq]; omega, fun c hc => ?_, fun H7 hB k7 => ⟨rfl, ?_⟩⟩
    · obtain ⟨a1, a2⟩ := dink c (pin c hc)
      exact ⟨pms.mem_iff.mpr a1, pms.mem_iff.mpr a2⟩
    · have e1 : srt ltS ms = ks := up_one totS (up_srt totS ms) up fun z => by rw [mem_srt totS, pms.mem_iff]
      have e2 : srt ltP ((ws.map (rdP H5)).map nrm) = srt ltP cs := srt_same totP fun z => by
        rw [List.mem_map]
        constructor
        · rintro ⟨c, hc, e⟩
          obtain ⟨c', hc', e'⟩ := dc c (pin c hc)
          rw [← e, e']
          exact hc'
        · intro hz
          obtain ⟨d, hd, e⟩ := cd z hz
          refine ⟨d, ?_, e⟩
          rw [← rd] at hd
          obtain ⟨w', hw, e'⟩ := List.mem_map.mp hd
          exact List.mem_map.mpr ⟨w', pws.mem_iff.mpr (List.mem_append_left _ hw), e'⟩
      rw [e1, e2] at hB
      have S7 : ∀ b o, H5 b = some o → H7 b = some o := fun b o e => k7 b o (s6 _ _ e) fun z => by rw [z] at e; rw [e] at nx; cases nx
      refine q x H7 hB ((U5.same S7).more (by omega)) (S1.trans (S2.trans (S25.trans (SameU.of S7))))
end
end Sx

/-! LawI -/
namespace Sx
open PySem PySem.Spec PyProof.Rows L2
/-! ### who hangs together: one relation for another -/
theorem rch_to {nf nf' : Str → List Str} {ks : List Str} {s z : Str} (hs : s ∈ ks) (cl : ∀ k ∈ ks, ∀ z ∈ nf k, z ∈ ks) (h : ∀ k ∈ ks, ∀ z, z ≠ k → z ∈ nf k → z ∈ nf' k) (r : Rch nf s z) : Rch nf' s z := by
  have both : z ∈ ks ∧ Rch nf' s z := by
    induction r with
    | here => exact ⟨hs, .here⟩
    | @step y z _ m ih =>
      refine ⟨cl _ ih.1 _ m, ?_⟩
      by_cases e : z = y
      · rw [e]; exact ih.2
      · exact .step ih.2 (h _ ih.1 _ e m)
  exact both.2
theorem parts_eq {nf nf' : Str → List Str} {ks : List Str} (cl : ∀ k ∈ ks, ∀ z ∈ nf k, z ∈ ks) (cl' : ∀ k ∈ ks, ∀ z ∈ nf' k, z ∈ ks) (h : ∀ k ∈ ks, ∀ z ∈ ks, z ≠ k → (z ∈ nf k ↔ z ∈ nf' k)) : partsM nf ks = partsM nf' ks := by
  unfold partsM
  congr 1
  refine List.map_congr_left fun k hk => ?_
  unfold clsM
  refine List.filter_congr fun z hz => ?_
  have e : Rch nf k z ↔ Rch nf' k z := ⟨rch_to hk cl fun a ha b ne m => (h a ha b (cl a ha b m) ne).mp m, rch_to hk cl' fun a ha b ne m => (h a ha b (cl' a ha b m) ne).mpr m⟩
  exact decide_eq_decide.mpr e
/-- pairs of unlike kinds, the lesser first, that are not told -/
def apartM (ks : List Str) (cs : List (Str × Str)) : List (Str × Str) := (crossM ks ks).filter fun c => ltS c.1 c.2 && !decide (c ∈ cs)
theorem mem_cross {ks : List Str} {c : Str × Str} : c ∈ crossM ks ks ↔ c.1 ∈ ks ∧ c.2 ∈ ks := by
  unfold crossM
  rw [List.mem_flatMap]
  constructor
  · rintro ⟨a, ha, h⟩
    obtain ⟨b, hb, e⟩ := List.mem_map.mp h
    rw [← e]
    exact ⟨ha, hb⟩
  · rintro ⟨a, b⟩
    exact ⟨c.1, a, List.mem_map.mpr ⟨c.2, b, rfl⟩⟩
theorem mem_apart {ks : List Str} {cs : List (Str × Str)} {c : Str × Str} : c ∈ apartM ks cs ↔ (c.1 ∈ ks ∧ c.2 ∈ ks) ∧ ltS c.1 c.2 = true ∧ c ∉ cs := by
  unfold apartM
  rw [List.mem_filter, mem_cross, Bool.and_eq_true, Bool.not_eq_true', decide_eq_false_iff_not]
theorem near_apart {ks : List Str} {cs : List (Str × Str)} (low : ∀ c ∈ cs, ltS c.2 c.1 = false) {k z : Str} (hk : k ∈ ks) (hz : z ∈ ks) (ne : z ≠ k) : z ∈ nearM (apartM ks cs) k ↔ z ∉ nearM cs k := by
  rw [mem_near, mem_near, mem_apart, mem_apart]
  rcases totS.tri k z with h | h | h
  · have n1 : (z, k) ∉ cs := fun m => by
      have l := low _ m
      rw [show ltS k z = true from h] at l
      cases l
    constructor
    · rintro (⟨_, _, a⟩ | ⟨_, a, _⟩)
      · exact fun w => w.elim a n1
      · rw [totS.asym h] at a; cases a
    · exact fun w => .inl ⟨⟨hk, hz⟩, h, fun m => w (.inl m)⟩
  · exact absurd h.symm ne
  · have n1 : (k, z) ∉ cs := fun m => by
      have l := low _ m
      rw [show ltS z k = true from h] at l
      cases l
    constructor
    · rintro (⟨_, a, _⟩ | ⟨_, _, a⟩)
      · rw [totS.asym h] at a; cases a
      · exact fun w => w.elim n1 a
    · exact fun w => .inr ⟨⟨hz, hk⟩, h, fun m => w (.inr m)⟩
theorem near_srt {cs : List (Str × Str)} {k z : Str} : z ∈ nearM (srt ltP cs) k ↔ z ∈ nearM cs k := by
  rw [mem_near, mem_near, mem_srt totP, mem_srt totP]
theorem near_turn {ks : List Str} {cs : List (Str × Str)} {k z : Str} (hk : k ∈ ks) (hz : z ∈ ks) : z ∈ nearM (turnM ks cs) k ↔ z ∉ nearM cs k := by
  have m : ∀ a b : Str, (a, b) ∈ turnM ks cs ↔ ∃ c : Str × Str, (c.1 ∈ ks ∧ c.2 ∈ ks ∧ ltS c.2 c.1 = false) ∧ c.2 ∉ nearM cs c.1 ∧ c = (a, b) := fun a b => by
    unfold turnM
    rw [mem_srt totP, List.mem_map]
    have each : ∀ c : Str × Str, c ∈ (rws leS ks ks).filter (fun c => !decide (c.2 ∈ nearM cs c.1)) ↔ (c.1 ∈ ks ∧ c.2 ∈ ks ∧ ltS c.2 c.1 = false) ∧ c.2 ∉ nearM cs c.1 := fun c => by
      rw [List.mem_filter, mem_rws, Bool.not_eq_true', decide_eq_false_iff_not]
      unfold leS
      rw [Bool.not_eq_true']
    constructor
    · rintro ⟨c, hc, e⟩
      obtain ⟨h1, h2⟩ := (each c).mp hc
      rw [nrm_self h1.2.2] at e
      exact ⟨c, h1, h2, e⟩
    · rintro ⟨c, h1, h2, e⟩
      exact ⟨c, (each c).mpr ⟨h1, h2⟩, by rw [nrm_self h1.2.2]; exact e⟩
  rw [mem_near, m, m]
  constructor
  · rintro (⟨c, _, h, e⟩ | ⟨c, _, h, e⟩)
    · rw [e] at h; exact h
    · rw [e] at h; exact fun w => h (near_sy _ _ w)
  · intro w
    rcases totS.tri k z with h | h | h
    · exact .inl ⟨(k, z), ⟨hk, hz, totS.asym h⟩, w, rfl⟩
    · rw [← h] at w ⊢
      exact .inl ⟨(k, k), ⟨hk, hk, totS.irr k⟩, w, rfl⟩
    · exact .inr ⟨(z, k), ⟨hz, hk, totS.asym h⟩, fun v => w (near_sy _ _ v), rfl⟩
theorem near_cl {ks : List Str} {cs : List (Str × Str)} (h : inKs ks cs) : ∀ k ∈ ks, ∀ z ∈ nearM cs k, z ∈ ks := fun k _ z m => (mem_near.mp m).elim (fun a => (h _ a).2) fun a => (h _ a).1
theorem turn_in {ks : List Str} {cs : List (Str × Str)} : inKs ks (turnM ks cs) := fun c hc => by
  unfold turnM at hc
  obtain ⟨d, hd, e⟩ := List.mem_map.mp ((mem_srt totP).mp hc)
  obtain ⟨h1, h2, _⟩ := mem_rws.mp (List.mem_filter.mp hd).1
  rw [← e]
  exact ⟨mnS_mem (p := (· ∈ ks)) h1 h2, mxS_mem (p := (· ∈ ks)) h1 h2⟩
theorem turn_std {ks : List Str} {cs : List (Str × Str)} (up : Up ltS ks) (few : ks.length ≤ 40) : Std ks (turnM ks cs) := by
  have h := std_make (ks := ks) (ps := (rws leS ks ks).filter fun c => !decide (c.2 ∈ nearM cs c.1)) few (up_nodup totS up) fun c hc => by
    obtain ⟨h1, h2, _⟩ := mem_rws.mp (List.mem_filter.mp hc).1
    exact ⟨h1, h2⟩
  rw [srt_self totS up] at h
  exact h
section
variable {ks : List Str} {cs : List (Str × Str)} (ink : inKs ks cs) (low : ∀ c ∈ cs, ltS c.2 c.1 = false)
include ink low
theorem apart_in : inKs ks (apartM ks cs) := fun c hc => (mem_apart.mp hc).1
/-- the four answers -/
theorem ans_wild : partsM (nearM (srt ltP cs)) ks = partsM (nearM cs) ks :=
  parts_eq (near_cl fun c hc => ink c ((mem_srt totP).mp hc)) (near_cl ink) fun k _ z _ _ => near_srt
theorem ans_calm : partsM (peaceN ks (srt ltP cs)) ks = partsM (nearM (apartM ks cs)) ks :=
  parts_eq peace_in (near_cl (apart_in ink low)) fun k hk z hz ne => by
    unfold peaceN
    rw [if_pos hk, mem_peace, near_apart low hk hz ne, near_srt]
    exact ⟨fun h => h.2.2, fun h => ⟨hz, ne, h⟩⟩
theorem ans_calm2 : partsM (nearM (turnM ks (srt ltP cs))) ks = partsM (nearM (apartM ks cs)) ks :=
  parts_eq (near_cl turn_in) (near_cl (apart_in ink low)) fun k hk z hz ne => by
    rw [near_turn hk hz, near_srt, near_apart low hk hz ne]
theorem ans_wild2 : partsM (peaceN ks (turnM ks (srt ltP cs))) ks = partsM (nearM cs) ks :=
  parts_eq peace_in (near_cl ink) fun k hk z hz ne => by
    unfold peaceN
    rw [if_pos hk, mem_peace, near_turn hk hz, near_srt]
    exact ⟨fun h => Classical.not_not.mp h.2.2, fun h => ⟨hz, ne, fun n => n h⟩⟩
end
end Sx

/-! LawJ -/
namespace Sx
open PySem PySem.Spec PyProof.Rows L2
abbrev sRight : Stmt := top 27
def spRight : Sp := fun vs H Q _ => ∃ (u : Addr), vs = [.ref u] ∧ Urn H u 0 ∧ ∀ H', SameU u H H' → Q (.bl true) H'
def prtD (Ls : List (List Str)) : PyData := .tuple (Ls.map tD)
theorem dps_tups {K : PySem.W.Frag} {H : Hp} : ∀ {ts : List Addr} {Ls : List (List Str)}, Paired (fun t L => SqT K H t (L.map V.str)) ts Ls → DpAll K H (ts.map V.ref) (Ls.map tD)
  | _, _, .nil => .nil
  | _, _, .cons r h => .cons (dp_tup r) (dps_tups h)
theorem dp_prt {K : PySem.W.Frag} {H : Hp} {a : Addr} {Ls : List (List Str)} (p : Prt K H a Ls) : Dp K H (.ref a) (prtD Ls) := by
  obtain ⟨ts, h1, h2⟩ := p
  exact .tup h1 (dps_tups h2)
theorem plain_tD : ∀ L : List Str, plainD (tD L) = true ∧ (tD L).depth = 1 ∧ (L.length ≤ 10000 → wide (tD L) = true) := fun L => by
  have a : plainAll (L.map sD) = true ∧ PyData.depthAll (L.map sD) = 0 ∧ wideAll (L.map sD) = true := by
    induction L with
    | nil => exact ⟨rfl, by simp only [List.map_nil, PyData.depthAll], rfl⟩
    | cons x L ih =>
      obtain ⟨h1, h2, h3⟩ := ih
      rw [List.map_cons]
      refine ⟨?_, ?_, ?_⟩
      · simp only [plainAll, sD, plainD, h1]; rfl
      · simp only [PyData.depthAll, sD, PyData.depth, h2]; rfl
      · simp only [wideAll, sD, wide, h3]; rfl
  refine ⟨?_, ?_, fun h => ?_⟩
  · simp only [tD, plainD, a.1]
  · simp only [tD, PyData.depth, a.2.1]
  · simp only [tD, wide, a.2.2, List.length_map, h, decide_true, Bool.and_self]
theorem plain_prt (Ls : List (List Str)) : plainD (prtD Ls) = true ∧ (prtD Ls).depth ≤ 2 ∧ (Ls.length ≤ 10000 → (∀ L ∈ Ls, L.length ≤ 10000) → wide (prtD Ls) = true) := by
  have a : plainAll (Ls.map tD) = true ∧ PyData.depthAll (Ls.map tD) ≤ 1 ∧ ((∀ L ∈ Ls, L.length ≤ 10000) → wideAll (Ls.map tD) = true) := by
    induction Ls with
    | nil => exact ⟨rfl, by simp only [List.map_nil, PyData.depthAll]; omega, fun _ => rfl⟩
    | cons L Ls ih =>
      obtain ⟨h1, h2, h3⟩ := ih
      obtain ⟨g1, g2, g3⟩ := plain_tD L
      rw [List.map_cons]
      refine ⟨?_, ?_, fun h => ?_⟩
      · simp only [plainAll, g1, h1]; rfl
      · simp only [PyData.depthAll, g2]; omega
      · simp only [wideAll, g3 (h L List.mem_cons_self), h3 fun M hM => h M (List.mem_cons_of_mem _ hM)]; rfl
  refine ⟨?_, ?_, fun h g => ?_⟩
  · simp only [prtD, plainD, a.1]
  · simp only [prtD, PyData.depth]; omega
  · simp only [prtD, wide, a.2.2 g, List.length_map, h, decide_true, Bool.and_self]
theorem parts_small {nf : Str → List Str} {ks : List Str} (h : ks.length ≤ 1000) : (partsM nf ks).length ≤ 10000 ∧ ∀ L ∈ partsM nf ks, L.length ≤ 10000 := by
  constructor
  · have a := few_of (up_nodup totL (up_srt totL (ks.map (clsM nf ks)))) fun z hz => (mem_srt totL).mp hz
    rw [List.length_map] at a
    exact Nat.le_trans a (by omega)
  · intro L hL
    obtain ⟨k, _, e⟩ := List.mem_map.mp ((mem_srt totL).mp hL)
    rw [← e]
    unfold clsM
    exact Nat.le_trans (List.length_filter_le _ _) (by omega)
theorem std_of {ks : List Str} {cs : List (Str × Str)} (up : Up ltS ks) (few : ks.length ≤ 40) (ink : inKs ks cs) (low : ∀ c ∈ cs, ltS c.2 c.1 = false) : Std ks (srt ltP cs) :=
  ⟨up, few, up_srt totP _, fun c hc => ink c ((mem_srt totP).mp hc), fun c hc => low c ((mem_srt totP).mp hc)⟩
theorem eqv_mem (z : Str × Str) (cs : List (Str × Str)) : ((cs.map fun c => tD [c.1, c.2]).any fun w => PyData.eqv w (tD [z.1, z.2])) = decide (z ∈ cs) := by
  rw [Bool.eq_iff_iff, List.any_eq_true, decide_eq_true_eq]
  constructor
  · rintro ⟨w, hw, hv⟩
    obtain ⟨c, hc, e⟩ := List.mem_map.mp hw
    rw [← e, eqv_t, decide_eq_true_eq] at hv
    have e1 := (List.cons.inj hv).1
    have e2 := (List.cons.inj (List.cons.inj hv).2).1
    have e3 : c = z := Prod.ext e1 e2
    rw [← e3]
    exact hc
  · intro h
    exact ⟨_, List.mem_map.mpr ⟨z, h, rfl⟩, by rw [eqv_t]; exact decide_eq_true rfl⟩
theorem dps_pairs {K : PySem.W.Frag} {H : Hp} : ∀ {ts : List Addr} {cs : List (Str × Str)}, Paired (fun t c => H t = some (.tup [.str c.1, .str c.2])) ts cs → DpAll K H (ts.map V.ref) (cs.map fun c => tD [c.1, c.2])
  | _, _, .nil => .nil
  | _, _, .cons (b := c) r h => .cons (dp_tup (xs := [c.1, c.2]) (SqT.of r)) (dps_pairs h)
theorem shp_pairs (cs : List (Str × Str)) (ks : List Str) (ink : inKs ks cs) (oks : Oks ks) : SeqAt.shaped (.tuple (cs.map fun c => tD [c.1, c.2])) = true := by
  have e : (cs.map fun c => tD [c.1, c.2]) = (cs.map fun c => [c.1, c.2]).map tD := by rw [List.map_map]; rfl
  rw [e]
  refine shp_tt _ fun L hL => ?_
  obtain ⟨c, hc, e⟩ := List.mem_map.mp hL
  rw [← e]
  intro x hx
  obtain ⟨i1, i2⟩ := ink c hc
  rcases List.mem_cons.mp hx with a | a
  · rw [a]; exact oks _ i1
  · rw [List.mem_singleton.mp a]; exact oks _ i2
section
variable {P : Program} {w : World} {K : PySem.W.Frag} {mg : Str → Option Value} {base : Heap}
abbrev TagsG (P : Program) (w : World) (K : PySem.W.Frag) (mg : Str → Option Value) (base : Heap) : Prop := FnG P w K mg base "_law_tags" 3 ["_law_urn", "_law_many_so"] (spTags K)
abbrev WebG (P : Program) (w : World) (K : PySem.W.Frag) (mg : Str → Option Value) (base : Heap) : Prop := FnG P w K mg base "_law_web" 2 ["_law_urn", "_law_tags_here"] (spWeb K)
abbrev HostG (P : Program) (w : World) (K : PySem.W.Frag) (mg : Str → Option Value) (base : Heap) (C : Addr) : Prop := FnG P w K mg base "_law_host" 3 ["_law_urn", "_law_tags_here", "_law_pairs_so"] (spHost K C)
abbrev GroupsG (P : Program) (w : World) (K : PySem.W.Frag) (mg : Str → Option Value) (base : Heap) : Prop := FnG P w K mg base "_law_groups" 1 ["_law_tags_here", "_law_near_so"] (spGroups K)
abbrev SameG (P : Program) (w : World) (K : PySem.W.Frag) (mg : Str → Option Value) (base : Heap) : Prop := FnG P w K mg base "_law_same" 4 ["_law_got", "_law_goal"] (spSame K 3)
abbrev KnotsG (P : Program) (w : World) (K : PySem.W.Frag) (mg : Str → Option Value) (base : Heap) (C : Addr) : Prop := FnG P w K mg base "knots" 3 ["book"] (spKnots K C)
abbrev PeacesG (P : Program) (w : World) (K : PySem.W.Frag) (mg : Str → Option Value) (base : Heap) (C : Addr) : Prop := FnG P w K mg base "peaces" 3 ["book"] (spPeaces K C)
abbrev TurnG (P : Program) (w : World) (K : PySem.W.Frag) (mg : Str → Option Value) (base : Heap) (C : Addr) : Prop := MtG P w K mg base C "turned" 3 ["self"] (spTurned K C)
abbrev nRight : List Str := ["_law_urn", "_law_turn", "_law_tags_here", "_law_pairs_so", "_law_host_here", "_law_apart_so", "_law_got", "_law_wild", "_law_calm", "_law_own"]
theorem scRight : FnScope nRight ["_law_urn"] (defScope sRight) := ⟨rfl, rfl, rfl, by decide +kernel, rfl, by decide +kernel, by decide +kernel⟩
theorem ok_right {C : Addr} {f : Addr} {fd : FuncData} {dvs : List V} (F : FunD K "_law_right" "_law_right" (defArgs sRight) (defBody sRight) (defScope sRight) dvs [] f fd) (T : TB K mg C) (GT : TakeG P w K mg base) (GTags : TagsG P w K mg base) (GW : WebG P w K mg base) (GC : CrossG P w K mg base) (GH : HostG P w K mg base C)
    (GG : GroupsG P w K mg base) (GS : SameG P w K mg base) (GK : KnotsG P w K mg base C) (GP : PeacesG P w K mg base C) (GU : TurnG P w K mg base C) : FnOk P w K mg base CX0 5 f fd ["_law_urn"] spRight := by
  refine F.ok scRight (fun vs H Q E h => ?_) (fun cdv A outer s H vs Q E hr h => ?_)
  · obtain ⟨u, rfl, _⟩ := h
    rfl
  · obtain ⟨u, rfl, U, q⟩ := h
    have hu : (A.deeper (envOfC "_law_right" (defScope sRight) s.heap.objs.size f cdv)).units + 65 < cLine := by have := hr.un; omega
    have hr1 : Room 1 (A.deeper (envOfC "_law_right" (defScope sRight) s.heap.objs.size f cdv)) := hr.mono (by decide)
    have hr2 : Room 2 (A.deeper (envOfC "_law_right" (defScope sRight) s.heap.objs.size f cdv)) := hr.mono (by decide)
    have hr3 : Room 3 (A.deeper (envOfC "_law_right" (defScope sRight) s.heap.objs.size f cdv)) := hr.mono (by decide)
    refine ⟨_, (Evl.pss_cut (ps_for PassesOwn.never rfl (pi_range1 (by rfl) T.range (pa_cons pe_int pa_nil)) (pg_name (i := 1) scRight.nd rfl (Or.inl rfl))
        (pss_cons (ps_set (i := 2) scRight.nd rfl (Or.inl rfl) (pe_g GTags hr3 (pa_cons (pv 0) (pa_cons (pe_op op_add pe_int (pe_g GT hr1 (pa_cons (pv 0) (pa_cons pe_int pa_nil)))) pa_nil))))
        (pss_cons (ps_set (i := 3) scRight.nd rfl (Or.inr rfl) (pe_g GW hr2 (pa_cons (pv 0) (pa_cons (pv 2) pa_nil))))
        (Evl.pss_cut (ps_if (pt_cmpR op_eq (pe_g GT hr1 (pa_cons (pv 0) (pa_cons pe_int pa_nil))) pe_int (nomark _)) (pss_one (ps_set (i := 3) scRight.nd rfl (Or.inr rfl) (pe_callTy cr_tupOf (by rfl) T.tuple bt_tuple (pa_cons (pe_lc (own := [("_law_own", 9)]) (g := gName 9) rfl scRight.nd (pi_tup (pv 3)) (blkOk_by (N := nRight) (sc := defScope sRight) (by decide +kernel)) (fun _ _ _ _ _ => pg_name (i := 9) scRight.nd rfl (Or.inl rfl))
            (fun _ _ _ _ _ => pts_one (pt_cmpR op_eq (pe_g GT hr1 (pa_cons (pv 0) (pa_cons pe_int pa_nil))) pe_int (nomark _))) (fun _ _ _ _ _ => pv 9)) pa_nil)))) pss_nil)
        (pss_cons (ps_set (i := 4) scRight.nd rfl (Or.inl rfl) (pe_g GH hr3 (pa_cons (pv 0) (pa_cons (pv 2) (pa_cons (pv 3) pa_nil)))))
        (Evl.pss_cut (ps_setLc (i := 5) (own := [("_law_own", 9)]) (g := gName 9) (by rfl) scRight.nd rfl rfl (sw_true rfl rfl rfl (by decide +kernel)) (pi_list (pe_g GC hr1 (pa_cons (pv 2) (pa_cons (pv 2) pa_nil)))) (blkOk_by (N := nRight) (sc := defScope sRight) (by decide +kernel)) (fun _ _ _ _ _ => pg_name (i := 9) scRight.nd rfl (Or.inl rfl))
            (fun _ _ _ _ _ => pts_one (PW.pt (pw_and (pt_cmpR op_lt_str (pe_ix (r := rIxT K) ix_tup (pv 9) pe_int (fun _ _ => rfl)) (pe_ix (r := rIxT K) ix_tup (pv 9) pe_int (fun _ _ => rfl)) (nomark _)) (pw_and1 (pt_cmpR (r := rNotInT K) (op_notInT hu) (pv 9) (pv 3) (by rfl)))))) (fun _ _ _ _ _ => pv 9))
        (pss_cons (ps_set (i := 6) scRight.nd rfl (Or.inl rfl) (pe_lst (pa_cons (pe_g GK hr3 (pa_cons (pv 4) pa_nil)) (pa_cons (pe_g GP hr3 (pa_cons (pv 4) pa_nil)) (pa_cons (pe_g GK hr3 (pa_cons (pe_mg0 GU T.cl (pv 4) hr3) pa_nil)) (pa_cons (pe_g GP hr3 (pa_cons (pe_mg0 GU T.cl (pv 4) hr3) pa_nil)) (pa_cons (pe_g GK hr3 (pa_cons (pv 4) pa_nil)) pa_nil)))))))
        (pss_cons (ps_par (i := 7) (j := 8) (by rfl) scRight.nd rfl rfl (by decide) rfl rfl (pa_cons (pe_g GG hr1 (pa_cons (pv 2) (pa_cons (pv 3) pa_nil))) (pa_cons (pe_g GG hr1 (pa_cons (pv 2) (pa_cons (pv 5) pa_nil))) pa_nil)) (by rfl))
        (pss_one (ps_if (pt_not (pt_val (pe_g GS hr (pa_cons (pv 6) (pa_cons (pe_lst (pa_cons (pv 7) (pa_cons (pv 8) (pa_cons (pv 8) (pa_cons (pv 7) (pa_cons (pv 7) pa_nil)))))) pa_nil))))) (pss_one ps_never) pss_nil))))))))))
      (pss_one (ps_ret pe_bl))).nox, ?_⟩
    refine ⟨fun σ' H' => ∃ v1 v2 v3 v4 v5 v6 v7 v8, σ' = [some (.ref u), v1, v2, v3, v4, v5, v6, v7, v8, none] ∧ SameU u H H', ?_, ?_⟩
    · refine ⟨10, rfl, by decide, by decide, ?_⟩
      refine for_range (lo := 0) (n := 10) (fun i σ' H' => ∃ v1 v2 v3 v4 v5 v6 v7 v8, σ' = [some (.ref u), v1, v2, v3, v4, v5, v6, v7, v8, none] ∧ SameU u H H' ∧ Urn H' u (5000 * i))
        ⟨none, none, none, none, none, none, none, none, rfl, SameU.id, U⟩ ?_ (fun σ' H' ⟨v1, v2, v3, v4, v5, v6, v7, v8, e, S, _⟩ => ⟨v1, v2, v3, v4, v5, v6, v7, v8, e, S⟩)
      rintro i σ' H0 hi ⟨v1, v2, v3, v4, v5, v6, v7, v8, rfl, S0, U0⟩
      -- tags
      refine ⟨_, rfl, _, rfl, u, 5000 * i, 8, rfl, U0, by omega, by omega, by omega, fun k H1 hk U1 k1 => ?_⟩
      refine ⟨_, _, rfl, rfl, u, 5000 * i + 1, 1 + k, by push_cast; rfl, U1, by omega, by omega, by omega, fun l ks H2 up klen oks lH hl U2 S2 => ?_⟩
      have S02 : SameU u H0 H2 := (SameU.but k1).trans S2
      have lu : l ≠ u := urn_fresh U1 lH
      have k8 : ks.length ≤ 8 := by omega
      clear S2 U1 k1 lH
      -- web
      refine ⟨_, rfl, _, rfl, u, l, 5000 * i + 1 + 20, ks, rfl, U2, by omega, SqL.of hl, lu, k8, fun a cs0 H3 ink0 low0 len0 prt0 U3 S3 => ?_⟩
      have hl3 := S3 _ _ hl lu
      have S03 := S02.trans S3
      clear S3 S02 U2 hl
      -- fewer of them
      refine ⟨fun σ' H' => ∃ (v4 v5 v6 v7 v8 : Option V) (a : Addr) (cs : List (Str × Str)), σ' = [some (.ref u), some (.int (0 + (i : Int))), some (.ref l), some (.ref a), v4, v5, v6, v7, v8, none] ∧ SameU u H3 H' ∧ Urn H' u (5000 * i + 1500) ∧ PrT K H' a cs ∧ (∀ c ∈ cs, c ∈ cs0) ∧ cs.length ≤ 1000, ?_, ?_⟩
      · refine ⟨_, rfl, u, _, 2, rfl, U3, by omega, by omega, by omega, fun k4 H4 hk4 U4 k4' => ⟨rfl, _, rfl, ?_⟩⟩
        have S4 : SameU u H3 H4 := SameU.but k4'
        obtain ⟨ts0, hsq, hts⟩ := prt0
        have hsq4 := S4.sqT U3 hsq
        have hts4 : Paired (fun t c => H4 t = some (.tup [.str c.1, .str c.2])) ts0 cs0 := paired_imp (fun t c h => S4 _ _ h (U3.ne h fun xs y => by cases y)) hts
        refine ite2 (fun _ => ?_) (fun _ => ⟨v4, v5, v6, v7, v8, a, cs0, rfl, S4, U4.more (by omega), ⟨ts0, hsq4, hts4⟩, fun c h => h, len0⟩)
        refine ⟨_, rfl, a, rfl, ⟨_, hsq4⟩, ?_⟩
        have lts : ts0.length = cs0.length := Paired.length hts
        refine lc_walkT (vs := [9]) (σ := [some (.ref u), some (.int (0 + (i : Int))), some (.ref l), some (.ref a), v4, v5, v6, v7, v8, none]) hsq4 (fun D j H' => D ≠ u ∧ SameU u H4 H' ∧ Urn H' u (5000 * i + 300 + j) ∧ ∃ (us : List Addr) (ds : List (Str × Str)), H' D = some (.lst (us.map V.ref)) ∧ us.length ≤ j ∧ Paired (fun t d => H' t = some (.tup [.str d.1, .str d.2])) us ds ∧ ∀ d ∈ ds, d ∈ cs0)
          (fun D hD => ⟨urn_fresh U4 hD, SameU.of (Sx.Same.new hD), (U4.more (by omega)).upd (urn_fresh U4 hD), [], [], upd_same, Nat.le_refl _, .nil, fun d hd => (by cases hd)⟩) (fun D j H' pv => pv.2.1.sqT U4 hsq4) ?_ ?_
        · rintro D j x H' hj hD ⟨Du, S, U', us, ds, hd, hul, hus, hds⟩
          rw [List.getElem?_map] at hj
          obtain ⟨tz, hti, rfl⟩ := Option.map_eq_some_iff.mp hj
          obtain ⟨c, hci, hT⟩ := paired_get hts4 hti
          have il := (List.getElem?_eq_some_iff.mp hti).1
          refine ⟨rfl, _, rfl, u, _, 3, rfl, U', by omega, by omega, by omega, fun k5 H5 hk5 U5 k5' => ⟨rfl, _, rfl, ?_⟩⟩
          have S5 : SameU u H4 H5 := S.trans (SameU.but k5')
          have hT5 := S5 _ _ hT (U4.ne hT fun xs y => by cases y)
          have hd5 : H5 D = some (.lst (us.map V.ref)) := by rw [k5' D Du]; exact hd
          have hus5 : Paired (fun t d => H5 t = some (.tup [.str d.1, .str d.2])) us ds := paired_imp (fun t d h => by rw [k5' t (U'.ne h fun xs y => by cases y)]; exact h) hus
          refine ite2 (fun _ => ?_) (fun _ => ⟨Du, S5, U5.more (by omega), us, ds, hd5, by omega, hus5, hds⟩)
          refine ⟨_, rfl, _, hd5, by rw [List.length_map, sizeLine_eq]; omega, Du, S5.mut hD, (U5.upd Du).more (by omega), us ++ [tz], ds ++ [c], by rw [upd_same, List.map_append]; rfl, by rw [List.length_append, List.length_singleton]; omega, paired_snoc (paired_imp (fun t d h => by rw [upd_ne fun e => by rw [e, hd5] at h; cases h]; exact h) hus5) ?_, fun d hd' => ?_⟩
          · have tD : tz ≠ D := fun e => by
              rw [e, hd5] at hT5
              cases hT5
            rw [upd_ne tD]
            exact hT5
          · rcases List.mem_append.mp hd' with w' | w'
            · exact hds d w'
            · rw [List.mem_singleton.mp w']
              exact List.mem_of_getElem? hci
        · rintro D H' hD ⟨Du, S, U', us, ds, hd, hul, hus, hds⟩
          rw [List.length_map] at U' hul
          refine ⟨D, _, rfl, .inl ⟨SqL.of hd, fun b hb => ?_⟩⟩
          have sb : Same H' (upd H' b (.tup (us.map V.ref))) := Sx.Same.new hb
          exact ⟨v4, v5, v6, v7, v8, b, ds, rfl, S4.trans (S.trans (SameU.of sb)), (U'.same sb).more (by omega), ⟨us, SqT.of upd_same, paired_imp (fun _ _ h => sb _ _ h) hus⟩, hds, by rw [← Paired.length hus]; omega⟩
      rintro σ4 H4 ⟨w4, w5, w6, w7, w8, a', cs, rfl, S4, U4, prt, sub, len⟩
      have ink : inKs ks cs := fun c hc => ink0 c (sub c hc)
      have low : ∀ c ∈ cs, ltS c.2 c.1 = false := fun c hc => low0 c (sub c hc)
      have hl4 := S4 _ _ hl3 lu
      have S04 := S03.trans S4
      clear prt0 ink0 low0 len0 sub S03 S4 hl3 U3
      -- host
      refine ⟨_, rfl, _, rfl, _, rfl, u, l, a', 5000 * i + 1500, ks, cs, rfl, U4, by omega, SqL.of hl4, lu, prt, up, k8, ink, low, len, fun b H5 hB U5 S5 => ?_⟩
      have hl5 := S5 _ _ hl4 lu
      have S05 := S04.trans S5
      obtain ⟨ts4, hsq4, hts4⟩ := prt
      have prt5 : PrT K H5 a' cs := ⟨ts4, S5.sqT U4 hsq4, paired_imp (fun t c h => S5 _ _ h (U4.ne h fun xs y => by cases y)) hts4⟩
      clear S5 S04 hl4 U4 hsq4 hts4
      have Sd := std_of up (by omega) ink low
      -- from here on nothing changes
      have fin : ∀ H' v1 v2 v3 v4 v5 v6 v7 v8, Same H5 H' → ∃ v1' v2' v3' v4' v5' v6' v7' v8', [some (V.ref u), v1, v2, v3, v4, v5, v6, v7, v8, none] = [some (V.ref u), v1', v2', v3', v4', v5', v6', v7', v8', none] ∧ SameU u H H' ∧ Urn H' u (5000 * (i + 1)) := fun H' v1 v2 v3 v4 v5 v6 v7 v8 s =>
        ⟨v1, v2, v3, v4, v5, v6, v7, v8, rfl, S0.trans (S05.trans (SameU.of s)), (U5.same s).more (by omega)⟩
      -- apart
      refine ⟨fun σ' H' => ∃ D, σ' = [some (.ref u), some (.int (0 + (i : Int))), some (.ref l), some (.ref a'), some (.ref b), some (.ref D), w6, w7, w8, none] ∧ Same H5 H' ∧ PrL H' D (apartM ks cs), ?_, ?_⟩
      · refine ⟨_, rfl, _, rfl, l, l, ks, ks, rfl, .inl (SqL.of hl5), .inl (SqL.of hl5), by omega, by omega, fun lc H6 s6 _ prn => ?_⟩
        obtain ⟨ts, hlc, hpr⟩ := prn
        refine ⟨lc, rfl, ⟨_, SqL.of hlc⟩, ?_⟩
        obtain ⟨ts5, hsq5, hts5⟩ := prt5
        have ltc : ts.length = (crossM ks ks).length := Paired.length hpr
        have cl : (crossM ks ks).length ≤ 64 := by
          have e : ∀ zs : List Str, (crossM zs ks).length = zs.length * ks.length := fun zs => by
            induction zs with
            | nil => simp [crossM]
            | cons z zs ih =>
              show (ks.map (fun b => (z, b)) ++ crossM zs ks).length = _
              rw [List.length_append, ih, List.length_map, List.length_cons, Nat.add_mul, Nat.one_mul, Nat.add_comm]
          rw [e]
          exact Nat.le_trans (Nat.mul_le_mul k8 k8) (by decide)
        let zs : List (Addr × (Str × Str)) := ts.zip (crossM ks ks)
        have z1 : zs.map (·.1) = ts := List.map_fst_zip (by omega)
        have z2 : zs.map (·.2) = crossM ks ks := List.map_snd_zip (by omega)
        have zt : ∀ z ∈ zs, H6 z.1 = some (.tup [.str z.2.1, .str z.2.2]) ∧ z.2 ∈ crossM ks ks := fun z hz => by
          obtain ⟨j, hj, e⟩ := List.getElem_of_mem hz
          have hj' := hj
          rw [List.length_zip] at hj'
          rw [List.getElem_zip] at e
          obtain ⟨c, hc, h1, _⟩ := paired_get hpr (List.getElem?_eq_getElem (show j < ts.length by omega))
          rw [← e]
          have e2 : (crossM ks ks)[j] = c := (List.getElem?_eq_some_iff.mp hc).2
          rw [e2]
          exact ⟨h1, List.mem_of_getElem? hc⟩
        have pz : Paired (fun x (z : Addr × (Str × Str)) => x = V.ref z.1 ∧ z ∈ zs) (ts.map V.ref) zs := by
          have y := paired_map (F := fun x (z : Addr × (Str × Str)) => x = V.ref z.1 ∧ z ∈ zs) (f := fun z => V.ref z.1) (g := id) (l := zs) fun z hz => ⟨rfl, hz⟩
          rw [List.map_id] at y
          have e : zs.map (fun z => V.ref z.1) = ts.map V.ref := by rw [← z1, List.map_map]; rfl
          rw [e] at y
          exact y
        refine lc_valsL (vs := [9]) (σ := [some (.ref u), some (.int (0 + (i : Int))), some (.ref l), some (.ref a'), some (.ref b), w5, w6, w7, w8, none]) (fun z : Addr × (Str × Str) => V.ref z.1) (fun z => ltS z.2.1 z.2.2 && !decide (z.2 ∈ cs)) (SqL.of hlc) pz (by rw [List.length_map]; omega) (fun x z hz hxz H7 s7 => ?_) (fun D H7 hD s7 hd => ?_)
        · obtain ⟨rfl, _⟩ := hxz
          obtain ⟨hT, hm⟩ := zt z hz
          obtain ⟨i1, i2⟩ := mem_cross.mp hm
          have hT7 := s7 _ _ hT
          have s67 := s6.trans s7
          have hts7 : Paired (fun t c => H7 t = some (.tup [.str c.1, .str c.2])) ts5 cs := paired_imp (fun t c h => s67 _ _ h) hts5
          refine tst_name (by rfl) (fun Q h => ?_) fun _ H8 s8 => gv_var (by rfl)
          have hQ := h H7 same_id
          refine ⟨_, rfl, z.1, _, _, .str z.2.1, rfl, rfl, SqT.of hT7, atI_nat (j := 0) rfl, _, rfl, z.1, _, _, .str z.2.2, rfl, rfl, SqT.of hT7, atI_nat (j := 1) rfl, _, _, rfl, rfl, _, rfl, ?_⟩
          have e0 : decide (z.2.1.cps.toList < z.2.2.cps.toList) = ltS z.2.1 z.2.2 := rfl
          rw [e0]
          cases e : ltS z.2.1 z.2.2 with
          | false => rw [e] at hQ; exact iteF hQ
          | true =>
            rw [e] at hQ
            have o2 : Oks [z.2.1, z.2.2] := fun y hy => by
              rcases List.mem_cons.mp hy with w' | w'
              · rw [w']; exact oks _ i1
              · rw [List.mem_singleton.mp w']; exact oks _ i2
            refine iteT ⟨_, rfl, _, rfl, tD [z.2.1, z.2.2], cs.map fun c => tD [c.1, c.2], dp_tup (xs := [z.2.1, z.2.2]) (SqT.of hT7), .tup (sqT_same s67 hsq5) (dps_pairs hts7), shp_t _ o2, shp_pairs cs ks ink oks, _, rfl, ?_⟩
            rw [eqv_mem]
            exact hQ
        · refine ⟨D, rfl, s6.trans s7, (zs.filter fun z => ltS z.2.1 z.2.2 && !decide (z.2 ∈ cs)).map (·.1), by rw [hd, List.map_map]; rfl, ?_⟩
          have e : apartM ks cs = (zs.filter fun z => ltS z.2.1 z.2.2 && !decide (z.2 ∈ cs)).map (·.2) := by
            unfold apartM
            rw [← z2, List.filter_map]
            rfl
          rw [e]
          exact paired_map fun z hz => s7 _ _ (zt z (List.mem_filter.mp hz).1).1
      rintro σ6 H6 ⟨D, rfl, s6, prl⟩
      have hl6 := s6 _ _ hl5
      have hB6 := hB.same s6
      have aw := ans_wild ink low
      have ac := ans_calm ink low
      have ac2 := ans_calm2 ink low
      have aw2 := ans_wild2 ink low
      -- got
      refine ⟨_, rfl, b, ks, srt ltP cs, rfl, hB6, Sd, fun g1 H7 s7 p1 => ?_⟩
      refine ⟨_, rfl, b, ks, srt ltP cs, rfl, hB6.same s7, Sd, fun g2 H8 s8 p2 => ?_⟩
      obtain ⟨dx8, _, _, _, _, _, hb8, _⟩ := (hB6.same (s7.trans s8)).ex
      refine ⟨_, rfl, b, dx8, _, rfl, hb8, bkF_no _ _ _ (by decide +kernel) (by decide +kernel) (by decide +kernel), b, ks, srt ltP cs, rfl, hB6.same (s7.trans s8), Sd, fun t3 H9 s9 hB9 => ?_⟩
      have Sdt : Std ks (turnM ks (srt ltP cs)) := turn_std up (by omega)
      refine ⟨t3, ks, _, rfl, hB9, Sdt, fun g3 H10 s10 p3 => ?_⟩
      have s710 := s7.trans (s8.trans (s9.trans s10))
      obtain ⟨dx10, _, _, _, _, _, hb10, _⟩ := (hB6.same s710).ex
      refine ⟨_, rfl, b, dx10, _, rfl, hb10, bkF_no _ _ _ (by decide +kernel) (by decide +kernel) (by decide +kernel), b, ks, srt ltP cs, rfl, hB6.same s710, Sd, fun t4 H11 s11 hB11 => ?_⟩
      refine ⟨t4, ks, _, rfl, hB11, Sdt, fun g4 H12 s12 p4 => ?_⟩
      have s712 := s710.trans (s11.trans s12)
      refine ⟨_, rfl, b, ks, srt ltP cs, rfl, hB6.same s712, Sd, fun g5 H13 s13 p5 => ?_⟩
      refine ⟨(by show 5 ≤ sizeLine; decide), fun lg hlg => ?_⟩
      have s14 : Same H13 (upd H13 lg (.lst [.ref g1, .ref g2, .ref g3, .ref g4, .ref g5])) := Sx.Same.new hlg
      have hg : (upd H13 lg (.lst [.ref g1, .ref g2, .ref g3, .ref g4, .ref g5])) lg = some (.lst [.ref g1, .ref g2, .ref g3, .ref g4, .ref g5]) := upd_same
      generalize upd H13 lg (.lst [.ref g1, .ref g2, .ref g3, .ref g4, .ref g5]) = H14 at s14 hg ⊢
      have q5 := p5.same s14
      have q4 := p4.same (s13.trans s14)
      have q3 := p3.same (s11.trans (s12.trans (s13.trans s14)))
      have q2 := p2.same (s9.trans (s10.trans (s11.trans (s12.trans (s13.trans s14)))))
      have q1 := p1.same (s8.trans (s9.trans (s10.trans (s11.trans (s12.trans (s13.trans s14))))))
      have s614 := s712.trans (s13.trans s14)
      rw [aw] at q1 q5
      rw [ac] at q2
      rw [ac2] at q3
      rw [aw2] at q4
      -- wild, calm
      have hl14 := s614 _ _ hl6
      have prq : PrsQ K H14 a' cs := by
        obtain ⟨ts5, hsq5, hts5⟩ := prt5
        exact ⟨ts5, .inr (sqT_same (s6.trans s614) hsq5), paired_imp (fun _ _ h => SqT.of ((s6.trans s614) _ _ h)) hts5⟩
      refine ⟨_, rfl, _, rfl, l, a', ks, cs, rfl, .inl (SqL.of hl14), prq, up, by omega, by omega, oks, ink, fun w' H15 s15 p6 => ?_⟩
      have apl : (apartM ks cs).length ≤ 10000 := by
        refine Nat.le_trans (List.length_filter_le _ _) ?_
        have e : ∀ zs : List Str, (crossM zs ks).length = zs.length * ks.length := fun zs => by
          induction zs with
          | nil => simp [crossM]
          | cons z zs ih =>
            show (ks.map (fun b => (z, b)) ++ crossM zs ks).length = _
            rw [List.length_append, ih, List.length_map, List.length_cons, Nat.add_mul, Nat.one_mul, Nat.add_comm]
        rw [e]
        exact Nat.le_trans (Nat.mul_le_mul k8 k8) (by decide)
      have prq2 : PrsQ K H15 D (apartM ks cs) := by
        obtain ⟨ts, h1, h2⟩ := prl
        exact ⟨ts, .inl (SqL.of ((s614.trans s15) _ _ h1)), paired_imp (fun _ _ h => SqT.of ((s614.trans s15) _ _ h)) h2⟩
      refine ⟨_, rfl, _, rfl, l, D, ks, apartM ks cs, rfl, .inl (SqL.of (s15 _ _ hl14)), prq2, up, by omega, apl, oks, apart_in ink low, fun c' H16 s16 p7 => ?_⟩
      refine ⟨_, _, rfl, ?_⟩
      -- same
      refine ⟨_, rfl, _, rfl, _, rfl, _, rfl, _, rfl, _, rfl, (by show 5 ≤ sizeLine; decide), fun lo hlo => ?_⟩
      have s17 : Same H16 (upd H16 lo (.lst [.ref w', .ref c', .ref c', .ref w', .ref w'])) := Sx.Same.new hlo
      have ho : (upd H16 lo (.lst [.ref w', .ref c', .ref c', .ref w', .ref w'])) lo = some (.lst [.ref w', .ref c', .ref c', .ref w', .ref w']) := upd_same
      generalize upd H16 lo (.lst [.ref w', .ref c', .ref c', .ref w', .ref w']) = H17 at s17 ho ⊢
      have s147 := s15.trans (s16.trans s17)
      have pw := p6.same (s16.trans s17)
      have pc := p7.same s17
      let W := partsM (nearM cs) ks
      let Cm := partsM (nearM (apartM ks cs)) ks
      have pW := plain_prt W
      have pC := plain_prt Cm
      obtain ⟨sw1, sw2⟩ := parts_small (nf := nearM cs) (ks := ks) (by omega)
      obtain ⟨sc1, sc2⟩ := parts_small (nf := nearM (apartM ks cs)) (ks := ks) (by omega)
      have wW := pW.2.2 sw1 sw2
      have wC := pC.2.2 sc1 sc2
      refine ⟨.ref lg, .ref lo, .list [prtD W, prtD Cm, prtD Cm, prtD W, prtD W], rfl, .lst (SqL.of (s147 _ _ hg)) (.cons (dp_prt (q1.same s147)) (.cons (dp_prt (q2.same s147)) (.cons (dp_prt (q3.same s147)) (.cons (dp_prt (q4.same s147)) (.cons (dp_prt (q5.same s147)) .nil))))), .lst (SqL.of ho) (.cons (dp_prt pw) (.cons (dp_prt pc) (.cons (dp_prt pc) (.cons (dp_prt pw) (.cons (dp_prt pw) .nil))))), ?_, ?_, ?_, fun H18 s18 => ?_⟩
      · have d1 := pW.2.1
        have d2 := pC.2.1
        simp only [PyData.depth, PyData.depthAll]
        omega
      · simp only [plainD, plainAll, pW.1, pC.1]
        rfl
      · simp only [wide, wideAll, wW, wC]
        rfl
      · refine ⟨_, rfl, iteF ?_⟩
        exact fin H18 _ _ _ _ _ _ _ _ (s6.trans (s614.trans (s147.trans s18)))
    rintro σ7 H7 ⟨v1, v2, v3, v4, v5, v6, v7, v8, rfl, S7⟩
    exact q H7 S7
end
end Sx

/-! SxKw -/
/-! A call by one name; slices with a step. -/
namespace Sx
open PySem PySem.Spec PyProof.Rows L2
theorem kb_one {K : PySem.W.Frag} {fd : FuncData} {y : Str} (h1 : ∀ v : Value, bindArgs fd ⟨[v], []⟩ = pure [(y, v)]) (h2 : ∀ v : Value, bindArgs fd ⟨[], [(y, v)]⟩ = pure [(y, v)]) : KBinds K fd [y] [y] (fun us ws => us ++ ws) (fun vs zs => vs ++ zs) where
  to := fun s us ws _ hl => match us, ws, hl with
    | [u], [], _ => .of_eq (h1 u)
    | [], [w], _ => .of_eq (h2 w)
    | u :: u2 :: us, ws, hl => by simp at hl
    | [u], w :: ws, hl => by simp at hl
    | [], [], hl => by simp at hl
    | [], w :: w2 :: ws, hl => by simp at hl
  rel := fun r rz => r.append rz
section
variable {X : Cx} {k : Nat} {f : Addr} {fd : FuncData} {sp : Sp} {E : XK} {x : Str} {ps ks : List Str} {p pos : Pos} {kws : List Keyword} {tk : TA} {CX : CXT} {g : List Value → List Value → List Value} {gV : List V → List V → List V}
/-- f(y=e) -/
theorem pe_callK0 (F : FnOk X.prog X.w X.K X.mg X.base CX k f fd ps sp) (hr : Room k X.A) (hg : Gl X x) (hm : X.mg x = some (.ref f)) (hk : PySem.W.keepIn X.K (.ref f) = true) (hb : KBinds X.K fd ps ks g gV) (hx : Passes CX X E)
    (hkw : PK X kws tk) (hall : (backToKw pos (keywordEach kws X.env)).all (·.1.isSome) = true := by rfl) (hks : (backToKw pos (keywordEach kws X.env)).filterMap (·.1) = ks := by rfl)
    (hdb : (x == ("__debug__" : Str)) = false := by decide) (hpl : ((backTo pos (starEach [] X.env)).any (·.1) || (backToKw pos (keywordEach kws X.env)).any (·.1.isNone)) = false := by rfl) :
    PE X (.Call (.Name x p) [] kws pos) (fun σ H Q => tk σ H fun zs H1 => sp (gV [] zs) H1 Q E) := by
  refine ⟨fun pins s σ H Q I h => ?_⟩
  refine wpAny_Call_Name_kw (ld_glob I hg hm ?_ hdb)
  refine PySem.W.callWith_KW0 (h₀ := X.base) I.ok.mod.kin hk hall (thn (hkw.run pos pins s σ H _ I h) fun ws s2 ⟨zs, H2, I2, rz, q2⟩ => ⟨I2.kIn, ?_⟩) hpl
  rw [hks]
  exact run_fnk F hr hb hx I2 .nil rz q2
end
/-- xs[lo::c] of a list, c written, above 0 -/
def pickV (xs : List V) (lo : Option Int) (c : Int) : List V := (sliceRange (sliceBounds lo none (some c) xs.length).1 (sliceBounds lo none (some c) xs.length).2.1 (sliceBounds lo none (some c) xs.length).2.2).filterMap (xs[·]?)
theorem vals_pick {xs : List V} {its : List Value} (r : Vals xs its) : ∀ js : List Nat, Vals (js.filterMap (xs[·]?)) (js.filterMap (its.toArray[·]?))
  | [] => .nil
  | j :: js => by
    have ih := vals_pick r js
    cases h : xs[j]? with
    | none =>
      have h2 : its.toArray[j]? = none := by
        have l := r.length
        rw [List.getElem?_toArray]
        exact List.getElem?_eq_none (by have := List.getElem?_eq_none_iff.mp h; omega)
      rw [List.filterMap_cons_none h, List.filterMap_cons_none h2]
      exact ih
    | some v =>
      obtain ⟨u, hu, ru⟩ := r.get h
      have h2 : its.toArray[j]? = some u := by rw [List.getElem?_toArray]; exact hu
      rw [List.filterMap_cons_some h, List.filterMap_cons_some h2]
      exact .cons ru ih
def tStep (K : PySem.W.Frag) (te : TE) (tl : TO) (c : Int) : TE := fun σ H Q => te σ H fun x H1 => tl σ H1 fun lo H2 => ∃ a xs, x = .ref a ∧ SqL K H2 a xs ∧ xs.length ≤ sizeLine ∧ (pickV xs lo c).length ≤ sizeLine ∧ ∀ p, H2 p = none → Q (.ref p) (upd H2 p (.lst (pickV xs lo c)))
section
variable {X : Cx}
theorem pe_step {e : Expr} {lo : Option Expr} {te : TE} {tl : TO} {k : Nat} {c : Int} {p1 p3 pos : Pos} (he : PE X e te) (hl : PO X lo tl) (hc : c ≠ 0) : PE X (.Subscript e (.Slice lo none (some (.Constant (.int c) k p1)) p3) pos) (tStep X.K te tl c) := by
  refine ⟨fun pins s σ H Q I h => ?_⟩
  refine Subscript_ (thn (he.run pins s σ H _ I h) fun v s1 ⟨x, H1, I1, r1, q1⟩ => ?_)
  have hst : PO X (some (.Constant (.int c) k p1)) (tPart (tC (.int c))) := po_some pe_int
  refine wpAny_Slice (thn (hl.run pins s1 σ H1 _ I1 q1) fun vl s2 ⟨l, H2, I2, pl, q2⟩ => ?_)
  refine thn (po_none.run pins s2 σ H2 (fun o H3 => o = none ∧ H3 = H2) I2 ⟨rfl, rfl⟩) fun vu s3 ⟨u, H3, I3, pu, eu, e3⟩ => ?_
  subst eu e3
  refine thn (hst.run pins s3 σ H3 (fun o H4 => o = some c ∧ H4 = H3) I3 ⟨_, rfl, rfl, rfl⟩) fun vs s4 ⟨o, H4, I4, ps, eo, e4⟩ => ?_
  subst eo e4
  obtain ⟨a, xs, ex, hx, hz0, hp, q⟩ := q2
  subst ex
  cases r1
  have I5 : Inv X pins σ H4 { s4 with heap := s4.heap.push { cls := .type "slice", data := .fields #[vl, vu, vs] } } := I4.kept (t' := s4.toks) fun b ob q => Heap.get?_push_of_some _ q
  obtain ⟨its, r, ht, hz⟩ := I5.list hx
  have hlen := r.length
  show wpAny (model X.prog X.w) X.A (subscriptTail e (.Slice lo none (some (.Constant (.int c) k p1)) p3) (.ref a) (.ref s4.heap.objs.size)) (EP X pins σ Q) X.xe { s4 with heap := s4.heap.push { cls := .type "slice", data := .fields #[vl, vu, vs] } }
  refine tail_any (ops := [.ref a, .ref s4.heap.objs.size]) ht.isList.typeIs (PySem.slot_list_getitem.lookup) ?_ (by with_unfolding_all rfl)
  refine wpAny_getItem_list_slice ht.isList (Heap.IsSliceOf.new _ vl vu vs) pl pu ps (fun z => hc (Option.some.inj z)) ?_ (by rw [List.size_toArray]; omega)
  have es : slicePick its.toArray l none (some c) = ((sliceRange (sliceBounds l none (some c) xs.length).1 (sliceBounds l none (some c) xs.length).2.1 (sliceBounds l none (some c) xs.length).2.2).filterMap (its.toArray[·]?)).toArray := by
    unfold slicePick
    rw [List.size_toArray, ← hlen]
  rw [es]
  refine ⟨.ref _, _, I5.laid (t' := s4.toks) (o := .lst (pickV xs l c)) (fun b ob q => Heap.get?_push_of_some _ q) (Nat.le_refl _) ?_, rfl, q _ (I5.hok.fresh (Nat.le_refl _))⟩
  exact ⟨hp, _, 0, vals_pick r _, Heap.get?_push_size _ rfl⟩
end
end Sx

/-! LawK -/
namespace Sx
open PySem PySem.Spec PyProof.Rows L2
/-! ### the sets that hang together, for a written book -/
/-- each but the first is one step from an earlier one -/
def treeB (nf : Str → List Str) : List Str → List Str → Bool
  | _, [] => true
  | old, x :: r => old.any (fun y => decide (x ∈ nf y)) && treeB nf (x :: old) r
def lotB (nf : Str → List Str) : List Str → Bool
  | [] => false
  | h :: r => treeB nf [h] r
theorem tree_rch {nf : Str → List Str} {s : Str} : ∀ (r old : List Str), treeB nf old r = true → (∀ y ∈ old, Rch nf s y) → ∀ z ∈ r, Rch nf s z
  | [], _, _, _, z, hz => by cases hz
  | x :: r, old, h, ho, z, hz => by
    unfold treeB at h
    rw [Bool.and_eq_true, List.any_eq_true] at h
    obtain ⟨⟨y, hy, e⟩, h2⟩ := h
    have hx : Rch nf s x := .step (ho y hy) (decide_eq_true_eq.mp e)
    rcases List.mem_cons.mp hz with a | a
    · rw [a]; exact hx
    · exact tree_rch r (x :: old) h2 (fun w hw => (List.mem_cons.mp hw).elim (fun e => by rw [e]; exact hx) (ho w)) z a
/-- Ls: the sets; Os: each of them in an order that shows that it hangs together -/
def PartsOk (nf : Str → List Str) (ks : List Str) (Ls Os : List (List Str)) : Prop :=
  Ls.Pairwise (fun a b => ltL a b = true) ∧ (∀ L ∈ Ls, L.Pairwise (fun a b => ltS a b = true)) ∧ (∀ L ∈ Ls, ∃ O ∈ Os, lotB nf O = true ∧ (∀ x ∈ L, x ∈ O) ∧ (∀ x ∈ O, x ∈ L)) ∧
  (∀ L ∈ Ls, ∀ x ∈ L, x ∈ ks ∧ ∀ y ∈ nf x, y ∈ L) ∧ ∀ k ∈ ks, ∃ L ∈ Ls, k ∈ L
instance (nf : Str → List Str) (ks : List Str) (Ls Os : List (List Str)) : Decidable (PartsOk nf ks Ls Os) := by unfold PartsOk; infer_instance
theorem parts_is {nf : Str → List Str} {ks : List Str} {Ls Os : List (List Str)} (up : Up ltS ks) (sy : ∀ k z, z ∈ nf k → k ∈ nf z) (h : PartsOk nf ks Ls Os) : partsM nf ks = Ls := by
  obtain ⟨h1, h2, h3, h4, h5⟩ := h
  have cls : ∀ L ∈ Ls, ∀ k ∈ L, L = clsM nf ks k := fun L hL k hk => by
    refine up_one totS (h2 L hL) (up_cls up k) fun z => ?_
    rw [mem_cls]
    constructor
    · intro hz
      refine ⟨(h4 L hL z hz).1, ?_⟩
      obtain ⟨O, _, lo, i1, i2⟩ := h3 L hL
      cases O with
      | nil => cases lo
      | cons s r =>
        have all : ∀ w ∈ s :: r, Rch nf s w := fun w hw => (List.mem_cons.mp hw).elim (fun e => by rw [e]; exact .here) (tree_rch r [s] lo (fun y hy => by rw [List.mem_singleton.mp hy]; exact .here) w)
        exact (Rch.symm sy (all k (i1 k hk))).trans (all z (i1 z hz))
    · rintro ⟨h0, r⟩
      clear h0
      induction r with
      | here => exact hk
      | step _ m ih => exact (h4 L hL _ ih).2 _ m
  unfold partsM
  refine up_one totL (up_srt totL _) h1 fun L => ?_
  rw [mem_srt totL, List.mem_map]
  constructor
  · rintro ⟨k, hk, e⟩
    obtain ⟨M, hM, m⟩ := h5 k hk
    rw [← e, ← cls M hM k m]
    exact hM
  · intro hL
    obtain ⟨O, _, lo, i1, i2⟩ := h3 L hL
    cases O with
    | nil => cases lo
    | cons s r =>
      have m := i2 s List.mem_cons_self
      exact ⟨s, (h4 L hL s m).1, (cls L hL s m).symm⟩

/-! ### written lists and tuples -/
def Dg (K : PySem.W.Frag) (te : TE) (σ : L2.St) (d : PyData) : Prop := ∀ (H : Hp) (Q : VK), (∀ v H', Same H H' → Dp K H' v d → Q v H') → te σ H Q
def Dgs (K : PySem.W.Frag) (ta : TA) (σ : L2.St) (ds : List PyData) : Prop := ∀ (H : Hp) (Q : List V → Hp → Prop), (∀ vs H', Same H H' → DpAll K H' vs ds → Q vs H') → ta σ H Q
/-- a new list -/
def Lg (K : PySem.W.Frag) (te : TE) (σ : L2.St) (ds : List PyData) : Prop := ∀ (H : Hp) (Q : VK), (∀ l xs H', Same H H' → H' l = some (.lst xs) → DpAll K H' xs ds → Q (.ref l) H') → te σ H Q
section
variable {K : PySem.W.Frag} {σ : L2.St} {te : TE} {ta : TA} {d : PyData} {ds : List PyData}
theorem dg_str (x : Str) : Dg K (tC (.str x)) σ (.str x) := fun H Q h => h _ H same_id (.str x)
theorem dg_int (i : Int) : Dg K (tC (.int i)) σ (.int i) := fun H Q h => h _ H same_id (.int i)
theorem dgs_nil : Dgs K tNil σ [] := fun H Q h => h [] H same_id .nil
theorem dgs_cons (h : Dg K te σ d) (g : Dgs K ta σ ds) : Dgs K (tCons te ta) σ (d :: ds) := fun H Q q =>
  h H _ fun v H1 s1 d1 => g H1 _ fun vs H2 s2 d2 => q (v :: vs) H2 (s1.trans s2) (.cons (dp_same s2 _ d1) d2)
theorem dg_tup (g : Dgs K ta σ ds) (hl : ds.length ≤ 1000) : Dg K (tTup ta) σ (.tuple ds) := fun H Q q =>
  g H _ fun vs H1 s1 d1 => ⟨by rw [dps_len d1]; exact Nat.le_of_lt (small1000 hl), fun p hp => q _ _ (s1.trans (Sx.Same.new hp)) (.tup (SqT.of upd_same) (dps_same (Sx.Same.new hp) _ d1))⟩
theorem lg_lst (g : Dgs K ta σ ds) (hl : ds.length ≤ 1000) : Lg K (tLst ta) σ ds := fun H Q q =>
  g H _ fun vs H1 s1 d1 => ⟨by rw [dps_len d1]; exact Nat.le_of_lt (small1000 hl), fun p hp => q _ vs _ (s1.trans (Sx.Same.new hp)) upd_same (dps_same (Sx.Same.new hp) _ d1)⟩
theorem dps_app {H : Hp} : ∀ {xs ys : List V} {ds es : List PyData}, DpAll K H xs ds → DpAll K H ys es → DpAll K H (xs ++ ys) (ds ++ es)
  | _, _, _, _, .nil, g => g
  | _, _, _, _, .cons a h, g => .cons a (dps_app h g)
/-- goal = goal + [..] -/
theorem lg_cat {i l : Nat} {H : Hp} {Q : VK} {xs : List V} {es : List PyData} (hv : σ[i]? = some (some (.ref l))) (hl : H l = some (.lst xs)) (hd : DpAll K H xs es) (g : Lg K te σ ds) (len : es.length + ds.length ≤ 1000) (q : ∀ p ys H', Same H H' → H' p = some (.lst ys) → DpAll K H' ys (es ++ ds) → Q (.ref p) H') : tOp rCat (tVar i) te σ H Q :=
  ⟨_, hv, g H _ fun m ys H1 s1 h1 d1 => ⟨l, m, xs, ys, rfl, rfl, s1 _ _ hl, h1, by rw [dps_len hd, dps_len d1]; exact Nat.le_of_lt (small1000 len), fun p hp => q p _ _ (s1.trans (Sx.Same.new hp)) upd_same (dps_app (dps_same (s1.trans (Sx.Same.new hp)) _ hd) (dps_same (Sx.Same.new hp) _ d1))⟩⟩
end
end Sx

/-! SxLz -/
/-! list(zip(xs, ys)) of two lists: a new list of new pairs. -/
namespace Sx
open PySem PySem.Spec PyProof.Rows L2
/-- how the zip stands, ahead of its next pair -/
def ZAt (z TI TO i1 i2 a b S : Addr) (i : Nat) (h : Heap) : Prop :=
  IsPair h TI (.ref i1) (.ref i2) ∧ (∃ u v, IsPair h TO u v) ∧ h.IsListIter i1 a i ∧ h.IsListIter i2 b i ∧
  (IsZip h z TI TO .none ∨ ∃ T f oT, IsZipHeld h z TI TO T f ∧ h.get? T = some oT ∧ T ≠ z ∧ T ≠ i1 ∧ T ≠ i2 ∧ T ≠ S)
abbrev PrsV (H : Hp) (ts : List Addr) (zs : List (V × V)) : Prop := Paired (fun t (p : V × V) => H t = some (.tup [p.1, p.2])) ts zs
theorem fp_upd {X : Cx} {pins : List (Addr × Obj)} {H : Hp} {c T : Addr} {o : HO} (f : FpOk X pins H c) (ne : c ≠ T) : FpOk X pins (upd H T o) c := by
  obtain ⟨h1, h2⟩ := f
  exact ⟨by rw [upd_ne ne]; exact h1, h2⟩
theorem lz_loop {X : Cx} {pins : List (Addr × Obj)} {σ : L2.St} {H1 : Hp} {A : Around} {R : Result → Shared → Prop} {a b z TI TO i1 i2 S : Addr} {xs ys : List V} {res : Value} (D : ZipApart z TI TO i1 i2 a b) (hh : A.in1.handled = none)
    (nz : S ≠ z) (nTI : S ≠ TI) (nTO : S ≠ TO) (n1 : S ≠ i1) (n2 : S ≠ i2) (hx : SqL X.K H1 a xs) (hy : SqL X.K H1 b ys) (hl : (xs.zip ys).length ≤ 10000)
    (hR : ∀ s' acc c H' ts, Inv X pins σ H' s' → Same H1 H' → FpOk X pins H' S → s'.heap.get? S = some { cls := .type "list", dict := none, data := .seq acc c, slots := #[] } → acc.toList = ts.map Value.ref → PrsV H' ts (xs.zip ys) → R (.ok (.ret res)) s') :
    ∀ (k i : Nat) (s : Shared) (H : Hp) (acc : Array Value) (c : Nat) (ts : List Addr), (xs.zip ys).length - i = k → i ≤ (xs.zip ys).length → Inv X pins σ H s → Same H1 H → (∀ q ∈ [z, TI, TO, i1, i2, S], FpOk X pins H q) → ZAt z TI TO i1 i2 a b S i s.heap →
      s.heap.get? S = some { cls := .type "list", dict := none, data := .seq acc c, slots := #[] } → acc.toList = ts.map Value.ref → PrsV H ts ((xs.zip ys).take i) → codeAny (model X.prog X.w) A (.builtin "list.extend.loop" ⟨[.ref S, .ref z, res], []⟩) R s := by
  intro k
  induction k with
  | zero =>
    intro i s H acc c ts hk hi I sm hf st hS ha hp
    obtain ⟨hTI, ⟨u0, v0, hTO⟩, h1, h2, hz⟩ := st
    have e : i = (xs.zip ys).length := by omega
    subst e
    obtain ⟨its, rv, p1, _⟩ := I.list (Same.seq sm hx)
    obtain ⟨its2, rv2, p2, _⟩ := I.list (Same.seq sm hy)
    have l1 := rv.length
    have l2 := rv2.length
    have lz : (xs.zip ys).length = min xs.length ys.length := List.length_zip
    have hend : its.toArray[(xs.zip ys).length]? = none ∨ its2.toArray[(xs.zip ys).length]? = none := by
      rcases Nat.le_total xs.length ys.length with w | w
      · refine .inl ?_
        rw [List.getElem?_toArray]
        exact List.getElem?_eq_none (by omega)
      · refine .inr ?_
        rw [List.getElem?_toArray]
        exact List.getElem?_eq_none (by omega)
    rw [List.take_length] at hp
    have fin : ∀ h', (∀ c o, c ∉ [z, TO, i1, i2] → s.heap.get? c = some o → h'.get? c = some o) → R (.ok (.ret res)) { s with heap := h' } := fun h' hk' => by
      have I1 : Inv X pins σ H { s with heap := h' } := I.turnedL (t' := s.toks) (ch := [z, TI, TO, i1, i2, S]) (fun b o hb q => hk' b o (fun m => hb (by simp at m ⊢; rcases m with m | m | m | m <;> simp [m])) q) hf
      exact hR _ acc c H ts I1 sm (hf S (by simp)) (hk' S _ (by simp; exact ⟨nz, nTO, n1, n2⟩) hS) ha hp
    refine codeAny_builtin PySem.F.entry_extend_loop ?_
    rw [Around.under_plainId PySem.F.plain_extend_loop _]
    show wpAny _ A.in1 (pyNext (.ref z) >>= _) _ _ s
    refine wpAny_bind ?_
    rcases hz with hz | ⟨T, f, oT, hz, hT, r1, r2, r3, r4⟩
    · exact wpAny_pyNext_zip_end hh D hz hTI hTO h1 h2 p1.isList p2.isList hend fun h' hk' => wpAny_pure (fin h' fun c o hc q => hk' c o (fun x => hc (by simp [x])) (fun x => hc (by simp [x])) (fun x => hc (by simp [x])) (fun x => hc (by simp [x])) q)
    · exact wpAny_pyNext_zip_end_held hh D hz hT hTI h1 h2 p1.isList p2.isList hend fun h' hk' => wpAny_pure (fin h' fun c o hc q => hk' c o (fun x => hc (by simp [x])) (fun x => hc (by simp [x])) (fun x => hc (by simp [x])) q)
  | succ k ih =>
    intro i s H acc c ts hk hi I sm hf st hS ha hp
    have hlt : i < (xs.zip ys).length := by omega
    obtain ⟨hTI, ⟨u0, v0, hTO⟩, h1, h2, hz⟩ := st
    have sqx := Same.seq sm hx
    have sqy := Same.seq sm hy
    obtain ⟨its, rv, p1, _⟩ := I.list sqx
    obtain ⟨its2, rv2, p2, _⟩ := I.list sqy
    have lz : (xs.zip ys).length = min xs.length ys.length := List.length_zip
    have ix : i < xs.length := by omega
    have iy : i < ys.length := by omega
    obtain ⟨u, hu, ru⟩ := rv.get (List.getElem?_eq_getElem ix)
    obtain ⟨u2, hu2, ru2⟩ := rv2.get (List.getElem?_eq_getElem iy)
    have hxy : (xs.zip ys)[i]? = some (xs[i], ys[i]) := by
      rw [List.getElem?_eq_getElem hlt, List.getElem_zip]
    have hzl : z < s.heap.objs.size := by
      rcases hz with hz | ⟨T, f, oT, hz, _⟩
      · exact Heap.lt_size hz
      · exact Heap.lt_size hz
    have hSl : S < s.heap.objs.size := Heap.lt_size hS
    have hTl : TI < s.heap.objs.size := Heap.lt_size hTI
    have hTOl : TO < s.heap.objs.size := Heap.lt_size hTO
    have h1l : i1 < s.heap.objs.size := by obtain ⟨_, e, _⟩ := h1; exact Heap.lt_size e
    have h2l : i2 < s.heap.objs.size := by obtain ⟨_, e, _⟩ := h2; exact Heap.lt_size e
    refine codeAny_builtin PySem.F.entry_extend_loop ?_
    rw [Around.under_plainId PySem.F.plain_extend_loop _]
    show wpAny _ A.in1 (pyNext (.ref z) >>= _) _ _ s
    refine wpAny_bind ?_
    have asz : acc.size = i := by
      have y := congrArg List.length ha
      rw [List.length_map, Array.length_toList, Paired.length hp, List.length_take] at y
      omega
    have step : ∀ h', IsPair h' s.heap.objs.size u u2 → (∀ c o, c ∉ [z, TO, i1, i2] → s.heap.get? c = some o → h'.get? c = some o) → (∀ H2, (∀ c o, c ≠ S → h'.get? c = some o → H2.get? c = some o) → ZAt z TI TO i1 i2 a b S (i + 1) H2) →
        wpAny (model X.prog X.w) A.in1 (updateSeq S (·.push (.ref s.heap.objs.size)) >>= fun _ => again (.builtin "list.extend.loop" ⟨[.ref S, .ref z, res], []⟩)) (fun fin s' => match fin with | .done f => R (.ok f) s' | .again c' => c'.quiet = true ∧ codeAny (model X.prog X.w) A c' R s') (fun e s' => R (.error e) s') { s with heap := h' } := fun h' hT hk' zst => by
      have I1 : Inv X pins σ (upd H s.heap.objs.size (.tup [xs[i], ys[i]])) { s with heap := h' } :=
        I.turnedNew (t' := s.toks) (ch := [z, TI, TO, i1, i2, S]) (fun b o hb q => hk' b o (fun m => hb (by simp at m ⊢; rcases m with m | m | m | m <;> simp [m])) q) hf (Nat.le_refl _) ⟨(by show 2 ≤ sizeLine; decide), [u, u2], .cons ru (.cons ru2 .nil), ⟨_, hT, rfl, _, rfl⟩⟩
      have sT : Same H (upd H s.heap.objs.size (.tup [xs[i], ys[i]])) := Sx.Same.new (I.hok.fresh (Nat.le_refl _))
      have hf2 : ∀ q ∈ [z, TI, TO, i1, i2, S], FpOk X pins (upd H s.heap.objs.size (.tup [xs[i], ys[i]])) q := fun q hq => by
        have f := hf q hq
        by_cases e : q = s.heap.objs.size
        · simp only [List.mem_cons, List.not_mem_nil, or_false] at hq
          rcases hq with w | w | w | w | w | w
          · exact absurd (w.symm.trans e) (Nat.ne_of_lt hzl)
          · exact absurd (w.symm.trans e) (Nat.ne_of_lt hTl)
          · exact absurd (w.symm.trans e) (Nat.ne_of_lt hTOl)
          · exact absurd (w.symm.trans e) (Nat.ne_of_lt h1l)
          · exact absurd (w.symm.trans e) (Nat.ne_of_lt h2l)
          · exact absurd (w.symm.trans e) (Nat.ne_of_lt hSl)
        · exact fp_upd f e
      have hS' := hk' S _ (by simp; exact ⟨nz, nTO, n1, n2⟩) hS
      refine wpAny_bind ?_
      refine wpAny_updateSeq hS' rfl (wpAny_pure ⟨plainId_quiet PySem.F.plain_extend_loop _, ?_⟩) (by rw [asz, sizeLine_eq]; omega) (by show (acc.push _).size ≤ sizeLine + 1; rw [Array.size_push, asz, sizeLine_eq]; omega)
      have oth : ∀ c o, c ≠ S → h'.get? c = some o → (h'.update S (Obj.mapSeq (·.push (Value.ref s.heap.objs.size)))).get? c = some o := fun c o hc e => (Heap.get?_update_other _ _ (Ne.symm hc)).trans e
      have I2 : Inv X pins σ (upd H s.heap.objs.size (.tup [xs[i], ys[i]])) { s with heap := h'.update S (Obj.mapSeq (·.push (Value.ref s.heap.objs.size))) } :=
        Inv.turnedL (s := { s with heap := h' }) (t' := s.toks) (ch := [S]) I1 (fun c o hc e => oth c o (fun w => hc (by simp [w])) e) (fun q hq => hf2 q (by rw [List.mem_singleton.mp hq]; simp))
      refine ih (i + 1) _ (upd H s.heap.objs.size (.tup [xs[i], ys[i]])) (acc.push (.ref s.heap.objs.size)) _ (ts ++ [s.heap.objs.size]) (by omega) hlt I2 (sm.trans sT) hf2 (zst _ oth) (Heap.get?_update_self _ hS' rfl) ?_ ?_
      · rw [Array.toList_push, ha, List.map_append]
        rfl
      · rw [Sx.take_snoc hxy]
        exact paired_snoc (paired_imp (fun _ _ h => sT _ _ h) hp) upd_same
    rcases hz with hz | ⟨T, f, oT, hz, hT, r1, r2, r3, r4⟩
    · refine wpAny_pyNext_zip_item D hz hTI hTO h1 h2 p1.isList p2.isList (x := u) (y := u2) (by simpa using hu) (by simpa using hu2) fun h' z' TO' h1' h2' hT hsz hk' => ?_
      refine step h' hT (fun c o hc q => hk' c o (fun x => hc (by simp [x])) (fun x => hc (by simp [x])) (fun x => hc (by simp [x])) (fun x => hc (by simp [x])) q) fun H2 kp => ?_
      have hTI' := hk' _ _ D.TIz D.TITO D.TIi1 D.TIi2 hTI
      exact ⟨kp _ _ nTI.symm hTI', ⟨_, _, kp _ _ nTO.symm TO'⟩, h1'.at fun o e => kp _ o n1.symm e, h2'.at fun o e => kp _ o n2.symm e, .inr ⟨s.heap.objs.size, false, _, kp _ _ nz.symm z', kp _ _ (Nat.ne_of_gt hSl) hT, Nat.ne_of_gt hzl, Nat.ne_of_gt h1l, Nat.ne_of_gt h2l, Nat.ne_of_gt hSl⟩⟩
    · refine wpAny_pyNext_zip_item_held D hz hT hTI h1 h2 p1.isList p2.isList (x := u) (y := u2) (by simpa using hu) (by simpa using hu2) fun h' z' h1' h2' hTn hsz hk' => ?_
      refine step h' hTn (fun c o hc q => hk' c o (fun x => hc (by simp [x])) (fun x => hc (by simp [x])) (fun x => hc (by simp [x])) q) fun H2 kp => ?_
      exact ⟨kp _ _ nTI.symm (hk' _ _ D.TIz D.TIi1 D.TIi2 hTI), ⟨_, _, kp _ _ nTO.symm (hk' _ _ D.TOz D.TOi1 D.TOi2 hTO)⟩, h1'.at fun o e => kp _ o n1.symm e, h2'.at fun o e => kp _ o n2.symm e, .inr ⟨T, true, oT, kp _ _ nz.symm z', kp _ _ r4 (hk' _ _ r1 r2 r3 hT), r1, r2, r3, r4⟩⟩
theorem zip_noLen : typeLookup (.type "zip") "__len__" = pure none := am_miss_of_fast (by decide +kernel)
theorem zip_noHint : typeLookup (.type "zip") "__length_hint__" = pure none := am_miss_of_fast (by decide +kernel)
def tLZip (K : PySem.W.Frag) (ta : TA) : TE := fun σ H Q => ta σ H fun vs H1 => ∃ a b xs ys, vs = [.ref a, .ref b] ∧ SqL K H1 a xs ∧ SqL K H1 b ys ∧ (xs.zip ys).length ≤ 10000 ∧
  ∀ l ts H', Same H1 H' → H' l = some (.lst (ts.map V.ref)) → PrsV H' ts (xs.zip ys) → Q (.ref l) H'
theorem pe_listZip {X : Cx} {e e2 : Expr} {ta : TA} {p q pos pos2 : Pos} (hc : X.calm = true) (hgl : Gl X "list") (hml : X.mg "list" = none) (hgz : Gl X "zip") (hmz : X.mg "zip" = none) (ha : PA X [e, e2] ta)
    (na : starEach [.Call (.Name "zip" q) [e, e2] [] pos2] X.env = (false, eval (.Call (.Name "zip" q) [e, e2] [] pos2) X.env) :: starEach [] X.env := by rfl)
    (hs : starEach [e, e2] X.env = (false, eval e X.env) :: starEach [e2] X.env := by rfl) (hpl : (backTo pos2 (starEach [e2] X.env)).any (·.1) = false := by rfl) :
    PE X (.Call (.Name "list" p) [.Call (.Name "zip" q) [e, e2] [] pos2] [] pos) (tLZip X.K ta) := by
  refine ⟨fun pins s σ H Q I h => ?_⟩
  refine Call_ (ld_blt I hgl hml boot_list (PyProof.Rows.callWith_type1 (args_cons (Call_ (ld_blt I hgz hmz PyProof.Rows.boot_zip (PyProof.Rows.callWith_type1 (thn (ha.run pos2 pins s σ H _ I h) fun us s1 ⟨vs, H1, I1, r1, q1⟩ => ?_) hs hpl))) na) na))
  obtain ⟨a, b, xs, ys, ex, hqx, hqy, hl, q⟩ := q1
  subst ex
  cases r1 with
  | cons r rr =>
    cases rr with
    | cons r' rr =>
      cases rr
      cases r
      cases r'
      obtain ⟨its, rv, p1, _⟩ := I1.list hqx
      obtain ⟨its2, rv2, p2, _⟩ := I1.list hqy
      refine call_zip_2 p1.isList p2.isList fun h' hz hTI hTO h1 h2 hsz hk => args_nil ?_
      have hh := I1.ok.hd hc
      have lN : s1.heap.objs.size + 4 < h'.objs.size := Heap.lt_size hz
      refine callType_codes (Q₁ := fun obj s₁ => obj = .ref h'.objs.size ∧ s₁ = { s1 with heap := h'.push { cls := .type "list", data := .seq #[] } }) PySem.F.called_list (PySem.F.typeCall_list_1 _) PySem.F.entry_list_init
        (code_list_new _ ⟨rfl, rfl⟩) fun obj s₁ h₁ => ?_
      obtain ⟨rfl, rfl⟩ := h₁
      have hS : (h'.push { cls := .type "list", data := .seq #[] }).get? h'.objs.size = some { cls := .type "list", data := .seq #[] } := Heap.get?_push_size _ rfl
      refine ⟨⟨_, hS, rfl⟩, PySem.F.args_list_init_2 _ _, ?_⟩
      show wpAny _ _ (do let old ← Builtin.List.listItems (.ref h'.objs.size); Builtin.List.listUpdate (.ref h'.objs.size) (fun _ => #[]); letGo old.toList.reverse; Builtin.List.listExtendWith (.ref h'.objs.size) (.ref (s1.heap.objs.size + 4)) .none) _ _ _
      refine wpAny_bind ?_
      unfold Builtin.List.listItems
      refine wpAny_bind (wpAny_seqItems hS rfl (wpAny_pure ?_))
      show wpAny _ _ (updateSeq h'.objs.size (fun _ => #[]) >>= fun _ => letGo (#[] : Array Value).toList.reverse >>= fun _ => Builtin.List.listExtendWith (.ref h'.objs.size) (.ref (s1.heap.objs.size + 4)) .none) _ _ _
      refine wpAny_bind (wpAny_updateSeq hS rfl ?_)
      have hS2 := Heap.get?_update_self (Obj.mapSeq (fun _ => (#[] : Array Value))) hS rfl
      refine wpAny_bind (wpAny_letGo ?_)
      unfold Builtin.List.listExtendWith
      have up : ∀ (g : Heap) (f : Obj → Obj), (∀ b o, h'.get? b = some o → g.get? b = some o) → ∀ b o, h'.get? b = some o → (g.update h'.objs.size f).get? b = some o := fun g f q b o e =>
        (Heap.get?_update_other _ _ (Ne.symm (Nat.ne_of_lt (Heap.lt_size e)))).trans (q b o e)
      have k1 : ∀ b o, h'.get? b = some o → (h'.push { cls := .type "list", data := .seq #[] }).get? b = some o := fun b o e => Heap.get?_push_of_some _ e
      have k2 := up _ (Obj.mapSeq (fun _ => (#[] : Array Value))) k1
      have zty : ∀ {g : Heap}, (∀ b o, h'.get? b = some o → g.get? b = some o) → ({ s1 with heap := g } : Shared).TypeIs (.ref (s1.heap.objs.size + 4)) "zip" := fun {g} q => ⟨_, q _ _ hz, rfl⟩
      refine wpAny_bind (wpAny_typeOf (zty k2) ?_)
      have e1 : Builtin.List.listSameRef (.ref h'.objs.size) (.ref (s1.heap.objs.size + 4)) = false := by
        have : h'.objs.size ≠ s1.heap.objs.size + 4 := Nat.ne_of_gt lN
        simp [Builtin.List.listSameRef, this]
      have e2 : (Value.type "zip" == Value.type "list") = false := by decide
      have e3 : (Value.type "zip" == Value.type "tuple") = false := by decide
      simp only [e1, e2, e3, Bool.or_false, Bool.false_eq_true, if_false]
      refine wpAny_bind (wpAny_pyIter_zip (s := { s1 with heap := _ }) (k2 _ _ hz) ?_)
      refine wpAny_bind (wpAny_holding ?_)
      unfold Builtin.List.listLengthHint
      refine wpAny_bind (wpAny_specialOf (zty k2) zip_noLen ?_)
      show wpAny _ _ (specialOf (Value.ref (s1.heap.objs.size + 4)) (Str.ofString "__length_hint__") >>= _) _ _ _
      refine wpAny_bind (wpAny_specialOf (zty k2) zip_noHint ?_)
      refine wpAny_pure ?_
      show wpAny _ _ (rule "list.extend.makes-room" >>= fun _ => Builtin.List.listTouch (.ref h'.objs.size) >>= fun _ =>
        again (.builtin "list.extend.loop" ⟨[.ref h'.objs.size, .ref (s1.heap.objs.size + 4), .none], []⟩)) _ _ _
      refine wpAny_bind (wpAny_rule ?_)
      refine wpAny_bind ?_
      show wpAny _ _ (updateSeq h'.objs.size (·.push .none) >>= fun _ => updateSeq h'.objs.size (·.pop)) _ _ _
      refine wpAny_bind (wpAny_updateSeq hS2 rfl ?_)
      have hS3 := Heap.get?_update_self (Obj.mapSeq (·.push Value.none)) hS2 rfl
      refine wpAny_updateSeq (hz := by seq_fits) hS3 rfl ?_
      have hS4 := Heap.get?_update_self (Obj.mapSeq (·.pop)) hS3 rfl
      have k4 := up _ (Obj.mapSeq (·.pop)) (up _ (Obj.mapSeq (·.push Value.none)) k2)
      refine wpAny_pure ⟨plainId_quiet PySem.F.plain_extend_loop _, ?_⟩
      have k5 := fun b o (e : s1.heap.get? b = some o) => k4 b o (hk b o e)
      have fp : ∀ c, s1.heap.objs.size ≤ c → FpOk X pins H1 c := fun c hc => I1.fpOk hc (I1.hok.fresh hc)
      refine lz_loop (X := X) (A := X.A.in1) (pins := pins) (σ := σ) (H1 := H1) (xs := xs) (ys := ys) (PySem.W.ktu_apart s1.heap.objs.size a b p1.lt p2.lt) hh (Nat.ne_of_gt lN) (Nat.ne_of_gt (Nat.lt_trans (Nat.add_lt_add_left (by decide) _) lN)) (Nat.ne_of_gt (Nat.lt_trans (Nat.add_lt_add_left (by decide) _) lN)) (Nat.ne_of_gt (Nat.lt_of_le_of_lt (Nat.le_add_right _ _) lN)) (Nat.ne_of_gt (Nat.lt_trans (Nat.add_lt_add_left (by decide) _) lN)) hqx hqy hl (fun s' acc c H' ts I' sm fpS hS' ha' hp => ?_)
        _ 0 _ H1 _ _ [] rfl (Nat.zero_le _) (I1.kept (t' := s1.toks) k5) same_id (fun c hc => ?_) ⟨k4 _ _ hTI, ⟨_, _, k4 _ _ hTO⟩, h1.at fun o e => k4 _ o e, h2.at fun o e => k4 _ o e, .inl (k4 _ _ hz)⟩ hS4 rfl .nil
      · have lts : ts.length = (xs.zip ys).length := Paired.length hp
        have l1 : (ts.map V.ref).length ≤ sizeLine := by rw [List.length_map, lts, sizeLine_eq]; omega
        refine ⟨rfl, .ref h'.objs.size, upd H' h'.objs.size (.lst (ts.map V.ref)), I'.take (h' := s'.heap) (t' := s'.toks) (fun _ _ _ e => e) fpS ⟨l1, acc.toList, c, by rw [ha']; exact vals_refs ts, by rw [hS']⟩, rfl, q _ ts _ (sm.trans (Sx.Same.new fpS.1)) upd_same (paired_imp (fun t z h => ?_) hp)⟩
        rw [upd_ne fun w => by rw [w, fpS.1] at h; cases h]
        exact h
      · simp only [List.mem_cons, List.not_mem_nil, or_false] at hc
        refine fp c ?_
        rcases hc with w | w | w | w | w | w
        · rw [w]; exact Nat.le_add_right _ _
        · rw [w]; exact Nat.le_add_right _ _
        · rw [w]; exact Nat.le_add_right _ _
        · rw [w]; exact Nat.le_refl _
        · rw [w]; exact Nat.le_add_right _ _
        · rw [w]; exact Nat.le_of_lt (Nat.lt_of_le_of_lt (Nat.le_add_right _ _) lN)
end Sx

/-! X2 -/
namespace Sx
open PySem PySem.Spec PyProof.Rows L2
def farM : List Str := (List.range 40).map fun k => signM (k / 26) ++ signM (k % 26)
def evens : List Str → List Str
  | x :: _ :: r => x :: evens r
  | [x] => [x]
  | [] => []
def odds : List Str → List Str
  | _ :: y :: r => y :: odds r
  | _ => []
def lineM : List Str := evens farM ++ odds farM
def wideC : List (Str × Str) := srt ltP ((lineM.zip lineM.tail).map nrm)
theorem far_up : Up ltS farM := by decide +kernel
theorem wide_ok : PartsOk (nearM wideC) farM [farM] [lineM] := by decide +kernel
theorem wide_knots : partsM (nearM wideC) farM = [farM] := parts_is far_up near_sy wide_ok
end Sx

/-! LawL -/
namespace Sx
open PySem PySem.Spec PyProof.Rows L2
/-! ### the written books -/
structure HRow where
  t : Str
  ks : List Str
  ps : List (Str × Str)
  kn : List (List Str)
  kno : List (List Str)
  pc : List (List Str)
  pco : List (List Str)
def HRow.K (r : HRow) : List Str := srt ltS r.ks
def HRow.C (r : HRow) : List (Str × Str) := srt ltP (r.ps.map nrm)
def HOk (r : HRow) : Prop := OfOk r.t r.ks r.ps ∧ PartsOk (nearM r.C) r.K r.kn r.kno ∧ PartsOk (peaceN r.K r.C) r.K r.pc r.pco
instance (r : HRow) : Decidable (HOk r) := by unfold HOk; infer_instance
theorem HOk.eKn {r : HRow} (h : HOk r) : partsM (nearM r.C) r.K = r.kn := parts_is (up_srt totS _) near_sy h.2.1
theorem HOk.ePc {r : HRow} (h : HOk r) : partsM (peaceN r.K r.C) r.K = r.pc := parts_is (up_srt totS _) peace_sy h.2.2
theorem HOk.std {r : HRow} (h : HOk r) : Std r.K r.C := by
  obtain ⟨⟨_, _, _, _, _, _, _, _, hnd, few, hin, _⟩, _⟩ := h
  exact std_make few hnd hin
def hR : List HRow := [
  ⟨"a b d; a-d b-b b-d", ["a", "b", "d"], [("a", "d"), ("b", "b"), ("b", "d")], [["a", "b", "d"]], [["a", "d", "b"]], [["a", "b"], ["d"]], [["a", "b"], ["d"]]⟩,
  ⟨"a b c; a-a a-b b-b c-c", ["a", "b", "c"], [("a", "a"), ("a", "b"), ("b", "b"), ("c", "c")], [["a", "b"], ["c"]], [["a", "b"], ["c"]], [["a", "b", "c"]], [["a", "c", "b"]]⟩,
  ⟨"a b c d; a-b a-d b-c c-d", ["a", "b", "c", "d"], [("a", "b"), ("a", "d"), ("b", "c"), ("c", "d")], [["a", "b", "c", "d"]], [["a", "b", "c", "d"]], [["a", "c"], ["b", "d"]], [["a", "c"], ["b", "d"]]⟩,
  ⟨"a b c d; a-b b-c c-d", ["a", "b", "c", "d"], [("a", "b"), ("b", "c"), ("c", "d")], [["a", "b", "c", "d"]], [["a", "b", "c", "d"]], [["a", "b", "c", "d"]], [["c", "a", "d", "b"]]⟩,
  ⟨"-", [], [], [], [], [], []⟩,
  ⟨"z; z-z", ["z"], [("z", "z")], [["z"]], [["z"]], [["z"]], [["z"]]⟩,
  ⟨"a b c d; a-c", ["a", "b", "c", "d"], [("a", "c")], [["a", "c"], ["b"], ["d"]], [["a", "c"], ["b"], ["d"]], [["a", "b", "c", "d"]], [["a", "b", "c", "d"]]⟩,
  ⟨"a ab b c; a-c ab-b", ["a", "ab", "b", "c"], [("a", "c"), ("ab", "b")], [["a", "c"], ["ab", "b"]], [["a", "c"], ["ab", "b"]], [["a", "ab", "b", "c"]], [["a", "ab", "b", "c"]]⟩,
  ⟨"a b c d e; a-e b-d", ["a", "b", "c", "d", "e"], [("a", "e"), ("b", "d")], [["a", "e"], ["b", "d"], ["c"]], [["a", "e"], ["b", "d"], ["c"]], [["a", "b", "c", "d", "e"]], [["a", "b", "c", "d", "e"]]⟩,
  ⟨"a b; a-b", ["a", "b"], [("a", "b")], [["a", "b"]], [["a", "b"]], [["a"], ["b"]], [["a"], ["b"]]⟩]
def hBC : HRow := ⟨"b c; b-c", ["b", "c"], [("b", "c")], [["b", "c"]], [["b", "c"]], [["b"], ["c"]], [["b"], ["c"]]⟩
def hFork : HRow := ⟨"a b c d e; a-b a-c b-d c-e", ["a", "b", "c", "d", "e"], [("a", "b"), ("a", "c"), ("b", "d"), ("c", "e")], [["a", "b", "c", "d", "e"]], [["a", "b", "c", "d", "e"]], [["a", "b", "c", "d", "e"]], [["a", "d", "e", "b", "c"]]⟩
theorem hR_ok : ∀ r ∈ hR, HOk r := by decide +kernel
theorem hBC_ok : HOk hBC := by decide +kernel
theorem hFork_ok : HOk hFork := by decide +kernel
theorem fork_turn : partsM (peaceN hFork.K (turnM hFork.K hFork.C)) hFork.K = hFork.kn := parts_is (nf := peaceN hFork.K (turnM hFork.K hFork.C)) (ks := hFork.K) (Ls := hFork.kn) (Os := hFork.kno) (up_srt totS _) peace_sy (by decide +kernel)
/-! the book of forty kinds -/
theorem far_srt : srt ltS farM = farM := by decide +kernel
theorem wide_std : Std farM wideC := by
  have h := std_make (ks := farM) (ps := lineM.zip lineM.tail) (by decide +kernel) (by decide +kernel) (by decide +kernel)
  rw [far_srt] at h
  exact h
theorem wide_turn : partsM (peaceN farM (turnM farM wideC)) farM = [farM] := by
  rw [← wide_knots]
  exact parts_eq peace_in (near_cl wide_std.inn) fun k hk z hz ne => by
    unfold peaceN
    rw [if_pos hk, mem_peace, near_turn hk hz]
    exact ⟨fun h => Classical.byContradiction fun n => h.2.2 n, fun h => ⟨hz, ne, fun n => n h⟩⟩
def lackK (k : Str) : List Str := farM.filter fun z => decide (z ≠ k)
def lackC (k : Str) : List (Str × Str) := onlyM (lackK k) wideC
def mid7 : Str := signM 0 ++ signM 14
def end39 : Str := signM 1 ++ signM 13
theorem std_lack {k : Str} : Std (lackK k) (lackC k) where
  up := wide_std.up.filter _
  few := Nat.le_trans (List.length_filter_le _ _) wide_std.few
  upc := by
    unfold lackC onlyM
    exact wide_std.upc.filter _
  inn := fun c hc => by
    have h := (List.mem_filter.mp hc).2
    rw [Bool.and_eq_true, decide_eq_true_eq, decide_eq_true_eq] at h
    exact h
  low := fun c hc => wide_std.low c (List.mem_filter.mp hc).1
def lots7 : List (List Str) := [srt ltS (lineM.take 7), srt ltS (lineM.drop 8)]
theorem lack7 : partsM (nearM (lackC mid7)) (lackK mid7) = lots7 := parts_is (Os := [lineM.take 7, lineM.drop 8]) std_lack.up near_sy (by decide +kernel)
theorem lack39 : partsM (nearM (lackC end39)) (lackK end39) = [farM.take 39] := parts_is (Os := [lineM.take 39]) std_lack.up near_sy (by decide +kernel)
theorem line7 : lineM[7]? = some mid7 := by decide +kernel
theorem line39 : lineM[39]? = some end39 := by decide +kernel
end Sx

/-! LawM -/
namespace Sx
open PySem PySem.Spec PyProof.Rows L2
/-! ### what expressions hand back, in words of data, from a heap on -/
def Ev (K : PySem.W.Frag) (H1 : Hp) (σ : L2.St) (te : TE) (d : PyData) : Prop := ∀ (H : Hp) (Q : VK), Same H1 H → (∀ v H', Same H H' → Dp K H' v d → Q v H') → te σ H Q
def Evs (K : PySem.W.Frag) (H1 : Hp) (σ : L2.St) (ta : TA) (ds : List PyData) : Prop := ∀ (H : Hp) (Q : List V → Hp → Prop), Same H1 H → (∀ vs H', Same H H' → DpAll K H' vs ds → Q vs H') → ta σ H Q
def EvL (K : PySem.W.Frag) (H1 : Hp) (σ : L2.St) (te : TE) (ds : List PyData) : Prop := ∀ (H : Hp) (Q : VK), Same H1 H → (∀ l xs H', Same H H' → H' l = some (.lst xs) → DpAll K H' xs ds → Q (.ref l) H') → te σ H Q
def EvB (K : PySem.W.Frag) (C : Addr) (H1 : Hp) (σ : L2.St) (te : TE) (ks : List Str) (cs : List (Str × Str)) : Prop := ∀ (H : Hp) (Q : VK), Same H1 H → (∀ b H', Same H H' → BookAt K C H' b ks cs → Q (.ref b) H') → te σ H Q
def EvS (K : PySem.W.Frag) (H1 : Hp) (σ : L2.St) (te : TE) (L : List Str) : Prop := ∀ (H : Hp) (Q : VK), Same H1 H → (∀ l H', Same H H' → H' l = some (.lst (L.map V.str)) → Q (.ref l) H') → te σ H Q
section
variable {K : PySem.W.Frag} {C : Addr} {H1 : Hp} {σ : L2.St} {te te2 : TE} {ta : TA} {d : PyData} {ds : List PyData} {ks : List Str} {cs : List (Str × Str)} {L : List Str}
theorem ev_str (x : Str) : Ev K H1 σ (tC (.str x)) (.str x) := fun H Q s h => h _ H same_id (.str x)
theorem ev_int (i : Int) : Ev K H1 σ (tC (.int i)) (.int i) := fun H Q s h => h _ H same_id (.int i)
theorem evs_nil : Evs K H1 σ tNil [] := fun H Q s h => h [] H same_id .nil
theorem evs_cons (h : Ev K H1 σ te d) (g : Evs K H1 σ ta ds) : Evs K H1 σ (tCons te ta) (d :: ds) := fun H Q s q =>
  h H _ s fun v H2 s1 d1 => g H2 _ (s.trans s1) fun vs H3 s2 d2 => q (v :: vs) H3 (s1.trans s2) (.cons (dp_same s2 _ d1) d2)
theorem ev_tup (g : Evs K H1 σ ta ds) (hl : ds.length ≤ 1000 := by decide) : Ev K H1 σ (tTup ta) (.tuple ds) := fun H Q s q =>
  g H _ s fun vs H1 s1 d1 => ⟨by rw [dps_len d1]; exact Nat.le_of_lt (small1000 hl), fun p hp => q _ _ (s1.trans (Sx.Same.new hp)) (.tup (SqT.of upd_same) (dps_same (Sx.Same.new hp) _ d1))⟩
theorem evl_lst (g : Evs K H1 σ ta ds) (hl : ds.length ≤ 1000 := by decide) : EvL K H1 σ (tLst ta) ds := fun H Q s q =>
  g H _ s fun vs H1 s1 d1 => ⟨by rw [dps_len d1]; exact Nat.le_of_lt (small1000 hl), fun p hp => q _ vs _ (s1.trans (Sx.Same.new hp)) upd_same (dps_same (Sx.Same.new hp) _ d1)⟩
/-- [x] * 3 -/
theorem evl_rep3 (g : EvL K H1 σ te [d]) : EvL K H1 σ (tOp rRep te (tC (.int 3))) [d, d, d] := fun H Q s q =>
  g H _ s fun l xs H2 s1 h1 d1 => by
    cases d1 with
    | cons a b =>
      cases b
      refine ⟨l, 3, _, rfl, rfl, h1, by decide, by decide, (by show 3 ≤ sizeLine; decide), fun p hp => q p _ _ (s1.trans (Sx.Same.new hp)) upd_same ?_⟩
      exact .cons (dp_same (Sx.Same.new hp) _ a) (.cons (dp_same (Sx.Same.new hp) _ a) (.cons (dp_same (Sx.Same.new hp) _ a) .nil))
theorem evb_of {t : Str} {ps : List (Str × Str)} (h : OfOk t ks ps) : EvB K C H1 σ (tCall (spOfB K C) [] E0 (tCons (tC (.str t)) tNil)) (srt ltS ks) (srt ltP (ps.map nrm)) := fun H Q s q =>
  ⟨t, ks, ps, rfl, h, fun a H' s' hB => q a H' s' hB⟩
theorem evb_var {i : Nat} {b : Addr} (hv : σ[i]? = some (some (.ref b))) (hB : BookAt K C H1 b ks cs) : EvB K C H1 σ (tVar i) ks cs := fun H Q s q => ⟨_, hv, q b H same_id (hB.same s)⟩
theorem evb_turn (h : EvB K C H1 σ te ks cs) (S : Std ks cs) : EvB K C H1 σ (tMeth C "turned" (spTurned K C) [] E0 te tNil) ks (turnM ks cs) := fun H Q s q =>
  h H _ s fun b H2 s2 hB => by
    obtain ⟨dx, _, _, _, _, _, hb, _⟩ := hB.ex
    exact ⟨b, dx, _, rfl, hb, bkF_no _ _ _ (by decide +kernel) (by decide +kernel) (by decide +kernel), b, ks, cs, rfl, hB, S, fun a H3 s3 hB3 => q a H3 (s2.trans s3) hB3⟩
theorem evb_without {k : Str} (h : EvB K C H1 σ te ks cs) (S : Std ks cs) (hk : k ∈ ks) (g : ∀ (H : Hp) (Q : VK), Same H1 H → Q (.str k) H → te2 σ H Q) :
    EvB K C H1 σ (tMeth C "without" (spWithout K C) [] E0 te (tCons te2 tNil)) (ks.filter fun z => decide (z ≠ k)) (onlyM (ks.filter fun z => decide (z ≠ k)) cs) := fun H Q s q =>
  h H _ s fun b H2 s2 hB => by
    obtain ⟨dx, _, _, _, _, _, hb, _⟩ := hB.ex
    exact ⟨b, dx, _, rfl, hb, bkF_no _ _ _ (by decide +kernel) (by decide +kernel) (by decide +kernel), g H2 _ (s.trans s2) ⟨b, ks, cs, k, rfl, hB, S, hk, fun a H3 s3 hB3 => q a H3 (s2.trans s3) hB3⟩⟩
theorem ev_hang {nf : List Str → List (Str × Str) → Str → List Str} {Ls : List (List Str)} (h : EvB K C H1 σ te ks cs) (S : Std ks cs) (e : partsM (nf ks cs) ks = Ls) : Ev K H1 σ (tCall (spHang K C nf) [] E0 (tCons te tNil)) (prtD Ls) := fun H Q s q =>
  h H _ s fun b H2 s2 hB => ⟨b, ks, cs, rfl, hB, S, fun a H3 s3 p => by rw [e] at p; exact q _ _ (s2.trans s3) (dp_prt p)⟩
theorem ev_hangK {nf : List Str → List (Str × Str) → Str → List Str} {Ls : List (List Str)} (h : EvB K C H1 σ te ks cs) (S : Std ks cs) (e : partsM (nf ks cs) ks = Ls) : Ev K H1 σ (fun σ H Q => tCons te tNil σ H fun zs H1 => spHang K C nf ((fun vs zs => vs ++ zs) [] zs) H1 Q E0) (prtD Ls) := fun H Q s q =>
  h H _ s fun b H2 s2 hB => ⟨b, ks, cs, rfl, hB, S, fun a H3 s3 p => by rw [e] at p; exact q _ _ (s2.trans s3) (dp_prt p)⟩
theorem ev_len {nf : List Str → List (Str × Str) → Str → List Str} {Ls : List (List Str)} {n : Nat} (h : EvB K C H1 σ te ks cs) (S : Std ks cs) (e : partsM (nf ks cs) ks = Ls) (l : Ls.length = n) :
    Ev K H1 σ (tCB (fun xs H Q => ∃ p ys, xs = [.ref p] ∧ (SqL K H p ys ∨ SqT K H p ys) ∧ Q (.int ys.length) H) (tCons (tCall (spHang K C nf) [] E0 (tCons te tNil)) tNil)) (.int n) := fun H Q s q =>
  h H _ s fun b H2 s2 hB => ⟨b, ks, cs, rfl, hB, S, fun a H3 s3 p => by
    rw [e] at p
    obtain ⟨ts, h1, h2⟩ := p
    refine ⟨a, _, rfl, .inr h1, ?_⟩
    have y : ((ts.map V.ref).length : Int) = (n : Int) := by rw [List.length_map, Paired.length h2, l]
    rw [y]
    exact q _ _ (s2.trans s3) (.int _)⟩
theorem evs_var {i : Nat} {l : Addr} (hv : σ[i]? = some (some (.ref l))) (hl : H1 l = some (.lst (L.map V.str))) : EvS K H1 σ (tVar i) L := fun H Q s q => ⟨_, hv, q l H same_id (s _ _ hl)⟩
theorem ev_tupOf (h : EvS K H1 σ te L) (hl : L.length ≤ 1000 := by decide) : Ev K H1 σ (tCB (rTupOf K) (tCons te tNil)) (tD L) := fun H Q s q =>
  h H _ s fun l H2 s2 h2 => ⟨l, _, rfl, .inl ⟨SqL.of h2, fun p hp => q _ _ (s2.trans (Sx.Same.new hp)) (dp_tup (SqT.of upd_same))⟩⟩
/-- xs[:hi] -/
theorem evs_cut {lo hi : Option Int} {tl th : TO} {M : List Str} (h : EvS K H1 σ te L) (gl : ∀ H (Q : Option Int → Hp → Prop), Q lo H → tl σ H Q) (gh : ∀ H (Q : Option Int → Hp → Prop), Q hi H → th σ H Q) (e : cutV (L.map V.str) lo hi = M.map V.str) : EvS K H1 σ (L2.tSl (rSlL K) te tl th) M := fun H Q s q =>
  h H _ s fun l H2 s2 h2 => gl _ _ (gh _ _ ⟨l, _, rfl, SqL.of h2, fun p hp => q _ _ (s2.trans (Sx.Same.new hp)) (by rw [e]; exact upd_same)⟩)
/-- xs[lo::c] -/
theorem evs_step {lo : Option Int} {tl : TO} {c : Int} {M : List Str} (h : EvS K H1 σ te L) (hL : L.length ≤ 1000) (hM : M.length ≤ 1000) (gl : ∀ H (Q : Option Int → Hp → Prop), Q lo H → tl σ H Q) (e : pickV (L.map V.str) lo c = M.map V.str) : EvS K H1 σ (tStep K te tl c) M := fun H Q s q =>
  h H _ s fun l H2 s2 h2 => gl _ _ ⟨l, _, rfl, SqL.of h2, by rw [List.length_map]; exact Nat.le_of_lt (small1000 hL), by rw [e, List.length_map]; exact Nat.le_of_lt (small1000 hM), fun p hp => by rw [e]; exact q _ _ (s2.trans (Sx.Same.new hp)) upd_same⟩
theorem evs_cat {te te2 : TE} {L M : List Str} (h : EvS K H1 σ te L) (g : EvS K H1 σ te2 M) (hl : L.length + M.length ≤ 1000) : EvS K H1 σ (tOp rCat te te2) (L ++ M) := fun H Q s q =>
  h H _ s fun l H2 s2 h2 => g H2 _ (s.trans s2) fun m H3 s3 h3 => ⟨l, m, _, _, rfl, rfl, s3 _ _ h2, h3, by rw [List.length_map, List.length_map]; exact Nat.le_of_lt (small1000 hl), fun p hp => q p _ (s2.trans (s3.trans (Sx.Same.new hp))) (by rw [upd_same, List.map_append])⟩
theorem evl_cat {i l : Nat} {xs : List V} {es : List PyData} (hv : σ[i]? = some (some (.ref l))) (hl : H1 l = some (.lst xs)) (hd : DpAll K H1 xs es) (g : EvL K H1 σ te ds) (len : es.length + ds.length ≤ 1000) : EvL K H1 σ (tOp rCat (tVar i) te) (es ++ ds) := fun H Q s q =>
  ⟨_, hv, g H _ s fun m ys H2 s1 h1 d1 => ⟨l, m, xs, ys, rfl, rfl, s1 _ _ (s _ _ hl), h1, by rw [dps_len hd, dps_len d1]; exact Nat.le_of_lt (small1000 len), fun p hp => q p _ _ (s1.trans (Sx.Same.new hp)) upd_same (dps_app (dps_same (s.trans (s1.trans (Sx.Same.new hp))) _ hd) (dps_same (Sx.Same.new hp) _ d1))⟩⟩
end
/-! the answers of a list of books -/
def PrAll (K : PySem.W.Frag) (H : Hp) (us : List V) (Lss : List (List (List Str))) : Prop := Paired (fun v Ls => ∃ a, v = V.ref a ∧ Prt K H a Ls) us Lss
theorem prt_upd {K : PySem.W.Frag} {H : Hp} {D a : Addr} {xs : List V} {o : HO} {Ls : List (List Str)} (p : Prt K H a Ls) (hD : H D = some (.lst xs)) : Prt K (upd H D o) a Ls := by
  obtain ⟨ts, h1, h2⟩ := p
  exact ⟨ts, sqT_upd h1 hD (fun _ y => nomatch y) (fun _ _ y => nomatch y), paired_imp (fun _ _ h => sqT_upd h hD (fun _ y => nomatch y) (fun _ _ y => nomatch y)) h2⟩
theorem prAll_dps {K : PySem.W.Frag} {H : Hp} : ∀ {us : List V} {Lss : List (List (List Str))}, PrAll K H us Lss → DpAll K H us (Lss.map prtD)
  | _, _, .nil => .nil
  | _, _, .cons ⟨_, e, p⟩ h => .cons (by rw [e]; exact dp_prt p) (prAll_dps h)
/-- [f(Book.of(t)) for t in texts] -/
theorem evl_books {K : PySem.W.Frag} {C l : Addr} {H1 : Hp} {v1 v2 v3 v4 v5 v6 v7 : Option V} {nf : List Str → List (Str × Str) → Str → List Str} {rows : List HRow} (ans : HRow → List (List Str)) (hl : H1 l = some (.lst (rows.map fun r => V.str r.t))) (few : rows.length ≤ 100)
    (ok : ∀ r ∈ rows, OfOk r.t r.ks r.ps ∧ Std r.K r.C ∧ partsM (nf r.K r.C) r.K = ans r) :
    EvL K H1 [some (.ref l), v1, v2, v3, v4, v5, v6, v7, none, none] (tLc (iList K (tVar 0)) (gName 8) tYes (tCall (spHang K C nf) [] E0 (tCons (tCall (spOfB K C) [] E0 (tCons (tVar 8) tNil)) tNil)) [8]) (rows.map fun r => prtD (ans r)) := fun H Q s q => by
  have hl0 := s _ _ hl
  refine ⟨_, rfl, l, rfl, ⟨_, SqL.of hl0⟩, ?_⟩
  refine lc_walkL (vs := [8]) (σ := [some (.ref l), v1, v2, v3, v4, v5, v6, v7, none, none]) (Qr := fun D H' => Q (.ref D) H') (SqL.of hl0) (fun D j H' => Same H H' ∧ ∃ us : List V, H' D = some (.lst us) ∧ us.length = j ∧ PrAll K H' us ((rows.take j).map ans))
    (fun D hD => ⟨Sx.Same.new hD, [], upd_same, rfl, .nil⟩) (fun D j H' p => SqL.of (p.1 _ _ hl0)) ?_ ?_
  · rintro D j x H' hj hD ⟨s1, us, hd, hul, hus⟩
    rw [List.getElem?_map] at hj
    obtain ⟨r, hr, rfl⟩ := Option.map_eq_some_iff.mp hj
    have rm := List.mem_of_getElem? hr
    have lt := (List.getElem?_eq_some_iff.mp hr).1
    obtain ⟨o1, o2, o3⟩ := ok r rm
    refine ⟨rfl, ?_⟩
    unfold tYes
    dsimp only
    rw [if_pos rfl]
    refine ⟨_, rfl, r.t, r.ks, r.ps, rfl, o1, fun b H2 s2 hB => ⟨b, _, _, rfl, hB, o2, fun a H3 s3 p => ?_⟩⟩
    have s23 := s2.trans s3
    have hd3 := s23 _ _ hd
    have e3 : partsM (nf (srt ltS r.ks) (srt ltP (r.ps.map nrm))) (srt ltS r.ks) = ans r := o3
    rw [e3] at p
    refine ⟨us, hd3, by rw [hul]; exact Nat.lt_trans lt (small1000 (by omega)), Same.mut (s1.trans s23) hD, us ++ [.ref a], upd_same, by rw [List.length_append, hul]; rfl, ?_⟩
    rw [Sx.take_snoc hr, List.map_append]
    exact paired_snoc (paired_imp (fun v Ls ⟨a', e', p'⟩ => ⟨a', e', prt_upd (p'.same s23) hd3⟩) hus) ⟨a, rfl, prt_upd p hd3⟩
  · rintro D H' hD ⟨s1, us, hd, hul, hus⟩
    rw [List.length_map, List.take_length] at hus
    have y := prAll_dps hus
    rw [List.map_map] at y
    exact q D us H' s1 hd y
end Sx

/-! LawN -/
namespace Sx
open PySem PySem.Spec PyProof.Rows L2
/-! ### how the names of the law's hand part stand -/
def SL (H : Hp) (v : Option V) : Option (List Str) → Prop
  | none => v = none
  | some L => ∃ l, v = some (.ref l) ∧ H l = some (.lst (L.map V.str))
def SD (K : PySem.W.Frag) (H : Hp) (v : Option V) : Option (List PyData) → Prop
  | none => v = none
  | some ds => ∃ l xs, v = some (.ref l) ∧ H l = some (.lst xs) ∧ DpAll K H xs ds
def SB (K : PySem.W.Frag) (C : Addr) (H : Hp) (v : Option V) : Option (List Str × List (Str × Str)) → Prop
  | none => v = none
  | some p => ∃ b, v = some (.ref b) ∧ BookAt K C H b p.1 p.2
theorem SL.same {H H' : Hp} {v : Option V} (s : Same H H') : ∀ {x}, SL H v x → SL H' v x
  | none, h => h
  | some _, ⟨l, e, h⟩ => ⟨l, e, s _ _ h⟩
theorem SD.same {K : PySem.W.Frag} {H H' : Hp} {v : Option V} (s : Same H H') : ∀ {x}, SD K H v x → SD K H' v x
  | none, h => h
  | some _, ⟨l, xs, e, h, d⟩ => ⟨l, xs, e, s _ _ h, dps_same s _ d⟩
theorem SB.same {K : PySem.W.Frag} {C : Addr} {H H' : Hp} {v : Option V} (s : Same H H') : ∀ {x}, SB K C H v x → SB K C H' v x
  | none, h => h
  | some _, ⟨b, e, h⟩ => ⟨b, e, h.same s⟩
structure HS (K : PySem.W.Frag) (C : Addr) (H0 : Hp) (tx : Option (List Str)) (gt go : Option (List PyData)) (fk : Option (List Str × List (Str × Str))) (v4 : Option V) (fr ln : Option (List Str)) (wd : Option (List Str × List (Str × Str))) (σ : L2.St) (H : Hp) : Prop where
  ex : ∃ v0 v1 v2 v3 v5 v6 v7 : Option V, σ = [v0, v1, v2, v3, v4, v5, v6, v7, none, none] ∧ SL H v0 tx ∧ SD K H v1 gt ∧ SD K H v2 go ∧ SB K C H v3 fk ∧ SL H v5 fr ∧ SL H v6 ln ∧ SB K C H v7 wd
  same : Same H0 H
section
variable {K : PySem.W.Frag} {C : Addr} {H0 H : Hp} {tx : Option (List Str)} {gt go : Option (List PyData)} {fk : Option (List Str × List (Str × Str))} {v4 : Option V} {fr ln : Option (List Str)} {wd : Option (List Str × List (Str × Str))} {σ : L2.St} {D : Ends} {te : TE} {u : TS} {ds es : List PyData} {L M : List Str} {ks : List Str} {cs : List (Str × Str)}
theorem cut_tx (h : HS K C H0 tx gt go fk v4 fr ln wd σ H) (g : EvS K H σ te L) (N : ∀ σ' H', HS K C H0 (some L) gt go fk v4 fr ln wd σ' H' → u D σ' H') : Evl.tCut (tAsg te (gName 0)) u D σ H := by
  obtain ⟨v0, v1, v2, v3, v5, v6, v7, rfl, a0, a1, a2, a3, a5, a6, a7⟩ := h.ex
  exact ⟨_, g H _ same_id fun l H' s hl => N _ _ ⟨⟨some (.ref l), v1, v2, v3, v5, v6, v7, rfl, ⟨l, rfl, hl⟩, a1.same s, a2.same s, a3.same s, a5.same s, a6.same s, a7.same s⟩, h.same.trans s⟩, fun _ _ h => h⟩
theorem cut_gt (h : HS K C H0 tx gt go fk v4 fr ln wd σ H) (g : EvL K H σ te ds) (N : ∀ σ' H', HS K C H0 tx (some ds) go fk v4 fr ln wd σ' H' → u D σ' H') : Evl.tCut (tAsg te (gName 1)) u D σ H := by
  obtain ⟨v0, v1, v2, v3, v5, v6, v7, rfl, a0, a1, a2, a3, a5, a6, a7⟩ := h.ex
  exact ⟨_, g H _ same_id fun l xs H' s hl hd => N _ _ ⟨⟨v0, some (.ref l), v2, v3, v5, v6, v7, rfl, a0.same s, ⟨l, xs, rfl, hl, hd⟩, a2.same s, a3.same s, a5.same s, a6.same s, a7.same s⟩, h.same.trans s⟩, fun _ _ h => h⟩
theorem cut_go (h : HS K C H0 tx gt go fk v4 fr ln wd σ H) (g : EvL K H σ te ds) (N : ∀ σ' H', HS K C H0 tx gt (some ds) fk v4 fr ln wd σ' H' → u D σ' H') : Evl.tCut (tAsg te (gName 2)) u D σ H := by
  obtain ⟨v0, v1, v2, v3, v5, v6, v7, rfl, a0, a1, a2, a3, a5, a6, a7⟩ := h.ex
  exact ⟨_, g H _ same_id fun l xs H' s hl hd => N _ _ ⟨⟨v0, v1, some (.ref l), v3, v5, v6, v7, rfl, a0.same s, a1.same s, ⟨l, xs, rfl, hl, hd⟩, a3.same s, a5.same s, a6.same s, a7.same s⟩, h.same.trans s⟩, fun _ _ h => h⟩
theorem cut_fk (h : HS K C H0 tx gt go fk v4 fr ln wd σ H) (g : EvB K C H σ te ks cs) (N : ∀ σ' H', HS K C H0 tx gt go (some (ks, cs)) v4 fr ln wd σ' H' → u D σ' H') : Evl.tCut (tAsg te (gName 3)) u D σ H := by
  obtain ⟨v0, v1, v2, v3, v5, v6, v7, rfl, a0, a1, a2, a3, a5, a6, a7⟩ := h.ex
  exact ⟨_, g H _ same_id fun b H' s hb => N _ _ ⟨⟨v0, v1, v2, some (.ref b), v5, v6, v7, rfl, a0.same s, a1.same s, a2.same s, ⟨b, rfl, hb⟩, a5.same s, a6.same s, a7.same s⟩, h.same.trans s⟩, fun _ _ h => h⟩
theorem cut_sg {x : Str} (h : HS K C H0 tx gt go fk v4 fr ln wd σ H) (N : ∀ σ' H', HS K C H0 tx gt go fk (some (.str x)) fr ln wd σ' H' → u D σ' H') : Evl.tCut (tAsg (tC (.str x)) (gName 4)) u D σ H := by
  obtain ⟨v0, v1, v2, v3, v5, v6, v7, rfl, a⟩ := h.ex
  exact ⟨_, N _ _ ⟨⟨v0, v1, v2, v3, v5, v6, v7, rfl, a⟩, h.same⟩, fun _ _ h => h⟩
theorem cut_fr (h : HS K C H0 tx gt go fk v4 fr ln wd σ H) (g : EvS K H σ te L) (N : ∀ σ' H', HS K C H0 tx gt go fk v4 (some L) ln wd σ' H' → u D σ' H') : Evl.tCut (tAsg te (gName 5)) u D σ H := by
  obtain ⟨v0, v1, v2, v3, v5, v6, v7, rfl, a0, a1, a2, a3, a5, a6, a7⟩ := h.ex
  exact ⟨_, g H _ same_id fun l H' s hl => N _ _ ⟨⟨v0, v1, v2, v3, some (.ref l), v6, v7, rfl, a0.same s, a1.same s, a2.same s, a3.same s, ⟨l, rfl, hl⟩, a6.same s, a7.same s⟩, h.same.trans s⟩, fun _ _ h => h⟩
theorem cut_ln (h : HS K C H0 tx gt go fk v4 fr ln wd σ H) (g : EvS K H σ te L) (N : ∀ σ' H', HS K C H0 tx gt go fk v4 fr (some L) wd σ' H' → u D σ' H') : Evl.tCut (tAsg te (gName 6)) u D σ H := by
  obtain ⟨v0, v1, v2, v3, v5, v6, v7, rfl, a0, a1, a2, a3, a5, a6, a7⟩ := h.ex
  exact ⟨_, g H _ same_id fun l H' s hl => N _ _ ⟨⟨v0, v1, v2, v3, v5, some (.ref l), v7, rfl, a0.same s, a1.same s, a2.same s, a3.same s, a5.same s, ⟨l, rfl, hl⟩, a7.same s⟩, h.same.trans s⟩, fun _ _ h => h⟩
theorem cut_wd (h : HS K C H0 tx gt go fk v4 fr ln wd σ H) (g : EvB K C H σ te ks cs) (N : ∀ σ' H', HS K C H0 tx gt go fk v4 fr ln (some (ks, cs)) σ' H' → u D σ' H') : Evl.tCut (tAsg te (gName 7)) u D σ H := by
  obtain ⟨v0, v1, v2, v3, v5, v6, v7, rfl, a0, a1, a2, a3, a5, a6, a7⟩ := h.ex
  exact ⟨_, g H _ same_id fun b H' s hb => N _ _ ⟨⟨v0, v1, v2, v3, v5, v6, some (.ref b), rfl, a0.same s, a1.same s, a2.same s, a3.same s, a5.same s, a6.same s, ⟨b, rfl, hb⟩⟩, h.same.trans s⟩, fun _ _ h => h⟩
theorem HS.etx (h : HS K C H0 (some L) gt go fk v4 fr ln wd σ H) : EvS K H σ (tVar 0) L := by
  obtain ⟨v0, v1, v2, v3, v5, v6, v7, rfl, ⟨l, rfl, hl⟩, a1, a2, a3, a5, a6, a7⟩ := h.ex
  exact evs_var rfl hl
theorem HS.efr (h : HS K C H0 tx gt go fk v4 (some L) ln wd σ H) : EvS K H σ (tVar 5) L := by
  obtain ⟨v0, v1, v2, v3, v5, v6, v7, rfl, a0, a1, a2, a3, ⟨l, rfl, hl⟩, a6, a7⟩ := h.ex
  exact evs_var rfl hl
theorem HS.eln (h : HS K C H0 tx gt go fk v4 fr (some L) wd σ H) : EvS K H σ (tVar 6) L := by
  obtain ⟨v0, v1, v2, v3, v5, v6, v7, rfl, a0, a1, a2, a3, a5, ⟨l, rfl, hl⟩, a7⟩ := h.ex
  exact evs_var rfl hl
theorem HS.efk (h : HS K C H0 tx gt go (some (ks, cs)) v4 fr ln wd σ H) : EvB K C H σ (tVar 3) ks cs := by
  obtain ⟨v0, v1, v2, v3, v5, v6, v7, rfl, a0, a1, a2, ⟨b, rfl, hb⟩, a5, a6, a7⟩ := h.ex
  exact evb_var rfl hb
theorem HS.ewd (h : HS K C H0 tx gt go fk v4 fr ln (some (ks, cs)) σ H) : EvB K C H σ (tVar 7) ks cs := by
  obtain ⟨v0, v1, v2, v3, v5, v6, v7, rfl, a0, a1, a2, a3, a5, a6, ⟨b, rfl, hb⟩⟩ := h.ex
  exact evb_var rfl hb
theorem HS.gtc (h : HS K C H0 tx (some es) go fk v4 fr ln wd σ H) (g : EvL K H σ te ds) (len : es.length + ds.length ≤ 1000 := by decide) : EvL K H σ (tOp rCat (tVar 1) te) (es ++ ds) := by
  obtain ⟨v0, v1, v2, v3, v5, v6, v7, rfl, a0, ⟨l, xs, rfl, hl, hd⟩, a2, a3, a5, a6, a7⟩ := h.ex
  exact evl_cat rfl hl hd g len
theorem HS.goc (h : HS K C H0 tx gt (some es) fk v4 fr ln wd σ H) (g : EvL K H σ te ds) (len : es.length + ds.length ≤ 1000 := by decide) : EvL K H σ (tOp rCat (tVar 2) te) (es ++ ds) := by
  obtain ⟨v0, v1, v2, v3, v5, v6, v7, rfl, a0, a1, ⟨l, xs, rfl, hl, hd⟩, a3, a5, a6, a7⟩ := h.ex
  exact evl_cat rfl hl hd g len
theorem HS.item {j : Nat} {k : Str} (h : HS K C H0 tx gt go fk v4 fr (some L) wd σ H) (e : L[j]? = some k) : ∀ (H' : Hp) (Q : VK), Same H H' → Q (.str k) H' → tOp (rIxL K) (tVar 6) (tC (.int (j : Nat))) σ H' Q := by
  obtain ⟨v0, v1, v2, v3, v5, v6, v7, rfl, a0, a1, a2, a3, a5, ⟨l, rfl, hl⟩, a7⟩ := h.ex
  exact fun H' Q s q => ⟨_, rfl, l, _, _, .str k, rfl, rfl, SqL.of (s _ _ hl), atI_nat (by rw [List.getElem?_map, e]; rfl), q⟩
/-! written lists of texts -/
def Cst (ta : TA) (L : List Str) : Prop := ∀ σ H (Q : List V → Hp → Prop), Q (L.map V.str) H → ta σ H Q
theorem cst_nil : Cst tNil [] := fun _ _ _ h => h
theorem cst_cons {ta : TA} {x : Str} (g : Cst ta L) : Cst (tCons (tC (.str x)) ta) (x :: L) := fun σ H Q h => g σ H _ h
theorem evs_lst {ta : TA} (g : Cst ta L) (hl : L.length ≤ 1000 := by decide) : EvS K H σ (tLst ta) L := fun H2 Q s q =>
  g σ H2 _ ⟨by rw [List.length_map]; exact Nat.le_of_lt (small1000 hl), fun p hp => q p _ (Sx.Same.new hp) upd_same⟩
end
theorem fm26 {x : Nat} : Int.fmod (0 + (x : Int)) 26 = ((x % 26 : Nat) : Int) := by
  rw [Int.fmod_eq_emod_of_nonneg _ (by decide), Int.zero_add]
  rfl
theorem fd26 {x : Nat} : Int.fdiv (0 + (x : Int)) 26 = ((x / 26 : Nat) : Int) := by
  rw [Int.fdiv_eq_ediv_of_nonneg _ (by decide), Int.zero_add]
  rfl
theorem far_take (n : Nat) : ((List.range (n + 1)).map fun k => signM (k / 26) ++ signM (k % 26)) = ((List.range n).map fun k => signM (k / 26) ++ signM (k % 26)) ++ [signM (n / 26) ++ signM (n % 26)] := range_take _ n
section
variable {P : Program} {w : World} {K : PySem.W.Frag} {mg : Str → Option Value} {base : Heap}
abbrev sHand : Stmt := top 26
abbrev nHand : List Str := ["_law_texts", "_law_got", "_law_goal", "_law_fork_so", "_law_signs", "_law_far", "_law_line_so", "_law_wide", "_law_flat", "_law_k"]
theorem scHand : FnScope nHand [] (defScope sHand) := ⟨rfl, rfl, rfl, by decide +kernel, rfl, by decide +kernel, by decide +kernel⟩
def spHand : Sp := fun vs H Q _ => vs = [] ∧ ∀ H', Same H H' → Q (.bl true) H'
def KwG (P : Program) (w : World) (K : PySem.W.Frag) (mg : Str → Option Value) (base : Heap) (x : Str) (k : Nat) (y : Str) (sp : Sp) : Prop := ∃ f fd, mg x = some (.ref f) ∧ PySem.W.keepIn K (.ref f) = true ∧ FnOk P w K mg base CX0 k f fd [y] sp ∧ KBinds K fd [y] [y] (fun us ws => us ++ ws) (fun vs zs => vs ++ zs)
theorem pe_kg {X : Cx} {x y : Str} {k : Nat} {sp : Sp} {p pos : Pos} {kws : List Keyword} {tk : TA} (G : KwG X.prog X.w X.K X.mg X.base x k y sp) (hr : Room k X.A) (hkw : PK X kws tk) (hg : Gl X x := by rfl)
    (hall : (backToKw pos (keywordEach kws X.env)).all (·.1.isSome) = true := by rfl) (hks : (backToKw pos (keywordEach kws X.env)).filterMap (·.1) = [y] := by rfl)
    (hdb : (x == ("__debug__" : Str)) = false := by decide) (hpl : ((backTo pos (starEach [] X.env)).any (·.1) || (backToKw pos (keywordEach kws X.env)).any (·.1.isNone)) = false := by rfl) :
    PE X (.Call (.Name x p) [] kws pos) (fun σ H Q => tk σ H fun zs H1 => sp ((fun vs zs => vs ++ zs) [] zs) H1 Q E0) := by
  obtain ⟨f, fd, hm, kp, F, b⟩ := G
  exact pe_callK0 F hr hg hm kp b pass0 hkw hall hks hdb hpl
end
end Sx

/-! LawO -/
namespace Sx
open PySem PySem.Spec PyProof.Rows L2
section
variable {P : Program} {w : World} {K : PySem.W.Frag} {mg : Str → Option Value} {base : Heap}
theorem HS.books {C : Addr} {H0 H : Hp} {gt go : Option (List PyData)} {fk : Option (List Str × List (Str × Str))} {v4 : Option V} {fr ln : Option (List Str)} {wd : Option (List Str × List (Str × Str))} {σ : L2.St} {nf : List Str → List (Str × Str) → Str → List Str}
    (h : HS K C H0 (some (hR.map (·.t))) gt go fk v4 fr ln wd σ H) (ans : HRow → List (List Str)) (ok : ∀ r ∈ hR, OfOk r.t r.ks r.ps ∧ Std r.K r.C ∧ partsM (nf r.K r.C) r.K = ans r) :
    EvL K H σ (tLc (iList K (tVar 0)) (gName 8) tYes (tCall (spHang K C nf) [] E0 (tCons (tCall (spOfB K C) [] E0 (tCons (tVar 8) tNil)) tNil)) [8]) (hR.map fun r => prtD (ans r)) := by
  obtain ⟨v0, v1, v2, v3, v5, v6, v7, rfl, ⟨l, rfl, hl⟩, a1, a2, a3, a5, a6, a7⟩ := h.ex
  rw [List.map_map] at hl
  exact evl_books ans hl (by decide) ok
theorem HS.far {C : Addr} {H0 H : Hp} {tx : Option (List Str)} {gt go : Option (List PyData)} {fk : Option (List Str × List (Str × Str))} {fr ln : Option (List Str)} {wd : Option (List Str × List (Str × Str))} {σ : L2.St}
    (h : HS K C H0 tx gt go fk (some (.str signsM)) fr ln wd σ H) :
    EvS K H σ (tLc (iRng1 (tCons (tC (.int 40)) tNil)) (gName 9) tYes (tOp (fun x y H Q => ∃ i j, x = .str i ∧ y = .str j ∧ i.length + j.length ≤ sizeLine ∧ Q (.str (i ++ j)) H)
      (tOp (fun x y H Q => ∃ z i c, x = .str z ∧ y = .int i ∧ 0 ≤ i ∧ i < 2 ^ 63 ∧ i < z.length ∧ z.cps[i.toNat]? = some c ∧ Q (.str ⟨#[c]⟩) H) (tVar 4) (tOp (rI CDivN fun i j => .int (i.fdiv j)) (tVar 9) (tC (.int 26))))
      (tOp (fun x y H Q => ∃ z i c, x = .str z ∧ y = .int i ∧ 0 ≤ i ∧ i < 2 ^ 63 ∧ i < z.length ∧ z.cps[i.toNat]? = some c ∧ Q (.str ⟨#[c]⟩) H) (tVar 4)
        (tOp (rI (fun _ j => j ≠ 0) fun i j => .int (i.fmod j)) (tCB (fun xs H Q => (∃ i, xs = [.int i] ∧ Q (.int i) H) ∨ ∃ k, xs = [.bl k] ∧ Q (.int (if k then 1 else 0)) H) (tCons (tVar 9) tNil)) (tC (.int 26))))) [9]) farM := fun H1 Q s0 q => by
  obtain ⟨v0, v1, v2, v3, v5, v6, v7, rfl, a0, a1, a2, a3, a5, a6, a7⟩ := h.ex
  refine ⟨40, rfl, by decide, by decide, ?_⟩
  refine lc_walkR (n := 40) (vs := [9]) (σ := [v0, v1, v2, v3, some (.str signsM), v5, v6, v7, none, none]) (Qr := fun D H' => Q (.ref D) H') (fun D i H' => Same H1 H' ∧ H' D = some (.lst (((List.range i).map fun k => signM (k / 26) ++ signM (k % 26)).map V.str)))
    (fun D hD => ⟨Sx.Same.new hD, upd_same⟩) ?_ ?_
  · rintro D i x H' ⟨hi, rfl⟩ hD ⟨s, hd⟩
    have i1 : i / 26 < 26 := by omega
    have i2 : i % 26 < 26 := Nat.mod_lt _ (by decide)
    have l1 : (signM (i / 26)).length = 1 := rfl
    have l2 : (signM (i % 26)).length = 1 := rfl
    refine ⟨rfl, ?_⟩
    unfold tYes
    dsimp only
    rw [if_pos rfl]
    refine ⟨_, rfl, _, rfl, _, _, rfl, rfl, ⟨by decide, by decide⟩, signsM, ((i / 26 : Nat) : Int), 97 + i / 26, rfl, congrArg V.int fd26, by omega, by omega, by rw [signs_len]; omega, ?_, ?_⟩
    · rw [Int.toNat_natCast]
      exact signs_at ⟨_, i1⟩
    refine ⟨_, rfl, _, rfl, .inl ⟨_, rfl, _, _, rfl, rfl, (show (26 : Int) ≠ 0 by decide), signsM, ((i % 26 : Nat) : Int), 97 + i % 26, rfl, congrArg V.int fm26, by omega, by omega, by rw [signs_len]; omega, ?_, ?_⟩⟩
    · rw [Int.toNat_natCast]
      exact signs_at ⟨_, i2⟩
    refine ⟨signM (i / 26), signM (i % 26), rfl, rfl, by rw [l1, l2, sizeLine_eq]; omega, _, hd, ?_, Sx.Same.mut s hD, ?_⟩
    · rw [List.length_map, List.length_map, List.length_range, sizeLine_eq]
      omega
    · rw [upd_same, far_take, List.map_append]
      rfl
  · rintro D H' hD ⟨s, hd⟩
    exact q D H' s hd
theorem HS.wide {C : Addr} {H0 H : Hp} {tx : Option (List Str)} {gt go : Option (List PyData)} {fk : Option (List Str × List (Str × Str))} {v4 : Option V} {wd : Option (List Str × List (Str × Str))} {σ : L2.St}
    (h : HS K C H0 tx gt go fk v4 (some farM) (some lineM) wd σ H) :
    EvB K C H σ (tMake C (spInit K C) [] E0 (tCons (tVar 5) (tCons (tLZip K (tCons (tVar 6) (tCons (L2.tSl (rSlL K) (tVar 6) (tPart (tC (.int 1))) tNoPart) tNil))) tNil))) farM wideC := fun H1 Q s0 q => by
  unfold tMake tCons tLZip tNil
  refine h.efr H1 _ s0 fun lf H2 s1 hf => ?_
  refine h.eln H2 _ (s0.trans s1) fun ll H3 s2 hl => ?_
  refine (evs_cut (M := lineM.tail) h.eln (fun _ _ q => ⟨1, rfl, q⟩) (fun _ _ q => q) (by decide +kernel)) H3 _ (s0.trans (s1.trans s2)) fun lt H4 s3 ht => ?_
  refine ⟨ll, lt, lineM.map V.str, lineM.tail.map V.str, rfl, SqL.of (s3 _ _ hl), SqL.of ht, by decide +kernel, fun l ts H5 s4 hls hp => ?_⟩
  intro x dx nx ndx nex
  have s5 : Same H5 (upd (upd H5 dx (.own x)) x (.ins C dx [])) := (Sx.Same.new ndx).trans (Sx.Same.new (by rw [upd_ne nex.symm]; exact nx))
  have e : (lineM.map V.str).zip (lineM.tail.map V.str) = (lineM.zip lineM.tail).map fun c => (V.str c.1, V.str c.2) := by
    rw [List.zip_map]
    rfl
  rw [e] at hp
  have hp2 : Paired (fun t (c : Str × Str) => H5 t = some (.tup [.str c.1, .str c.2])) ts (lineM.zip lineM.tail) := paired_lists (F := fun t (p : V × V) => H5 t = some (.tup [p.1, p.2])) (f := fun c : Str × Str => (V.str c.1, V.str c.2)) hp
  have hf5 := (s2.trans (s3.trans (s4.trans s5))) _ _ hf
  refine ⟨x, dx, lf, l, ts, farM, lineM.zip lineM.tail, rfl, upd_same, .inl (SqL.of hf5), .inl (SqL.of (s5 _ _ hls)), paired_imp (fun t c h => .inr (SqT.of (s5 _ _ h))) hp2, by decide +kernel, by decide +kernel, by decide +kernel, fun H6 hB k6 => ⟨rfl, ?_⟩⟩
  rw [far_srt] at hB
  refine q x H6 (fun b o eb => ?_) hB
  have e5 := (s1.trans (s2.trans (s3.trans s4))) _ _ eb
  exact k6 b o (s5 _ _ e5) fun z => by rw [z, nx] at e5; cases e5
abbrev WithoutG (P : Program) (w : World) (K : PySem.W.Frag) (mg : Str → Option Value) (base : Heap) (C : Addr) : Prop := MtG P w K mg base C "without" 4 ["self", "kind"] (spWithout K C)
abbrev OfG (P : Program) (w : World) (K : PySem.W.Frag) (mg : Str → Option Value) (base : Heap) (C : Addr) : Prop := SmG P w K mg base C "of" 3 ["text"] (spOfB K C)
theorem ok_hand {C : Addr} {f : Addr} {fd : FuncData} {dvs : List V} (F : FunD K "_law_by_hand_right" "_law_by_hand_right" (defArgs sHand) (defBody sHand) (defScope sHand) dvs [] f fd) (T : TB K mg C) (hB : mg "Book" = some (.ref C)) (GS : SameG P w K mg base) (GK : KnotsG P w K mg base C) (GP : PeacesG P w K mg base C) (GU : TurnG P w K mg base C)
    (GF : OfG P w K mg base C) (GB : InitG P w K mg base C) (GW : WithoutG P w K mg base C) (KK : KwG P w K mg base "knots" 3 "book" (spKnots K C)) (KP : KwG P w K mg base "peaces" 3 "book" (spPeaces K C)) : FnOk P w K mg base CX0 5 f fd [] spHand := by
  refine F.ok scHand (fun vs H Q E h => ?_) (fun cdv A outer s H vs Q E hr h => ?_)
  · obtain ⟨rfl, _⟩ := h
    rfl
  · obtain ⟨rfl, q⟩ := h
    have hr2 : Room 2 (A.deeper (envOfC "_law_by_hand_right" (defScope sHand) s.heap.objs.size f cdv)) := hr.mono (by decide)
    have hr3 : Room 3 (A.deeper (envOfC "_law_by_hand_right" (defScope sHand) s.heap.objs.size f cdv)) := hr.mono (by decide)
    refine ⟨_, (Evl.pss_cut (ps_set (i := 0) scHand.nd rfl (Or.inl rfl) (pe_lst (pa_cons pe_str (pa_cons pe_str (pa_cons pe_str (pa_cons pe_str pa_nil))))))
      (Evl.pss_cut (ps_set (i := 0) scHand.nd rfl (Or.inl rfl) (pe_op op_cat (pv 0) (pe_lst (pa_cons pe_str (pa_cons pe_str pa_nil)))))
      (Evl.pss_cut (ps_set (i := 0) scHand.nd rfl (Or.inl rfl) (pe_op op_cat (pv 0) (pe_lst (pa_cons pe_str (pa_cons pe_str (pa_cons pe_str (pa_cons pe_str pa_nil)))))))
      (Evl.pss_cut (ps_setLc (i := 1) (own := [("_law_flat", 8)]) (g := gName 8) (tt := tYes) (by rfl) scHand.nd rfl rfl (sw_true rfl rfl rfl (by decide +kernel)) (pi_list (pv 0)) (blkOk_by (N := nHand) (sc := defScope sHand) (by decide +kernel)) (fun _ _ _ _ _ => pg_name (i := 8) scHand.nd rfl (Or.inl rfl)) (fun _ _ _ _ _ => pts_nil) (fun _ _ _ _ _ => (pe_g GK hr3 (pa_cons (pe_sg GF hB hr3 (pa_cons (pv 8) pa_nil)) pa_nil))))
      (Evl.pss_cut (ps_set (i := 2) scHand.nd rfl (Or.inl rfl) (pe_lst (pa_cons (pe_tup (pa_cons (pe_tup (pa_cons pe_str (pa_cons pe_str (pa_cons pe_str pa_nil)))) pa_nil)) (pa_cons (pe_tup (pa_cons (pe_tup (pa_cons pe_str (pa_cons pe_str pa_nil))) (pa_cons (pe_tup (pa_cons pe_str pa_nil)) pa_nil))) (pa_cons (pe_tup (pa_cons (pe_tup (pa_cons pe_str (pa_cons pe_str (pa_cons pe_str (pa_cons pe_str pa_nil))))) pa_nil)) (pa_cons (pe_tup (pa_cons (pe_tup (pa_cons pe_str (pa_cons pe_str (pa_cons pe_str (pa_cons pe_str pa_nil))))) pa_nil)) (pa_cons (pe_tup pa_nil) pa_nil)))))))
      (Evl.pss_cut (ps_set (i := 2) scHand.nd rfl (Or.inl rfl) (pe_op op_cat (pv 2) (pe_lst (pa_cons (pe_tup (pa_cons (pe_tup (pa_cons pe_str pa_nil)) pa_nil)) pa_nil))))
      (Evl.pss_cut (ps_set (i := 2) scHand.nd rfl (Or.inl rfl) (pe_op op_cat (pv 2) (pe_lst (pa_cons (pe_tup (pa_cons (pe_tup (pa_cons pe_str (pa_cons pe_str pa_nil))) (pa_cons (pe_tup (pa_cons pe_str pa_nil)) (pa_cons (pe_tup (pa_cons pe_str pa_nil)) pa_nil)))) (pa_cons (pe_tup (pa_cons (pe_tup (pa_cons pe_str (pa_cons pe_str pa_nil))) (pa_cons (pe_tup (pa_cons pe_str (pa_cons pe_str pa_nil))) pa_nil))) (pa_cons (pe_tup (pa_cons (pe_tup (pa_cons pe_str (pa_cons pe_str pa_nil))) (pa_cons (pe_tup (pa_cons pe_str (pa_cons pe_str pa_nil))) (pa_cons (pe_tup (pa_cons pe_str pa_nil)) pa_nil)))) pa_nil))))))
      (Evl.pss_cut (ps_set (i := 2) scHand.nd rfl (Or.inl rfl) (pe_op op_cat (pv 2) (pe_lst (pa_cons (pe_tup (pa_cons (pe_tup (pa_cons pe_str (pa_cons pe_str pa_nil))) pa_nil)) pa_nil))))
      (Evl.pss_cut (ps_set (i := 1) scHand.nd rfl (Or.inl rfl) (pe_op op_cat (pv 1) (pe_lc (own := [("_law_flat", 8)]) (g := gName 8) (tt := tYes) rfl scHand.nd (pi_list (pv 0)) (blkOk_by (N := nHand) (sc := defScope sHand) (by decide +kernel)) (fun _ _ _ _ _ => pg_name (i := 8) scHand.nd rfl (Or.inl rfl)) (fun _ _ _ _ _ => pts_nil) (fun _ _ _ _ _ => (pe_g GP hr3 (pa_cons (pe_sg GF hB hr3 (pa_cons (pv 8) pa_nil)) pa_nil))))))
      (Evl.pss_cut (ps_set (i := 2) scHand.nd rfl (Or.inl rfl) (pe_op op_cat (pv 2) (pe_lst (pa_cons (pe_tup (pa_cons (pe_tup (pa_cons pe_str (pa_cons pe_str pa_nil))) (pa_cons (pe_tup (pa_cons pe_str pa_nil)) pa_nil))) (pa_cons (pe_tup (pa_cons (pe_tup (pa_cons pe_str (pa_cons pe_str (pa_cons pe_str pa_nil)))) pa_nil)) (pa_cons (pe_tup (pa_cons (pe_tup (pa_cons pe_str (pa_cons pe_str pa_nil))) (pa_cons (pe_tup (pa_cons pe_str (pa_cons pe_str pa_nil))) pa_nil))) (pa_cons (pe_tup (pa_cons (pe_tup (pa_cons pe_str (pa_cons pe_str (pa_cons pe_str (pa_cons pe_str pa_nil))))) pa_nil)) pa_nil)))))))
      (Evl.pss_cut (ps_set (i := 2) scHand.nd rfl (Or.inl rfl) (pe_op op_cat (pv 2) (pe_lst (pa_cons (pe_tup pa_nil) (pa_cons (pe_tup (pa_cons (pe_tup (pa_cons pe_str pa_nil)) pa_nil)) (pa_cons (pe_tup (pa_cons (pe_tup (pa_cons pe_str (pa_cons pe_str (pa_cons pe_str (pa_cons pe_str pa_nil))))) pa_nil)) (pa_cons (pe_tup (pa_cons (pe_tup (pa_cons pe_str (pa_cons pe_str (pa_cons pe_str (pa_cons pe_str pa_nil))))) pa_nil)) pa_nil)))))))
      (Evl.pss_cut (ps_set (i := 2) scHand.nd rfl (Or.inl rfl) (pe_op op_cat (pv 2) (pe_lst (pa_cons (pe_tup (pa_cons (pe_tup (pa_cons pe_str (pa_cons pe_str (pa_cons pe_str (pa_cons pe_str (pa_cons pe_str pa_nil)))))) pa_nil)) (pa_cons (pe_tup (pa_cons (pe_tup (pa_cons pe_str pa_nil)) (pa_cons (pe_tup (pa_cons pe_str pa_nil)) pa_nil))) pa_nil)))))
      (Evl.pss_cut (ps_set (i := 1) scHand.nd rfl (Or.inl rfl) (pe_op op_cat (pv 1) (pe_lst (pa_cons (pe_kg KK hr3 (pk_cons (pe_sg GF hB hr3 (pa_cons pe_str pa_nil)) pk_nil)) (pa_cons (pe_kg KP hr3 (pk_cons (pe_sg GF hB hr3 (pa_cons pe_str pa_nil)) pk_nil)) pa_nil)))))
      (Evl.pss_cut (ps_set (i := 2) scHand.nd rfl (Or.inl rfl) (pe_op op_cat (pv 2) (pe_lst (pa_cons (pe_tup (pa_cons (pe_tup (pa_cons pe_str (pa_cons pe_str pa_nil))) pa_nil)) (pa_cons (pe_tup (pa_cons (pe_tup (pa_cons pe_str pa_nil)) (pa_cons (pe_tup (pa_cons pe_str pa_nil)) pa_nil))) pa_nil)))))
      (Evl.pss_cut (ps_set (i := 3) scHand.nd rfl (Or.inl rfl) (pe_sg GF hB hr3 (pa_cons pe_str pa_nil)))
      (Evl.pss_cut (ps_set (i := 1) scHand.nd rfl (Or.inl rfl) (pe_op op_cat (pv 1) (pe_lst (pa_cons (pe_g GK hr3 (pa_cons (pv 3) pa_nil)) (pa_cons (pe_g GP hr3 (pa_cons (pv 3) pa_nil)) (pa_cons (pe_g GP hr3 (pa_cons (pe_mg0 GU T.cl (pv 3) hr3) pa_nil)) pa_nil))))))
      (Evl.pss_cut (ps_set (i := 2) scHand.nd rfl (Or.inl rfl) (pe_op op_cat (pv 2) (pe_op op_rep (pe_lst (pa_cons (pe_tup (pa_cons (pe_tup (pa_cons pe_str (pa_cons pe_str (pa_cons pe_str (pa_cons pe_str (pa_cons pe_str pa_nil)))))) pa_nil)) pa_nil)) pe_int)))
      (Evl.pss_cut (ps_set (i := 4) scHand.nd rfl (Or.inr rfl) pe_str)
      (Evl.pss_cut (ps_setLc (i := 5) (own := [("_law_k", 9)]) (g := gName 9) (tt := tYes) (by rfl) scHand.nd rfl rfl (sw_true rfl rfl rfl (by decide +kernel)) (pi_range1 (by rfl) T.range (pa_cons pe_int pa_nil)) (blkOk_by (N := nHand) (sc := defScope sHand) (by decide +kernel)) (fun _ _ _ _ _ => pg_name (i := 9) scHand.nd rfl (Or.inl rfl)) (fun _ _ _ _ _ => pts_nil) (fun _ _ _ _ _ => (pe_op op_add_str (pe_item_str (pv 4) (pe_op op_fdivN (pv 9) pe_int) (fun _ _ => rfl)) (pe_item_str (pv 4) (pe_op op_modN (pe_callTy call_int1 (by rfl) T.int bt_int (pa_cons (pv 9) pa_nil)) pe_int) (fun _ _ => rfl)))))
      (Evl.pss_cut (ps_set (i := 6) scHand.nd rfl (Or.inl rfl) (pe_op op_cat (pe_step (pv 5) po_none (by decide)) (pe_step (pv 5) (po_some pe_int) (by decide))))
      (Evl.pss_cut (ps_set (i := 7) scHand.nd rfl (Or.inl rfl) (pe_mk GB hr2 (pa_cons (pv 5) (pa_cons (pe_listZip rfl (by rfl) T.list (by rfl) T.zip (pa_cons (pv 6) (pa_cons (pe_slice sl_list (pv 6) (po_some pe_int) po_none) pa_nil))) pa_nil))))
      (Evl.pss_cut (ps_set (i := 1) scHand.nd rfl (Or.inl rfl) (pe_op op_cat (pv 1) (pe_lst (pa_cons (pe_g GK hr3 (pa_cons (pv 7) pa_nil)) (pa_cons (pe_g GP hr3 (pa_cons (pe_mg0 GU T.cl (pv 7) hr3) pa_nil)) (pa_cons (pe_callB call_len_seq (by rfl) T.len PySem.boot_len (pa_cons (pe_g GK hr3 (pa_cons (pe_mg GW T.cl (pv 7) hr (pa_cons (pe_ix ix_list (pv 6) pe_int (fun _ _ => rfl)) pa_nil)) pa_nil)) pa_nil)) pa_nil))))))
      (Evl.pss_cut (ps_set (i := 1) scHand.nd rfl (Or.inl rfl) (pe_op op_cat (pv 1) (pe_lst (pa_cons (pe_g GK hr3 (pa_cons (pe_mg GW T.cl (pv 7) hr (pa_cons (pe_ix ix_list (pv 6) pe_int (fun _ _ => rfl)) pa_nil)) pa_nil)) pa_nil))))
      (Evl.pss_cut (ps_set (i := 2) scHand.nd rfl (Or.inl rfl) (pe_op op_cat (pv 2) (pe_lst (pa_cons (pe_tup (pa_cons (pe_callTy cr_tupOf (by rfl) T.tuple bt_tuple (pa_cons (pv 5) pa_nil)) pa_nil)) (pa_cons (pe_tup (pa_cons (pe_callTy cr_tupOf (by rfl) T.tuple bt_tuple (pa_cons (pv 5) pa_nil)) pa_nil)) (pa_cons pe_int (pa_cons (pe_tup (pa_cons (pe_callTy cr_tupOf (by rfl) T.tuple bt_tuple (pa_cons (pe_slice sl_list (pv 5) po_none (po_some pe_int)) pa_nil)) pa_nil)) pa_nil)))))))
      (pss_one (ps_ret (pe_g GS hr (pa_cons (pv 1) (pa_cons (pv 2) pa_nil))))))))))))))))))))))))))))).nox, ?_⟩
    have h : HS K C H none none none none none none none none (start nHand []) H := ⟨⟨none, none, none, none, none, none, none, rfl, rfl, rfl, rfl, rfl, rfl, rfl, rfl⟩, same_id⟩
    generalize start nHand [] = σ at h
    refine cut_tx h (evs_lst (cst_cons (cst_cons (cst_cons (cst_cons cst_nil))))) fun σ H h => ?_
    refine cut_tx h (evs_cat h.etx (evs_lst (cst_cons (cst_cons cst_nil))) (by decide)) fun σ H h => ?_
    refine cut_tx h (evs_cat h.etx (evs_lst (cst_cons (cst_cons (cst_cons (cst_cons cst_nil))))) (by decide)) fun σ H h => ?_
    refine cut_gt h (h.books HRow.kn (fun r hr => ⟨(hR_ok r hr).1, (hR_ok r hr).std, (hR_ok r hr).eKn⟩)) fun σ H h => ?_
    refine cut_go h (evl_lst (evs_cons (ev_tup (evs_cons (ev_tup (evs_cons (ev_str _) (evs_cons (ev_str _) (evs_cons (ev_str _) evs_nil)))) evs_nil)) (evs_cons (ev_tup (evs_cons (ev_tup (evs_cons (ev_str _) (evs_cons (ev_str _) evs_nil))) (evs_cons (ev_tup (evs_cons (ev_str _) evs_nil)) evs_nil))) (evs_cons (ev_tup (evs_cons (ev_tup (evs_cons (ev_str _) (evs_cons (ev_str _) (evs_cons (ev_str _) (evs_cons (ev_str _) evs_nil))))) evs_nil)) (evs_cons (ev_tup (evs_cons (ev_tup (evs_cons (ev_str _) (evs_cons (ev_str _) (evs_cons (ev_str _) (evs_cons (ev_str _) evs_nil))))) evs_nil)) (evs_cons (ev_tup evs_nil) evs_nil)))))) fun σ H h => ?_
    refine cut_go h (h.goc (evl_lst (evs_cons (ev_tup (evs_cons (ev_tup (evs_cons (ev_str _) evs_nil)) evs_nil)) evs_nil))) fun σ H h => ?_
    refine cut_go h (h.goc (evl_lst (evs_cons (ev_tup (evs_cons (ev_tup (evs_cons (ev_str _) (evs_cons (ev_str _) evs_nil))) (evs_cons (ev_tup (evs_cons (ev_str _) evs_nil)) (evs_cons (ev_tup (evs_cons (ev_str _) evs_nil)) evs_nil)))) (evs_cons (ev_tup (evs_cons (ev_tup (evs_cons (ev_str _) (evs_cons (ev_str _) evs_nil))) (evs_cons (ev_tup (evs_cons (ev_str _) (evs_cons (ev_str _) evs_nil))) evs_nil))) (evs_cons (ev_tup (evs_cons (ev_tup (evs_cons (ev_str _) (evs_cons (ev_str _) evs_nil))) (evs_cons (ev_tup (evs_cons (ev_str _) (evs_cons (ev_str _) evs_nil))) (evs_cons (ev_tup (evs_cons (ev_str _) evs_nil)) evs_nil)))) evs_nil))))) fun σ H h => ?_
    refine cut_go h (h.goc (evl_lst (evs_cons (ev_tup (evs_cons (ev_tup (evs_cons (ev_str _) (evs_cons (ev_str _) evs_nil))) evs_nil)) evs_nil))) fun σ H h => ?_
    refine cut_gt h (h.gtc (h.books HRow.pc (fun r hr => ⟨(hR_ok r hr).1, (hR_ok r hr).std, (hR_ok r hr).ePc⟩))) fun σ H h => ?_
    refine cut_go h (h.goc (evl_lst (evs_cons (ev_tup (evs_cons (ev_tup (evs_cons (ev_str _) (evs_cons (ev_str _) evs_nil))) (evs_cons (ev_tup (evs_cons (ev_str _) evs_nil)) evs_nil))) (evs_cons (ev_tup (evs_cons (ev_tup (evs_cons (ev_str _) (evs_cons (ev_str _) (evs_cons (ev_str _) evs_nil)))) evs_nil)) (evs_cons (ev_tup (evs_cons (ev_tup (evs_cons (ev_str _) (evs_cons (ev_str _) evs_nil))) (evs_cons (ev_tup (evs_cons (ev_str _) (evs_cons (ev_str _) evs_nil))) evs_nil))) (evs_cons (ev_tup (evs_cons (ev_tup (evs_cons (ev_str _) (evs_cons (ev_str _) (evs_cons (ev_str _) (evs_cons (ev_str _) evs_nil))))) evs_nil)) evs_nil)))))) fun σ H h => ?_
    refine cut_go h (h.goc (evl_lst (evs_cons (ev_tup evs_nil) (evs_cons (ev_tup (evs_cons (ev_tup (evs_cons (ev_str _) evs_nil)) evs_nil)) (evs_cons (ev_tup (evs_cons (ev_tup (evs_cons (ev_str _) (evs_cons (ev_str _) (evs_cons (ev_str _) (evs_cons (ev_str _) evs_nil))))) evs_nil)) (evs_cons (ev_tup (evs_cons (ev_tup (evs_cons (ev_str _) (evs_cons (ev_str _) (evs_cons (ev_str _) (evs_cons (ev_str _) evs_nil))))) evs_nil)) evs_nil)))))) fun σ H h => ?_
    refine cut_go h (h.goc (evl_lst (evs_cons (ev_tup (evs_cons (ev_tup (evs_cons (ev_str _) (evs_cons (ev_str _) (evs_cons (ev_str _) (evs_cons (ev_str _) (evs_cons (ev_str _) evs_nil)))))) evs_nil)) (evs_cons (ev_tup (evs_cons (ev_tup (evs_cons (ev_str _) evs_nil)) (evs_cons (ev_tup (evs_cons (ev_str _) evs_nil)) evs_nil))) evs_nil)))) fun σ H h => ?_
    refine cut_gt h (h.gtc (evl_lst (evs_cons (ev_hangK (evb_of hBC_ok.1) hBC_ok.std hBC_ok.eKn) (evs_cons (ev_hangK (evb_of hBC_ok.1) hBC_ok.std hBC_ok.ePc) evs_nil)))) fun σ H h => ?_
    refine cut_go h (h.goc (evl_lst (evs_cons (ev_tup (evs_cons (ev_tup (evs_cons (ev_str _) (evs_cons (ev_str _) evs_nil))) evs_nil)) (evs_cons (ev_tup (evs_cons (ev_tup (evs_cons (ev_str _) evs_nil)) (evs_cons (ev_tup (evs_cons (ev_str _) evs_nil)) evs_nil))) evs_nil)))) fun σ H h => ?_
    refine cut_fk h (evb_of hFork_ok.1) fun σ H h => ?_
    refine cut_gt h (h.gtc (evl_lst (evs_cons (ev_hang h.efk hFork_ok.std hFork_ok.eKn) (evs_cons (ev_hang h.efk hFork_ok.std hFork_ok.ePc) (evs_cons (ev_hang (evb_turn h.efk hFork_ok.std) (turn_std hFork_ok.std.up hFork_ok.std.few) fork_turn) evs_nil))))) fun σ H h => ?_
    refine cut_go h (h.goc (evl_rep3 (evl_lst (evs_cons (ev_tup (evs_cons (ev_tup (evs_cons (ev_str _) (evs_cons (ev_str _) (evs_cons (ev_str _) (evs_cons (ev_str _) (evs_cons (ev_str _) evs_nil)))))) evs_nil)) evs_nil)))) fun σ H h => ?_
    refine cut_sg h fun σ H h => ?_
    refine cut_fr h h.far fun σ H h => ?_
    refine cut_ln h (evs_cat (L := evens farM) (M := odds farM) (evs_step h.efr (by decide +kernel) (by decide +kernel) (fun _ _ q => q) (by decide +kernel)) (evs_step h.efr (by decide +kernel) (by decide +kernel) (fun _ _ q => ⟨1, rfl, q⟩) (by decide +kernel)) (by decide +kernel)) fun σ H h => ?_
    refine cut_wd h (h.wide) fun σ H h => ?_
    refine cut_gt h (h.gtc (evl_lst (evs_cons (ev_hang h.ewd wide_std wide_knots) (evs_cons (ev_hang (evb_turn h.ewd wide_std) (turn_std wide_std.up wide_std.few) wide_turn) (evs_cons (ev_len (n := 2) (evb_without h.ewd wide_std (k := mid7) (by decide +kernel) (h.item (j := 7) line7)) std_lack lack7 (by decide +kernel)) evs_nil))))) fun σ H h => ?_
    refine cut_gt h (h.gtc (evl_lst (evs_cons (ev_hang (evb_without h.ewd wide_std (k := end39) (by decide +kernel) (h.item (j := 39) line39)) std_lack lack39) evs_nil))) fun σ H h => ?_
    refine cut_go h (h.goc (evl_lst (evs_cons (ev_tup (evs_cons (ev_tupOf h.efr (by decide +kernel)) evs_nil)) (evs_cons (ev_tup (evs_cons (ev_tupOf h.efr (by decide +kernel)) evs_nil)) (evs_cons (ev_int _) (evs_cons (ev_tup (evs_cons (ev_tupOf (evs_cut (M := farM.take 39) h.efr (fun _ _ q => q) (fun _ _ q => ⟨39, rfl, q⟩) (by decide +kernel)) (by decide +kernel)) evs_nil)) evs_nil)))))) fun σ H h => ?_
    obtain ⟨v0, v1, v2, v3, v5, v6, v7, rfl, a0, ⟨lg, xg, rfl, hg, dg⟩, ⟨lo, xo, rfl, ho, d_o⟩, a3, a5, a6, a7⟩ := h.ex
    have S := h.same
    clear h
    refine ⟨_, rfl, _, rfl, .ref lg, .ref lo, .list _, rfl, .lst (SqL.of hg) dg, .lst (SqL.of ho) d_o, by decide +kernel, by decide +kernel, by decide +kernel, fun H2 s2 => q _ (S.trans s2)⟩
end
end Sx

/-! LawP -/
namespace Sx
open PySem PySem.Spec PyProof.Rows L2
section
variable {P : Program} {w : World} {K : PySem.W.Frag} {mg : Str → Option Value} {base : Heap}
abbrev sLaw : Stmt := top 28
abbrev nLaw : List Str := ["_law_script", "_law_cells_here", "_law_k"]
theorem scLaw : FnScope nLaw ["_law_script"] (defScope sLaw) := ⟨rfl, rfl, rfl, by decide +kernel, rfl, by decide +kernel, by decide +kernel⟩
def spLaw (K : PySem.W.Frag) : Sp := fun vs H Q _ => ∃ (a : Addr) (ns : List Int), vs = [.ref a] ∧ SqL K H a (ns.map V.int) ∧ ns.length ≤ 63 ∧ ∀ H', Q (.bl true) H'
theorem ok_law {f : Addr} {fd : FuncData} {dvs : List V} (F : FunD K "law" "law" (defArgs sLaw) (defBody sLaw) (defScope sLaw) dvs [] f fd) (B : Blt mg) (GC : FnG P w K mg base "_law_cells" 1 ["_law_script", "_law_top"] (spCells K)) (GH : FnG P w K mg base "_law_by_hand_right" 5 [] spHand)
    (GR : FnG P w K mg base "_law_right" 5 ["_law_urn"] spRight) (GX : FnG P w K mg base "_law_box" 1 ["_law_script", "_law_k"] (spBox K)) : FnOk P w K mg base CX0 6 f fd ["_law_script"] (spLaw K) := by
  refine F.ok scLaw (fun vs H Q E h => ?_) (fun cdv A outer s H vs Q E hr h => ?_)
  · obtain ⟨a, ns, rfl, _⟩ := h
    rfl
  · obtain ⟨a, ns, rfl, hx, l63, q⟩ := h
    have hr1 : Room 1 (A.deeper (envOfC "law" (defScope sLaw) s.heap.objs.size f cdv)) := hr.mono (by decide)
    refine ⟨_, (pss_cons (ps_set (i := 1) scLaw.nd rfl (Or.inr rfl) (pe_g GC hr1 (pa_cons (pv 0) (pa_cons pe_int pa_nil))))
      (pss_one (ps_ret (pe_and (pe_g0 GH hr) (pe_one (pe_callB (cr_all rfl) (by rfl) B.all bt_all (pa_cons (pe_lc (own := [("_law_k", 2)]) (g := gName 2) (tt := tYes) rfl scLaw.nd (pi_range1 (by rfl) B.range (pa_cons (pe_callB call_len_seq (by rfl) B.len PySem.boot_len (pa_cons (pv 1) pa_nil)) pa_nil)) (blkOk_by (N := nLaw) (sc := defScope sLaw) (by decide +kernel)) (fun _ _ _ _ _ => pg_name (i := 2) scLaw.nd rfl (Or.inl rfl)) (fun _ _ _ _ _ => pts_nil)
        (fun _ _ _ _ _ => pe_g GR hr (pa_cons (pe_g GX hr1 (pa_cons (pv 1) (pa_cons (pv 2) pa_nil))) pa_nil))) pa_nil))))))).nox, ?_⟩
    refine ⟨_, rfl, a, ns, rfl, hx, l63, fun l ms H1 s1 hl m3 => ?_⟩
    refine ⟨rfl, fun H2 s2 => ⟨true, rfl, iteT ?_⟩⟩
    have hl2 := s2 _ _ hl
    refine ⟨_, rfl, l, _, rfl, .inl (SqL.of hl2), ms.length, by rw [List.length_map], by omega, by omega, ?_⟩
    refine lc_walkR (n := ms.length) (vs := [2]) (σ := [some (.ref a), some (.ref l), none]) (fun D i H' => Same H2 H' ∧ H' D = some (.lst (List.replicate i (.bl true))))
      (fun D hD => ⟨Sx.Same.new hD, upd_same⟩) ?_ ?_
    · rintro D i x H' ⟨hi, rfl⟩ hD ⟨s, hd⟩
      refine ⟨rfl, ?_⟩
      unfold tYes
      dsimp only
      rw [if_pos rfl]
      refine ⟨_, rfl, _, rfl, l, i, ms, by rw [Int.zero_add]; rfl, SqL.of (s _ _ hl2), hi, m3, fun u H3 s3 hu U => ?_⟩
      refine ⟨u, rfl, U, fun H4 S4 => ?_⟩
      have Du : D ≠ u := fun e => by
        rw [e, hu] at hd
        cases hd
      have hd3 := s3 _ _ hd
      have s24 : Same H2 H4 := fun b o e => S4 _ _ (s3 _ _ (s _ _ e)) fun z => by
        have e2 := s _ _ e
        rw [z, hu] at e2
        cases e2
      refine ⟨_, S4 _ _ hd3 Du, by rw [List.length_replicate, sizeLine_eq]; omega, Sx.Same.mut s24 hD, ?_⟩
      rw [upd_same, ← List.replicate_succ']
    · rintro D H' hD ⟨s, hd⟩
      refine ⟨D, List.replicate ms.length true, rfl, SqL.of (by rw [hd, List.map_replicate]), ?_⟩
      have ea : (List.replicate ms.length true).all id = true := by
        rw [List.all_eq_true]
        intro z hz
        rw [(List.mem_replicate.mp hz).2]
        rfl
      rw [ea]
      exact q _
end
end Sx

/-! Asm -/
namespace Sx
open PySem PySem.Spec PyProof.Rows L2
theorem funD_of {K : PySem.W.Frag} {x qual : Str} {st : Stmt} {f : Addr} {fd : FuncData} (F : Fun K x qual st f fd) : FunD K x qual (defArgs st) (defBody st) (defScope st) [] [] f fd := by
  obtain ⟨oc, od, kV, doc, pm, an, cdv, ct, osl, e, lk, hc⟩ := F.ex
  exact ⟨⟨oc, od, .none, kV, doc, pm, an, cdv, ct, osl, e, lk, hc, .inl ⟨rfl, rfl⟩, .inl rfl⟩, F.kp⟩
theorem all_mk {l : PySem.W.OpenLaw} {w : World} {K : PySem.W.Frag} {h : Heap} {mg : Str → Option Value} {fa C : Addr} (X : K.In h) (G : h.Ns mainGlobals mg) (hfa : mg "law" = some (.ref fa))
    {f1 : Addr} {od1 an1 : Option Addr} {sl1 : Array (Option Value)} {oc1 kV1 dc1 pm1 cd1 ct1 : Value} {f2 : Addr} {od2 an2 : Option Addr} {sl2 : Array (Option Value)} {oc2 kV2 dc2 pm2 cd2 ct2 : Value} {f3 : Addr} {od3 an3 : Option Addr} {sl3 : Array (Option Value)} {oc3 kV3 dc3 pm3 cd3 ct3 : Value} {f4 : Addr} {od4 an4 : Option Addr} {sl4 : Array (Option Value)} {oc4 kV4 dc4 pm4 cd4 ct4 : Value} {f5 : Addr} {od5 an5 : Option Addr} {sl5 : Array (Option Value)} {oc5 kV5 dc5 pm5 cd5 ct5 : Value} {f6 : Addr} {od6 an6 : Option Addr} {sl6 : Array (Option Value)} {oc6 kV6 dc6 pm6 cd6 ct6 : Value} {f7 : Addr} {od7 an7 : Option Addr} {sl7 : Array (Option Value)} {oc7 kV7 dc7 pm7 cd7 ct7 : Value} {f8 : Addr} {od8 an8 : Option Addr} {sl8 : Array (Option Value)} {oc8 kV8 dc8 pm8 cd8 ct8 : Value} {f9 : Addr} {od9 an9 : Option Addr} {sl9 : Array (Option Value)} {oc9 kV9 dc9 pm9 cd9 ct9 : Value} {f10 : Addr} {od10 an10 : Option Addr} {sl10 : Array (Option Value)} {oc10 kV10 dc10 pm10 cd10 ct10 : Value} {f11 : Addr} {od11 an11 : Option Addr} {sl11 : Array (Option Value)} {oc11 kV11 dc11 pm11 cd11 ct11 : Value} {f12 : Addr} {od12 an12 : Option Addr} {sl12 : Array (Option Value)} {oc12 kV12 dc12 pm12 cd12 ct12 : Value} {f13 : Addr} {od13 an13 : Option Addr} {sl13 : Array (Option Value)} {oc13 kV13 dc13 pm13 cd13 ct13 : Value} {f14 : Addr} {od14 an14 : Option Addr} {sl14 : Array (Option Value)} {oc14 kV14 dc14 pm14 cd14 ct14 : Value} {f15 : Addr} {od15 an15 : Option Addr} {sl15 : Array (Option Value)} {oc15 kV15 dc15 pm15 cd15 ct15 : Value} {f16 : Addr} {od16 an16 : Option Addr} {sl16 : Array (Option Value)} {oc16 kV16 dc16 pm16 cd16 ct16 : Value} {f17 : Addr} {od17 an17 : Option Addr} {sl17 : Array (Option Value)} {oc17 kV17 dc17 pm17 cd17 ct17 : Value} {f18 : Addr} {od18 an18 : Option Addr} {sl18 : Array (Option Value)} {oc18 kV18 dc18 pm18 cd18 ct18 : Value} {f19 : Addr} {od19 an19 : Option Addr} {sl19 : Array (Option Value)} {oc19 kV19 dc19 pm19 cd19 ct19 : Value} {f20 : Addr} {od20 an20 : Option Addr} {sl20 : Array (Option Value)} {oc20 kV20 dc20 pm20 cd20 ct20 : Value} {f21 : Addr} {od21 an21 : Option Addr} {sl21 : Array (Option Value)} {oc21 kV21 dc21 pm21 cd21 ct21 : Value} {f22 : Addr} {od22 an22 : Option Addr} {sl22 : Array (Option Value)} {oc22 kV22 dc22 pm22 cd22 ct22 : Value} {f23 : Addr} {od23 an23 : Option Addr} {sl23 : Array (Option Value)} {oc23 kV23 dc23 pm23 cd23 ct23 : Value} {f24 : Addr} {od24 an24 : Option Addr} {sl24 : Array (Option Value)} {oc24 kV24 dc24 pm24 cd24 ct24 : Value} {f25 : Addr} {od25 an25 : Option Addr} {sl25 : Array (Option Value)} {oc25 kV25 dc25 pm25 cd25 ct25 : Value} {p26 : Addr} {r26 : List Value} {f26 : Addr} {od26 an26 : Option Addr} {sl26 : Array (Option Value)} {oc26 kV26 dc26 pm26 cd26 ct26 : Value} {p27 : Addr} {r27 : List Value} {f27 : Addr} {od27 an27 : Option Addr} {sl27 : Array (Option Value)} {oc27 kV27 dc27 pm27 cd27 ct27 : Value} {p28 : Addr} {r28 : List Value} {f28 : Addr} {od28 an28 : Option Addr} {sl28 : Array (Option Value)} {oc28 kV28 dc28 pm28 cd28 ct28 : Value} {f29 T eT : Addr} {od29 an29 : Option Addr} {sl29 : Array (Option Value)} {oc29 kV29 dc29 pm29 cd29 ct29 : Value} {oT : Obj} {nT : Nat}
    (aC : PySem.W.nsIn K mainGlobals "Book" = some (some (.ref C)))
    (a1 : PySem.W.nsIn K mainGlobals "is_kind" = some (some (.ref f1)))
    (l1 : K.lookup f1 = some ⟨oc1, od1, .func (PySem.W.fnOf "is_kind" "is_kind" (defArgs sIsKind) (defBody sIsKind) (defScope sIsKind) .none kV1 dc1 pm1 an1 cd1 ct1), sl1⟩)
    (c1 : PySem.W.codeIn K cd1 "is_kind" = true)
    (k1 : PySem.W.keepIn K (.ref f1) = true)
    (a2 : PySem.W.nsIn K mainGlobals "knots" = some (some (.ref f2)))
    (l2 : K.lookup f2 = some ⟨oc2, od2, .func (PySem.W.fnOf "knots" "knots" (defArgs sKnots) (defBody sKnots) (defScope sKnots) .none kV2 dc2 pm2 an2 cd2 ct2), sl2⟩)
    (c2 : PySem.W.codeIn K cd2 "knots" = true)
    (k2 : PySem.W.keepIn K (.ref f2) = true)
    (a3 : PySem.W.nsIn K mainGlobals "peaces" = some (some (.ref f3)))
    (l3 : K.lookup f3 = some ⟨oc3, od3, .func (PySem.W.fnOf "peaces" "peaces" (defArgs sPeaces) (defBody sPeaces) (defScope sPeaces) .none kV3 dc3 pm3 an3 cd3 ct3), sl3⟩)
    (c3 : PySem.W.codeIn K cd3 "peaces" = true)
    (k3 : PySem.W.keepIn K (.ref f3) = true)
    (a4 : PySem.W.nsIn K mainGlobals "_hanging" = some (some (.ref f4)))
    (l4 : K.lookup f4 = some ⟨oc4, od4, .func (PySem.W.fnOf "_hanging" "_hanging" (defArgs sHanging) (defBody sHanging) (defScope sHanging) .none kV4 dc4 pm4 an4 cd4 ct4), sl4⟩)
    (c4 : PySem.W.codeIn K cd4 "_hanging" = true)
    (k4 : PySem.W.keepIn K (.ref f4) = true)
    (a5 : PySem.W.nsIn K mainGlobals "_reached" = some (some (.ref f5)))
    (l5 : K.lookup f5 = some ⟨oc5, od5, .func (PySem.W.fnOf "_reached" "_reached" (defArgs sReached) (defBody sReached) (defScope sReached) .none kV5 dc5 pm5 an5 cd5 ct5), sl5⟩)
    (c5 : PySem.W.codeIn K cd5 "_reached" = true)
    (k5 : PySem.W.keepIn K (.ref f5) = true)
    (a6 : PySem.W.nsIn K mainGlobals "_law_box" = some (some (.ref f6)))
    (l6 : K.lookup f6 = some ⟨oc6, od6, .func (PySem.W.fnOf "_law_box" "_law_box" (defArgs sBox) (defBody sBox) (defScope sBox) .none kV6 dc6 pm6 an6 cd6 ct6), sl6⟩)
    (c6 : PySem.W.codeIn K cd6 "_law_box" = true)
    (k6 : PySem.W.keepIn K (.ref f6) = true)
    (a7 : PySem.W.nsIn K mainGlobals "_law_take" = some (some (.ref f7)))
    (l7 : K.lookup f7 = some ⟨oc7, od7, .func (PySem.W.fnOf "_law_take" "_law_take" (defArgs sTake) (defBody sTake) (defScope sTake) .none kV7 dc7 pm7 an7 cd7 ct7), sl7⟩)
    (c7 : PySem.W.codeIn K cd7 "_law_take" = true)
    (k7 : PySem.W.keepIn K (.ref f7) = true)
    (a8 : PySem.W.nsIn K mainGlobals "_law_cells" = some (some (.ref f8)))
    (l8 : K.lookup f8 = some ⟨oc8, od8, .func (PySem.W.fnOf "_law_cells" "_law_cells" (defArgs sCells) (defBody sCells) (defScope sCells) .none kV8 dc8 pm8 an8 cd8 ct8), sl8⟩)
    (c8 : PySem.W.codeIn K cd8 "_law_cells" = true)
    (k8 : PySem.W.keepIn K (.ref f8) = true)
    (a9 : PySem.W.nsIn K mainGlobals "_law_of" = some (some (.ref f9)))
    (l9 : K.lookup f9 = some ⟨oc9, od9, .func (PySem.W.fnOf "_law_of" "_law_of" (defArgs sLOf) (defBody sLOf) (defScope sLOf) .none kV9 dc9 pm9 an9 cd9 ct9), sl9⟩)
    (c9 : PySem.W.codeIn K cd9 "_law_of" = true)
    (k9 : PySem.W.keepIn K (.ref f9) = true)
    (a10 : PySem.W.nsIn K mainGlobals "_law_same" = some (some (.ref f10)))
    (l10 : K.lookup f10 = some ⟨oc10, od10, .func (PySem.W.fnOf "_law_same" "_law_same" (defArgs sSame) (defBody sSame) (defScope sSame) .none kV10 dc10 pm10 an10 cd10 ct10), sl10⟩)
    (c10 : PySem.W.codeIn K cd10 "_law_same" = true)
    (k10 : PySem.W.keepIn K (.ref f10) = true)
    (a11 : PySem.W.nsIn K mainGlobals "_law_mixed" = some (some (.ref f11)))
    (l11 : K.lookup f11 = some ⟨oc11, od11, .func (PySem.W.fnOf "_law_mixed" "_law_mixed" (defArgs sMixed) (defBody sMixed) (defScope sMixed) .none kV11 dc11 pm11 an11 cd11 ct11), sl11⟩)
    (c11 : PySem.W.codeIn K cd11 "_law_mixed" = true)
    (k11 : PySem.W.keepIn K (.ref f11) = true)
    (a12 : PySem.W.nsIn K mainGlobals "_law_tags" = some (some (.ref f12)))
    (l12 : K.lookup f12 = some ⟨oc12, od12, .func (PySem.W.fnOf "_law_tags" "_law_tags" (defArgs sTags) (defBody sTags) (defScope sTags) .none kV12 dc12 pm12 an12 cd12 ct12), sl12⟩)
    (c12 : PySem.W.codeIn K cd12 "_law_tags" = true)
    (k12 : PySem.W.keepIn K (.ref f12) = true)
    (a13 : PySem.W.nsIn K mainGlobals "_law_cross" = some (some (.ref f13)))
    (l13 : K.lookup f13 = some ⟨oc13, od13, .func (PySem.W.fnOf "_law_cross" "_law_cross" (defArgs sCross) (defBody sCross) (defScope sCross) .none kV13 dc13 pm13 an13 cd13 ct13), sl13⟩)
    (c13 : PySem.W.codeIn K cd13 "_law_cross" = true)
    (k13 : PySem.W.keepIn K (.ref f13) = true)
    (a14 : PySem.W.nsIn K mainGlobals "_law_web" = some (some (.ref f14)))
    (l14 : K.lookup f14 = some ⟨oc14, od14, .func (PySem.W.fnOf "_law_web" "_law_web" (defArgs sWeb) (defBody sWeb) (defScope sWeb) .none kV14 dc14 pm14 an14 cd14 ct14), sl14⟩)
    (c14 : PySem.W.codeIn K cd14 "_law_web" = true)
    (k14 : PySem.W.keepIn K (.ref f14) = true)
    (a15 : PySem.W.nsIn K mainGlobals "_law_host" = some (some (.ref f15)))
    (l15 : K.lookup f15 = some ⟨oc15, od15, .func (PySem.W.fnOf "_law_host" "_law_host" (defArgs sHost) (defBody sHost) (defScope sHost) .none kV15 dc15 pm15 an15 cd15 ct15), sl15⟩)
    (c15 : PySem.W.codeIn K cd15 "_law_host" = true)
    (k15 : PySem.W.keepIn K (.ref f15) = true)
    (a16 : PySem.W.nsIn K mainGlobals "_law_groups" = some (some (.ref f16)))
    (l16 : K.lookup f16 = some ⟨oc16, od16, .func (PySem.W.fnOf "_law_groups" "_law_groups" (defArgs sGroups) (defBody sGroups) (defScope sGroups) .none kV16 dc16 pm16 an16 cd16 ct16), sl16⟩)
    (c16 : PySem.W.codeIn K cd16 "_law_groups" = true)
    (k16 : PySem.W.keepIn K (.ref f16) = true)
    (a17 : PySem.W.nsIn K mainGlobals "_law_by_hand_right" = some (some (.ref f17)))
    (l17 : K.lookup f17 = some ⟨oc17, od17, .func (PySem.W.fnOf "_law_by_hand_right" "_law_by_hand_right" (defArgs sHand) (defBody sHand) (defScope sHand) .none kV17 dc17 pm17 an17 cd17 ct17), sl17⟩)
    (c17 : PySem.W.codeIn K cd17 "_law_by_hand_right" = true)
    (k17 : PySem.W.keepIn K (.ref f17) = true)
    (a18 : PySem.W.nsIn K mainGlobals "_law_right" = some (some (.ref f18)))
    (l18 : K.lookup f18 = some ⟨oc18, od18, .func (PySem.W.fnOf "_law_right" "_law_right" (defArgs sRight) (defBody sRight) (defScope sRight) .none kV18 dc18 pm18 an18 cd18 ct18), sl18⟩)
    (c18 : PySem.W.codeIn K cd18 "_law_right" = true)
    (k18 : PySem.W.keepIn K (.ref f18) = true)
    (a19 : PySem.W.nsIn K mainGlobals "law" = some (some (.ref f19)))
    (l19 : K.lookup f19 = some ⟨oc19, od19, .func (PySem.W.fnOf "law" "law" (defArgs sLaw) (defBody sLaw) (defScope sLaw) .none kV19 dc19 pm19 an19 cd19 ct19), sl19⟩)
    (c19 : PySem.W.codeIn K cd19 "law" = true)
    (k19 : PySem.W.keepIn K (.ref f19) = true)
    (a20 : PySem.W.findIn K (.ref C) "_ask_for" = some (some (.ref f20)))
    (i20 : PySem.W.isFn K (.ref f20) = true)
    (l20 : K.lookup f20 = some ⟨oc20, od20, .func (PySem.W.fnOf "_ask_for" "Book._ask_for" (defArgs sAsk) (defBody sAsk) (defScope sAsk) .none kV20 dc20 pm20 an20 cd20 ct20), sl20⟩)
    (c20 : PySem.W.codeIn K cd20 "Book._ask_for" = true)
    (k20 : PySem.W.keepIn K (.ref f20) = true)
    (a21 : PySem.W.findIn K (.ref C) "clashing" = some (some (.ref f21)))
    (i21 : PySem.W.isFn K (.ref f21) = true)
    (l21 : K.lookup f21 = some ⟨oc21, od21, .func (PySem.W.fnOf "clashing" "Book.clashing" (defArgs sClashing) (defBody sClashing) (defScope sClashing) .none kV21 dc21 pm21 an21 cd21 ct21), sl21⟩)
    (c21 : PySem.W.codeIn K cd21 "Book.clashing" = true)
    (k21 : PySem.W.keepIn K (.ref f21) = true)
    (a22 : PySem.W.findIn K (.ref C) "peaceful" = some (some (.ref f22)))
    (i22 : PySem.W.isFn K (.ref f22) = true)
    (l22 : K.lookup f22 = some ⟨oc22, od22, .func (PySem.W.fnOf "peaceful" "Book.peaceful" (defArgs sPeaceful) (defBody sPeaceful) (defScope sPeaceful) .none kV22 dc22 pm22 an22 cd22 ct22), sl22⟩)
    (c22 : PySem.W.codeIn K cd22 "Book.peaceful" = true)
    (k22 : PySem.W.keepIn K (.ref f22) = true)
    (a23 : PySem.W.findIn K (.ref C) "only" = some (some (.ref f23)))
    (i23 : PySem.W.isFn K (.ref f23) = true)
    (l23 : K.lookup f23 = some ⟨oc23, od23, .func (PySem.W.fnOf "only" "Book.only" (defArgs sOnly) (defBody sOnly) (defScope sOnly) .none kV23 dc23 pm23 an23 cd23 ct23), sl23⟩)
    (c23 : PySem.W.codeIn K cd23 "Book.only" = true)
    (k23 : PySem.W.keepIn K (.ref f23) = true)
    (a24 : PySem.W.findIn K (.ref C) "without" = some (some (.ref f24)))
    (i24 : PySem.W.isFn K (.ref f24) = true)
    (l24 : K.lookup f24 = some ⟨oc24, od24, .func (PySem.W.fnOf "without" "Book.without" (defArgs sWithout) (defBody sWithout) (defScope sWithout) .none kV24 dc24 pm24 an24 cd24 ct24), sl24⟩)
    (c24 : PySem.W.codeIn K cd24 "Book.without" = true)
    (k24 : PySem.W.keepIn K (.ref f24) = true)
    (a25 : PySem.W.findIn K (.ref C) "turned" = some (some (.ref f25)))
    (i25 : PySem.W.isFn K (.ref f25) = true)
    (l25 : K.lookup f25 = some ⟨oc25, od25, .func (PySem.W.fnOf "turned" "Book.turned" (defArgs sTurned) (defBody sTurned) (defScope sTurned) .none kV25 dc25 pm25 an25 cd25 ct25), sl25⟩)
    (c25 : PySem.W.codeIn K cd25 "Book.turned" = true)
    (k25 : PySem.W.keepIn K (.ref f25) = true)
    (a26 : PySem.W.findIn K (.ref C) "kinds" = some (some (.ref p26)))
    (g26 : PySem.W.specialIn K (.ref p26) "__get__" = some (some (.builtin "property.__get__")))
    (t26 : PySem.W.takesIn K (.ref p26) = some true)
    (q26 : PySem.W.recIn K p26 "property" = some (.ref f26 :: r26))
    (l26 : K.lookup f26 = some ⟨oc26, od26, .func (PySem.W.fnOf "kinds" "Book.kinds" (defArgs sKinds) (defBody sKinds) (defScope sKinds) .none kV26 dc26 pm26 an26 cd26 ct26), sl26⟩)
    (c26 : PySem.W.codeIn K cd26 "Book.kinds" = true)
    (k26 : PySem.W.keepIn K (.ref f26) = true)
    (a27 : PySem.W.findIn K (.ref C) "text" = some (some (.ref p27)))
    (g27 : PySem.W.specialIn K (.ref p27) "__get__" = some (some (.builtin "property.__get__")))
    (t27 : PySem.W.takesIn K (.ref p27) = some true)
    (q27 : PySem.W.recIn K p27 "property" = some (.ref f27 :: r27))
    (l27 : K.lookup f27 = some ⟨oc27, od27, .func (PySem.W.fnOf "text" "Book.text" (defArgs sText) (defBody sText) (defScope sText) .none kV27 dc27 pm27 an27 cd27 ct27), sl27⟩)
    (c27 : PySem.W.codeIn K cd27 "Book.text" = true)
    (k27 : PySem.W.keepIn K (.ref f27) = true)
    (rd : PySem.W.readsIn K C (.type "type") = true)
    (ga : PySem.W.specialIn K (.ref C) "__getattribute__" = some (some (.builtin "type.__getattribute__")))
    (a28 : PySem.W.findCls K (.ref C) (.type "type") "of" = some (.get (.builtin "staticmethod.__get__") (.ref p28) .none (.ref C)))
    (q28 : PySem.W.recIn K p28 "staticmethod" = some (.ref f28 :: r28))
    (l28 : K.lookup f28 = some ⟨oc28, od28, .func (PySem.W.fnOf "of" "Book.of" (defArgs sOf) (defBody sOf) (defScope sOf) .none kV28 dc28 pm28 an28 cd28 ct28), sl28⟩)
    (c28 : PySem.W.codeIn K cd28 "Book.of" = true)
    (k28 : PySem.W.keepIn K (.ref f28) = true)
    (a29 : PySem.W.findIn K (.ref C) "__init__" = some (some (.ref f29)))
    (i29 : PySem.W.isFn K (.ref f29) = true)
    (l29 : K.lookup f29 = some ⟨oc29, od29, .func (PySem.W.fnOf "__init__" "Book.__init__" (defArgs sInit) (defBody sInit) (defScope sInit) (.ref T) kV29 dc29 pm29 an29 cd29 ct29), sl29⟩)
    (c29 : PySem.W.codeIn K cd29 "Book.__init__" = true)
    (k29 : PySem.W.keepIn K (.ref f29) = true)
    (lT : K.lookup T = some oT)
    (dT : oT.data = .seq ([Value.ref eT] : List Value).toArray nT)
    (pg : PySem.W.plainGet K C Str.empty = true)
    (hd : PySem.W.hasDictIn K C = true)
    (po : PySem.W.plainOver K C = true)
    (sa : PySem.W.findIn K (.ref C) "__setattr__" = some (some (.builtin "object.__setattr__")))
    (mk : PySem.W.makesIn K C = true)
    (kc : PySem.W.keepIn K (.ref C) = true)
    (nK : PySem.W.findIn K (.ref C) "_kinds" = some none)
    (nC : PySem.W.findIn K (.ref C) "_clashes" = some none)
    (nN : PySem.W.findIn K (.ref C) "_near" = some none)
    (z_sorted : PySem.W.nsIn K mainGlobals "sorted" = some none)
    (z_tuple : PySem.W.nsIn K mainGlobals "tuple" = some none)
    (z_min : PySem.W.nsIn K mainGlobals "min" = some none)
    (z_max : PySem.W.nsIn K mainGlobals "max" = some none)
    (z_len : PySem.W.nsIn K mainGlobals "len" = some none)
    (z_all : PySem.W.nsIn K mainGlobals "all" = some none)
    (z_isinstance : PySem.W.nsIn K mainGlobals "isinstance" = some none)
    (z_abs : PySem.W.nsIn K mainGlobals "abs" = some none)
    (z_list : PySem.W.nsIn K mainGlobals "list" = some none)
    (z_int : PySem.W.nsIn K mainGlobals "int" = some none)
    (z_range : PySem.W.nsIn K mainGlobals "range" = some none)
    (z_set : PySem.W.nsIn K mainGlobals "set" = some none)
    (z_zip : PySem.W.nsIn K mainGlobals "zip" = some none)
    (z_enumerate : PySem.W.nsIn K mainGlobals "enumerate" = some none)
    (z_dict : PySem.W.nsIn K mainGlobals "dict" = some none)
    (z_str : PySem.W.nsIn K mainGlobals "str" = some none)
    (z_bool : PySem.W.nsIn K mainGlobals "bool" = some none)
    : ∃ fd : FuncData, (∀ (s : Shared) (v : Value), BindsTo s fd ⟨[v], []⟩ [("_law_script", v)]) ∧ ∀ base : Heap, K.In base → base.Ns mainGlobals mg → FnOk l.prog w K mg base CX0 6 fa fd ["_law_script"] (spLaw K) := by
  have e := hfa.symm.trans (PySem.W.mg_of X G a19)
  cases e
  have B : Blt mg := ⟨PySem.W.mg_none_of X G z_sorted, PySem.W.mg_none_of X G z_tuple, PySem.W.mg_none_of X G z_min, PySem.W.mg_none_of X G z_max, PySem.W.mg_none_of X G z_len, PySem.W.mg_none_of X G z_all, PySem.W.mg_none_of X G z_isinstance, PySem.W.mg_none_of X G z_abs, PySem.W.mg_none_of X G z_list, PySem.W.mg_none_of X G z_int, PySem.W.mg_none_of X G z_range, PySem.W.mg_none_of X G z_set, PySem.W.mg_none_of X G z_zip, PySem.W.mg_none_of X G z_enumerate, PySem.W.mg_none_of X G z_dict, PySem.W.mg_none_of X G z_str, PySem.W.mg_none_of X G z_bool⟩
  have cl : Cls K C := ⟨pg, hd, po, sa⟩
  have T0 : TBook K mg C := ⟨cl, nK, nC, nN, B.sorted, B.tuple, B.min, B.max⟩
  have TT : TB K mg C := { B with cl := cl, nK := nK, nC := nC, nN := nN }
  have mC : mg "Book" = some (.ref C) := PySem.W.mg_of X G aC
  have F1 := fun_mk (st := sIsKind) l1 c1 k1
  have b1 : Binds K _ ["thing"] [] := F1.binds (ps := ["thing"]) fun _ _ _ _ _ _ us hl => match us, hl with | [_], _ => rfl
  have m1 : mg "is_kind" = some (.ref f1) := PySem.W.mg_of X G a1
  have F2 := fun_mk (st := sKnots) l2 c2 k2
  have b2 : Binds K _ ["book"] [] := F2.binds (ps := ["book"]) fun _ _ _ _ _ _ us hl => match us, hl with | [_], _ => rfl
  have m2 : mg "knots" = some (.ref f2) := PySem.W.mg_of X G a2
  have F3 := fun_mk (st := sPeaces) l3 c3 k3
  have b3 : Binds K _ ["book"] [] := F3.binds (ps := ["book"]) fun _ _ _ _ _ _ us hl => match us, hl with | [_], _ => rfl
  have m3 : mg "peaces" = some (.ref f3) := PySem.W.mg_of X G a3
  have F4 := fun_mk (st := sHanging) l4 c4 k4
  have b4 : Binds K _ ["near"] [] := F4.binds (ps := ["near"]) fun _ _ _ _ _ _ us hl => match us, hl with | [_], _ => rfl
  have m4 : mg "_hanging" = some (.ref f4) := PySem.W.mg_of X G a4
  have F5 := fun_mk (st := sReached) l5 c5 k5
  have b5 : Binds K _ ["near", "start"] [] := F5.binds (ps := ["near", "start"]) fun _ _ _ _ _ _ us hl => match us, hl with | [_, _], _ => rfl
  have m5 : mg "_reached" = some (.ref f5) := PySem.W.mg_of X G a5
  have F6 := fun_mk (st := sBox) l6 c6 k6
  have b6 : Binds K _ ["_law_script", "_law_k"] [] := F6.binds (ps := ["_law_script", "_law_k"]) fun _ _ _ _ _ _ us hl => match us, hl with | [_, _], _ => rfl
  have m6 : mg "_law_box" = some (.ref f6) := PySem.W.mg_of X G a6
  have F7 := fun_mk (st := sTake) l7 c7 k7
  have b7 : Binds K _ ["_law_urn", "_law_low_so"] [] := F7.binds (ps := ["_law_urn", "_law_low_so"]) fun _ _ _ _ _ _ us hl => match us, hl with | [_, _], _ => rfl
  have m7 : mg "_law_take" = some (.ref f7) := PySem.W.mg_of X G a7
  have F8 := fun_mk (st := sCells) l8 c8 k8
  have b8 : Binds K _ ["_law_script", "_law_top"] [] := F8.binds (ps := ["_law_script", "_law_top"]) fun _ _ _ _ _ _ us hl => match us, hl with | [_, _], _ => rfl
  have m8 : mg "_law_cells" = some (.ref f8) := PySem.W.mg_of X G a8
  have F9 := fun_mk (st := sLOf) l9 c9 k9
  have b9 : Binds K _ ["_law_urn", "_law_some_so"] [] := F9.binds (ps := ["_law_urn", "_law_some_so"]) fun _ _ _ _ _ _ us hl => match us, hl with | [_, _], _ => rfl
  have m9 : mg "_law_of" = some (.ref f9) := PySem.W.mg_of X G a9
  have F10 := fun_mk (st := sSame) l10 c10 k10
  have b10 : Binds K _ ["_law_got", "_law_goal"] [] := F10.binds (ps := ["_law_got", "_law_goal"]) fun _ _ _ _ _ _ us hl => match us, hl with | [_, _], _ => rfl
  have m10 : mg "_law_same" = some (.ref f10) := PySem.W.mg_of X G a10
  have F11 := fun_mk (st := sMixed) l11 c11 k11
  have b11 : Binds K _ ["_law_urn", "_law_pool"] [] := F11.binds (ps := ["_law_urn", "_law_pool"]) fun _ _ _ _ _ _ us hl => match us, hl with | [_, _], _ => rfl
  have m11 : mg "_law_mixed" = some (.ref f11) := PySem.W.mg_of X G a11
  have F12 := fun_mk (st := sTags) l12 c12 k12
  have b12 : Binds K _ ["_law_urn", "_law_many_so"] [] := F12.binds (ps := ["_law_urn", "_law_many_so"]) fun _ _ _ _ _ _ us hl => match us, hl with | [_, _], _ => rfl
  have m12 : mg "_law_tags" = some (.ref f12) := PySem.W.mg_of X G a12
  have F13 := fun_mk (st := sCross) l13 c13 k13
  have b13 : Binds K _ ["_law_some_so", "_law_more_so"] [] := F13.binds (ps := ["_law_some_so", "_law_more_so"]) fun _ _ _ _ _ _ us hl => match us, hl with | [_, _], _ => rfl
  have m13 : mg "_law_cross" = some (.ref f13) := PySem.W.mg_of X G a13
  have F14 := fun_mk (st := sWeb) l14 c14 k14
  have b14 : Binds K _ ["_law_urn", "_law_tags_here"] [] := F14.binds (ps := ["_law_urn", "_law_tags_here"]) fun _ _ _ _ _ _ us hl => match us, hl with | [_, _], _ => rfl
  have m14 : mg "_law_web" = some (.ref f14) := PySem.W.mg_of X G a14
  have F15 := fun_mk (st := sHost) l15 c15 k15
  have b15 : Binds K _ ["_law_urn", "_law_tags_here", "_law_pairs_so"] [] := F15.binds (ps := ["_law_urn", "_law_tags_here", "_law_pairs_so"]) fun _ _ _ _ _ _ us hl => match us, hl with | [_, _, _], _ => rfl
  have m15 : mg "_law_host" = some (.ref f15) := PySem.W.mg_of X G a15
  have F16 := fun_mk (st := sGroups) l16 c16 k16
  have b16 : Binds K _ ["_law_tags_here", "_law_near_so"] [] := F16.binds (ps := ["_law_tags_here", "_law_near_so"]) fun _ _ _ _ _ _ us hl => match us, hl with | [_, _], _ => rfl
  have m16 : mg "_law_groups" = some (.ref f16) := PySem.W.mg_of X G a16
  have F17 := fun_mk (st := sHand) l17 c17 k17
  have b17 : Binds K _ [] [] := F17.binds (ps := []) fun _ _ _ _ _ _ us hl => match us, hl with | [], _ => rfl
  have m17 : mg "_law_by_hand_right" = some (.ref f17) := PySem.W.mg_of X G a17
  have F18 := fun_mk (st := sRight) l18 c18 k18
  have b18 : Binds K _ ["_law_urn"] [] := F18.binds (ps := ["_law_urn"]) fun _ _ _ _ _ _ us hl => match us, hl with | [_], _ => rfl
  have m18 : mg "_law_right" = some (.ref f18) := PySem.W.mg_of X G a18
  have F19 := fun_mk (st := sLaw) l19 c19 k19
  have F20 := fun_mk (st := sAsk) l20 c20 k20
  have b20 : Binds K _ ["self", "kinds"] [] := F20.binds (ps := ["self", "kinds"]) fun _ _ _ _ _ _ us hl => match us, hl with | [_, _], _ => rfl
  have F21 := fun_mk (st := sClashing) l21 c21 k21
  have b21 : Binds K _ ["self", "kind"] [] := F21.binds (ps := ["self", "kind"]) fun _ _ _ _ _ _ us hl => match us, hl with | [_, _], _ => rfl
  have F22 := fun_mk (st := sPeaceful) l22 c22 k22
  have b22 : Binds K _ ["self", "kind"] [] := F22.binds (ps := ["self", "kind"]) fun _ _ _ _ _ _ us hl => match us, hl with | [_, _], _ => rfl
  have F23 := fun_mk (st := sOnly) l23 c23 k23
  have b23 : Binds K _ ["self", "kinds"] [] := F23.binds (ps := ["self", "kinds"]) fun _ _ _ _ _ _ us hl => match us, hl with | [_, _], _ => rfl
  have F24 := fun_mk (st := sWithout) l24 c24 k24
  have b24 : Binds K _ ["self", "kind"] [] := F24.binds (ps := ["self", "kind"]) fun _ _ _ _ _ _ us hl => match us, hl with | [_, _], _ => rfl
  have F25 := fun_mk (st := sTurned) l25 c25 k25
  have b25 : Binds K _ ["self"] [] := F25.binds (ps := ["self"]) fun _ _ _ _ _ _ us hl => match us, hl with | [_], _ => rfl
  have F26 := fun_mk (st := sKinds) l26 c26 k26
  have b26 : Binds K _ ["self"] [] := F26.binds (ps := ["self"]) fun _ _ _ _ _ _ us hl => match us, hl with | [_], _ => rfl
  have F27 := fun_mk (st := sText) l27 c27 k27
  have b27 : Binds K _ ["self"] [] := F27.binds (ps := ["self"]) fun _ _ _ _ _ _ us hl => match us, hl with | [_], _ => rfl
  have F28 := fun_mk (st := sOf) l28 c28 k28
  have b28 : Binds K _ ["text"] [] := F28.binds (ps := ["text"]) fun _ _ _ _ _ _ us hl => match us, hl with | [_], _ => rfl
  have FD : FunD K "__init__" "Book.__init__" (defArgs sInit) (defBody sInit) (defScope sInit) [V.ref eT] [] f29 _ := ⟨⟨oc29, od29, .ref T, kV29, dc29, pm29, an29, cd29, ct29, sl29, rfl, l29, c29, .inr ⟨by simp, T, oT, [.ref eT], nT, rfl, lT, dT, .cons rfl .nil⟩, .inl rfl⟩, k29⟩
  obtain ⟨ds, rds, bI⟩ := FD.binds1 (ps := ["self", "kinds", "clashes"]) 3 1 (by simp) rfl fun T kV doc pm an cdv ct us its hu hi => match us, its, hu, hi with
    | [_, _, _], [_], _, _ => ⟨_, rfl, rfl⟩
  cases rds
  refine ⟨PySem.W.fnOf "law" "law" (defArgs sLaw) (defBody sLaw) (defScope sLaw) .none kV19 dc19 pm19 an19 cd19 ct19, fun s v => .of_eq rfl, fun base _ _ => ?_⟩
  have GB : InitG l.prog w K mg base C := ⟨f29, _, mC, ⟨mk, a29, i29, kc⟩, ok_init FD T0, bI⟩
  have GA : MtG l.prog w K mg base C "_ask_for" 1 ["self", "kinds"] (spAsk K C) := ⟨f20, _, ⟨a20, i20, k20⟩, ok_ask (funD_of F20) TT, b20⟩
  have GKi : PrG l.prog w K mg base C "kinds" 1 (spKinds K C) := ⟨p26, f26, _, ⟨a26, g26, t26, r26, q26⟩, ok_kinds (funD_of F26) TT, b26⟩
  have GTx : PrG l.prog w K mg base C "text" 1 (spText K C) := ⟨p27, f27, _, ⟨a27, g27, t27, r27, q27⟩, ok_text (funD_of F27) TT, b27⟩
  have GCl : MtG l.prog w K mg base C "clashing" 2 ["self", "kind"] (spClashing K C) := ⟨f21, _, ⟨a21, i21, k21⟩, ok_clashing (funD_of F21) TT GA, b21⟩
  have GPe : MtG l.prog w K mg base C "peaceful" 2 ["self", "kind"] (spPeaceful K C) := ⟨f22, _, ⟨a22, i22, k22⟩, ok_peaceful (funD_of F22) TT GA, b22⟩
  have GOn : MtG l.prog w K mg base C "only" 3 ["self", "kinds"] (spOnly K C) := ⟨f23, _, ⟨a23, i23, k23⟩, ok_only (funD_of F23) TT GA GB, b23⟩
  have GWi : MtG l.prog w K mg base C "without" 4 ["self", "kind"] (spWithout K C) := ⟨f24, _, ⟨a24, i24, k24⟩, ok_without (funD_of F24) TT GA GOn, b24⟩
  have GTu : MtG l.prog w K mg base C "turned" 3 ["self"] (spTurned K C) := ⟨f25, _, ⟨a25, i25, k25⟩, ok_turned (funD_of F25) TT GB, b25⟩
  have GIs : FnG l.prog w K mg base "is_kind" 1 ["thing"] spIsKind := ⟨f1, _, m1, k1, ok_isKind (funD_of F1) B, b1⟩
  have GOf : SmG l.prog w K mg base C "of" 3 ["text"] (spOfB K C) := ⟨.type "type", p28, f28, _, r28, ⟨rd, ga⟩, a28, q28, k28, ok_of (funD_of F28) TT GB GIs GTx, b28⟩
  have GRe : FnG l.prog w K mg base "_reached" 1 ["near", "start"] (spReached K) := ⟨f5, _, m5, k5, ok_reached (funD_of F5) B, b5⟩
  have GHa : FnG l.prog w K mg base "_hanging" 2 ["near"] (spHanging K) := ⟨f4, _, m4, k4, ok_hanging (funD_of F4) B GRe, b4⟩
  have GKn : FnG l.prog w K mg base "knots" 3 ["book"] (spKnots K C) := ⟨f2, _, m2, k2, ok_knots (funD_of F2) TT GKi GCl GHa, b2⟩
  have GPs : FnG l.prog w K mg base "peaces" 3 ["book"] (spPeaces K C) := ⟨f3, _, m3, k3, ok_peaces (funD_of F3) TT GKi GPe GHa, b3⟩
  have GTk : FnG l.prog w K mg base "_law_take" 1 ["_law_urn", "_law_low_so"] spTake := ⟨f7, _, m7, k7, ok_take (funD_of F7) B, b7⟩
  have GLo : FnG l.prog w K mg base "_law_of" 2 ["_law_urn", "_law_some_so"] (spLOf K) := ⟨f9, _, m9, k9, ok_lof (funD_of F9) B GTk, b9⟩
  have GMi : FnG l.prog w K mg base "_law_mixed" 2 ["_law_urn", "_law_pool"] (spMixed K) := ⟨f11, _, m11, k11, ok_mixed (funD_of F11) B GTk, b11⟩
  have GCr : FnG l.prog w K mg base "_law_cross" 1 ["_law_some_so", "_law_more_so"] (spCross K) := ⟨f13, _, m13, k13, ok_cross (funD_of F13) B, b13⟩
  have GGr : FnG l.prog w K mg base "_law_groups" 1 ["_law_tags_here", "_law_near_so"] (spGroups K) := ⟨f16, _, m16, k16, ok_groups (funD_of F16) B, b16⟩
  have GSa : FnG l.prog w K mg base "_law_same" 4 ["_law_got", "_law_goal"] (spSame K 3) := ⟨f10, _, m10, k10, ok_same (funD_of F10) B m10 k10 b10 3, b10⟩
  have GBx : FnG l.prog w K mg base "_law_box" 1 ["_law_script", "_law_k"] (spBox K) := ⟨f6, _, m6, k6, ok_box (funD_of F6) B, b6⟩
  have GCe : FnG l.prog w K mg base "_law_cells" 1 ["_law_script", "_law_top"] (spCells K) := ⟨f8, _, m8, k8, ok_cells (funD_of F8) B, b8⟩
  have GTg : FnG l.prog w K mg base "_law_tags" 3 ["_law_urn", "_law_many_so"] (spTags K) := ⟨f12, _, m12, k12, ok_tags (funD_of F12) B GTk GLo, b12⟩
  have GWb : FnG l.prog w K mg base "_law_web" 2 ["_law_urn", "_law_tags_here"] (spWeb K) := ⟨f14, _, m14, k14, ok_web (funD_of F14) B GTk GCr, b14⟩
  have GHo : FnG l.prog w K mg base "_law_host" 3 ["_law_urn", "_law_tags_here", "_law_pairs_so"] (spHost K C) := ⟨f15, _, m15, k15, ok_host (funD_of F15) B GTk GMi GB, b15⟩
  have GRi : FnG l.prog w K mg base "_law_right" 5 ["_law_urn"] spRight := ⟨f18, _, m18, k18, ok_right (funD_of F18) TT GTk GTg GWb GCr GHo GGr GSa GKn GPs GTu, b18⟩
  have KK : KwG l.prog w K mg base "knots" 3 "book" (spKnots K C) := ⟨f2, _, m2, k2, ok_knots (funD_of F2) TT GKi GCl GHa, kb_one (fun _ => rfl) (fun _ => rfl)⟩
  have KP : KwG l.prog w K mg base "peaces" 3 "book" (spPeaces K C) := ⟨f3, _, m3, k3, ok_peaces (funD_of F3) TT GKi GPe GHa, kb_one (fun _ => rfl) (fun _ => rfl)⟩
  have GHd : FnG l.prog w K mg base "_law_by_hand_right" 5 [] spHand := ⟨f17, _, m17, k17, ok_hand (funD_of F17) TT mC GSa GKn GPs GTu GOf GB GWi KK KP, b17⟩
  exact ok_law (funD_of F19) B GCe GHd GRi GBx
theorem walk {l : PySem.W.OpenLaw} {q : Program} {loose : List Str} {XP : (Str → Option Value) → Heap → Prop} {YP : World → Heap → Prop} {d : DefRec} {K : Params → PySem.W.Frag} (hn : l.most = some 63) (hdf : d.params.defaults = [])
    (hY : ∀ (w : World) (h : Heap), YP w h → (K w.params).In h)
    (F : ∀ (w : World) (mg : Str → Option Value) (fa : Addr) (h : Heap), (K w.params).In h → h.Ns mainGlobals mg → mg d.name = some (.ref fa) →
      ∃ fd : FuncData, (∀ (s : Shared) (u : Value), BindsTo s fd ⟨[u], []⟩ [("_law_script", u)]) ∧ ∀ base : Heap, (K w.params).In base → base.Ns mainGlobals mg → FnOk l.prog w (K w.params) mg base CX0 6 fa fd ["_law_script"] (spLaw (K w.params))) :
    PySem.W.WalkO q loose XP YP l.row.toRowW d [] (fun f vs => PySem.call f vs) :=
  L2.walk_of (n := 63) (k := 6) (x := "_law_script") (CX := fun _ => CX0) (sp := fun w => spLaw (K w.params)) hn (by decide) hdf ⟨rfl, by decide, by decide⟩ hY F (fun _ _ a ns hl _ hS => ⟨a, ns, rfl, hS, hl, fun _ => rfl⟩) fun _ _ _ _ _ z => z
end Sx

/-! End -/
set_option Elab.async false
set_option maxRecDepth 100000

open PySem PySem.W PyProof.Rows in
set_option maxRecDepth 100000 in
set_option maxHeartbeats 0 in
theorem PySem.Challenge.cw_onehostmore_k06_knots_and_peaces_holds : PySem.Challenge.rw_onehostmore_k06_knots_and_peaces.Holds := by
  w_on; o_law; k_head; (case hw => w_witness2)
  k_fill
  refine Sx.walk (l := PySem.Challenge.rw_onehostmore_k06_knots_and_peaces) rfl rfl (fun w h Y => PySem.W.kIn_of Y) ?F
  case F =>
    intro w mg fa h KX G hmg
    refine' Sx.all_mk KX G hmg ?aC ?a1 ?l1 ?c1 ?k1 ?a2 ?l2 ?c2 ?k2 ?a3 ?l3 ?c3 ?k3 ?a4 ?l4 ?c4 ?k4 ?a5 ?l5 ?c5 ?k5 ?a6 ?l6 ?c6 ?k6 ?a7 ?l7 ?c7 ?k7 ?a8 ?l8 ?c8 ?k8 ?a9 ?l9 ?c9 ?k9 ?a10 ?l10 ?c10 ?k10 ?a11 ?l11 ?c11 ?k11 ?a12 ?l12 ?c12 ?k12 ?a13 ?l13 ?c13 ?k13 ?a14 ?l14 ?c14 ?k14 ?a15 ?l15 ?c15 ?k15 ?a16 ?l16 ?c16 ?k16 ?a17 ?l17 ?c17 ?k17 ?a18 ?l18 ?c18 ?k18 ?a19 ?l19 ?c19 ?k19 ?a20 ?i20 ?l20 ?c20 ?k20 ?a21 ?i21 ?l21 ?c21 ?k21 ?a22 ?i22 ?l22 ?c22 ?k22 ?a23 ?i23 ?l23 ?c23 ?k23 ?a24 ?i24 ?l24 ?c24 ?k24 ?a25 ?i25 ?l25 ?c25 ?k25 ?a26 ?g26 ?t26 ?q26 ?l26 ?c26 ?k26 ?a27 ?g27 ?t27 ?q27 ?l27 ?c27 ?k27 ?rd ?ga ?a28 ?q28 ?l28 ?c28 ?k28 ?a29 ?i29 ?l29 ?c29 ?k29 ?lT ?dT ?pg ?hd ?po ?sa ?mk ?kc ?nK ?nC ?nN ?z_sorted ?z_tuple ?z_min ?z_max ?z_len ?z_all ?z_isinstance ?z_abs ?z_list ?z_int ?z_range ?z_set ?z_zip ?z_enumerate ?z_dict ?z_str ?z_bool
    (case aC => k_is)
    (case a1 => k_is)
    (case l1 => k_is)
    (case c1 => k_is)
    (case k1 => k_is)
    (case a2 => k_is)
    (case l2 => k_is)
    (case c2 => k_is)
    (case k2 => k_is)
    (case a3 => k_is)
    (case l3 => k_is)
    (case c3 => k_is)
    (case k3 => k_is)
    (case a4 => k_is)
    (case l4 => k_is)
    (case c4 => k_is)
    (case k4 => k_is)
    (case a5 => k_is)
    (case l5 => k_is)
    (case c5 => k_is)
    (case k5 => k_is)
    (case a6 => k_is)
    (case l6 => k_is)
    (case c6 => k_is)
    (case k6 => k_is)
    (case a7 => k_is)
    (case l7 => k_is)
    (case c7 => k_is)
    (case k7 => k_is)
    (case a8 => k_is)
    (case l8 => k_is)
    (case c8 => k_is)
    (case k8 => k_is)
    (case a9 => k_is)
    (case l9 => k_is)
    (case c9 => k_is)
    (case k9 => k_is)
    (case a10 => k_is)
    (case l10 => k_is)
    (case c10 => k_is)
    (case k10 => k_is)
    (case a11 => k_is)
    (case l11 => k_is)
    (case c11 => k_is)
    (case k11 => k_is)
    (case a12 => k_is)
    (case l12 => k_is)
    (case c12 => k_is)
    (case k12 => k_is)
    (case a13 => k_is)
    (case l13 => k_is)
    (case c13 => k_is)
    (case k13 => k_is)
    (case a14 => k_is)
    (case l14 => k_is)
    (case c14 => k_is)
    (case k14 => k_is)
    (case a15 => k_is)
    (case l15 => k_is)
    (case c15 => k_is)
    (case k15 => k_is)
    (case a16 => k_is)
    (case l16 => k_is)
    (case c16 => k_is)
    (case k16 => k_is)
    (case a17 => k_is)
    (case l17 => k_is)
    (case c17 => k_is)
    (case k17 => k_is)
    (case a18 => k_is)
    (case l18 => k_is)
    (case c18 => k_is)
    (case k18 => k_is)
    (case a19 => k_is)
    (case l19 => k_is)
    (case c19 => k_is)
    (case k19 => k_is)
    (case a20 => k_is)
    (case i20 => k_is)
    (case l20 => k_is)
    (case c20 => k_is)
    (case k20 => k_is)
    (case a21 => k_is)
    (case i21 => k_is)
    (case l21 => k_is)
    (case c21 => k_is)
    (case k21 => k_is)
    (case a22 => k_is)
    (case i22 => k_is)
    (case l22 => k_is)
    (case c22 => k_is)
    (case k22 => k_is)
    (case a23 => k_is)
    (case i23 => k_is)
    (case l23 => k_is)
    (case c23 => k_is)
    (case k23 => k_is)
    (case a24 => k_is)
    (case i24 => k_is)
    (case l24 => k_is)
    (case c24 => k_is)
    (case k24 => k_is)
    (case a25 => k_is)
    (case i25 => k_is)
    (case l25 => k_is)
    (case c25 => k_is)
    (case k25 => k_is)
    (case a26 => k_is)
    (case g26 => k_is)
    (case t26 => k_is)
    (case q26 => k_is)
    (case l26 => k_is)
    (case c26 => k_is)
    (case k26 => k_is)
    (case a27 => k_is)
    (case g27 => k_is)
    (case t27 => k_is)
    (case q27 => k_is)
    (case l27 => k_is)
    (case c27 => k_is)
    (case k27 => k_is)
    (case rd => k_is)
    (case ga => k_is)
    (case a28 => k_is)
    (case q28 => k_is)
    (case l28 => k_is)
    (case c28 => k_is)
    (case k28 => k_is)
    (case a29 => k_is)
    (case i29 => k_is)
    (case l29 => k_is)
    (case c29 => k_is)
    (case k29 => k_is)
    (case lT => k_is)
    (case dT => rfl)
    (case pg => k_is)
    (case hd => k_is)
    (case po => k_is)
    (case sa => k_is)
    (case mk => k_is)
    (case kc => k_is)
    (case nK => k_is)
    (case nC => k_is)
    (case nN => k_is)
    (case z_sorted => k_is)
    (case z_tuple => k_is)
    (case z_min => k_is)
    (case z_max => k_is)
    (case z_len => k_is)
    (case z_all => k_is)
    (case z_isinstance => k_is)
    (case z_abs => k_is)
    (case z_list => k_is)
    (case z_int => k_is)
    (case z_range => k_is)
    (case z_set => k_is)
    (case z_zip => k_is)
    (case z_enumerate => k_is)
    (case z_dict => k_is)
    (case z_str => k_is)
    (case z_bool => k_is)
